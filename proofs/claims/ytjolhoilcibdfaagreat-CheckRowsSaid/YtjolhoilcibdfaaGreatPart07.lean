/- 13 texts in one file, in build order. -/
import Derived.Test.YtjolhoilcibdfaaGreatPart01
import Derived.Test.YtjolhoilcibdfaaGreatRows
import Derived.Test.YtjolhoilcibdfaaGreatPart05
import Derived.Deep.Cut
import Derived.LoopTactic
import Derived.Great.BuildSlice
import Derived.Test.YtjolhoilcibdfaaGreatPart06
import Derived.Laws.AppendOwnNone
import Derived.Test.YtjolhoilcibdfaaGreatPart04
import Derived.Test.YtjolhoilcibdfaaGreatPart02
import Derived.WalkKit
import Derived.ProofKit
import Derived.IntWalk
import Derived.Lib.Hide
import Derived.Below
import Derived.WalkMore
set_option linter.unusedVariables false
set_option linter.unusedSimpArgs false
set_option linter.unusedSectionVars false
set_option maxHeartbeats 8000000
set_option maxRecDepth 100000
namespace Go.Proofs.YtjolhoilcibdfaaGreat
namespace GenT
open Zip
open Go.ChangeShapes Go.WideShapes Go.ChangeAt Go.RowKit
open Tab Gath GenG Clone PlaceM CodeAt
open RefS (num num_range from_any)
theorem built_bus (x y:Int):Tryz.prog.built 49 [(0,I x),(1,I y)]=some #[I x,I y]:=by kernel_rfl
theorem infoBz3:(Tryz.prog.info? 49).map (fun i=>(i.zero,i.size,i.bytes))=some (some (.agg #[I 0,I 0]),2,16):=by kernel_rfl
theorem loop_buses {Q:Exit→Act→World→Prop} (a:Option Addr) (cap:Nat) (L:List Int) (w W0:World) (hd:Hd) (T:Tab) (n:Nat) (hn:n≤8) (n0:0 < n) (k:Nat) (hk:k≤20) {f1 f5 f6 f7 f8 f9 f10 f12 f13 f14 f15 f16 f17 f18 f19 f20 f21 f22 f23 f24 f25 f26 f27 f28 f29 f30 f31 f32 f33 f34 f35 f36 f37 f38 f39 f40 f41 f42 f43 f44 f45 f46 f47 f48 f49 f50 f51 f52 f53 f54 f55 f56 f57 f58 f59 f60 f61 f62 f63 f64 f65 f66 f67 f68 f69 f70 f71 f72 f73 f74 f75 f76 f77 f78 f79 f80 f81 f82 f83 f84 f85 f86 f87 f88 f89 f90 f91 f92 f93 f94 f95 f96 f97 f98 f99 f100 f101 f102 f103 f104 f105 f106 f107 f108 f109 f110 f111 f112 f113 f114 f115 f116 f117 f118 f119 f120 f121 f122 f123 f124 f125 f126 f127 f128 f129 f130 f131 f132 f133 f134 f135 f136 f137 f138 f139 f140 f141 f142 f143 f144 f145 f146 f147 f148 f149 f150 f151 f152 f153 f154 f155 f156 f157 f158 f159 f160 f161 f162 f163 f164 f165 f166 f167 f168 f169 f170 f171 f172 f173 f174 f175 f176 f177 f178 f179 f180 f181 f182 f183 f184 f185:Value}
  (HL:Hid (∀ W,Below w.heap.size w W→IntRow W ⟨a,cap⟩ L)) (s0:Sl) (BX:Hid (Bx w ⟨hd.g,hd.d,hd.r,s0⟩ { T with buses:=[] } W0))
  (HP:∀ c a d v w,Q (.panic c) (a.put d v) w→Q (.panic c) a w) (HQ:Hid (∀ (x11 x122 x123 x124 x125 x126 x127 x128 x129 x130 x131 x132 x133 x134 x135 x136 x137 x138 x139 x140 x141 x142 x143 x144 x145 x146 x147 x148:Value) (W':World) (s1:Sl),Bx w ⟨hd.g,hd.d,hd.r,s1⟩ { T with buses:=down (fun i:Nat=>genBs L i n) k k } W'→Q (.exit 10) ⟨#[Value.slice a L.length cap,f1,Value.pointer (some ⟨w.heap.size,0,none⟩),Value.pointer (some ⟨w.heap.size+1,0,none⟩),Value.int .i64 (n:Nat),f5,f6,f7,f8,f9,f10,x11,f12,f13,f14,f15,f16,f17,f18,f19,f20,f21,f22,f23,f24,f25,f26,f27,f28,f29,f30,f31,f32,f33,f34,f35,f36,f37,f38,f39,f40,f41,f42,f43,f44,f45,f46,f47,f48,f49,f50,f51,f52,f53,f54,f55,f56,f57,f58,f59,f60,f61,f62,f63,f64,f65,f66,f67,f68,f69,f70,f71,f72,f73,f74,f75,f76,f77,f78,f79,f80,f81,f82,f83,f84,f85,f86,f87,f88,f89,f90,f91,f92,f93,f94,f95,f96,f97,f98,f99,f100,f101,f102,f103,f104,f105,f106,f107,f108,f109,f110,f111,f112,f113,f114,f115,f116,f117,f118,f119,f120,f121,x122,x123,x124,x125,x126,x127,x128,x129,x130,x131,x132,x133,x134,x135,x136,x137,x138,x139,x140,x141,x142,x143,x144,x145,x146,x147,x148,f149,f150,f151,f152,f153,f154,f155,f156,f157,f158,f159,f160,f161,f162,f163,f164,f165,f166,f167,f168,f169,f170,f171,f172,f173,f174,f175,f176,f177,f178,f179,f180,f181,f182,f183,f184,f185],[]⟩ W')) :
  (lp 29 Tryz.f12).wp Tryz.prog Q ⟨#[Value.slice a L.length cap,f1,Value.pointer (some ⟨w.heap.size,0,none⟩),Value.pointer (some ⟨w.heap.size+1,0,none⟩),Value.int .i64 (n:Nat),f5,f6,f7,f8,f9,f10,Value.int .i64 (k:Nat),f12,f13,f14,f15,f16,f17,f18,f19,f20,f21,f22,f23,f24,f25,f26,f27,f28,f29,f30,f31,f32,f33,f34,f35,f36,f37,f38,f39,f40,f41,f42,f43,f44,f45,f46,f47,f48,f49,f50,f51,f52,f53,f54,f55,f56,f57,f58,f59,f60,f61,f62,f63,f64,f65,f66,f67,f68,f69,f70,f71,f72,f73,f74,f75,f76,f77,f78,f79,f80,f81,f82,f83,f84,f85,f86,f87,f88,f89,f90,f91,f92,f93,f94,f95,f96,f97,f98,f99,f100,f101,f102,f103,f104,f105,f106,f107,f108,f109,f110,f111,f112,f113,f114,f115,f116,f117,f118,f119,f120,f121,f122,f123,f124,f125,f126,f127,f128,f129,f130,f131,f132,f133,f134,f135,f136,f137,f138,f139,f140,f141,f142,f143,f144,f145,f146,f147,f148,f149,f150,f151,f152,f153,f154,f155,f156,f157,f158,f159,f160,f161,f162,f163,f164,f165,f166,f167,f168,f169,f170,f171,f172,f173,f174,f175,f176,f177,f178,f179,f180,f181,f182,f183,f184,f185],[]⟩ W0:=by
 conv=>arg 2;whnf
 dsimp only
 obtain ⟨j0,hj,hy0,hy1,hy2⟩:=info_parts infoBz3
 go_loopw [11] (fun i wr=>∃ j:Nat,j≤k∧i=.int .i64 (k - j:Nat)∧∃ s,Bx w ⟨hd.g,hd.d,hd.r,s⟩ { T with buses:=down (fun i:Nat=>genBs L i n) k j } wr) (fun i _=>(intOf i).toNat)
 case atStart=>exact ⟨0,by omega,by go_num,s0,BX.out⟩
 case round =>
  obtain ⟨j,hjk,rfl,⟨da,dc⟩,hbx⟩:=hrel
  have HB:=hJJ hbx
  clear hbx BX
  by_cases hlt:j < k
  ·obtain ⟨i,hi⟩:∃ i:Nat,i=k - j:=⟨_,rfl⟩
   have NX:Hid (down (fun i:Nat=>genBs L i n) k (j+1)=down (fun i:Nat=>genBs L i n) k j++[(genBs L i n)]):=hJJ (by rw [down,← hi])
   have DL:Hid ((down (fun i:Nat=>genBs L i n) k j).length=j):=hJJ (down_len _ _ _)
   generalize down (fun i:Nat=>genBs L i n) k j=D at *
   have HI:=hJJ hi
   have hi0:0 < i:=by omega
   have hi9:i≤20:=by omega
   rw [← hi]
   clear hi
   have e1:IntKind.i64.wrap (2*(i:Int))=2*i:=by rw [IntKind.wrap_i64];omega
   have e2:IntKind.i64.wrap (330+2*(i:Int))=330+2*i:=by rw [IntKind.wrap_i64];omega
   have e3:IntKind.i64.wrap (331+2*(i:Int))=331+2*i:=by rw [IntKind.wrap_i64];omega
   obtain ⟨x1,hx1,F1⟩:∃ x:Int,x=num L (330+2*i) 256∧Hid (∀ W,Below w.heap.size w W→Calls Tryz.prog 43 #[.slice a L.length cap,.int .i64 (330+2*i),.int .i64 256] W fun e w'=>e=.returned (.int .i64 x)∧w'=W):=⟨_,rfl,hJJ (fun W hb=>(from_any a cap L _ _ W (HL.out _ hb) (by omega) (by omega) (by omega)).mono fun _ _ ⟨e,q⟩=>⟨e,q.symm⟩)⟩
   obtain ⟨x2,hx2,⟨r2,s2⟩,F2⟩:∃ x:Int,x=num L (331+2*i) 30∧(0≤x∧x < 30)∧Hid (∀ W,Below w.heap.size w W→Calls Tryz.prog 43 #[.slice a L.length cap,.int .i64 (331+2*i),.int .i64 30] W fun e w'=>e=.returned (.int .i64 x)∧w'=W):=⟨_,rfl,num_range _ _ _ (by omega),hJJ (fun W hb=>(from_any a cap L _ _ W (HL.out _ hb) (by omega) (by omega) (by omega)).mono fun _ _ ⟨e,q⟩=>⟨e,q.symm⟩)⟩
   have HX:Hid ([I (max 1 (bits .and .i64 x1 (GenR.maskV n))),I (1+x2)]=(genBs L i n).cells):=hJJ (by rw [hx1,hx2];rfl)
   have e4:IntKind.i64.wrap (1+x2)=1+x2:=by rw [IntKind.wrap_i64];omega
   clear hx1 hx2
   generalize genBs L i n=X at NX HX
   go_upto_region 31 with fail
   refine wp_region_held (S:=fun _=>True) (by kernel_rfl) ?_
   have hS:True:=trivial
   have hb:Bx w ⟨hd.g,hd.d,hd.r,⟨da,dc⟩⟩ { T with buses:=D } { wr with drawn:=wr.drawn+1 }:=HB.out.step (Below.refl _ _).drew
   generalize ({ wr with drawn:=wr.drawn+1 }:World)=v at hb ⊢
   clear HB
   refine tqZ 0 126 ?_ rfl (fun _ _ _ h=>HP _ _ _ _ _ h) ?_ hS ?_
   rotate_left
   ·intro w' hw'
    go_simp
    try with_reducible rfl
   (try dsimp only [Act.put]);(try simp only [zA,zB,zC])
   refine tqZ 2 128 ?_ rfl (fun _ _ _ h=>HP _ _ _ _ _ h) ?_ hS ?_
   rotate_left
   ·intro w' hw'
    go_simp
    try with_reducible rfl
   (try dsimp only [Act.put]);(try simp only [zA,zB,zC])
   refine tqZ 3 129 ?_ rfl (fun _ _ _ h=>HP _ _ _ _ _ h) ?_ hS ?_
   rotate_left
   ·intro w' hw'
    go_simp
    try with_reducible rfl
   (try dsimp only [Act.put]);(try simp only [zA,zB,zC])
   refine tqZ 4 130 ?_ rfl (fun _ _ _ h=>HP _ _ _ _ _ h) ?_ hS ?_
   rotate_left
   ·intro w' hw'
    go_simp
    try with_reducible rfl
   (try dsimp only [Act.put]);(try simp only [zA,zB,zC])
   refine tqZ 5 131 ?_ rfl (fun _ _ _ h=>HP _ _ _ _ _ h) ?_ hS ?_
   rotate_left
   ·intro w' hw'
    go_simp
    try with_reducible rfl
   (try dsimp only [Act.put]);(try simp only [zA,zB,zC])
   refine tqZ 7 133 ?_ rfl (fun _ _ _ h=>HP _ _ _ _ _ h) ?_ hS ?_
   rotate_left
   ·intro w' hw'
    go_simp
    try with_reducible rfl
   (try dsimp only [Act.put]);(try simp only [zA,zB,zC])
   refine tqZ 8 134 ?_ rfl (fun _ _ _ h=>HP _ _ _ _ _ h) ?_ hS ?_
   rotate_left
   ·intro w' hw'
    go_simp
    try with_reducible rfl
   (try dsimp only [Act.put]);(try simp only [zA,zB,zC])
   refine tqZ 9 135 ?_ rfl (fun _ _ _ h=>HP _ _ _ _ _ h) ?_ hS ?_
   rotate_left
   ·intro w' hw'
    go_simp
    try with_reducible rfl
   (try dsimp only [Act.put]);(try simp only [zA,zB,zC])
   refine tqZ 10 136 (.int .i64 (GenR.maskV n)) rfl (fun _ _ _ h=>HP _ _ _ _ _ h) ?_ hS ?_
   ·intro w' hw'
    go_simp
    try (first | rfl | (simp only [Int.max_def];split <;> split <;> omega))
   (try dsimp only [Act.put]);(try simp only [zA,zB,zC])
   refine tqZ 13 139 ?_ rfl (fun _ _ _ h=>HP _ _ _ _ _ h) ?_ hS ?_
   rotate_left
   ·intro w' hw'
    go_simp
    try with_reducible rfl
   (try dsimp only [Act.put]);(try simp only [zA,zB,zC])
   refine tqZ 14 140 ?_ rfl (fun _ _ _ h=>HP _ _ _ _ _ h) ?_ hS ?_
   rotate_left
   ·intro w' hw'
    go_simp
    try with_reducible rfl
   (try dsimp only [Act.put]);(try simp only [zA,zB,zC])
   refine tqZ 15 141 ?_ rfl (fun _ _ _ h=>HP _ _ _ _ _ h) ?_ hS ?_
   rotate_left
   ·intro w' hw'
    go_simp
    try with_reducible rfl
   (try dsimp only [Act.put]);(try simp only [zA,zB,zC])
   refine tqZ 16 142 ?_ rfl (fun _ _ _ h=>HP _ _ _ _ _ h) ?_ hS ?_
   rotate_left
   ·intro w' hw'
    go_simp
    try with_reducible rfl
   (try dsimp only [Act.put]);(try simp only [zA,zB,zC])
   refine rd2Z 1 6 rfl rfl (fun K hK=>?_) (fun K hK=>?_)
   ·have c4:v.cell? ⟨w.heap.size+1,115,none⟩=some (.slice da D.length dc):=by rw [hb.cell,← List.getElem?_toArray];exact (cells_ok hb.tab).b
    go_simp
    refine hK.out _ _ trivial (fun _=>?_)
    clear hK K
    clear c4
    refine rdZ 6 rfl (fun K hK=>?_)
    go_simp
    refine (F1.out _ hb.bel).mono ?_
    rintro e w' ⟨rfl,hq⟩
    subst w'
    go_simp
    refine hK.out _ _ trivial (fun _=>?_)
    clear hK K
    refine tqZ 11 137 (.int .i64 (bits .and .i64 x1 (GenR.maskV n))) rfl (fun _ _ _ h=>HP _ _ _ _ _ h) ?_ hS ?_
    ·intro w' hw'
     go_simp
     try (first | rfl | (simp only [Int.max_def];split <;> split <;> omega))
    (try dsimp only [Act.put]);(try simp only [zA,zB,zC])
    refine tqZ 12 138 (.int .i64 (max 1 (bits .and .i64 x1 (GenR.maskV n)))) rfl (fun _ _ _ h=>HP _ _ _ _ _ h) ?_ hS ?_
    ·intro w' hw'
     go_simp
     try (first | rfl | (simp only [Int.max_def];split <;> split <;> omega))
    (try dsimp only [Act.put]);(try simp only [zA,zB,zC])
    refine rdZ 17 rfl (fun K hK=>?_)
    go_simp
    refine (F2.out _ hb.bel).mono ?_
    rintro e w' ⟨rfl,hq⟩
    subst w'
    go_simp
    refine hK.out _ _ trivial (fun _=>?_)
    clear hK K
    refine tqZ 18 144 (.int .i64 (1+x2)) rfl (fun _ _ _ h=>HP _ _ _ _ _ h) ?_ hS ?_
    ·intro w' hw'
     go_simp
     try (first | rfl | (simp only [Int.max_def];split <;> split <;> omega))
    (try dsimp only [Act.put]);(try simp only [zA,zB,zC])
    refine Held.take_build (i:=19) (some 145) rfl 49 _ #[I (max 1 (bits .and .i64 x1 (GenR.maskV n))),I (1+x2)] rfl rfl (by kernel_rfl) (by kernel_rfl) (by kernel_rfl) (fun _ _ _ h=>HP _ _ _ _ _ h) (by rfl) hS (by simp only [List.map_toArray,List.map_cons,List.map_nil];exact built_bus _ _) ?_
    (try dsimp only [Act.put]);(try simp only [zA,zB,zC])
    refine rdZ 20 rfl (fun K hK=>?_)
    go_simp
    have hbw:Below v.heap.size v (v.alloc (.cells #[I (max 1 (bits .and .i64 x1 (GenR.maskV n))),I (1+x2)] 49)):=(Below.refl _ _).alloc (Nat.le_refl _) _
    have hN:=heap_alloc_new v (.cells #[I (max 1 (bits .and .i64 x1 (GenR.maskV n))),I (1+x2)] 49)
    replace hb:=hb.step hbw
    clear hbw
    generalize hbn:v.heap.size=bn at hN ⊢
    clear hbn
    generalize World.alloc v (.cells #[I (max 1 (bits .and .i64 x1 (GenR.maskV n))),I (1+x2)] 49)=v at hb hN ⊢
    refine hK.out _ _ trivial (fun _=>?_)
    clear hK K
    refine rdZ 21 rfl (fun K hK=>?_)
    rw [if_pos (by rfl)]
    have hown2:v.ownsRow w.heap.size 49 2 (.slice da D.length dc) D.length (D.flatMap Bs.cells):=hb.buses
    refine wp_append_own _ _ _ _ rfl w.heap.size 49 j0 (.agg #[I 0,I 0]) 2 16 Tryz.underlying30 hj hy0 hy1 hy2 rfl (by decide) (.slice da D.length dc) D.length _ rfl hown2 ⟨bn,0,none⟩ 1 1 [I (max 1 (bits .and .i64 x1 (GenR.maskV n))),I (1+x2)] rfl rfl ?c1 ?c2 ?c3 ?c4 hb.bel.size ?_
    case c1 =>
     intro j e hj
     exact Row.lies_of_block hN j e hj
    case c2=>intro e he;have h1:=(show (#[I (max 1 (bits .and .i64 x1 (GenR.maskV n))),I (1+x2)]:Array Value).all (·.oneCell')=true from by simp [Value.oneCell']);exact (Array.all_eq_true_iff_forall_mem.1 h1) e (by simpa using he)
    case c3=>unfold maxLen;have:=DL.out;omega
    case c4=>have:=DL.out;omega
    intro v' w5 hown' hgrow hnil'
    rw [HX.out] at hown'
    obtain ⟨hbk,a',c',rfl,hG⟩:=hb.put_buses X hgrow hown'
    have c5:w5.cell? ⟨w.heap.size+1,115,none⟩=some (.slice da D.length dc):=by rw [cell_of_row _ _ _ _ _ _ hbk];exact (cells_ok hb.tab).b
    have f5:w5.frozen? ⟨w.heap.size+1,115,none⟩=false:=frozen_of_row _ _ _ _ _ hbk
    have HG:=hJJ hG
    clear hown' hgrow hown2 hnil' hbk hG hb hN
    refine hK.out _ _ trivial (fun _=>?_)
    clear hK K
    refine tqZ 22 148 ?_ rfl (fun _ _ _ h=>HP _ _ _ _ _ h) ?_ hS ?_
    rotate_left
    ·intro w' hw'
     go_simp
     try with_reducible rfl
    (try dsimp only [Act.put]);(try simp only [zA,zB,zC])
    refine rdZ 23 rfl (fun K hK=>?_)
    go_simp
    refine hK.out _ _ trivial (fun _=>?_)
    clear hK K
    refine wpAnyH_done (by kernel_rfl) ?_ _
    clear hS c5 f5
    go_wp2
    go_roundw
    case rel=>exact ⟨j+1,by omega,by have:=HI.out;go_num,_,by rw [NX.out];exact HG.out⟩
    case measure=>simp [intOf];have:=HI.out;omega
   ·go_simp
    refine (F1.out _ hb.bel).mono ?_
    rintro e w' ⟨rfl,hq⟩
    subst w'
    go_simp
    refine hK.out _ _ trivial (fun _=>?_)
    clear hK K
    refine tqZ 11 137 (.int .i64 (bits .and .i64 x1 (GenR.maskV n))) rfl (fun _ _ _ h=>HP _ _ _ _ _ h) ?_ hS ?_
    ·intro w' hw'
     go_simp
     try (first | rfl | (simp only [Int.max_def];split <;> split <;> omega))
    (try dsimp only [Act.put]);(try simp only [zA,zB,zC])
    refine tqZ 12 138 (.int .i64 (max 1 (bits .and .i64 x1 (GenR.maskV n)))) rfl (fun _ _ _ h=>HP _ _ _ _ _ h) ?_ hS ?_
    ·intro w' hw'
     go_simp
     try (first | rfl | (simp only [Int.max_def];split <;> split <;> omega))
    (try dsimp only [Act.put]);(try simp only [zA,zB,zC])
    refine rd2Z 1 17 rfl rfl (fun K hK=>?_) (fun K hK=>?_)
    ·have c4:v.cell? ⟨w.heap.size+1,115,none⟩=some (.slice da D.length dc):=by rw [hb.cell,← List.getElem?_toArray];exact (cells_ok hb.tab).b
     go_simp
     refine hK.out _ _ trivial (fun _=>?_)
     clear hK K
     clear c4
     refine rdZ 17 rfl (fun K hK=>?_)
     go_simp
     refine (F2.out _ hb.bel).mono ?_
     rintro e w' ⟨rfl,hq⟩
     subst w'
     go_simp
     refine hK.out _ _ trivial (fun _=>?_)
     clear hK K
     refine tqZ 18 144 (.int .i64 (1+x2)) rfl (fun _ _ _ h=>HP _ _ _ _ _ h) ?_ hS ?_
     ·intro w' hw'
      go_simp
      try (first | rfl | (simp only [Int.max_def];split <;> split <;> omega))
     (try dsimp only [Act.put]);(try simp only [zA,zB,zC])
     refine Held.take_build (i:=19) (some 145) rfl 49 _ #[I (max 1 (bits .and .i64 x1 (GenR.maskV n))),I (1+x2)] rfl rfl (by kernel_rfl) (by kernel_rfl) (by kernel_rfl) (fun _ _ _ h=>HP _ _ _ _ _ h) (by rfl) hS (by simp only [List.map_toArray,List.map_cons,List.map_nil];exact built_bus _ _) ?_
     (try dsimp only [Act.put]);(try simp only [zA,zB,zC])
     refine rdZ 20 rfl (fun K hK=>?_)
     go_simp
     have hbw:Below v.heap.size v (v.alloc (.cells #[I (max 1 (bits .and .i64 x1 (GenR.maskV n))),I (1+x2)] 49)):=(Below.refl _ _).alloc (Nat.le_refl _) _
     have hN:=heap_alloc_new v (.cells #[I (max 1 (bits .and .i64 x1 (GenR.maskV n))),I (1+x2)] 49)
     replace hb:=hb.step hbw
     clear hbw
     generalize hbn:v.heap.size=bn at hN ⊢
     clear hbn
     generalize World.alloc v (.cells #[I (max 1 (bits .and .i64 x1 (GenR.maskV n))),I (1+x2)] 49)=v at hb hN ⊢
     refine hK.out _ _ trivial (fun _=>?_)
     clear hK K
     refine rdZ 21 rfl (fun K hK=>?_)
     rw [if_pos (by rfl)]
     have hown2:v.ownsRow w.heap.size 49 2 (.slice da D.length dc) D.length (D.flatMap Bs.cells):=hb.buses
     refine wp_append_own _ _ _ _ rfl w.heap.size 49 j0 (.agg #[I 0,I 0]) 2 16 Tryz.underlying30 hj hy0 hy1 hy2 rfl (by decide) (.slice da D.length dc) D.length _ rfl hown2 ⟨bn,0,none⟩ 1 1 [I (max 1 (bits .and .i64 x1 (GenR.maskV n))),I (1+x2)] rfl rfl ?c1 ?c2 ?c3 ?c4 hb.bel.size ?_
     case c1 =>
      intro j e hj
      exact Row.lies_of_block hN j e hj
     case c2=>intro e he;have h1:=(show (#[I (max 1 (bits .and .i64 x1 (GenR.maskV n))),I (1+x2)]:Array Value).all (·.oneCell')=true from by simp [Value.oneCell']);exact (Array.all_eq_true_iff_forall_mem.1 h1) e (by simpa using he)
     case c3=>unfold maxLen;have:=DL.out;omega
     case c4=>have:=DL.out;omega
     intro v' w5 hown' hgrow hnil'
     rw [HX.out] at hown'
     obtain ⟨hbk,a',c',rfl,hG⟩:=hb.put_buses X hgrow hown'
     have c5:w5.cell? ⟨w.heap.size+1,115,none⟩=some (.slice da D.length dc):=by rw [cell_of_row _ _ _ _ _ _ hbk];exact (cells_ok hb.tab).b
     have f5:w5.frozen? ⟨w.heap.size+1,115,none⟩=false:=frozen_of_row _ _ _ _ _ hbk
     have HG:=hJJ hG
     clear hown' hgrow hown2 hnil' hbk hG hb hN
     refine hK.out _ _ trivial (fun _=>?_)
     clear hK K
     refine tqZ 22 148 ?_ rfl (fun _ _ _ h=>HP _ _ _ _ _ h) ?_ hS ?_
     rotate_left
     ·intro w' hw'
      go_simp
      try with_reducible rfl
     (try dsimp only [Act.put]);(try simp only [zA,zB,zC])
     refine rdZ 23 rfl (fun K hK=>?_)
     go_simp
     refine hK.out _ _ trivial (fun _=>?_)
     clear hK K
     refine wpAnyH_done (by kernel_rfl) ?_ _
     clear hS c5 f5
     go_wp2
     go_roundw
     case rel=>exact ⟨j+1,by omega,by have:=HI.out;go_num,_,by rw [NX.out];exact HG.out⟩
     case measure=>simp [intOf];have:=HI.out;omega
    ·go_simp
     refine (F2.out _ hb.bel).mono ?_
     rintro e w' ⟨rfl,hq⟩
     subst w'
     go_simp
     refine hK.out _ _ trivial (fun _=>?_)
     clear hK K
     refine tqZ 18 144 (.int .i64 (1+x2)) rfl (fun _ _ _ h=>HP _ _ _ _ _ h) ?_ hS ?_
     ·intro w' hw'
      go_simp
      try (first | rfl | (simp only [Int.max_def];split <;> split <;> omega))
     (try dsimp only [Act.put]);(try simp only [zA,zB,zC])
     refine Held.take_build (i:=19) (some 145) rfl 49 _ #[I (max 1 (bits .and .i64 x1 (GenR.maskV n))),I (1+x2)] rfl rfl (by kernel_rfl) (by kernel_rfl) (by kernel_rfl) (fun _ _ _ h=>HP _ _ _ _ _ h) (by rfl) hS (by simp only [List.map_toArray,List.map_cons,List.map_nil];exact built_bus _ _) ?_
     (try dsimp only [Act.put]);(try simp only [zA,zB,zC])
     refine rd2Z 1 20 rfl rfl (fun K hK=>?_) (fun K hK=>?_)
     ·have c4:v.cell? ⟨w.heap.size+1,115,none⟩=some (.slice da D.length dc):=by rw [hb.cell,← List.getElem?_toArray];exact (cells_ok hb.tab).b
      go_simp
      refine hK.out _ _ trivial (fun _=>?_)
      clear hK K
      clear c4
      refine rdZ 20 rfl (fun K hK=>?_)
      go_simp
      have hbw:Below v.heap.size v (v.alloc (.cells #[I (max 1 (bits .and .i64 x1 (GenR.maskV n))),I (1+x2)] 49)):=(Below.refl _ _).alloc (Nat.le_refl _) _
      have hN:=heap_alloc_new v (.cells #[I (max 1 (bits .and .i64 x1 (GenR.maskV n))),I (1+x2)] 49)
      replace hb:=hb.step hbw
      clear hbw
      generalize hbn:v.heap.size=bn at hN ⊢
      clear hbn
      generalize World.alloc v (.cells #[I (max 1 (bits .and .i64 x1 (GenR.maskV n))),I (1+x2)] 49)=v at hb hN ⊢
      refine hK.out _ _ trivial (fun _=>?_)
      clear hK K
      refine rdZ 21 rfl (fun K hK=>?_)
      rw [if_pos (by rfl)]
      have hown2:v.ownsRow w.heap.size 49 2 (.slice da D.length dc) D.length (D.flatMap Bs.cells):=hb.buses
      refine wp_append_own _ _ _ _ rfl w.heap.size 49 j0 (.agg #[I 0,I 0]) 2 16 Tryz.underlying30 hj hy0 hy1 hy2 rfl (by decide) (.slice da D.length dc) D.length _ rfl hown2 ⟨bn,0,none⟩ 1 1 [I (max 1 (bits .and .i64 x1 (GenR.maskV n))),I (1+x2)] rfl rfl ?c1 ?c2 ?c3 ?c4 hb.bel.size ?_
      case c1 =>
       intro j e hj
       exact Row.lies_of_block hN j e hj
      case c2=>intro e he;have h1:=(show (#[I (max 1 (bits .and .i64 x1 (GenR.maskV n))),I (1+x2)]:Array Value).all (·.oneCell')=true from by simp [Value.oneCell']);exact (Array.all_eq_true_iff_forall_mem.1 h1) e (by simpa using he)
      case c3=>unfold maxLen;have:=DL.out;omega
      case c4=>have:=DL.out;omega
      intro v' w5 hown' hgrow hnil'
      rw [HX.out] at hown'
      obtain ⟨hbk,a',c',rfl,hG⟩:=hb.put_buses X hgrow hown'
      have c5:w5.cell? ⟨w.heap.size+1,115,none⟩=some (.slice da D.length dc):=by rw [cell_of_row _ _ _ _ _ _ hbk];exact (cells_ok hb.tab).b
      have f5:w5.frozen? ⟨w.heap.size+1,115,none⟩=false:=frozen_of_row _ _ _ _ _ hbk
      have HG:=hJJ hG
      clear hown' hgrow hown2 hnil' hbk hG hb hN
      refine hK.out _ _ trivial (fun _=>?_)
      clear hK K
      refine tqZ 22 148 ?_ rfl (fun _ _ _ h=>HP _ _ _ _ _ h) ?_ hS ?_
      rotate_left
      ·intro w' hw'
       go_simp
       try with_reducible rfl
      (try dsimp only [Act.put]);(try simp only [zA,zB,zC])
      refine rdZ 23 rfl (fun K hK=>?_)
      go_simp
      refine hK.out _ _ trivial (fun _=>?_)
      clear hK K
      refine wpAnyH_done (by kernel_rfl) ?_ _
      clear hS c5 f5
      go_wp2
      go_roundw
      case rel=>exact ⟨j+1,by omega,by have:=HI.out;go_num,_,by rw [NX.out];exact HG.out⟩
      case measure=>simp [intOf];have:=HI.out;omega
     ·go_simp
      have hbw:Below v.heap.size v (v.alloc (.cells #[I (max 1 (bits .and .i64 x1 (GenR.maskV n))),I (1+x2)] 49)):=(Below.refl _ _).alloc (Nat.le_refl _) _
      have hN:=heap_alloc_new v (.cells #[I (max 1 (bits .and .i64 x1 (GenR.maskV n))),I (1+x2)] 49)
      replace hb:=hb.step hbw
      clear hbw
      generalize hbn:v.heap.size=bn at hN ⊢
      clear hbn
      generalize World.alloc v (.cells #[I (max 1 (bits .and .i64 x1 (GenR.maskV n))),I (1+x2)] 49)=v at hb hN ⊢
      refine hK.out _ _ trivial (fun _=>?_)
      clear hK K
      refine rdZ 1 rfl (fun K hK=>?_)
      have c4:v.cell? ⟨w.heap.size+1,115,none⟩=some (.slice da D.length dc):=by rw [hb.cell,← List.getElem?_toArray];exact (cells_ok hb.tab).b
      go_simp
      refine hK.out _ _ trivial (fun _=>?_)
      clear hK K
      clear c4
      refine rdZ 21 rfl (fun K hK=>?_)
      rw [if_pos (by rfl)]
      have hown2:v.ownsRow w.heap.size 49 2 (.slice da D.length dc) D.length (D.flatMap Bs.cells):=hb.buses
      refine wp_append_own _ _ _ _ rfl w.heap.size 49 j0 (.agg #[I 0,I 0]) 2 16 Tryz.underlying30 hj hy0 hy1 hy2 rfl (by decide) (.slice da D.length dc) D.length _ rfl hown2 ⟨bn,0,none⟩ 1 1 [I (max 1 (bits .and .i64 x1 (GenR.maskV n))),I (1+x2)] rfl rfl ?c1 ?c2 ?c3 ?c4 hb.bel.size ?_
      case c1 =>
       intro j e hj
       exact Row.lies_of_block hN j e hj
      case c2=>intro e he;have h1:=(show (#[I (max 1 (bits .and .i64 x1 (GenR.maskV n))),I (1+x2)]:Array Value).all (·.oneCell')=true from by simp [Value.oneCell']);exact (Array.all_eq_true_iff_forall_mem.1 h1) e (by simpa using he)
      case c3=>unfold maxLen;have:=DL.out;omega
      case c4=>have:=DL.out;omega
      intro v' w5 hown' hgrow hnil'
      rw [HX.out] at hown'
      obtain ⟨hbk,a',c',rfl,hG⟩:=hb.put_buses X hgrow hown'
      have c5:w5.cell? ⟨w.heap.size+1,115,none⟩=some (.slice da D.length dc):=by rw [cell_of_row _ _ _ _ _ _ hbk];exact (cells_ok hb.tab).b
      have f5:w5.frozen? ⟨w.heap.size+1,115,none⟩=false:=frozen_of_row _ _ _ _ _ hbk
      have HG:=hJJ hG
      clear hown' hgrow hown2 hnil' hbk hG hb hN
      refine hK.out _ _ trivial (fun _=>?_)
      clear hK K
      refine tqZ 22 148 ?_ rfl (fun _ _ _ h=>HP _ _ _ _ _ h) ?_ hS ?_
      rotate_left
      ·intro w' hw'
       go_simp
       try with_reducible rfl
      (try dsimp only [Act.put]);(try simp only [zA,zB,zC])
      refine rdZ 23 rfl (fun K hK=>?_)
      go_simp
      refine hK.out _ _ trivial (fun _=>?_)
      clear hK K
      refine wpAnyH_done (by kernel_rfl) ?_ _
      clear hS c5 f5
      go_wp2
      go_roundw
      case rel=>exact ⟨j+1,by omega,by have:=HI.out;go_num,_,by rw [NX.out];exact HG.out⟩
      case measure=>simp [intOf];have:=HI.out;omega
  ·have hje:j=k:=by omega
   subst hje
   rw [show ((j - j:Nat):Int)=(0:Int) by omega]
   go_wp2
   exact HQ.out _ _ _ _ _ _ _ _ _ _ _ _ _ _ _ _ _ _ _ _ _ _ _ _ _ _ _ _ _ _ HB.out
end GenT
namespace GenT
open Zip
open Go.ChangeShapes Go.WideShapes Go.ChangeAt Go.RowKit
open Tab Gath GenG Clone PlaceM CodeAt
open RefS (num num_range from_any)
theorem wait_win (T:Tab) (x p:Int):WaitS.waitS { T with window:=x } p=WaitS.waitS T p:=rfl
theorem loop_win {Q:Exit→Act→World→Prop} (a:Option Addr) (cap:Nat) (L:List Int) (w W0:World) (hd:Hd) (T:Tab) (n:Nat) (hn:n≤8) (sm:Few T) (few:T.rails.length≤1000) {f1 f5 f6 f7 f8 f9 f10 f11 f13 f14 f15 f16 f17 f18 f19 f20 f21 f22 f23 f24 f25 f26 f27 f28 f29 f30 f31 f32 f33 f34 f35 f36 f37 f38 f39 f40 f41 f42 f43 f44 f45 f46 f47 f48 f49 f50 f51 f52 f53 f54 f55 f56 f57 f58 f59 f60 f61 f62 f63 f64 f65 f66 f67 f68 f69 f70 f71 f72 f73 f74 f75 f76 f77 f78 f79 f80 f81 f82 f83 f84 f85 f86 f87 f88 f89 f90 f91 f92 f93 f94 f95 f96 f97 f98 f99 f100 f101 f102 f103 f104 f105 f106 f107 f108 f109 f110 f111 f112 f113 f114 f115 f116 f117 f118 f119 f120 f121 f122 f123 f124 f125 f126 f127 f128 f129 f130 f131 f132 f133 f134 f135 f136 f137 f138 f139 f140 f141 f142 f143 f144 f145 f146 f147 f148 f149 f150 f151 f152 f153 f154 f155 f156 f157 f158 f159 f160 f161 f162 f163 f164 f165 f166 f167 f168 f169 f170 f171 f172 f173 f174 f175 f176 f177 f178 f179 f180 f181 f182 f183 f184 f185:Value}
  (HL:Hid (∀ W,Below w.heap.size w W→IntRow W ⟨a,cap⟩ L)) (BX:Hid (Bx w hd { T with window:=0 } W0))
  (HP:∀ c a d v w,Q (.panic c) (a.put d v) w→Q (.panic c) a w) (HQ:Hid (∀ (x12 x167 x168 x169 x170 x171 x172 x173 x174 x175 x176 x177 x178 x179 x180 x181 x182 x183 x184:Value) (W':World),Bx w hd { T with window:=if T.rails.length=0 then 0 else maxW T n } W'→Q (.exit 12) ⟨#[Value.slice a L.length cap,f1,Value.pointer (some ⟨w.heap.size,0,none⟩),Value.pointer (some ⟨w.heap.size+1,0,none⟩),Value.int .i64 (n:Nat),f5,f6,f7,f8,f9,f10,f11,x12,f13,f14,f15,f16,f17,f18,f19,f20,f21,f22,f23,f24,f25,f26,f27,f28,f29,f30,f31,f32,f33,f34,f35,f36,f37,f38,f39,f40,f41,f42,f43,f44,f45,f46,f47,f48,f49,f50,f51,f52,f53,f54,f55,f56,f57,f58,f59,f60,f61,f62,f63,f64,f65,f66,f67,f68,f69,f70,f71,f72,f73,f74,f75,f76,f77,f78,f79,f80,f81,f82,f83,f84,f85,f86,f87,f88,f89,f90,f91,f92,f93,f94,f95,f96,f97,f98,f99,f100,f101,f102,f103,f104,f105,f106,f107,f108,f109,f110,f111,f112,f113,f114,f115,f116,f117,f118,f119,f120,f121,f122,f123,f124,f125,f126,f127,f128,f129,f130,f131,f132,f133,f134,f135,f136,f137,f138,f139,f140,f141,f142,f143,f144,f145,f146,f147,f148,f149,f150,f151,f152,f153,f154,f155,f156,f157,f158,f159,f160,f161,f162,f163,f164,f165,f166,x167,x168,x169,x170,x171,x172,x173,x174,x175,x176,x177,x178,x179,x180,x181,x182,x183,x184,f185],[]⟩ W')) :
  (lp 39 Tryz.f12).wp Tryz.prog Q ⟨#[Value.slice a L.length cap,f1,Value.pointer (some ⟨w.heap.size,0,none⟩),Value.pointer (some ⟨w.heap.size+1,0,none⟩),Value.int .i64 (n:Nat),f5,f6,f7,f8,f9,f10,f11,Value.int .i64 0,f13,f14,f15,f16,f17,f18,f19,f20,f21,f22,f23,f24,f25,f26,f27,f28,f29,f30,f31,f32,f33,f34,f35,f36,f37,f38,f39,f40,f41,f42,f43,f44,f45,f46,f47,f48,f49,f50,f51,f52,f53,f54,f55,f56,f57,f58,f59,f60,f61,f62,f63,f64,f65,f66,f67,f68,f69,f70,f71,f72,f73,f74,f75,f76,f77,f78,f79,f80,f81,f82,f83,f84,f85,f86,f87,f88,f89,f90,f91,f92,f93,f94,f95,f96,f97,f98,f99,f100,f101,f102,f103,f104,f105,f106,f107,f108,f109,f110,f111,f112,f113,f114,f115,f116,f117,f118,f119,f120,f121,f122,f123,f124,f125,f126,f127,f128,f129,f130,f131,f132,f133,f134,f135,f136,f137,f138,f139,f140,f141,f142,f143,f144,f145,f146,f147,f148,f149,f150,f151,f152,f153,f154,f155,f156,f157,f158,f159,f160,f161,f162,f163,f164,f165,f166,f167,f168,f169,f170,f171,f172,f173,f174,f175,f176,f177,f178,f179,f180,f181,f182,f183,f184,f185],[]⟩ W0:=by
 conv=>arg 2;whnf
 dsimp only
 have SMC:Hid (∀ x:Int,Few { T with window:=x }):=hJJ (fun x=>⟨sm.groups,sm.rows⟩)
 go_loopw [12] (fun i wr=>∃ q:Nat,q≤n∧i=.int .i64 q∧(T.rails.length=0→q=0)∧Bx w hd { T with window:=maxW T q } wr) (fun i _=>n - (intOf i).toNat)
 case atStart=>exact ⟨0,by omega,rfl,fun _=>rfl,BX.out⟩
 case round =>
  obtain ⟨q,hq,rfl,hq0,hbx⟩:=hrel
  have HB:=hJJ hbx
  clear hbx BX
  have NX:Hid (maxW T (q+1)=max (maxW T q) (WaitS.waitS T q)):=hJJ rfl
  obtain ⟨sg,sd,⟨ra,rc⟩,sb⟩:=hd
  have c114:wr.cell? ⟨w.heap.size+1,114,none⟩=some (.slice ra T.rails.length rc):=by rw [HB.out.cell,← List.getElem?_toArray];exact (cells_ok HB.out.tab).r
  by_cases hlt:q < n
  ·by_cases hr:T.rails.length=0
   ·have hq1:=hq0 hr
    have HQ2:Hid ((if T.rails.length=0 then 0 else maxW T n)=maxW T q):=hJJ (by rw [if_pos hr,hq1];rfl)
    have HB2:Hid (Bx w ⟨sg,sd,⟨ra,rc⟩,sb⟩ { T with window:=if T.rails.length=0 then 0 else maxW T n } wr):=hJJ (by rw [HQ2.out];exact HB.out)
    clear HQ2 HB NX hq0
    go_wp2
    exact HQ.out _ _ _ _ _ _ _ _ _ _ _ _ _ _ _ _ _ _ _ _ HB2.out
   ·generalize maxW T q=m at *
    have WC:Hid (∀ W,Bx w ⟨sg,sd,⟨ra,rc⟩,sb⟩ { T with window:=m } W→Calls Tryz.prog 36 #[.agg (({ T with window:=m }:Tab).cells ⟨sg,sd,⟨ra,rc⟩,sb⟩).toArray,.int .i64 q] W fun e w'=>e=.returned (.int .i64 (WaitS.waitS T q))∧Below W.heap.size W w'):=hJJ (fun W hb=>by
     have:=WaitS.wait_any { T with window:=m } ⟨sg,sd,⟨ra,rc⟩,sb⟩ q W hb.tab (SMC.out m) few
     rw [wait_win] at this
     exact this)
    have IA:Hid ((Tryz.prog.info? 32).map (·.size)=some (({ T with window:=m }:Tab).cells ⟨sg,sd,⟨ra,rc⟩,sb⟩).length):=hJJ (by rw [cells_cut _ HB.out.ph HB.out.cf HB.out.fl];exact May.infoT)
    generalize WaitS.waitS T q=z at NX WC
    generalize hcs:({ T with window:=m }:Tab).cells ⟨sg,sd,⟨ra,rc⟩,sb⟩=cs at WC IA
    go_upto_region 41 with fail
    clear c114
    refine wp_region_held (S:=fun _=>True) (by kernel_rfl) ?_
    have hS:True:=trivial
    have hb:Bx w ⟨sg,sd,⟨ra,rc⟩,sb⟩ { T with window:=m } { wr with drawn:=wr.drawn+1 }:=HB.out.step (Below.refl _ _).drew
    generalize ({ wr with drawn:=wr.drawn+1 }:World)=v at hb ⊢
    clear HB
    refine tqZ 0 178 ?_ rfl (fun _ _ _ h=>HP _ _ _ _ _ h) ?_ hS ?_
    rotate_left
    ·intro w' hw'
     go_simp
     try with_reducible rfl
    (try dsimp only [Act.put]);(try simp only [zA,zB,zC])
    refine tqZ 3 181 ?_ rfl (fun _ _ _ h=>HP _ _ _ _ _ h) ?_ hS ?_
    rotate_left
    ·intro w' hw'
     go_simp
     try with_reducible rfl
    (try dsimp only [Act.put]);(try simp only [zA,zB,zC])
    refine rd2Z 1 2 rfl rfl (fun K hK=>?_) (fun K hK=>?_)
    ·have c4:v.cell? ⟨w.heap.size+1,129,none⟩=some (.int .i64 m):=by rw [hb.cell,← List.getElem?_toArray];exact (cells_ok hb.tab).window
     go_simp
     refine hK.out _ _ trivial (fun _=>?_)
     clear hK K
     clear c4
     refine rdZ 2 rfl (fun K hK=>?_)
     rw [if_pos (by rfl)]
     have LT:Lies v ⟨w.heap.size+1,0,none⟩ cs:=by have:=Row.lies_of_block hb.blk;rw [hcs] at this;simpa using this
     refine Row.wp_load_lies 32 _ rfl ⟨w.heap.size+1,0,none⟩ rfl cs _ LT Tryz.underlying32 rfl IA.out ?_
     (try dsimp only [Act.put]);(try simp only [zA,zB,zC])
     refine hK.out _ _ trivial (fun _=>?_)
     clear hK K
     clear LT
     refine rdZ 4 rfl (fun K hK=>?_)
     go_simp
     refine (WC.out _ hb).mono ?_
     rintro e v2 ⟨rfl,hbb⟩
     replace hb:=hb.step hbb
     clear hbb
     rename World=>v
     go_simp
     refine hK.out _ _ trivial (fun _=>?_)
     clear hK K
     refine tqZ 5 183 (.int .i64 (max m z)) rfl (fun _ _ _ h=>HP _ _ _ _ _ h) ?_ hS ?_
     ·intro w' hw'
      go_simp
      try (first | rfl | (simp only [Int.max_def];split <;> split <;> omega))
     (try dsimp only [Act.put]);(try simp only [zA,zB,zC])
     refine tqZ 6 184 ?_ rfl (fun _ _ _ h=>HP _ _ _ _ _ h) ?_ hS ?_
     rotate_left
     ·intro w' hw'
      go_simp
      try with_reducible rfl
     (try dsimp only [Act.put]);(try simp only [zA,zB,zC])
     refine rdZ 7 rfl (fun K hK=>?_)
     have c5:v.cell? ⟨w.heap.size+1,129,none⟩=some (.int .i64 m):=by rw [hb.cell,← List.getElem?_toArray];exact (cells_ok hb.tab).window
     have f5:=hb.frozen 129
     have HG:=hJJ (hb.set 129 (I (max m z)) (cells_window ⟨sg,sd,⟨ra,rc⟩,sb⟩ hb.ph hb.cf hb.fl (max m z)) hb.ph hb.cf hb.fl rfl rfl rfl rfl)
     clear hb
     go_simp
     refine hK.out _ _ trivial (fun _=>?_)
     clear hK K
     refine wpAnyH_done (by kernel_rfl) ?_ _
     clear hS c5 f5
     go_wp2
     go_roundw
     case rel=>exact ⟨q+1,by omega,by go_num,fun e=>(hr e).elim,by rw [NX.out];exact HG.out⟩
     case measure=>simp [intOf];omega
    ·rw [if_pos (by rfl)]
     have LT:Lies v ⟨w.heap.size+1,0,none⟩ cs:=by have:=Row.lies_of_block hb.blk;rw [hcs] at this;simpa using this
     refine Row.wp_load_lies 32 _ rfl ⟨w.heap.size+1,0,none⟩ rfl cs _ LT Tryz.underlying32 rfl IA.out ?_
     (try dsimp only [Act.put]);(try simp only [zA,zB,zC])
     refine hK.out _ _ trivial (fun _=>?_)
     clear hK K
     clear LT
     refine rd2Z 1 4 rfl rfl (fun K hK=>?_) (fun K hK=>?_)
     ·have c4:v.cell? ⟨w.heap.size+1,129,none⟩=some (.int .i64 m):=by rw [hb.cell,← List.getElem?_toArray];exact (cells_ok hb.tab).window
      go_simp
      refine hK.out _ _ trivial (fun _=>?_)
      clear hK K
      clear c4
      refine rdZ 4 rfl (fun K hK=>?_)
      go_simp
      refine (WC.out _ hb).mono ?_
      rintro e v2 ⟨rfl,hbb⟩
      replace hb:=hb.step hbb
      clear hbb
      rename World=>v
      go_simp
      refine hK.out _ _ trivial (fun _=>?_)
      clear hK K
      refine tqZ 5 183 (.int .i64 (max m z)) rfl (fun _ _ _ h=>HP _ _ _ _ _ h) ?_ hS ?_
      ·intro w' hw'
       go_simp
       try (first | rfl | (simp only [Int.max_def];split <;> split <;> omega))
      (try dsimp only [Act.put]);(try simp only [zA,zB,zC])
      refine tqZ 6 184 ?_ rfl (fun _ _ _ h=>HP _ _ _ _ _ h) ?_ hS ?_
      rotate_left
      ·intro w' hw'
       go_simp
       try with_reducible rfl
      (try dsimp only [Act.put]);(try simp only [zA,zB,zC])
      refine rdZ 7 rfl (fun K hK=>?_)
      have c5:v.cell? ⟨w.heap.size+1,129,none⟩=some (.int .i64 m):=by rw [hb.cell,← List.getElem?_toArray];exact (cells_ok hb.tab).window
      have f5:=hb.frozen 129
      have HG:=hJJ (hb.set 129 (I (max m z)) (cells_window ⟨sg,sd,⟨ra,rc⟩,sb⟩ hb.ph hb.cf hb.fl (max m z)) hb.ph hb.cf hb.fl rfl rfl rfl rfl)
      clear hb
      go_simp
      refine hK.out _ _ trivial (fun _=>?_)
      clear hK K
      refine wpAnyH_done (by kernel_rfl) ?_ _
      clear hS c5 f5
      go_wp2
      go_roundw
      case rel=>exact ⟨q+1,by omega,by go_num,fun e=>(hr e).elim,by rw [NX.out];exact HG.out⟩
      case measure=>simp [intOf];omega
     ·go_simp
      refine (WC.out _ hb).mono ?_
      rintro e v2 ⟨rfl,hbb⟩
      replace hb:=hb.step hbb
      clear hbb
      rename World=>v
      go_simp
      refine hK.out _ _ trivial (fun _=>?_)
      clear hK K
      refine rdZ 1 rfl (fun K hK=>?_)
      have c4:v.cell? ⟨w.heap.size+1,129,none⟩=some (.int .i64 m):=by rw [hb.cell,← List.getElem?_toArray];exact (cells_ok hb.tab).window
      go_simp
      refine hK.out _ _ trivial (fun _=>?_)
      clear hK K
      clear c4
      refine tqZ 5 183 (.int .i64 (max m z)) rfl (fun _ _ _ h=>HP _ _ _ _ _ h) ?_ hS ?_
      ·intro w' hw'
       go_simp
       try (first | rfl | (simp only [Int.max_def];split <;> split <;> omega))
      (try dsimp only [Act.put]);(try simp only [zA,zB,zC])
      refine tqZ 6 184 ?_ rfl (fun _ _ _ h=>HP _ _ _ _ _ h) ?_ hS ?_
      rotate_left
      ·intro w' hw'
       go_simp
       try with_reducible rfl
      (try dsimp only [Act.put]);(try simp only [zA,zB,zC])
      refine rdZ 7 rfl (fun K hK=>?_)
      have c5:v.cell? ⟨w.heap.size+1,129,none⟩=some (.int .i64 m):=by rw [hb.cell,← List.getElem?_toArray];exact (cells_ok hb.tab).window
      have f5:=hb.frozen 129
      have HG:=hJJ (hb.set 129 (I (max m z)) (cells_window ⟨sg,sd,⟨ra,rc⟩,sb⟩ hb.ph hb.cf hb.fl (max m z)) hb.ph hb.cf hb.fl rfl rfl rfl rfl)
      clear hb
      go_simp
      refine hK.out _ _ trivial (fun _=>?_)
      clear hK K
      refine wpAnyH_done (by kernel_rfl) ?_ _
      clear hS c5 f5
      go_wp2
      go_roundw
      case rel=>exact ⟨q+1,by omega,by go_num,fun e=>(hr e).elim,by rw [NX.out];exact HG.out⟩
      case measure=>simp [intOf];omega
  ·have hqe:q=n:=by omega
   by_cases hr:T.rails.length=0
   ·have hq1:=hq0 hr
    have HB2:Hid (Bx w ⟨sg,sd,⟨ra,rc⟩,sb⟩ { T with window:=if T.rails.length=0 then 0 else maxW T n } wr):=hJJ (by rw [if_pos hr];have:=HB.out;rw [hq1] at this;exact this)
    clear HB NX hq0 hq1
    subst hqe
    go_wp2
    exact HQ.out _ _ _ _ _ _ _ _ _ _ _ _ _ _ _ _ _ _ _ _ HB2.out
   ·have HB2:Hid (Bx w ⟨sg,sd,⟨ra,rc⟩,sb⟩ { T with window:=if T.rails.length=0 then 0 else maxW T n } wr):=hJJ (by rw [if_neg hr];have:=HB.out;rw [hqe] at this;exact this)
    clear HB NX hq0
    subst hqe
    go_wp2
    exact HQ.out _ _ _ _ _ _ _ _ _ _ _ _ _ _ _ _ _ _ _ _ HB2.out
end GenT
namespace GenT
open Zip
open Go.ChangeShapes Go.WideShapes Go.ChangeAt Go.RowKit
open Tab Gath GenG Clone PlaceM CodeAt
open RefS (num num_range from_any)
theorem tail_any (a:Option Addr) (cap:Nat) (L:List Int) (w W0:World) (hd0:Hd) (T0:Tab) (n8:genN L≤8) (HL:Hid (∀ W,Below w.heap.size w W→IntRow W ⟨a,cap⟩ L)) (BX:Hid (Bx w hd0 T0 W0))
  (TS:{ T0 with extend:=num L 178 12,budget:=num L 179 40,start:=num L 180 8,revert:=num L 181 8,least:=num L 182 12,share:=num L 183 4 }=tabS L) (kR:Nat) (lR:kR≤20) (LR:Hid ((tabS L).rails.length=kR)) (GT2:Hid (genTab L=if kR=0 then tabS L else { tabS L with window:=maxW (tabS L) (genN L) })) {f1 f5 f6 f7 f8 f9 f10 f11 f12 f13 f14 f15 f16 f17 f18 f19 f20 f21 f22 f23 f24 f25 f26 f27 f28 f29 f30 f31 f32 f33 f34 f35 f36 f37 f38 f39 f40 f41 f42 f43 f44 f45 f46 f47 f48 f49 f50 f51 f52 f53 f54 f55 f56 f57 f58 f59 f60 f61 f62 f63 f64 f65 f66 f67 f68 f69 f70 f71 f72 f73 f74 f75 f76 f77 f78 f79 f80 f81 f82 f83 f84 f85 f86 f87 f88 f89 f90 f91 f92 f93 f94 f95 f96 f97 f98 f99 f100 f101 f102 f103 f104 f105 f106 f107 f108 f109 f110 f111 f112 f113 f114 f115 f116 f117 f118 f119 f120 f121 f122 f123 f124 f125 f126 f127 f128 f129 f130 f131 f132 f133 f134 f135 f136 f137 f138 f139 f140 f141 f142 f143 f144 f145 f146 f147 f148 f149 f150 f151 f152 f153 f154 f155 f156 f157 f158 f159 f160 f161 f162 f163 f164 f165 f166 f167 f168 f169 f170 f171 f172 f173 f174 f175 f176 f177 f178 f179 f180 f181 f182 f183 f184 f185:Value} :
  (sq 32 Tryz.f12).wp Tryz.prog (bodyPost Tryz.prog Tryz.f12 fun e w'=>∃ hd,e=.returned (.agg ((genTab L).cells hd).toArray)∧IsTab w' hd (genTab L)∧Own3 w.heap.size w' hd (genTab L)∧Below w.heap.size w w') ⟨#[Value.slice a L.length cap,f1,Value.pointer (some ⟨w.heap.size,0,none⟩),Value.pointer (some ⟨w.heap.size+1,0,none⟩),Value.int .i64 (genN L:Nat),f5,f6,f7,f8,f9,f10,f11,f12,f13,f14,f15,f16,f17,f18,f19,f20,f21,f22,f23,f24,f25,f26,f27,f28,f29,f30,f31,f32,f33,f34,f35,f36,f37,f38,f39,f40,f41,f42,f43,f44,f45,f46,f47,f48,f49,f50,f51,f52,f53,f54,f55,f56,f57,f58,f59,f60,f61,f62,f63,f64,f65,f66,f67,f68,f69,f70,f71,f72,f73,f74,f75,f76,f77,f78,f79,f80,f81,f82,f83,f84,f85,f86,f87,f88,f89,f90,f91,f92,f93,f94,f95,f96,f97,f98,f99,f100,f101,f102,f103,f104,f105,f106,f107,f108,f109,f110,f111,f112,f113,f114,f115,f116,f117,f118,f119,f120,f121,f122,f123,f124,f125,f126,f127,f128,f129,f130,f131,f132,f133,f134,f135,f136,f137,f138,f139,f140,f141,f142,f143,f144,f145,f146,f147,f148,f149,f150,f151,f152,f153,f154,f155,f156,f157,f158,f159,f160,f161,f162,f163,f164,f165,f166,f167,f168,f169,f170,f171,f172,f173,f174,f175,f176,f177,f178,f179,f180,f181,f182,f183,f184,f185],[]⟩ W0:=by
 conv=>arg 2;whnf
 dsimp only
 obtain ⟨n0,hn0,F0⟩:∃ x:Int,x=num L 178 12∧Hid (∀ W,Below w.heap.size w W→Calls Tryz.prog 43 #[.slice a L.length cap,.int .i64 178,.int .i64 12] W fun e w'=>e=.returned (.int .i64 x)∧w'=W):=⟨_,rfl,hJJ (fun W hb=>(from_any a cap L _ _ W (HL.out _ hb) (by omega) (by omega) (by omega)).mono fun _ _ ⟨e,q⟩=>⟨e,q.symm⟩)⟩
 obtain ⟨n1,hn1,F1⟩:∃ x:Int,x=num L 179 40∧Hid (∀ W,Below w.heap.size w W→Calls Tryz.prog 43 #[.slice a L.length cap,.int .i64 179,.int .i64 40] W fun e w'=>e=.returned (.int .i64 x)∧w'=W):=⟨_,rfl,hJJ (fun W hb=>(from_any a cap L _ _ W (HL.out _ hb) (by omega) (by omega) (by omega)).mono fun _ _ ⟨e,q⟩=>⟨e,q.symm⟩)⟩
 obtain ⟨n2,hn2,F2⟩:∃ x:Int,x=num L 180 8∧Hid (∀ W,Below w.heap.size w W→Calls Tryz.prog 43 #[.slice a L.length cap,.int .i64 180,.int .i64 8] W fun e w'=>e=.returned (.int .i64 x)∧w'=W):=⟨_,rfl,hJJ (fun W hb=>(from_any a cap L _ _ W (HL.out _ hb) (by omega) (by omega) (by omega)).mono fun _ _ ⟨e,q⟩=>⟨e,q.symm⟩)⟩
 obtain ⟨n3,hn3,F3⟩:∃ x:Int,x=num L 181 8∧Hid (∀ W,Below w.heap.size w W→Calls Tryz.prog 43 #[.slice a L.length cap,.int .i64 181,.int .i64 8] W fun e w'=>e=.returned (.int .i64 x)∧w'=W):=⟨_,rfl,hJJ (fun W hb=>(from_any a cap L _ _ W (HL.out _ hb) (by omega) (by omega) (by omega)).mono fun _ _ ⟨e,q⟩=>⟨e,q.symm⟩)⟩
 obtain ⟨n4,hn4,F4⟩:∃ x:Int,x=num L 182 12∧Hid (∀ W,Below w.heap.size w W→Calls Tryz.prog 43 #[.slice a L.length cap,.int .i64 182,.int .i64 12] W fun e w'=>e=.returned (.int .i64 x)∧w'=W):=⟨_,rfl,hJJ (fun W hb=>(from_any a cap L _ _ W (HL.out _ hb) (by omega) (by omega) (by omega)).mono fun _ _ ⟨e,q⟩=>⟨e,q.symm⟩)⟩
 obtain ⟨n5,hn5,F5⟩:∃ x:Int,x=num L 183 4∧Hid (∀ W,Below w.heap.size w W→Calls Tryz.prog 43 #[.slice a L.length cap,.int .i64 183,.int .i64 4] W fun e w'=>e=.returned (.int .i64 x)∧w'=W):=⟨_,rfl,hJJ (fun W hb=>(from_any a cap L _ _ W (HL.out _ hb) (by omega) (by omega) (by omega)).mono fun _ _ ⟨e,q⟩=>⟨e,q.symm⟩)⟩
 have TS2:Hid (scal T0 [n0,n1,n2,n3,n4,n5]=tabS L):=hJJ (by rw [hn0,hn1,hn2,hn3,hn4,hn5,← TS];rfl)
 have BY0:Hid (Bx w hd0 (scal T0 []) W0):=BX
 clear hn0 hn1 hn2 hn3 hn4 hn5 TS BX
 go_wp2_with fail
 refine (F0.out _ BY0.out.bel).mono ?_
 rintro e w' ⟨rfl,hq⟩
 subst w'
 obtain ⟨⟨old,c0⟩,f0,hs⟩:=scal_set BY0.out n0 116 0 rfl (by omega)
 have BY1:Hid (Bx w hd0 (scal T0 [n0]) _):=hJJ hs
 clear hs BY0 F0
 go_upto_region 33 with fail
 clear c0 f0
 go_wp2_with fail
 refine (F1.out _ BY1.out.bel).mono ?_
 rintro e w' ⟨rfl,hq⟩
 subst w'
 obtain ⟨⟨old,c0⟩,f0,hs⟩:=scal_set BY1.out n1 117 1 rfl (by omega)
 have BY2:Hid (Bx w hd0 (scal T0 [n0,n1]) _):=hJJ hs
 clear hs BY1 F1
 go_upto_region 34 with fail
 clear c0 f0
 go_wp2_with fail
 refine (F2.out _ BY2.out.bel).mono ?_
 rintro e w' ⟨rfl,hq⟩
 subst w'
 obtain ⟨⟨old,c0⟩,f0,hs⟩:=scal_set BY2.out n2 118 2 rfl (by omega)
 have BY3:Hid (Bx w hd0 (scal T0 [n0,n1,n2]) _):=hJJ hs
 clear hs BY2 F2
 go_upto_region 35 with fail
 clear c0 f0
 go_wp2_with fail
 refine (F3.out _ BY3.out.bel).mono ?_
 rintro e w' ⟨rfl,hq⟩
 subst w'
 obtain ⟨⟨old,c0⟩,f0,hs⟩:=scal_set BY3.out n3 119 3 rfl (by omega)
 have BY4:Hid (Bx w hd0 (scal T0 [n0,n1,n2,n3]) _):=hJJ hs
 clear hs BY3 F3
 go_upto_region 36 with fail
 clear c0 f0
 go_wp2_with fail
 refine (F4.out _ BY4.out.bel).mono ?_
 rintro e w' ⟨rfl,hq⟩
 subst w'
 obtain ⟨⟨old,c0⟩,f0,hs⟩:=scal_set BY4.out n4 120 4 rfl (by omega)
 have BY5:Hid (Bx w hd0 (scal T0 [n0,n1,n2,n3,n4]) _):=hJJ hs
 clear hs BY4 F4
 go_upto_region 37 with fail
 clear c0 f0
 go_wp2_with fail
 refine (F5.out _ BY5.out.bel).mono ?_
 rintro e w' ⟨rfl,hq⟩
 subst w'
 obtain ⟨⟨old,c0⟩,f0,hs⟩:=scal_set BY5.out n5 130 5 rfl (by omega)
 have BY6:Hid (Bx w hd0 (scal T0 [n0,n1,n2,n3,n4,n5]) _):=hJJ hs
 clear hs BY5 F5
 go_upto_region 38 with fail
 clear c0 f0
 have BZ:Hid (Bx w hd0 (tabS L) _):=hJJ (by rw [← TS2.out];exact BY6.out)
 clear TS2 BY6
 go_wp2_with fail
 refine loop_win a cap L w _ hd0 (tabS L) (genN L) n8 (tabS_few L) (by rw [LR.out];omega) HL (hJJ (by rw [tabS_window];exact BZ.out)) (fun _ _ d _ _ h=>by cases d <;> exact h) (hJJ ?_)
 intro v6_12 v6_167 v6_168 v6_169 v6_170 v6_171 v6_172 v6_173 v6_174 v6_175 v6_176 v6_177 v6_178 v6_179 v6_180 v6_181 v6_182 v6_183 v6_184 w7 hb7
 have BE:Hid (Bx w hd0 (genTab L) w7):=hJJ (by
  rw [GT2.out]
  rw [LR.out] at hb7
  by_cases e:kR=0
  ·rw [if_pos e] at hb7 ⊢
   rw [tabS_window] at hb7
   exact hb7
  ·rw [if_neg e] at hb7 ⊢
   exact hb7)
 clear hb7 BZ LR GT2
 dsimp only
 obtain ⟨w8,hst,hbk,htab,hown,hbel⟩:=BE.out.store_own
 have IA:Hid ((Tryz.prog.info? 32).map (·.size)=some ((genTab L).cells hd0).length):=hJJ (by rw [cells_cut _ BE.out.ph BE.out.cf BE.out.fl];exact May.infoT)
 have LT:Hid (Lies w7 ⟨w.heap.size+1,0,none⟩ ((genTab L).cells hd0)):=hJJ (by have:=Row.lies_of_block BE.out.blk;simpa using this)
 have FIN:Hid (∃ hd,Ending.returned (.agg ((genTab L).cells hd0).toArray)=.returned (.agg ((genTab L).cells hd).toArray)∧IsTab w8 hd (genTab L)∧Own3 w.heap.size w8 hd (genTab L)∧Below w.heap.size w w8):=hJJ ⟨hd0,rfl,htab,hown,hbel⟩
 have HK:=hJJ hbk
 have csl:=cells_cut hd0 BE.out.ph BE.out.cf BE.out.fl
 clear hbk htab hown hbel BE
 generalize (genTab L).cells hd0=cs at *
 go_wp2_with (refine lgZ 32 ⟨w.heap.size+1,0,none⟩ cs rfl LT.out Tryz.underlying32 IA.out ?_)
 (try simp only [Exit.inBlock,Exit.then])
 refine bodyPost_ret (v:=.agg cs.toArray) ?_ rfl FIN.out
 exact results_cell_row rfl _ _ w.heap.size 32 _ (0,0) _ rfl HK.out Tryz.underlying32 rfl (by have:=IA.out;simpa using this)
end GenT
namespace GenT
open Zip
open Go.ChangeShapes Go.WideShapes Go.ChangeAt Go.RowKit
open Tab Gath GenG Clone PlaceM CodeAt
open RefS (num num_range from_any)
theorem table_own (a:Option Addr) (cap:Nat) (L:List Int) (w:World) (h:IntRow w ⟨a,cap⟩ L) :
  Calls Tryz.prog 12 #[.slice a L.length cap] w fun e w'=>∃ hd,e=.returned (.agg ((genTab L).cells hd).toArray)∧IsTab w' hd (genTab L)∧Own3 w.heap.size w' hd (genTab L)∧Below w.heap.size w w':=by
 have HL:Hid (∀ W,Below w.heap.size w W→IntRow W ⟨a,cap⟩ L):=hJJ (fun W hb=>h.below hb)
 have SM1:=hJJ (tab1_few L)
 have GT:Hid (genTab L=if (num L 176 4 % 3).toNat=0 then tabS L else { tabS L with window:=maxW (tabS L) (genN L) }):=hJJ rfl
 have TF:Hid (tabF L=if num L 174 ((genN L:Int)+1) < genN L then { tabC L with flash:=(tabC L).flash.set (num L 174 ((genN L:Int)+1)).toNat 2 } else tabC L):=hJJ rfl
 have TC0:Hid ({ tabP L (genN L) with conflict:=call L (tabP L (genN L)) (tabP L (genN L)).conflict (genN L) }=tabC L):=hJJ (by rw [call_same (T:=tabP L (genN L)) (U:=tab1 L) rfl];rfl)
 have n8:=genN_range L
 have n1:=genN_pos L
 have hz:=(zero_of_info infoTz).1
 have Z104:(zTab.cells zHd)[104]?=some (.slice none 0 0):=rfl
 have ZL:(zTab.cells zHd).length=131:=rfl
 have B0:Hid (Below w.heap.size w ((w.alloc (.cells (zTab.cells zHd).toArray 32)).alloc (.cells (zTab.cells zHd).toArray 32))):=hJJ (((Below.refl _ _).alloc (Nat.le_refl _) _).alloc (by simp) _)
 have S0:Hid (((w.alloc (.cells (zTab.cells zHd).toArray 32)).alloc (.cells (zTab.cells zHd).toArray 32)).heap.size=w.heap.size+2):=hJJ (by simp)
 have R0:Hid (((w.alloc (.cells (zTab.cells zHd).toArray 32)).alloc (.cells (zTab.cells zHd).toArray 32)).heap[w.heap.size]?=some (.cells (zTab.cells zHd).toArray 32 (0,0))):=hJJ (heap_alloc2_old w _ _)
 have R1:Hid (((w.alloc (.cells (zTab.cells zHd).toArray 32)).alloc (.cells (zTab.cells zHd).toArray 32)).heap[w.heap.size+1]?=some (.cells (zTab.cells zHd).toArray 32 (0,0))):=hJJ (heap_alloc2_new w _ _)
 have FST:Hid (∀ (W0 W:World) (ga:Option Addr) (gc:Nat) (gs:List Gr),Below w.heap.size w W0→W0.heap.size=w.heap.size+2→W0.heap[w.heap.size]?=some (.cells (zTab.cells zHd).toArray 32 (0,0))→gs.map Gr.data=genGs L→GS W0 (w.heap.size+1) (zTab.cells zHd) ga gc (genG L) gs W→Bx w ⟨⟨ga,gc⟩,⟨none,0⟩,⟨none,0⟩,⟨none,0⟩⟩ (tab1 L) W):=hJJ (fun W0 W ga gc gs=>Bx.first)
 generalize hZ:zTab.cells zHd=Z at *
 clear hZ
 go_enter Tryz.func12,Tryz.ntmps12
 go_upto_region 2 with fail
 generalize (w.alloc (.cells Z.toArray 32)).alloc (.cells Z.toArray 32)=W0 at B0 S0 R0 R1 ⊢
 go_wp2_with fail
 refine (rows_any (w.heap.size+1) a cap L Z W0 R1.out ZL Z104 (hJJ (fun W hg=>HL.out W ⟨hg.os.trans B0.out.os,hg.tape.trans B0.out.tape,hg.output.trans B0.out.output,by have:=hg.size;have:=S0.out;omega,fun j hj=>(hg.block j (by have:=S0.out;omega) (fun e=>by simp at e;omega)).trans (B0.out.block j hj)⟩))).mono ?_
 rintro e w1 ⟨ga,gc,gs,rfl,hdt,hgs⟩
 have BX:=hJJ (FST.out W0 w1 ga gc gs B0.out S0.out R0.out hdt hgs)
 clear hdt hgs hz Z104 ZL B0 S0 R0 R1 FST h
 go_wp2_with fail
 refine loop_ph a cap L w w1 _ (tab1 L) (genN L) n8 HL BX (fun _ _ d _ _ h=>by cases d <;> exact h) (hJJ ?_)
 intro y5 y15 y16 y17 y18 y19 y20 y21 y22 y23 y24 y25 y26 y27 y28 y29 y30 w2 hb2
 have BX2:Hid (Bx w _ (tabP L (genN L)) w2):=hJJ hb2
 clear hb2 BX
 dsimp only
 go_wp2_with fail
 refine loop_cf a cap L w w2 _ (tabP L (genN L)) (genN L) n8 ⟨SM1.out.groups,SM1.out.rows⟩ HL BX2 (fun _ _ d _ _ h=>by cases d <;> exact h) (hJJ ?_)
 intro z6 z7 z31 z32 z33 z34 z35 z36 z37 z38 z39 z40 z41 z42 z43 z44 z45 z46 z47 z48 z49 z50 z51 z52 z53 z54 z55 z56 z57 z58 z59 z60 z61 z62 z63 z64 z65 z66 z67 z68 z69 z70 z71 z72 z73 w3 hb3
 have BX3:Hid (Bx w _ (tabC L) w3):=hJJ (by rw [TC0.out] at hb3;exact hb3)
 clear hb3 BX2 TC0
 dsimp only
 have hp:=num_range L 174 ((genN L:Int)+1) (by omega)
 go_upto_region 17 with fail
 go_wp2_with fail
 refine (from_any a cap L _ _ w3 (HL.out _ BX3.out.bel) (by omega) (by omega) (by omega)).mono ?_
 rintro e w' ⟨rfl,rfl⟩
 go_upto_if 80 with fail
 go_cut [8] from 74 (fun t8 wx=>Bx w ⟨⟨ga,gc⟩,⟨none,0⟩,⟨none,0⟩,⟨none,0⟩⟩ (tabF L) wx)
 case first =>
  generalize num L 174 ((genN L:Int)+1)=p at *
  by_cases hlt:p < (genN L:Int)
  ·obtain ⟨k,rfl⟩:=Int.eq_ofNat_of_zero_le hp.1
   have TE:Hid (tabF L={ tabC L with flash:=(tabC L).flash.set k 2 }):=hJJ (by rw [TF.out,if_pos hlt];rfl)
   have hs:=BX3.out.set (121+k) (I 2) (cells_flash _ BX3.out.ph BX3.out.cf BX3.out.fl k (by omega) 2) BX3.out.ph BX3.out.cf (by simp [BX3.out.fl]) rfl rfl rfl rfl
   have c7:w3.cell? ⟨w.heap.size+1,121+k,none⟩=some (I ((tabC L).flash.getD k 0)):=(range_of BX3.out.blk 121 8 _ (cells_ok BX3.out.tab).flash) k _ (by rw [List.getElem?_map,List.getD_eq_getElem?_getD,List.getElem?_eq_getElem (show k < (tabC L).flash.length by rw [BX3.out.fl];omega)];rfl)
   have f7:=BX3.out.frozen (121+k)
   rw [← TE.out] at hs
   have HS:=hJJ hs
   generalize (tabC L).flash.getD k 0=old at c7
   clear hs BX3 TE TF
   go_wp2_with fail
   go_meet
   exact HS.out
  ·have HS:Hid (Bx w ⟨⟨ga,gc⟩,⟨none,0⟩,⟨none,0⟩,⟨none,0⟩⟩ (tabF L) w3):=hJJ (by rw [TF.out,if_neg hlt];exact BX3.out)
   clear BX3 TF
   go_wp2_with fail
   go_meet
   exact HS.out
 case rest =>
  have BX4:=hJJ hcut
  clear hcut BX3 TF hp
  obtain ⟨kd0,kd1⟩:=num_range L 175 9 (by omega)
  obtain ⟨kr0,kr1⟩:=num_range L 176 4 (by omega)
  obtain ⟨kb0,kb1⟩:=num_range L 177 3 (by omega)
  obtain ⟨kD,hkD⟩:∃ k,k=(num L 175 9).toNat:=⟨_,rfl⟩
  obtain ⟨kR,hkR⟩:∃ k,k=(num L 176 4 % 3).toNat:=⟨_,rfl⟩
  obtain ⟨kB,hkB⟩:∃ k,k=(num L 177 3).toNat:=⟨_,rfl⟩
  have ED:Hid (num L 175 9=(kD:Int)):=hJJ (by omega)
  have ER:Hid ((num L 176 4).tmod 3=(kR:Int)):=hJJ (by rw [Int.tmod_eq_emod_of_nonneg kr0];omega)
  have EB:Hid (num L 177 3=(kB:Int)):=hJJ (by omega)
  have lD:kD≤20:=by omega
  have lR:kR≤20:=by omega
  have lB:kB≤20:=by omega
  have TD:Hid ({ tabF L with dets:=down (fun i:Nat=>GenD.genDet L (180+8*i) (genN L)) kD kD }=tabD L kD):=hJJ (by rw [hkD];rfl)
  have TR:Hid ({ tabD L kD with rails:=down (fun i:Nat=>GenR.genRl (tabD L kD) L (260+16*i) (genN L)) kR kR }=tabR L kR):=hJJ (by
   rw [down_same (g:=fun i:Nat=>GenR.genRl (tab1 L) L (260+16*i) (genN L)) (fun i=>genRl_same (T:=tabD L kD) (U:=tab1 L) (tabF_groups L) L _ _),hkR,hkD];rfl)
  have TB:Hid ({ tabR L kR with buses:=down (fun i:Nat=>genBs L i (genN L)) kB kB }=tabB L kB):=hJJ (by rw [hkB,hkR];rfl)
  have TS:Hid ({ tabB L kB with extend:=num L 178 12,budget:=num L 179 40,start:=num L 180 8,revert:=num L 181 8,least:=num L 182 12,share:=num L 183 4 }=tabS L):=hJJ (by rw [hkB];rfl)
  have LR:Hid ((tabS L).rails.length=kR):=hJJ (by rw [tabS_rails,hkR])
  have GT2:Hid (genTab L=if kR=0 then tabS L else { tabS L with window:=maxW (tabS L) (genN L) }):=hJJ (by rw [GT.out,hkR])
  clear hkD hkR hkB GT kd0 kd1 kr0 kr1 kb0 kb1
  go_wp2_with fail
  refine (from_any a cap L _ _ _ (HL.out _ BX4.out.bel) (by omega) (by omega) (by omega)).mono ?_
  rintro e w' ⟨rfl,rfl⟩
  rw [ED.out]
  go_wp2_with fail
  refine loop_dets a cap L w _ ⟨⟨ga,gc⟩,⟨none,0⟩,⟨none,0⟩,⟨none,0⟩⟩ (tabF L) (genN L) n8 n1 kD lD HL ⟨none,0⟩ (hJJ (by rw [tabF_dets];exact BX4.out)) (fun _ _ d _ _ h=>by cases d <;> exact h) (hJJ ?_)
  intro v3_9 v3_86 v3_87 v3_88 v3_89 v3_90 v3_91 v3_92 v3_93 v3_94 v3_95 v3_96 v3_97 v3_98 v3_99 v3_100 w4 s1 hb4
  have BX5:Hid (Bx w _ (tabD L kD) w4):=hJJ (by rw [TD.out] at hb4;exact hb4)
  clear hb4 BX4
  dsimp only
  go_wp2_with fail
  refine (from_any a cap L _ _ _ (HL.out _ BX5.out.bel) (by omega) (by omega) (by omega)).mono ?_
  rintro e w' ⟨rfl,rfl⟩
  go_upto_region 25 with fail
  rw [ER.out]
  go_wp2_with fail
  refine loop_rails a cap L w _ ⟨⟨ga,gc⟩,s1,⟨none,0⟩,⟨none,0⟩⟩ (tabD L kD) (genN L) n8 n1 kR lR ⟨by rw [show (tabD L kD).groups=genGs L from tabF_groups L];exact SM1.out.groups,by rw [show (tabD L kD).groups=genGs L from tabF_groups L];exact SM1.out.rows⟩ HL ⟨none,0⟩ (hJJ (by rw [tabD_rails];exact BX5.out)) (fun _ _ d _ _ h=>by cases d <;> exact h) (hJJ ?_)
  intro v4_10 v4_104 v4_105 v4_106 v4_107 v4_108 v4_109 v4_110 v4_111 v4_112 v4_113 v4_114 v4_115 v4_116 v4_117 v4_118 v4_119 w5 s2 hb5
  have BX6:Hid (Bx w _ (tabR L kR) w5):=hJJ (by rw [TR.out] at hb5;exact hb5)
  clear hb5 BX5 TR
  dsimp only
  go_wp2_with fail
  refine (from_any a cap L _ _ _ (HL.out _ BX6.out.bel) (by omega) (by omega) (by omega)).mono ?_
  rintro e w' ⟨rfl,rfl⟩
  rw [EB.out]
  go_wp2_with fail
  refine loop_buses a cap L w _ ⟨⟨ga,gc⟩,s1,s2,⟨none,0⟩⟩ (tabR L kR) (genN L) n8 n1 kB lB HL ⟨none,0⟩ (hJJ (by rw [tabR_buses];exact BX6.out)) (fun _ _ d _ _ h=>by cases d <;> exact h) (hJJ ?_)
  intro v5_11 v5_122 v5_123 v5_124 v5_125 v5_126 v5_127 v5_128 v5_129 v5_130 v5_131 v5_132 v5_133 v5_134 v5_135 v5_136 v5_137 v5_138 v5_139 v5_140 v5_141 v5_142 v5_143 v5_144 v5_145 v5_146 v5_147 v5_148 w6 s3 hb6
  have BX7:Hid (Bx w _ (tabB L kB) w6):=hJJ (by rw [TB.out] at hb6;exact hb6)
  clear hb6 BX6 TB
  dsimp only
  simp only [Exit.inBlock,Exit.then,if_true]
  apply_assumption
  exact tail_any a cap L w _ _ (tabB L kB) n8 HL BX7 TS.out kR lR LR GT2
end GenT
namespace BendU
open Go Go.RowKit
open Tab Gath GenG GenT Clone
structure Ux (w0:World) (tb:Nat) (hd:Hd) (T:Tab) (W:World):Prop where
 bel:Below w0.heap.size w0 W
 tbB:w0.heap.size≤tb
 blk:W.heap[tb]?=some (.cells (T.cells hd).toArray 32 (0,0))
 ph:T.phases.length=8
 cf:T.conflict.length=8
 fl:T.flash.length=8
 groups:GrT W hd.g T.groups
 dets:Owns Det.cells 7 w0.heap.size W 45 (hd.d.val T.dets.length) T.dets
 rails:Owns Rl.cells 11 w0.heap.size W 47 (hd.r.val T.rails.length) T.rails
 buses:Owns Bs.cells 2 w0.heap.size W 49 (hd.b.val T.buses.length) T.buses
theorem Ux.tab {w0:World} {tb:Nat} {W:World} {hd:Hd} {T:Tab} (h:Ux w0 tb hd T W):IsTab W hd T :=
 ⟨h.ph,h.cf,h.fl,h.groups.lie,own_is (fun _=>rfl) h.dets,own_is (fun _=>rfl) h.rails,own_is (fun _=>rfl) h.buses⟩
theorem Ux.size {w0:World} {tb:Nat} {W:World} {hd:Hd} {T:Tab} (h:Ux w0 tb hd T W):tb < W.heap.size:=(Array.getElem?_eq_some_iff.1 h.blk).1
theorem Ux.step {w0:World} {tb:Nat} {W W':World} {hd:Hd} {T:Tab} (h:Ux w0 tb hd T W) (hb:Below W.heap.size W W'):Ux w0 tb hd T W' :=
 ⟨h.bel.trans (hb.mono h.bel.size),h.tbB,(hb.block _ h.size).trans h.blk,h.ph,h.cf,h.fl,h.groups.grown (grown_below hb none) (fun m e=>by cases e),h.dets.below hb,h.rails.below hb,h.buses.below hb⟩
theorem Ux.cell {w0:World} {tb:Nat} {W:World} {hd:Hd} {T:Tab} (h:Ux w0 tb hd T W) (i:Nat):W.cell? ⟨tb,i,none⟩=(T.cells hd)[i]?:=by
 rw [cell_of_row _ _ _ _ _ _ h.blk];simp
theorem Ux.frozen {w0:World} {tb:Nat} {W:World} {hd:Hd} {T:Tab} (h:Ux w0 tb hd T W) (i:Nat):W.frozen? ⟨tb,i,none⟩=false:=frozen_of_row _ _ _ _ _ h.blk
theorem Ux.write {w0:World} {tb:Nat} {W W':World} {hd:Hd} {T U:Tab} (h:Ux w0 tb hd T W) (hg:W.grownBy W' (some (tb))) (hb:W'.heap[tb]?=some (.cells (U.cells hd).toArray 32 (0,0)))
  (h1:U.phases.length=8) (h2:U.conflict.length=8) (h3:U.flash.length=8) (e1:U.groups=T.groups) (e2:U.dets=T.dets) (e3:U.rails=T.rails) (e4:U.buses=T.buses):Ux w0 tb hd U W':=by
 refine ⟨h.bel.grown hg h.bel.size (fun k hk=>by cases hk;exact h.tbB),h.tbB,hb,h1,h2,h3,?_,?_,?_,?_⟩
 ·rw [e1]
  exact h.groups.grown hg (fun m e=>by cases e;exact ⟨_,_,h.blk,by decide,by decide⟩)
 ·rw [e2];exact own_kept h.dets hg (fun m hm e=>by cases e;exact own_ne h.dets h.blk (by decide) hm)
 ·rw [e3];exact own_kept h.rails hg (fun m hm e=>by cases e;exact own_ne h.rails h.blk (by decide) hm)
 ·rw [e4];exact own_kept h.buses hg (fun m hm e=>by cases e;exact own_ne h.buses h.blk (by decide) hm)
theorem Ux.set {w0:World} {tb:Nat} {W:World} {hd:Hd} {T U:Tab} (h:Ux w0 tb hd T W) (i:Nat) (v:Value) (hc:(T.cells hd).set i v=U.cells hd)
  (h1:U.phases.length=8) (h2:U.conflict.length=8) (h3:U.flash.length=8) (e1:U.groups=T.groups) (e2:U.dets=T.dets) (e3:U.rails=T.rails) (e4:U.buses=T.buses):Ux w0 tb hd U (W.setCell ⟨tb,i,none⟩ v) :=
 h.write (grown_set _ _ _ _) (by rw [heap_setCell_same _ _ _ _ _ _ h.blk,← hc];simp) h1 h2 h3 e1 e2 e3 e4
theorem Ux.put_dets {w0:World} {tb:Nat} {W W':World} {hd:Hd} {T:Tab} {v':Value} (x:Det) (h:Ux w0 tb hd T W) (hg:W.grownBy W' (hd.d.val T.dets.length).ownBlock)
  (ho:W'.ownsRow w0.heap.size 45 7 v' (T.dets.length+1) (T.dets.flatMap Det.cells++x.cells)) :
  (W'.heap[tb]?=some (.cells (T.cells hd).toArray 32 (0,0)))∧∃ a' c',v'=.slice a' (T.dets.length+1) c'∧Ux w0 tb ⟨hd.g,⟨a',c'⟩,hd.r,hd.b⟩ { T with dets:=T.dets++[x] } (W'.setCell ⟨tb,113,none⟩ v'):=by
 have hne:∀ {b:Nat} {cs:Array Value},W.heap[b]?=some (.cells cs 32 (0,0))→some b ≠ (hd.d.val T.dets.length).ownBlock:=fun hb e=>own_ne h.dets hb (by decide) e.symm
 have hbx:=(hg.block _ h.size (hne h.blk)).trans h.blk
 have hO:Owns Det.cells 7 w0.heap.size W' 45 v' (T.dets++[x]):=Owns.snoc ho
 obtain ⟨⟨a',c'⟩,hs,hr⟩:=Owns.row hO (fun _=>rfl)
 refine ⟨hbx,a',c',by rw [hs,List.length_append];rfl,?_⟩
 refine ⟨?_,h.tbB,?_,h.ph,h.cf,h.fl,?_,by rw [show Sl.val ⟨a',c'⟩ (T.dets++[x]).length=v' from by rw [hs]];exact own_kept hO (grown_set _ _ _ _) (fun m hm e=>by cases e;exact own_ne hO hbx (by decide) hm),own_kept (own_kept h.rails hg (fun m hm e=>by obtain ⟨ds,hd2⟩:=own_type h.dets _ e;exact own_ne h.rails hd2 (by decide) hm)) (grown_set _ _ _ _) (fun m hm e=>by cases e;exact own_ne (own_kept h.rails hg (fun m hm e=>by obtain ⟨ds,hd2⟩:=own_type h.dets _ e;exact own_ne h.rails hd2 (by decide) hm)) hbx (by decide) hm),own_kept (own_kept h.buses hg (fun m hm e=>by obtain ⟨ds,hd2⟩:=own_type h.dets _ e;exact own_ne h.buses hd2 (by decide) hm)) (grown_set _ _ _ _) (fun m hm e=>by cases e;exact own_ne (own_kept h.buses hg (fun m hm e=>by obtain ⟨ds,hd2⟩:=own_type h.dets _ e;exact own_ne h.buses hd2 (by decide) hm)) hbx (by decide) hm)⟩
 ·exact (h.bel.grown hg h.bel.size (fun k hk=>h.dets.blk k hk)).setCell (p:=⟨tb,113,none⟩) h.tbB v'
 ·rw [heap_setCell_same _ _ _ _ _ _ hbx,← cells_dets hd h.ph h.cf ⟨a',c'⟩ (T.dets++[x]),← hs];simp
 ·exact (h.groups.grown hg (fun m e=>by obtain ⟨ds,hd2⟩:=own_type h.dets _ e;exact ⟨ds,_,hd2,by decide,by decide⟩)).grown (grown_set _ _ _ _) (fun m e=>by cases e;exact ⟨_,_,hbx,by decide,by decide⟩)
theorem Ux.put_rails {w0:World} {tb:Nat} {W W':World} {hd:Hd} {T:Tab} {v':Value} (x:Rl) (h:Ux w0 tb hd T W) (hg:W.grownBy W' (hd.r.val T.rails.length).ownBlock)
  (ho:W'.ownsRow w0.heap.size 47 11 v' (T.rails.length+1) (T.rails.flatMap Rl.cells++x.cells)) :
  (W'.heap[tb]?=some (.cells (T.cells hd).toArray 32 (0,0)))∧∃ a' c',v'=.slice a' (T.rails.length+1) c'∧Ux w0 tb ⟨hd.g,hd.d,⟨a',c'⟩,hd.b⟩ { T with rails:=T.rails++[x] } (W'.setCell ⟨tb,114,none⟩ v'):=by
 have hne:∀ {b:Nat} {cs:Array Value},W.heap[b]?=some (.cells cs 32 (0,0))→some b ≠ (hd.r.val T.rails.length).ownBlock:=fun hb e=>own_ne h.rails hb (by decide) e.symm
 have hbx:=(hg.block _ h.size (hne h.blk)).trans h.blk
 have hO:Owns Rl.cells 11 w0.heap.size W' 47 v' (T.rails++[x]):=Owns.snoc ho
 obtain ⟨⟨a',c'⟩,hs,hr⟩:=Owns.row hO (fun _=>rfl)
 refine ⟨hbx,a',c',by rw [hs,List.length_append];rfl,?_⟩
 refine ⟨?_,h.tbB,?_,h.ph,h.cf,h.fl,?_,own_kept (own_kept h.dets hg (fun m hm e=>by obtain ⟨ds,hd2⟩:=own_type h.rails _ e;exact own_ne h.dets hd2 (by decide) hm)) (grown_set _ _ _ _) (fun m hm e=>by cases e;exact own_ne (own_kept h.dets hg (fun m hm e=>by obtain ⟨ds,hd2⟩:=own_type h.rails _ e;exact own_ne h.dets hd2 (by decide) hm)) hbx (by decide) hm),by rw [show Sl.val ⟨a',c'⟩ (T.rails++[x]).length=v' from by rw [hs]];exact own_kept hO (grown_set _ _ _ _) (fun m hm e=>by cases e;exact own_ne hO hbx (by decide) hm),own_kept (own_kept h.buses hg (fun m hm e=>by obtain ⟨ds,hd2⟩:=own_type h.rails _ e;exact own_ne h.buses hd2 (by decide) hm)) (grown_set _ _ _ _) (fun m hm e=>by cases e;exact own_ne (own_kept h.buses hg (fun m hm e=>by obtain ⟨ds,hd2⟩:=own_type h.rails _ e;exact own_ne h.buses hd2 (by decide) hm)) hbx (by decide) hm)⟩
 ·exact (h.bel.grown hg h.bel.size (fun k hk=>h.rails.blk k hk)).setCell (p:=⟨tb,114,none⟩) h.tbB v'
 ·rw [heap_setCell_same _ _ _ _ _ _ hbx,← cells_rails hd h.ph h.cf ⟨a',c'⟩ (T.rails++[x]),← hs];simp
 ·exact (h.groups.grown hg (fun m e=>by obtain ⟨ds,hd2⟩:=own_type h.rails _ e;exact ⟨ds,_,hd2,by decide,by decide⟩)).grown (grown_set _ _ _ _) (fun m e=>by cases e;exact ⟨_,_,hbx,by decide,by decide⟩)
theorem Ux.put_buses {w0:World} {tb:Nat} {W W':World} {hd:Hd} {T:Tab} {v':Value} (x:Bs) (h:Ux w0 tb hd T W) (hg:W.grownBy W' (hd.b.val T.buses.length).ownBlock)
  (ho:W'.ownsRow w0.heap.size 49 2 v' (T.buses.length+1) (T.buses.flatMap Bs.cells++x.cells)) :
  (W'.heap[tb]?=some (.cells (T.cells hd).toArray 32 (0,0)))∧∃ a' c',v'=.slice a' (T.buses.length+1) c'∧Ux w0 tb ⟨hd.g,hd.d,hd.r,⟨a',c'⟩⟩ { T with buses:=T.buses++[x] } (W'.setCell ⟨tb,115,none⟩ v'):=by
 have hne:∀ {b:Nat} {cs:Array Value},W.heap[b]?=some (.cells cs 32 (0,0))→some b ≠ (hd.b.val T.buses.length).ownBlock:=fun hb e=>own_ne h.buses hb (by decide) e.symm
 have hbx:=(hg.block _ h.size (hne h.blk)).trans h.blk
 have hO:Owns Bs.cells 2 w0.heap.size W' 49 v' (T.buses++[x]):=Owns.snoc ho
 obtain ⟨⟨a',c'⟩,hs,hr⟩:=Owns.row hO (fun _=>rfl)
 refine ⟨hbx,a',c',by rw [hs,List.length_append];rfl,?_⟩
 refine ⟨?_,h.tbB,?_,h.ph,h.cf,h.fl,?_,own_kept (own_kept h.dets hg (fun m hm e=>by obtain ⟨ds,hd2⟩:=own_type h.buses _ e;exact own_ne h.dets hd2 (by decide) hm)) (grown_set _ _ _ _) (fun m hm e=>by cases e;exact own_ne (own_kept h.dets hg (fun m hm e=>by obtain ⟨ds,hd2⟩:=own_type h.buses _ e;exact own_ne h.dets hd2 (by decide) hm)) hbx (by decide) hm),own_kept (own_kept h.rails hg (fun m hm e=>by obtain ⟨ds,hd2⟩:=own_type h.buses _ e;exact own_ne h.rails hd2 (by decide) hm)) (grown_set _ _ _ _) (fun m hm e=>by cases e;exact own_ne (own_kept h.rails hg (fun m hm e=>by obtain ⟨ds,hd2⟩:=own_type h.buses _ e;exact own_ne h.rails hd2 (by decide) hm)) hbx (by decide) hm),by rw [show Sl.val ⟨a',c'⟩ (T.buses++[x]).length=v' from by rw [hs]];exact own_kept hO (grown_set _ _ _ _) (fun m hm e=>by cases e;exact own_ne hO hbx (by decide) hm)⟩
 ·exact (h.bel.grown hg h.bel.size (fun k hk=>h.buses.blk k hk)).setCell (p:=⟨tb,115,none⟩) h.tbB v'
 ·rw [heap_setCell_same _ _ _ _ _ _ hbx,← cells_buses hd h.ph h.cf ⟨a',c'⟩ (T.buses++[x]),← hs];simp
 ·exact (h.groups.grown hg (fun m e=>by obtain ⟨ds,hd2⟩:=own_type h.buses _ e;exact ⟨ds,_,hd2,by decide,by decide⟩)).grown (grown_set _ _ _ _) (fun m e=>by cases e;exact ⟨_,_,hbx,by decide,by decide⟩)
end BendU
namespace GrP
open Go.ChangeShapes Go.WideShapes Go.ChangeAt Go.RowKit
open Tab Gath GenG GenT BendU
def putR (r:Nat) (R:List Int) (y:List Int × List Int):List Int × List Int:=if r=0 then (R,y.2) else (y.1,R)
def putG (r:Nat) (R:List Int) (s:Sl) (g:Gr):Gr:=if r=0 then ⟨R,g.r1,s,g.s1⟩ else ⟨g.r0,R,g.s0,s⟩
theorem putG_data (r:Nat) (R:List Int) (s:Sl) (g:Gr):(putG r R s g).data=putR r R g.data:=by unfold putG putR Gr.data;split <;> rfl
theorem putG_at {r:Nat} (hr:r < 2) (R:List Int) (s:Sl) (g:Gr) (j:Nat):(putG r R s g).cells[j]?=if j=r then some (s.val R.length) else g.cells[j]?:=by
 have h2:r=0∨r=1:=by omega
 rcases h2 with rfl | rfl
 ·match j with
  | 0=>rfl
  | 1=>rfl
  | j+2=>rfl
 ·match j with
  | 0=>rfl
  | 1=>rfl
  | j+2=>rfl
theorem map_set {α β:Type} (f:α→β):∀ (l:List α) (k:Nat) (x:α),(l.set k x).map f=(l.map f).set k (f x)
 | [],_,_=>rfl
 | y :: l,0,x=>rfl
 | y :: l,k+1,x=>by rw [List.set_cons_succ,List.map_cons,List.map_cons,List.set_cons_succ,map_set f l k x]
theorem put {W:World} {gb gc:Nat} {l:List (List Int × List Int)} {k r:Nat} {y:List Int × List Int} {sl:Sl} {R:List Int} (h:GrT W ⟨some ⟨gb,0,none⟩,gc⟩ l) (hk:l[k]?=some y) (hr:r < 2) (hR:RowI W sl R) :
  GrT (W.setCell ⟨gb,k*2+r,none⟩ (sl.val R.length)) ⟨some ⟨gb,0,none⟩,gc⟩ (l.set k (putR r R y)):=by
 obtain ⟨gs,h1,h2,h3,h4⟩:=h
 have hg:=grown_set W gb (k*2+r) (sl.val R.length)
 obtain ⟨cs,hcs⟩:=h3 _ rfl
 have hkl:k < gs.length:=by rw [← List.length_map Gr.data,h1];exact (List.getElem?_eq_some_iff.1 hk).1
 have hgk:gs[k]?=some gs[k]:=List.getElem?_eq_getElem hkl
 generalize gs[k]=g0 at hgk
 have hy:g0.data=y:=by
  have:=hk
  rw [← h1,List.getElem?_map,hgk] at this
  exact Option.some.inj this
 have hI:∀ (s:Sl) (l:List Int),RowI W s l→RowI (W.setCell ⟨gb,k*2+r,none⟩ (sl.val R.length)) s l:=fun s l hs=>hs.grown hg (fun x hx e=>hs.ne hcs (by decide) x hx (Option.some.inj e))
 have hcell:∀ i g j v,gs[i]?=some g→g.cells[j]?=some v→W.cell? ⟨gb,i*2+j,none⟩=some v:=by
  intro i g j v hi hj
  obtain ⟨x,hx,hl⟩:=RowOf.at h2 hi
  obtain rfl:=Option.some.inj hx
  have:=hl j v hj
  rwa [Addr.add_mid,Addr.add_mid,Nat.zero_add] at this
 refine ⟨gs.set k (putG r R sl g0),by rw [map_set,h1,putG_data,hy],?_,fun x hx=>?_,fun g hm=>?_⟩
 ·have hl:=h2.len
  refine .inr ⟨_,rfl,by rw [List.length_set];exact hl.1,hl.2,fun i g hi j v hj=>?_⟩
  rw [Addr.add_mid,Addr.add_mid,Nat.zero_add]
  have hc:=cell_of_row W gb (i*2+j) _ _ _ hcs
  by_cases e:i=k
  ·subst e
   rw [List.getElem?_set_self hkl] at hi
   obtain rfl:=Option.some.inj hi
   rw [putG_at hr] at hj
   by_cases e2:j=r
   ·subst e2
    rw [if_pos rfl] at hj
    obtain rfl:=Option.some.inj hj
    have h0:∃ u,g0.cells[j]?=some u:=⟨_,List.getElem?_eq_getElem (by show j < 2;exact hr)⟩
    obtain ⟨u,hu⟩:=h0
    have hc0:=hcell _ _ _ _ hgk hu
    rw [cell_of_row _ _ _ _ _ _ hcs] at hc0
    have hlt:=(Array.getElem?_eq_some_iff.1 hc0).1
    rw [cell_of_row _ _ _ _ _ _ (heap_setCell_same W gb (i*2+j) cs _ _ hcs)]
    simp [hlt]
   ·rw [if_neg e2] at hj
    have hc0:=hcell _ _ _ _ hgk hj
    rw [World.cell?_setCell_other _ _ _ _ (by intro q;injection q with _ q;omega)]
    exact hc0
  ·rw [List.getElem?_set_ne (fun q=>e q.symm)] at hi
   have hj2:j < 2:=by have:=(List.getElem?_eq_some_iff.1 hj).1;exact this
   have hc0:=hcell _ _ _ _ hi hj
   rw [World.cell?_setCell_other _ _ _ _ (by intro q;injection q with _ q;omega)]
   exact hc0
 ·obtain rfl:=Option.some.inj hx
  exact ⟨_,heap_setCell_same W gb (k*2+r) cs _ _ hcs⟩
 ·rcases List.mem_or_eq_of_mem_set hm with hm | rfl
  ·exact ⟨hI _ _ (h4 g hm).1,hI _ _ (h4 g hm).2⟩
  ·have h0:=h4 g0 (List.mem_of_getElem? hgk)
   have h2:r=0∨r=1:=by omega
   rcases h2 with rfl | rfl
   ·exact ⟨hI _ _ hR,hI _ _ h0.2⟩
   ·exact ⟨hI _ _ h0.1,hI _ _ hR⟩
theorem at_row {W:World} {gb gc:Nat} {l:List (List Int × List Int)} {k r:Nat} {y:List Int × List Int} (h:GrT W ⟨some ⟨gb,0,none⟩,gc⟩ l) (hk:l[k]?=some y) (hr:r < 2):(∃ u,W.cell? ⟨gb,k*2+r,none⟩=some u)∧W.frozen? ⟨gb,k*2+r,none⟩=false:=by
 obtain ⟨gs,h1,h2,h3,h4⟩:=h
 obtain ⟨cs,hcs⟩:=h3 _ rfl
 refine ⟨?_,frozen_of_row _ _ _ _ _ hcs⟩
 have hkl:k < gs.length:=by rw [← List.length_map Gr.data,h1];exact (List.getElem?_eq_some_iff.1 hk).1
 obtain ⟨x,hx,hl⟩:=RowOf.at h2 (List.getElem?_eq_getElem hkl)
 obtain rfl:=Option.some.inj hx
 have h0:∃ u,(gs[k].cells)[r]?=some u:=⟨_,List.getElem?_eq_getElem (by show r < 2;exact hr)⟩
 obtain ⟨u,hu⟩:=h0
 have:=hl r u hu
 rw [Addr.add_mid,Addr.add_mid,Nat.zero_add] at this
 exact ⟨u,this⟩
theorem Ux.put_row {w0:World} {tb:Nat} {hd:Hd} {T:Tab} {W:World} {gb gc:Nat} {k r:Nat} {y:List Int × List Int} {sl:Sl} {R:List Int} (h:Ux w0 tb hd T W) (hg:hd.g=⟨some ⟨gb,0,none⟩,gc⟩) (hb:w0.heap.size≤gb) (hk:T.groups[k]?=some y) (hr:r < 2) (hR:RowI W sl R) :
  Ux w0 tb hd { T with groups:=T.groups.set k (putR r R y) } (W.setCell ⟨gb,k*2+r,none⟩ (sl.val R.length)):=by
 have hG:=h.groups
 rw [hg] at hG
 obtain ⟨cs,hcs⟩:∃ cs:Array Value,W.heap[gb]?=some (.cells cs 41 (0,0)):=by
  obtain ⟨_,_,_,h3,_⟩:=hG
  exact h3 _ rfl
 have hgr:=grown_set W gb (k*2+r) (sl.val R.length)
 have ht:tb ≠ gb:=fun e=>by rw [← e,h.blk] at hcs;injection hcs with q;injection q with _ q;cases q
 have hc:({ T with groups:=T.groups.set k (putR r R y) }:Tab).cells hd=T.cells hd:=by unfold Tab.cells;simp
 refine ⟨h.bel.grown hgr h.bel.size (fun m e=>by cases e;exact hb),h.tbB,?_,h.ph,h.cf,h.fl,?_,?_,?_,?_⟩
 ·rw [hc];exact (hgr.block _ h.size (fun e=>ht (Option.some.inj e))).trans h.blk
 ·rw [hg];exact put hG hk hr hR
 ·exact own_kept h.dets hgr (fun m hm e=>by cases e;exact own_ne h.dets hcs (by decide) hm)
 ·exact own_kept h.rails hgr (fun m hm e=>by cases e;exact own_ne h.rails hcs (by decide) hm)
 ·exact own_kept h.buses hgr (fun m hm e=>by cases e;exact own_ne h.buses hcs (by decide) hm)
theorem flat_I:∀ l:List Int,l.flatMap (fun n=>[I n])=l.map I
 | []=>rfl
 | x :: l=>by rw [List.flatMap_cons,flat_I l];rfl
theorem wp_copyI {o:Oper} {a:Act} {W:World} {K:Act→World→Prop} {Q:Exit→Act→World→Prop} (s x:Operand) (ho:o.op=.call { callee:=.builtin .append,args:=#[s,x],argTypes:=#[22,22] }) (hs:a.eval s=.slice none 0 0)
  (ad:Option Addr) (cap:Nat) (R:List Int) (hx:a.eval x=.slice ad R.length cap) (hr:IntRow W ⟨ad,cap⟩ R) (hl:R.length≤1000)
  (h:∀ (sa:Option Addr) (sc:Nat) (W':World),RowI W' ⟨sa,sc⟩ R→Below W.heap.size W W'→K (a.put o.dst (.slice sa R.length sc)) W'):Oper.wp Tryz.prog o a W K Q:=by
 obtain ⟨i0,hi,hz0,hz1,hz2⟩:=info_parts RefS.info3
 rcases hr with ⟨ha,hc,hn⟩ | ⟨y,hy,h1,h2,h3⟩
 ·obtain rfl:ad=none:=ha
  obtain rfl:cap=0:=hc
  subst hn
  have hrun:=run_append_owned_none (P:=Tryz.prog) (w:=W) W.heap.size 22 o.type 3 i0 1 Tryz.underlying22 hi (.slice none 0 0) 0 [] (World.ownsRow_nil _ _ _ _)
  unfold Oper.wp
  simp [execOp,ho,resolve,invoke,builtin,hs,hx,hrun,Result.andThen]
  exact h none 0 W ⟨RowOf.nil _,fun x hx=>by cases hx⟩ (Below.refl _ _)
 ·obtain rfl:ad=some y:=hy
  have hlen:(R.flatMap (fun n=>[I n])).length=R.length:=by
   clear h3 hl hx h h1
   induction R with
   | nil=>rfl
   | cons z t ih=>rw [List.flatMap_cons,List.length_append,ih,List.length_cons];simp;omega
  refine wp_append_own W s x 22 ho W.heap.size 3 i0 (.int .i64 0) 1 8 Tryz.underlying22 hi hz0 hz1 hz2 rfl (by decide) (.slice none 0 0) 0 [] hs (World.ownsRow_nil _ _ _ _) y R.length cap (R.flatMap (fun n=>[I n])) hx (by rw [hlen];omega) ?_ ?_ (by unfold maxLen;omega) (by omega) (Nat.le_refl _) ?_
  ·intro j u hj
   have hjl:j < R.length:=by rw [← hlen];exact (List.getElem?_eq_some_iff.1 hj).1
   have hv:=List.getElem?_eq_getElem hjl
   have hc:=h3 j _ hv 0 _ rfl
   rw [Nat.mul_one,add_two,Nat.add_zero] at hc
   rw [hc]
   have:(R.flatMap (fun n=>[I n]))[j]?=some (I R[j]):=by
    rw [flat_I,List.getElem?_map,hv];rfl
   rw [this] at hj
   exact hj
  ·intro u hu
   obtain ⟨n,_,hm⟩:=List.mem_flatMap.1 hu
   obtain rfl:=List.mem_singleton.1 hm
   rfl
  ·intro v' W' hown hgr _
   have hO:Owns (fun n=>[I n]) 1 W.heap.size W' 3 v' R:=by
    unfold Owns
    rw [Nat.zero_add,List.nil_append] at hown
    exact hown
   have hB:Below W.heap.size W W':=(Below.refl _ _).grown hgr (Nat.le_refl _) (fun m hm=>by simp [Value.ownBlock] at hm)
   obtain ⟨⟨sa,sc⟩,hs2,hrow⟩:=Owns.row hO (fun _=>rfl)
   subst hs2
   refine h sa sc W' ⟨hrow,fun x hx=>?_⟩ hB
   obtain rfl:sa=some x:=hx
   rcases hO.2 with ⟨e,_⟩ | ⟨g,cp,cur,e,h4,h5,_⟩
   ·simp [Sl.val] at e
   ·simp [Sl.val] at e
    obtain ⟨rfl,_⟩:=e
    exact ⟨cur,h5⟩
end GrP
namespace SetM
theorem has_of (m:Nat) (h:m < 256) (p:Int):has (m:Int) p=(decide (0≤p) && m.testBit p.toNat):=by unfold has;rw [low_nat m h]
theorem has_with (s p q:Int):has (withN s p:Nat) q=(has s q || (bit p != 0 && q == p)):=by
 rw [has_of _ (with_lt s p)]
 unfold withN
 by_cases h0:0≤q
 ·obtain ⟨k,rfl⟩:=Int.eq_ofNat_of_zero_le h0
  rw [decide_eq_true h0,Bool.true_and,Nat.testBit_or,Int.toNat_natCast,has_nat,test_bit]
  congr 1
  rw [Bool.eq_iff_iff,decide_eq_true_iff,Bool.and_eq_true,bne_iff_ne,beq_iff_eq]
  constructor
  ·rintro ⟨e,h8⟩
   rw [← e,bit_in k h8]
   exact ⟨Nat.ne_of_gt (Nat.two_pow_pos k),rfl⟩
  ·rintro ⟨h1,e⟩
   refine ⟨e,?_⟩
   by_cases h8:k < 8
   ·exact h8
   ·exact absurd (bit_out (p:=p) (by omega)) h1
 ·rw [decide_eq_false h0,Bool.false_and,has_neg s q (by omega),Bool.false_or]
  symm
  rw [Bool.and_eq_false_iff]
  by_cases e:q=p
  ·left;rw [bit_out (by omega)];rfl
  ·right;simpa using e
theorem has_without (s p q:Int):has (withoutN s p:Nat) q=(has s q && !(q == p)):=by
 have h1:has (withoutN s p:Nat) q=decide (q ∈ (list s).filter fun q=>q != p):=by
  rw [← of_without,has_of _ (of_lt _)]
  by_cases h0:0≤q
  ·obtain ⟨k,rfl⟩:=Int.eq_ofNat_of_zero_le h0
   rw [decide_eq_true h0,Bool.true_and,Int.toNat_natCast,of_test,Bool.eq_iff_iff,decide_eq_true_iff,decide_eq_true_iff]
   refine ⟨fun h=>h.1,fun h=>⟨h,?_⟩⟩
   have:=list_bd s k (List.mem_filter.1 h).1
   omega
  ·rw [decide_eq_false h0,Bool.false_and]
   symm
   rw [decide_eq_false_iff_not]
   intro h
   have:=list_bd s q (List.mem_filter.1 h).1
   omega
 rw [h1,Bool.eq_iff_iff,decide_eq_true_iff,List.mem_filter,mem_list,Bool.and_eq_true]
 rfl
theorem has_ext {m m':Nat} (h:m < 256) (h':m' < 256) (e:∀ q:Int,has (m:Int) q=has (m':Int) q):m=m':=by
 refine eq_of h h' fun k _=>?_
 have:=e (k:Int)
 rwa [has_nat,has_nat,low_nat m h,low_nat m' h'] at this
end SetM
namespace GenT
open Go Tab GenG PlaceM OnS Clone
open RefS (num num_range)
theorem genTab_groups (L:List Int):(genTab L).groups=genGs L:=by
 unfold genTab;split <;> exact tabF_groups L
theorem genTab_few (L:List Int):Few (genTab L):=⟨by rw [genTab_groups];exact (tab1_few L).groups,by rw [genTab_groups];exact (tab1_few L).rows⟩
theorem beside_symm (T:Tab) (p q:Int):beside T p q=beside T q p:=by
 unfold beside
 cases where_ T p with
 | none=>cases where_ T q <;> rfl
 | some a =>
  cases where_ T q with
  | none=>rfl
  | some b =>
   show (a.g == b.g && a.k != b.k)=(b.g == a.g && b.k != a.k)
   rw [Bool.beq_comm,bne_comm]
end GenT
namespace ChkM
open Go Tab PlaceM PlanM OnS May
def ons (T:Tab):List Int:=SetM.list (onS T:Nat)
def phAt (T:Tab) (p:Int):Ph:=T.phases.getD p.toNat default
def cfAt (T:Tab) (p:Int):Int:=T.conflict.getD p.toNat 0
def flAt (T:Tab) (p:Int):Int:=T.flash.getD p.toNat 0
def phBad (u:Ph):Bool:=decide (u.min < 1) || (decide (u.yellow < 10) || (decide (u.max < u.min) || (decide (u.top < u.max) || ((decide (u.step < 1) && decide (u.max < u.top)) || (((u.walk == 0) != (u.blinks == 0)) || (u.recall == 3 && u.walk == 0))))))
def phOk (u:Ph):Bool:=decide (1≤u.min) && (decide (10≤u.yellow) && (decide (u.min≤u.max) && (decide (u.max≤u.top) && ((decide (1≤u.step) || u.top == u.max) && ((decide (0 < u.walk) == decide (0 < u.blinks)) && (u.recall != 3 || decide (0 < u.walk)))))))
def allOn (T:Tab) (s:Int):Bool:=bits .andNot .i64 s (onS T:Nat) == 0
def inR (a b:Int):Bool:=bits .and .i64 (bits .andNot .i64 a b) 255 == 0
def clashC (T:Tab) (s:Int):Bool:=(SetM.list s).any fun p=>bits .and .i64 (cfAt T p) s != 0
def clashR (T:Tab) (a b:Int):Bool:=(SetM.list a).any fun p=>(SetM.list b).any fun q=>SetM.has (cfAt T p) q || SetM.has (cfAt T q) p
def abreast (T:Tab) (s:Int):Bool:=(SetM.list s).all fun p=>(SetM.list (SetM.withoutN s p:Nat)).all fun q=>beside T p q
def pairs (T:Tab) (l:List Int):Bool:=(List.range l.length).all fun i=>(List.range i).all fun k=>beside T (l.getD i 0) (l.getD k 0)
def yel (T:Tab) (p:Int):Bool:=flAt T p == 2
def yellows (T:Tab):Nat:=SetM.of ((ons T).filter (yel T))
def confBad (T:Tab) (p:Int):Bool:=SetM.has (cfAt T p) p || (ons T).any fun q=>(SetM.has (cfAt T p) q != SetM.has (cfAt T q) p) || (SetM.has (cfAt T p) q && beside T p q)
def confR (T:Tab) (p q:Int):Bool:=(SetM.has (cfAt T p) q && q == p) || ((SetM.has (cfAt T p) q != SetM.has (cfAt T q) p) || (SetM.has (cfAt T p) q && beside T p q))
def confOk (T:Tab) (p:Int):Bool:=!(ons T).any (confR T p)
def flashBad (T:Tab) (p:Int):Bool:=flAt T p == 0 || (flAt T p == 2 && bits .and .i64 (cfAt T p) (yellows T:Nat) != 0)
def flashR (T:Tab) (p q:Int):Bool:=flAt T p == 2 && (flAt T q == 2 && SetM.has (cfAt T p) q)
def flashOk (T:Tab) (p:Int):Bool:=flAt T p != 0 && !(ons T).any (flashR T p)
def gtF (a b:Nat):Bool:=decide (Go.Proofs.Fl.key b < Go.Proofs.Fl.key a)
def detBad (T:Tab) (d:Det):Bool:=gtF d.off d.on || !(phAt T d.phase).on
def detR (T:Tab) (d:Det):Bool:=gtF d.off d.on || !SetM.has (onS T:Nat) d.phase
def timesBad (r:Rl):Bool:=((r.hold == 0) != (r.clear == 0)) || (decide (r.green < 1) || (decide (r.stay < 1) || ((decide (0 < r.most) && decide (r.most < r.stay)) || decide (r.limit≤r.delay))))
def or4 (r:Rl):Int:=bits .or .i64 (bits .or .i64 (bits .or .i64 r.bars r.clear) r.dwell) r.exit
def railBad (T:Tab) (r:Rl):Bool:=!allOn T (or4 r) || (r.dwell == 0 || (r.exit == 0 || (bits .and .i64 r.dwell r.bars != 0 || (clashC T r.clear || (clashC T r.dwell || (clashC T r.exit || (!abreast T r.exit || timesBad r)))))))
def exitR (T:Tab) (s:Int):Bool:=pairs T (SetM.list s) && decide (0 < (SetM.list s).length)
def railOk (T:Tab) (r:Rl):Bool:=(inR (or4 r) (onS T:Nat) && (r.dwell != 0 && (bits .and .i64 r.dwell r.bars == 0 && exitR T r.exit))) && (!clashR T r.clear r.clear && (!clashR T r.dwell r.dwell && (!clashR T r.exit r.exit && ((decide (0 < r.hold) == (r.clear != 0)) && (decide (1≤r.green) && (decide (1≤r.stay) && ((r.most == 0 || decide (r.stay≤r.most)) && decide (r.delay < r.limit))))))))
def busBad (T:Tab) (b:Bs):Bool:=b.set == 0 || (!allOn T b.set || decide (b.lock < 1))
def busR (T:Tab) (b:Bs):Bool:=b.set == 0 || (!inR b.set (onS T:Nat) || decide (b.lock < 1))
def at0 (o:Option Spt):Nat × Nat × Nat:=match o with | some x=>(x.g,x.k,x.i) | none=>(0,0,0)
def repRow (T:Tab) (g k:Nat) (l:List Int):Bool:=(List.range l.length).any fun i=>at0 (where_ T (l.getD i 0)) != (g,k,i)
def repeats (T:Tab) (g:Nat):Bool:=repRow T g 0 (rowsAt T g).1 || repRow T g 1 (rowsAt T g).2
def groupBad (T:Tab) (g:Nat):Bool:=membS T g == 0 || (!allOn T (membS T g:Nat) || repeats T g)
def placed (T:Tab):Nat→Nat
 | 0=>0
 | g+1=>placed T g ||| membS T g
def ringsC (T:Tab):Option Int :=
 if T.groups.length=0 then some 0 else
 match (List.range T.groups.length).find? (groupBad T) with
 | some g=>some (g:Int)
 | none=>if bits .andNot .i64 (onS T:Nat) (placed T T.groups.length:Nat)=0 then none else some 0
def foldR (on:Int) (g:Nat):List Spt→Nat × Nat→Option (Nat × Nat)
 | [],s=>some s
 | x :: l,(n,s)=>if x.g=g then (if !SetM.has on x.p || SetM.has (s:Nat) x.p then none else foldR on g l (n+1,SetM.withN (s:Nat) x.p)) else foldR on g l (n,s)
def loopR (T:Tab):Nat→Nat→Nat→Option Int
 | 0,_,seen=>if seen=onS T then none else some 0
 | m+1,g,seen=>match foldR (onS T:Nat) g (spots T) (0,seen) with
  | none=>some (g:Int)
  | some (n,s)=>if n=0 then some (g:Int) else loopR T m (g+1) s
def ringsR (T:Tab):Option Int:=if T.groups.length=0 then some 0 else loopR T T.groups.length 0 0
def firstF:List (Int × Option Int)→Int × Int
 | []=>(0,0)
 | (c,some p) :: _=>(c,p)
 | (_,none) :: l=>firstF l
def idx {α:Type} (f:α→Bool) (l:List α):Option Int:=(l.findIdx? f).map Int.ofNat
def mayF (T:Tab):Option Int:=if tabMay T then none else some 0
def rulesC (T:Tab):List (Int × Option Int):=[(4,mayF T),(7,(ons T).find? fun p=>phBad (phAt T p)),(8,ringsC T),(9,(ons T).find? (confBad T)),(10,idx (detBad T) T.dets),(11,idx (railBad T) T.rails),(12,idx (busBad T) T.buses),(13,(ons T).find? (flashBad T))]
def rulesR (T:Tab):List (Int × Option Int):=[(4,mayF T),(7,(ons T).find? fun p=>!phOk (phAt T p)),(8,ringsR T),(9,(ons T).find? fun p=>!confOk T p),(10,idx (detR T) T.dets),(11,idx (fun r=>!railOk T r) T.rails),(12,idx (busR T) T.buses),(13,(ons T).find? fun p=>!flashOk T p)]
def chkC (T:Tab):Int × Int:=firstF (rulesC T)
def chkR (T:Tab):Int × Int:=firstF (rulesR T)
def fcells (x:Int × Int):Array Value:=#[I x.1,I x.2]
theorem first_hit {c p:Int}:∀ {l:List (Int × Option Int)} {q:Nat},l[q]?=some (c,some p)→(∀ j x,j < q→l[j]?=some x→x.2=none)→firstF l=(c,p)
 | [],q,h,_=>by simp at h
 | (d,o) :: l,0,h,_=>by
  obtain ⟨rfl,rfl⟩:d=c∧o=some p:=by simpa using h
  rfl
 | (d,o) :: l,q+1,h,hn=>by
  have h0:o=none:=hn 0 (d,o) (by omega) rfl
  subst h0
  exact first_hit (l:=l) (q:=q) (by simpa using h) (fun j x hj hx=>hn (j+1) x (by omega) (by simpa using hx))
theorem first_miss:∀ {l:List (Int × Option Int)},(∀ x ∈ l,x.2=none)→firstF l=(0,0)
 | [],_=>rfl
 | (d,o) :: l,h=>by
  have h0:o=none:=h (d,o) (List.mem_cons_self ..)
  subst h0
  exact first_miss (l:=l) (fun x hx=>h x (List.mem_cons_of_mem _ hx))
end ChkM
namespace Val
open Go Tab GenG GenT PlaceM PlanM OnS ChkM Clone
open RefS (num num_range)
end Val
namespace Val
open Go Tab GenG GenT PlaceM PlanM OnS ChkM Clone
open RefS (num num_range)
theorem bit_ne (k:Nat) (h:k < 8):(SetM.bit (k:Int) != 0)=true:=by
 rw [SetM.bit_in k h]
 have:=Nat.two_pow_pos k
 simp
theorem cset_has {L:List Int} {T:Tab} {p q:Nat} {C:List Int} (hp:p < 8) (hq:q < p) (hl:C.length=8) (hc:beside T p q=false∧num L (110+8*p+q) 9 ≠ 1) (r x:Nat) (hr:r < 8) (hx:x < 8) :
  SetM.has ((cset L T p q C).getD r 0) x=(SetM.has (C.getD r 0) x || decide ((r=p∧x=q)∨(r=q∧x=p))):=by
 unfold cset
 rw [if_pos hc]
 by_cases h1:r=q
 ·subst h1
  have e1:((C.set p (SetM.withN (C.getD p 0) r:Nat)).set r (SetM.withN ((C.set p (SetM.withN (C.getD p 0) r:Nat)).getD r 0) p:Nat)).getD r 0=(SetM.withN ((C.set p (SetM.withN (C.getD p 0) r:Nat)).getD r 0) p:Nat):=by
   rw [List.getD_eq_getElem?_getD,List.getElem?_set_self (by simp;omega)];rfl
  have e2:(C.set p (SetM.withN (C.getD p 0) r:Nat)).getD r 0=C.getD r 0:=by
   rw [List.getD_eq_getElem?_getD,List.getElem?_set_ne (by omega),← List.getD_eq_getElem?_getD]
  rw [e1,e2,SetM.has_with,bit_ne p hp,Bool.true_and]
  congr 1
  rw [Bool.eq_iff_iff,beq_iff_eq,decide_eq_true_eq]
  omega
 ·have e1:((C.set p (SetM.withN (C.getD p 0) q:Nat)).set q (SetM.withN ((C.set p (SetM.withN (C.getD p 0) q:Nat)).getD q 0) p:Nat)).getD r 0=(C.set p (SetM.withN (C.getD p 0) q:Nat)).getD r 0:=by
   rw [List.getD_eq_getElem?_getD,List.getElem?_set_ne (by omega),← List.getD_eq_getElem?_getD]
  rw [e1]
  by_cases h2:r=p
  ·subst h2
   have e2:(C.set r (SetM.withN (C.getD r 0) q:Nat)).getD r 0=(SetM.withN (C.getD r 0) q:Nat):=by
    rw [List.getD_eq_getElem?_getD,List.getElem?_set_self (by omega)];rfl
   rw [e2,SetM.has_with,bit_ne q (by omega),Bool.true_and]
   congr 1
   rw [Bool.eq_iff_iff,beq_iff_eq,decide_eq_true_eq]
   omega
  ·have e2:(C.set p (SetM.withN (C.getD p 0) q:Nat)).getD r 0=C.getD r 0:=by
    rw [List.getD_eq_getElem?_getD,List.getElem?_set_ne (by omega),← List.getD_eq_getElem?_getD]
   rw [e2,decide_eq_false (by omega),Bool.or_false]
structure Cf (T:Tab) (C:List Int):Prop where
 len:C.length=8
 bd:∀ x ∈ C,0≤x∧x < 256
 rel:∀ p q:Nat,p < 8→q < 8→SetM.has (C.getD p 0) q=true→SetM.has (C.getD q 0) p=true∧p ≠ q∧beside T p q=false
theorem set_bd {C:List Int} {p:Nat} {m:Nat} (h:∀ x ∈ C,0≤x∧x < 256) (hm:m < 256):∀ x ∈ C.set p (m:Int),0≤x∧x < 256:=by
 intro x hx
 rcases List.mem_or_eq_of_mem_set hx with h1 | rfl
 ·exact h x h1
 ·omega
theorem Cf.step {L:List Int} {T:Tab} {p q:Nat} {C:List Int} (h:Cf T C) (hp:p < 8) (hq:q < p):Cf T (cset L T p q C):=by
 by_cases hc:beside T p q=false∧num L (110+8*p+q) 9 ≠ 1
 ·refine ⟨by rw [cset_len];exact h.len,?_,fun a b ha hb hab=>?_⟩
  ·unfold cset
   rw [if_pos hc]
   exact set_bd (set_bd h.bd (SetM.with_lt _ _)) (SetM.with_lt _ _)
  ·rw [cset_has hp hq h.len hc a b ha hb,Bool.or_eq_true,decide_eq_true_eq] at hab
   rw [cset_has hp hq h.len hc b a hb ha,Bool.or_eq_true,decide_eq_true_eq]
   rcases hab with hab | ⟨rfl,rfl⟩ | ⟨rfl,rfl⟩
   ·obtain ⟨h1,h2,h3⟩:=h.rel a b ha hb hab
    exact ⟨.inl h1,h2,h3⟩
   ·exact ⟨.inr (.inr ⟨rfl,rfl⟩),by omega,hc.1⟩
   ·exact ⟨.inr (.inl ⟨rfl,rfl⟩),by omega,by rw [beside_symm];exact hc.1⟩
 ·have:cset L T p q C=C:=by unfold cset;rw [if_neg hc]
  rw [this];exact h
theorem Cf.row {L:List Int} {T:Tab} {p:Nat} {C:List Int} (h:Cf T C) (hp:p < 8):∀ q,q≤p→Cf T (crow L T p C q)
 | 0,_=>h
 | q+1,hq=>(Cf.row h hp q (by omega)).step hp (by omega)
theorem Cf.all {L:List Int} {T:Tab} {C:List Int} (h:Cf T C):∀ p,p≤8→Cf T (call L T C p)
 | 0,_=>h
 | p+1,hp=>(Cf.all h p (by omega)).row (by omega) p (Nat.le_refl _)
theorem has_zero (q:Int):SetM.has 0 q=false:=by
 unfold SetM.has SetM.low;simp
theorem Cf.start (T:Tab):Cf T [0,0,0,0,0,0,0,0]:=by
 refine ⟨rfl,fun x hx=>?_,fun p q hp hq h=>?_⟩
 ·simp at hx;omega
 ·exfalso
  have e:([0,0,0,0,0,0,0,0]:List Int).getD p 0=0:=by
   match p,hp with
   | 0,_ | 1,_ | 2,_ | 3,_ | 4,_ | 5,_ | 6,_ | 7,_=>rfl
  rw [e,has_zero] at h
  simp at h
theorem genTab_conflict (L:List Int):(genTab L).conflict=call L (tab1 L) [0,0,0,0,0,0,0,0] (genN L):=by
 have h:(tabF L).conflict=call L (tab1 L) [0,0,0,0,0,0,0,0] (genN L):=by unfold tabF;split <;> rfl
 unfold genTab;split <;> exact h
theorem cf_gen (L:List Int):Cf (genTab L) (genTab L).conflict:=by
 have h:Cf (tab1 L) (genTab L).conflict:=by rw [genTab_conflict];exact (Cf.start _).all _ (genN_range L)
 exact ⟨h.len,h.bd,fun p q hp hq hh=>by
  obtain ⟨h1,h2,h3⟩:=h.rel p q hp hq hh
  exact ⟨h1,h2,by rw [beside_same (U:=tab1 L) (genTab_groups L)];exact h3⟩⟩
theorem cf_at (L:List Int) {p q:Int} (hp:0≤p∧p < 8) (h:SetM.has (cfAt (genTab L) p) q=true):SetM.has (cfAt (genTab L) q) p=true∧p ≠ q∧beside (genTab L) p q=false:=by
 obtain ⟨p,rfl⟩:=Int.eq_ofNat_of_zero_le hp.1
 have h0:0≤q:=by
  by_cases c:0≤q
  ·exact c
  ·rw [SetM.has_neg _ _ (by omega)] at h;simp at h
 have h8:q < 8:=by
  by_cases c:q < 8
  ·exact c
  ·rw [SetM.has_big _ _ (by omega)] at h;simp at h
 obtain ⟨q,rfl⟩:=Int.eq_ofNat_of_zero_le h0
 obtain ⟨h1,h2,h3⟩:=(cf_gen L).rel p q (by omega) (by omega) h
 exact ⟨h1,by omega,h3⟩
end Val
namespace SetP
open Zip
open Go.ChangeShapes Go.WideShapes Go.ChangeAt Go.RowKit
open Go.Proofs.YtjolhoilcibdfaaGreat
theorem ret_int {k:IntKind} {a b:Int} (h:a=b):Ending.returned (.int k a)=.returned (.int k b):=by rw [h]
theorem ret_bool {a b:Bool} (h:a=b):Ending.returned (.bool a)=.returned (.bool b):=by rw [h]
theorem eight {p:Int} (h:0≤p) (h':p < 8):p=0∨p=1∨p=2∨p=3∨p=4∨p=5∨p=6∨p=7:=by omega
theorem bit_any (p:Int) (w:World):Calls Tryz.prog 123 #[.int .i64 p] w fun e w'=>e=.returned (.int .i64 (SetM.bit p))∧w=w':=by
 by_cases h1:p < 0
 ·have HB:=hJJ (SetM.bit_out (p:=p) (by omega))
  go_enter Tryz.func123,Tryz.ntmps123
  go_wp2
  go_ret
  exact ⟨ret_int (by rw [HB.out];rfl),rfl⟩
 by_cases h2:8≤p
 ·have HB:=hJJ (SetM.bit_out (p:=p) (by omega))
  go_enter Tryz.func123,Tryz.ntmps123
  go_wp2
  go_ret
  exact ⟨ret_int (by rw [HB.out];rfl),rfl⟩
 rcases eight (p:=p) (by omega) (by omega) with rfl | rfl | rfl | rfl | rfl | rfl | rfl | rfl
 all_goals
  clear h1 h2
  go_enter Tryz.func123,Tryz.ntmps123
  go_wp2
  go_ret
  exact ⟨ret_int (by decide),rfl⟩
theorem ne_has (s p:Int):(bits .and .i64 s (SetM.bit p) != 0)=SetM.has s p:=by
 have h:=SetM.has_and s p
 cases hb:SetM.has s p
 ·rw [h.2 hb];rfl
 ·rw [bne_iff_ne];intro e;rw [h.1 e] at hb;cases hb
theorem has_any (s p:Int) (w:World):Calls Tryz.prog 95 #[.int .i64 s,.int .i64 p] w fun e w'=>e=.returned (.bool (SetM.has s p))∧w=w':=by
 have HB:=hJJ (ne_has s p)
 go_enter Tryz.func95,Tryz.ntmps95
 go_wp2_with (go_at_call 123;refine (bit_any _ _).mono ?_;rintro e w' ⟨rfl,rfl⟩)
 go_ret
 exact ⟨ret_bool HB.out,rfl⟩
theorem with_any (s p:Int) (w:World):Calls Tryz.prog 124 #[.int .i64 s,.int .i64 p] w fun e w'=>e=.returned (.int .i64 (SetM.withN s p))∧w=w':=by
 have HB:=hJJ (SetM.with_bits s p)
 go_enter Tryz.func124,Tryz.ntmps124
 go_wp2_with (go_at_call 123;refine (bit_any _ _).mono ?_;rintro e w' ⟨rfl,rfl⟩)
 go_ret
 exact ⟨ret_int HB.out,rfl⟩
theorem with_take (l:List Int) (k:Nat) (h:k < l.length):SetM.withN (SetM.of (l.take k):Nat) (l.getD k 0)=SetM.of (l.take (k+1)):=by
 rw [RefS.take_succ l k h,SetM.with_of]
theorem of_any (a:Option Addr) (cap:Nat) (l:List Int) (w:World) (h:RefS.Row w a l) :
  Calls Tryz.prog 100 #[.slice a l.length cap] w fun e w'=>e=.returned (.int .i64 (SetM.of l:Nat))∧w=w':=by
 have h1:=h.1
 unfold maxLen at h1
 have Hr:=hJJ h
 clear h
 go_enter Tryz.func100,Tryz.ntmps100
 go_wp2
 go_loop [3,8] (fun t i=>∃ k:Nat,k≤l.length∧i=.int .i64 k∧t=.int .i64 (SetM.of (l.take k):Nat)) (fun _ i=>l.length - (intOf i).toNat)
 case atStart=>exact ⟨0,Nat.zero_le _,rfl,rfl⟩
 case round =>
  obtain ⟨k,hk,rfl,rfl⟩:=hrel
  by_cases hlt:k < l.length
  ·have HS:=with_take l k hlt
   obtain ⟨x,rfl,hc⟩:=Hr.out.cells hlt
   have hcell:=hc k hlt
   clear hc
   generalize l.getD k 0=y at HS hcell
   have HS2:=hJJ HS
   clear HS
   go_wp2_with (go_at_call 124;refine (SetP.with_any _ _ _).mono ?_;rintro e w' ⟨rfl,rfl⟩)
   go_round
   case rel=>exact ⟨k+1,by omega,by go_num,by rw [HS2.out]⟩
   case measure=>simp [intOf];omega
  ·go_wp2
   go_ret
   have:k=l.length:=by omega
   subst this
   exact ⟨by rw [List.take_of_length_le (Nat.le_refl _)];rfl,rfl⟩
end SetP
namespace PlanW
open Zip
open Go.ChangeShapes Go.WideShapes Go.ChangeAt Go.RowKit
open Tab PlaceM PlanM
open May (ret_bool chain infoP infoG St)
open SetP (of_any has_any)
theorem info2:(Tryz.prog.info? 41).map (·.size)=some 2:=by kernel_rfl
theorem infoT:(Tryz.prog.info? 32).map (·.size)=some 131:=by kernel_rfl
theorem row_one (w:World) (p:Int) (t:TypeId) (b:Nat) (hb:w.heap.size=b):RefS.Row (w.alloc (.cells #[.int .i64 p] t)) (some ⟨b,0,none⟩) [p]:=by
 subst hb
 refine ⟨by simp [maxLen],.inr ⟨_,rfl,fun i hi=>?_⟩⟩
 obtain rfl:i=0:=by simpa using hi
 rw [RefS.add_zero,cell_of_row _ _ _ _ _ _ (heap_alloc_new w _)]
 rfl
theorem idx0 (v0 v1:Value) (w:World):Sem.run Tryz.prog (Instr.index 41 (.agg #[v0,v1]) (.int .i64 0)) w=.ok v0 w:=by kernel_rfl
theorem idx1 (v0 v1:Value) (w:World):Sem.run Tryz.prog (Instr.index 41 (.agg #[v0,v1]) (.int .i64 1)) w=.ok v1 w:=by kernel_rfl
theorem has_one (p q:Int):SetM.has ((SetM.of [p]:Nat):Int) q=(decide (0≤p∧p < 8) && decide (q=p)):=by
 unfold SetM.has
 rw [SetM.low_nat _ (SetM.of_lt _),SetM.of_test]
 by_cases h0:0≤q
 ·obtain ⟨k,rfl⟩:=Int.eq_ofNat_of_zero_le h0
  simp only [Int.toNat_natCast,List.mem_singleton,h0,decide_true,Bool.true_and]
  rw [Bool.eq_iff_iff]
  simp only [Bool.and_eq_true,decide_eq_true_eq]
  omega
 ·rw [decide_eq_false h0,Bool.false_and]
  symm
  rw [Bool.and_eq_false_iff,decide_eq_false_iff_not,decide_eq_false_iff_not]
  omega
theorem results_tmp4 {P:Program} {fn:Func} {t u v x:Tmp} (h:fn.results=#[.tmp t,.tmp u,.tmp v,.tmp x]) (tmps:Array Value) (w:World) :
  (results fn tmps).run P w=.ok (.tuple #[tmps.getD t undef,tmps.getD u undef,tmps.getD v undef,tmps.getD x undef]) w:=by
 simp [results,h]
def wG:Option Spt→Int | some x=>x.g | none=>0
def wK:Option Spt→Int | some x=>x.k | none=>0
def wI:Option Spt→Int | some x=>x.i | none=>0
theorem where_none {T:Tab} {p:Int} (h:∀ x ∈ spots T,x.p ≠ p):where_ T p=none:=find_none h
theorem where_some {T:Tab} {p:Int} {x:Spt} (hx:x ∈ spots T) (hp:x.p=p) (hn:∀ y ∈ spots T,Lt y x→y.p ≠ p):where_ T p=some x:=by
 unfold where_ find
 exact find_hit (spots_sorted T) hx (by simpa using hp) (fun y hy hl=>by simpa using hn y hy hl)
theorem pwhere_any (T:Tab) (h:Hd) (p:Int) (w:World) (ht:IsTab w h T) :
  Calls Tryz.prog 63 #[.agg (T.cells h).toArray,.int .i64 p] w fun e w'=>e=.returned (.tuple #[I (wG (where_ T p)),I (wK (where_ T p)),I (wI (where_ T p)),.bool (where_ T p).isSome])∧Below w.heap.size w w':=by
 obtain ⟨⟨ga,gcap⟩,sd,sr,sb⟩:=h
 have C:=hJJ (cells_ok ht)
 generalize (T.cells ⟨⟨ga,gcap⟩,sd,sr,sb⟩).toArray=cs at C ⊢
 obtain ⟨gs,hgd,hgr⟩:=ht.groups
 have Hgr:=hJJ hgr
 have Hgd:=hJJ hgd
 have hsz:=C.out.size
 have S0:=hJJ (St.box (cs:=cs) ht)
 have Hgl:=hJJ (show T.groups.length=gs.length by rw [← hgd,List.length_map])
 have Kg:=hgr.1.len
 unfold maxLen at Kg
 have HS:Hid (∀ q,SetM.has ((SetM.of [p]:Nat):Int) q=(decide (0≤p∧p < 8) && decide (q=p))):=hJJ (has_one p)
 have WN:Hid ((∀ x ∈ spots T,x.p ≠ p)→where_ T p=none):=hJJ where_none
 have WS:Hid (∀ x,x ∈ spots T→x.p=p→(∀ y ∈ spots T,Lt y x→y.p ≠ p)→where_ T p=some x):=hJJ (fun x=>where_some)
 generalize where_ T p=o at WN WS ⊢
 clear ht hgr hgd
 go_enter Tryz.func63,Tryz.ntmps63
 go_upto_region 1 with fail
 generalize w.alloc (.cells cs 32)=w1 at S0 ⊢
 clear hsz
 go_step3
 go_wp2_with fail
 have hb1:Below w1.heap.size w1 (w1.alloc (.cells #[.int .i64 p] 3)):=(Below.refl _ _).alloc (Nat.le_refl _) _
 have hr:=row_one w1 p 3 _ rfl
 have S2:=hJJ (S0.out.step hb1)
 have HR:=hJJ hr
 clear hb1 hr S0
 generalize w1.alloc (.cells #[.int .i64 p] 3)=w2 at S2 HR ⊢
 refine (of_any _ _ [p] _ HR.out).mono ?_
 rintro e w' ⟨rfl,rfl⟩
 generalize ((SetM.of [p]:Nat):Int)=s0 at HS ⊢
 clear HR
 have q104:=S2.out.cell C.out.g
 rw [Hgl.out] at q104
 have Q104:Hid (w2.cell? ⟨w.heap.size,104,none⟩=some (.slice ga gs.length gcap)):=hJJ q104
 clear q104
 have q104:=Q104.out
 have LIFT:Hid (∀ W,Below w2.heap.size w2 W→∀ (z:Addr) (c:Value),w2.cell? z=some c→W.cell? z=some c):=hJJ (fun W hb z c hc=>(hb.cell (World.block_lt_of_cell? w2 _ hc)).trans hc)
 go_wp2_with fail
 go_step3
 go_wp2_with fail
 clear q104
 go_loopw [4,5,6,7,21] (fun a b c d g wr=>∃ q:Nat,q≤gs.length∧a=.int .i64 0∧b=.int .i64 0∧c=.int .i64 0∧d=.bool false∧g=.int .i64 q∧(∀ x ∈ spots T,x.g < q→x.p ≠ p)∧Below w2.heap.size w2 wr) (fun _ _ _ _ g _=>gs.length - (intOf g).toNat)
 case atStart=>exact ⟨0,by omega,rfl,rfl,rfl,rfl,rfl,(fun x _ h=>by omega),Below.refl _ _⟩
 case round =>
  obtain ⟨q,hq,rfl,rfl,rfl,rfl,rfl,hall,hbel⟩:=hrel
  have HA:=hJJ hall
  have HB:=hJJ hbel
  clear hall hbel
  by_cases hlt:q < gs.length
  ·have hv:=List.getElem?_eq_getElem hlt
   generalize gs[q]=u at hv
   obtain ⟨x,hx,hc⟩:=(Hgr.out.1.below (S2.out.bel.trans (HB.out.mono S2.out.bel.size))).at hv
   have hok:=(Hgr.out.2 u (List.mem_of_getElem? hv)).below (S2.out.bel.trans (HB.out.mono S2.out.bel.size))
   have HD:Hid (T.groups[q]?=some u.data):=hJJ (by rw [← Hgd.out,List.getElem?_map,hv];rfl)
   obtain rfl:ga=some x:=hx
   obtain ⟨l0,l1,⟨a0,cap0⟩,⟨a1,cap1⟩⟩:=u
   have HC:Hid (Lies wr (x.add (q*2)) [.slice a0 l0.length cap0,.slice a1 l1.length cap1]):=hJJ hc
   have HO:=hJJ hok
   clear hv hc hok
   have hwr:=HB.out.size
   go_upto_region 5 with (first | (refine Row.wpList_load_g 41 _ rfl (by first | rfl | go_simp) (x.add (q*2)) rfl [.slice a0 l0.length cap0,.slice a1 l1.length cap1] _ HC.out Tryz.underlying41 rfl info2 ?_) | (refine Row.wpList_store_new rfl 41 _ _ rfl wr #[.slice none 0 0,.slice none 0 0] #[.slice a0 l0.length cap0,.slice a1 l1.length cap1] rfl rfl rfl info2 rfl (by simp [Value.oneCell']) ?_))
   have hbn:Below w2.heap.size w2 (wr.alloc (.cells #[.slice a0 l0.length cap0,.slice a1 l1.length cap1] 41)):=HB.out.alloc hwr _
   have hbo:Below wr.heap.size wr (wr.alloc (.cells #[.slice a0 l0.length cap0,.slice a1 l1.length cap1] 41)):=(Below.refl _ _).alloc (Nat.le_refl _) _
   have hg:=Row.lies_of_block (heap_alloc_new wr (.cells #[.slice a0 l0.length cap0,.slice a1 l1.length cap1] 41))
   have HL:=hJJ hg
   have HO2:=hJJ (HO.out.below hbo)
   have HN:=hJJ hbn
   clear hg hbn hbo HC HO
   generalize wr.alloc (.cells #[.slice a0 l0.length cap0,.slice a1 l1.length cap1] 41)=w4 at HL HO2 HN ⊢
   generalize wr.heap.size=b4 at HL ⊢
   go_wp2_with (first | (refine lgZ 41 ⟨b4,0,none⟩ [.slice a0 l0.length cap0,.slice a1 l1.length cap1] rfl HL.out Tryz.underlying41 info2 ?_))
   go_loopw [4,5,6,7,27] (fun a b c d k wk=>∃ r:Nat,r≤2∧a=.int .i64 0∧b=.int .i64 0∧c=.int .i64 0∧d=.bool false∧k=.int .i64 r∧(∀ x ∈ spots T,x.g=q→x.k < r→x.p ≠ p)∧wk=w4) (fun _ _ _ _ k _=>2 - (intOf k).toNat)
   case atStart=>exact ⟨0,by omega,rfl,rfl,rfl,rfl,rfl,(fun x _ _ h=>by omega),rfl⟩
   case round =>
    obtain ⟨r,hr,rfl,rfl,rfl,rfl,rfl,hall,rfl⟩:=hrel
    have HA2:=hJJ hall
    clear hall
    by_cases hr2:r < 2
    ·obtain ⟨l,a,cap,hidx,hrow,hring⟩:∃ (l:List Int) (a:Option Addr) (cap:Nat),(∀ W,Sem.run Tryz.prog (Instr.index 41 (.agg #[.slice a0 l0.length cap0,.slice a1 l1.length cap1]) (.int .i64 r)) W=.ok (.slice a l.length cap) W)∧IntRow wr ⟨a,cap⟩ l∧ringOf (l0,l1) r=l:=by
      have:r=0∨r=1:=by omega
      rcases this with rfl | rfl
      ·exact ⟨l0,a0,cap0,fun W=>idx0 _ _ W,HO2.out.1,rfl⟩
      ·exact ⟨l1,a1,cap1,fun W=>idx1 _ _ W,HO2.out.2,rfl⟩
     have HROW:=hJJ hrow
     have HRING:=hJJ hring
     have K:=hrow.len
     unfold maxLen at K
     clear hrow hring
     go_wp2_with fail
     clear hidx
     go_loopw [4,5,6,7,33] (fun a0' b c d k wk=>∃ j:Nat,j≤l.length∧a0'=.int .i64 0∧b=.int .i64 0∧c=.int .i64 0∧d=.bool false∧k=.int .i64 j∧(∀ i,i < j→SetM.has s0 (l.getD i 0)=false)∧wk=wr) (fun _ _ _ _ k _=>l.length - (intOf k).toNat)
     case atStart=>exact ⟨0,by omega,rfl,rfl,rfl,rfl,rfl,(fun i h=>by omega),rfl⟩
     case round =>
      obtain ⟨j,hj,rfl,rfl,rfl,rfl,rfl,hall,rfl⟩:=hrel
      have HA3:=hJJ hall
      clear hall
      by_cases hjl:j < l.length
      ·have hv:=List.getElem?_eq_getElem hjl
       generalize hz:l[j]=z at hv
       obtain ⟨y,hy,hp⟩:=IntRow.at HROW.out hv
       obtain rfl:a=some y:=hy
       have HV:=hJJ hv
       have hgd:l.getD j 0=z:=by rw [List.getD_eq_getElem?_getD,hv];rfl
       have HGD:=hJJ hgd
       clear hv hz hgd
       cases hh:SetM.has s0 z with
       | true =>
        have HF:Hid (o=some ⟨q,r,j,p⟩):=hJJ (by
         have h1:=HS.out z
         rw [hh] at h1
         simp only [Eq.comm (a:=true),Bool.and_eq_true,decide_eq_true_eq] at h1
         obtain ⟨⟨p0,p8⟩,rfl⟩:=h1
         refine WS.out _ (mem_spots.2 ⟨(l0,l1),HD.out,by rw [HRING.out];exact HV.out,p0,p8⟩) rfl fun y hy hl=>?_
         unfold Lt at hl
         simp only at hl
         rcases hl with hl | ⟨hl,hl2 | ⟨hl2,hl3⟩⟩
         ·exact HA.out y hy hl
         ·exact HA2.out y hy hl hl2
         ·intro e
          obtain ⟨z,h2,h3,_⟩:=mem_spots.1 hy
          rw [hl,HD.out] at h2
          obtain rfl:=Option.some.inj h2
          have h4:l[y.i]?=some y.p:=by have:=h3;rw [hl2] at this;rw [← HRING.out];exact this
          have h5:=HA3.out y.i hl3
          rw [List.getD_eq_getElem?_getD,h4] at h5
          have h6:=HS.out y.p
          rw [show SetM.has s0 y.p=false from h5,e] at h6
          simp [p0,p8] at h6)
        go_wp2_with (go_at_call 95;refine (has_any _ _ _).mono ?_;rintro e w' ⟨rfl,rfl⟩;rw [hh])
        (try rw [Exit.noGoto_ret])
        (try simp only [Exit.inBlock,Exit.then])
        refine bodyPost_ret (v:=.tuple #[I q,I r,I j,.bool true]) ?_ rfl ⟨?_,?_⟩
        ·exact results_tmp4 (fn:=Tryz.f63) (t:=4) (u:=5) (v:=6) (x:=7) rfl _ _
        ·rw [HF.out];rfl
        ·exact S2.out.bel.trans (HN.out.mono S2.out.bel.size)
       | false =>
        go_wp2_with (go_at_call 95;refine (has_any _ _ _).mono ?_;rintro e w' ⟨rfl,rfl⟩;rw [hh])
        go_roundw
        case rel=>exact ⟨j+1,by omega,rfl,rfl,rfl,rfl,by go_num,(fun i hi=>by
         by_cases e:i=j
         ·subst e;rw [HGD.out];exact hh
         ·exact HA3.out i (by omega)),trivial⟩
        case measure=>simp [intOf];omega
      ·have HN:Hid (∀ x ∈ spots T,x.g=q→x.k < r+1→x.p ≠ p):=hJJ (fun y hy h1 h2 e=>by
        by_cases h3:y.k < r
        ·exact HA2.out y hy h1 h3 e
        ·obtain ⟨z,h4,h5,h6,h7⟩:=mem_spots.1 hy
         rw [h1,HD.out] at h4
         obtain rfl:=Option.some.inj h4
         have hk:y.k=r:=by omega
         have h8:l[y.i]?=some y.p:=by rw [hk] at h5;rw [← HRING.out];exact h5
         have h9:=HA3.out y.i (by have:=(List.getElem?_eq_some_iff.1 h8).1;omega)
         rw [List.getD_eq_getElem?_getD,h8] at h9
         have h10:=HS.out y.p
         rw [show SetM.has s0 y.p=false from h9,e] at h10
         rw [e] at h6 h7
         simp [h6,h7] at h10)
       go_wp2
       go_roundw
       case rel=>exact ⟨r+1,by omega,rfl,rfl,rfl,rfl,by go_num,HN.out,trivial⟩
       case measure=>simp [intOf];omega
    ·have HN3:Hid (∀ x ∈ spots T,x.g < q+1→x.p ≠ p):=hJJ (fun y hy h1 e=>by
      by_cases h3:y.g < q
      ·exact HA.out y hy h3 e
      ·obtain ⟨z,h4,h5,_⟩:=mem_spots.1 hy
       refine HA2.out y hy (by omega) ?_ e
       unfold ringOf at h5
       by_cases h6:y.k=0
       ·omega
       ·by_cases h7:y.k=1
        ·omega
        ·rw [if_neg h6,if_neg h7] at h5;simp at h5)
     go_wp2
     go_roundw
     case rel=>exact ⟨q+1,by omega,rfl,rfl,rfl,rfl,by go_num,HN3.out,HN.out⟩
     case measure=>simp [intOf];omega
  ·have HF:Hid (o=none):=hJJ (WN.out (fun y hy=>by
    refine HA.out y hy ?_
    obtain ⟨z,h4,_⟩:=mem_spots.1 hy
    have:=(List.getElem?_eq_some_iff.1 h4).1
    rw [Hgl.out] at this
    omega))
   go_wp2
   (try rw [Exit.noGoto_ret])
   (try simp only [Exit.inBlock,Exit.then])
   refine bodyPost_ret (v:=.tuple #[I 0,I 0,I 0,.bool false]) ?_ rfl ⟨?_,?_⟩
   ·exact results_tmp4 (fn:=Tryz.f63) (t:=4) (u:=5) (v:=6) (x:=7) rfl _ _
   ·rw [HF.out];rfl
   ·exact S2.out.bel.trans (HB.out.mono S2.out.bel.size)
theorem pbeside_raw (c:List Value) (p q g1 k1 i1 g2 k2 i2:Int) (ok1 ok2:Bool) (w:World) (hc:c.length=131)
  (V1:Hid (∀ W,Below w.heap.size w W→Calls Tryz.prog 63 #[.agg c.toArray,.int .i64 p] W fun e w'=>e=.returned (.tuple #[I g1,I k1,I i1,.bool ok1])∧Below W.heap.size W w'))
  (V2:Hid (∀ W,Below w.heap.size w W→Calls Tryz.prog 63 #[.agg c.toArray,.int .i64 q] W fun e w'=>e=.returned (.tuple #[I g2,I k2,I i2,.bool ok2])∧Below W.heap.size W w')) :
  Calls Tryz.prog 112 #[.agg c.toArray,.int .i64 p,.int .i64 q] w fun e w'=>e=.returned (.bool (ok1 && ok2 && g1 == g2 && k1 != k2))∧Below w.heap.size w w':=by
 have hsz:c.toArray.size=131:=by simpa using hc
 have IA:Hid ((Tryz.prog.info? 32).map (·.size)=some c.length):=hJJ (by rw [hc];exact infoT)
 have A0:Hid (Below w.heap.size w (w.alloc (.cells c.toArray 32))):=hJJ ((Below.refl _ _).alloc (Nat.le_refl _) _)
 have A1:Hid (Lies (w.alloc (.cells c.toArray 32)) ⟨w.heap.size,0,none⟩ c):=hJJ (Row.lies_new w _ _)
 generalize hr:(ok1 && ok2 && g1 == g2 && k1 != k2)=r
 have HR:=hJJ hr
 clear hr hc
 go_enter Tryz.func112,Tryz.ntmps112
 go_upto_region 1 with fail
 generalize w.alloc (.cells c.toArray 32)=u at A0 A1 ⊢
 clear hsz
 go_wp2_with (refine lgZ 32 ⟨w.heap.size,0,none⟩ c rfl A1.out Tryz.underlying32 IA.out ?_)
 refine (V1.out _ A0.out).mono ?_
 rintro e u1 ⟨rfl,hb⟩
 have B0:Hid (Below w.heap.size w u1):=hJJ (A0.out.trans (hb.mono A0.out.size))
 have B1:=hJJ (A1.out.below hb)
 clear hb A0 A1 V1
 go_wp2_with (refine lgZ 32 ⟨w.heap.size,0,none⟩ c rfl B1.out Tryz.underlying32 IA.out ?_)
 refine (V2.out _ B0.out).mono ?_
 rintro e u3 ⟨rfl,hb⟩
 have HF:Hid (Below w.heap.size w u3):=hJJ (B0.out.trans (hb.mono B0.out.size))
 clear hb B0 B1 V2 IA
 cases ok1
 ·go_wp2
  go_ret
  exact ⟨ret_bool (by rw [← HR.out];simp),HF.out⟩
 cases ok2
 ·go_wp2
  go_ret
  exact ⟨ret_bool (by rw [← HR.out];simp),HF.out⟩
 by_cases hg:g1=g2
 ·have e1:(g1 == g2)=true:=by simpa using hg
  have E1:=hJJ e1
  clear hg
  go_wp2
  go_ret
  exact ⟨ret_bool (by rw [← HR.out,E1.out];simp),HF.out⟩
 ·have e1:(g1 == g2)=false:=by simpa using hg
  have E1:=hJJ e1
  clear hg
  go_wp2
  go_ret
  exact ⟨ret_bool (by rw [← HR.out,E1.out];simp),HF.out⟩
theorem pbeside_any (T:Tab) (h:Hd) (p q:Int) (w:World) (ht:IsTab w h T) :
  Calls Tryz.prog 112 #[.agg (T.cells h).toArray,.int .i64 p,.int .i64 q] w fun e w'=>e=.returned (.bool (beside T p q))∧Below w.heap.size w w':=by
 have hsz:=(cells_ok ht).size
 rw [List.size_toArray] at hsz
 have V:=fun r W (hb:Below w.heap.size w W)=>pwhere_any T h r W (ht.below hb)
 have V1:=V p
 have V2:=V q
 have hB:beside T p q=match where_ T p,where_ T q with
  | some a,some b=>a.g == b.g && a.k != b.k
  | _,_=>false:=rfl
 rw [hB]
 generalize where_ T p=o1 at V1 ⊢
 generalize where_ T q=o2 at V2 ⊢
 have e0:∀ a b:Nat,((a:Int) == (b:Int))=(a == b):=fun a b=>by
  by_cases h:a=b
  ·subst h;simp
  ·rw [beq_eq_false_iff_ne.2 h,beq_eq_false_iff_ne.2 (by omega)]
 have e1:∀ a b:Nat,((a:Int) != (b:Int))=(a != b):=fun a b=>by unfold bne;rw [e0]
 cases o1 with
 | none =>
  cases o2 with
  | none=>exact pbeside_raw _ p q 0 0 0 0 0 0 false false w hsz (hJJ V1) (hJJ V2)
  | some b=>exact pbeside_raw _ p q 0 0 0 b.g b.k b.i false true w hsz (hJJ V1) (hJJ V2)
 | some a =>
  cases o2 with
  | none=>exact pbeside_raw _ p q a.g a.k a.i 0 0 0 true false w hsz (hJJ V1) (hJJ V2)
  | some b =>
   have:=pbeside_raw _ p q a.g a.k a.i b.g b.k b.i true true w hsz (hJJ V1) (hJJ V2)
   rw [e0,e1] at this
   simpa using this
end PlanW
end Go.Proofs.YtjolhoilcibdfaaGreat
