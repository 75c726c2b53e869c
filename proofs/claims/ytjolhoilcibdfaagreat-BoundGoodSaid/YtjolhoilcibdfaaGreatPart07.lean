/- 12 texts in one file, in build order. -/
import Derived.Test.YtjolhoilcibdfaaGreatPart01
import Derived.Test.YtjolhoilcibdfaaGreatRows
import Derived.Test.YtjolhoilcibdfaaGreatPart05
import Derived.Deep.Cut
import Derived.LoopTactic
import Derived.Great.BuildSlice
import Derived.Test.YtjolhoilcibdfaaGreatPart06
import Derived.Test.YtjolhoilcibdfaaGreatPart04
import Derived.WalkKit
import Derived.ProofKit
import Derived.IntWalk
import Derived.Lib.Hide
import Derived.Below
import Derived.Test.YtjolhoilcibdfaaGreatPart02
import Derived.Test.YtjolhoilcibdfaaGreatPart03
import Derived.Laws.ResultCell
import Derived.Laws.Rows
set_option linter.unusedVariables false
set_option linter.unusedSimpArgs false
set_option linter.unusedSectionVars false
set_option maxHeartbeats 8000000
set_option maxRecDepth 100000
namespace Go.Proofs.YtjolhoilcibdfaaGreat
namespace GenT
open Zip
open Go.ChangeShapes Go.WideShapes Go.ChangeAt Go.RowKit
open Tab Gath GenG Clone PlaceM CodeAt
open RefS (num num_range from_any)
theorem built_bus (x y:Int):Tryz.prog.built 49 [(0,I x),(1,I y)]=some #[I x,I y]:=by kernel_rfl
theorem infoBz3:(Tryz.prog.info? 49).map (fun i=>(i.zero,i.size,i.bytes))=some (some (.agg #[I 0,I 0]),2,16):=by kernel_rfl
theorem loop_buses {Q:Exit→Act→World→Prop} (a:Option Addr) (cap:Nat) (L:List Int) (w W0:World) (hd:Hd) (T:Tab) (n:Nat) (hn:n≤8) (n0:0 < n) (k:Nat) (hk:k≤20) {f1 f5 f6 f7 f8 f9 f10 f12 f13 f14 f15 f16 f17 f18 f19 f20 f21 f22 f23 f24 f25 f26 f27 f28 f29 f30 f31 f32 f33 f34 f35 f36 f37 f38 f39 f40 f41 f42 f43 f44 f45 f46 f47 f48 f49 f50 f51 f52 f53 f54 f55 f56 f57 f58 f59 f60 f61 f62 f63 f64 f65 f66 f67 f68 f69 f70 f71 f72 f73 f74 f75 f76 f77 f78 f79 f80 f81 f82 f83 f84 f85 f86 f87 f88 f89 f90 f91 f92 f93 f94 f95 f96 f97 f98 f99 f100 f101 f102 f103 f104 f105 f106 f107 f108 f109 f110 f111 f112 f113 f114 f115 f116 f117 f118 f119 f120 f121 f122 f123 f124 f125 f126 f127 f128 f129 f130 f131 f132 f133 f134 f135 f136 f137 f138 f139 f140 f141 f142 f143 f144 f145 f146 f147 f148 f149 f150 f151 f152 f153 f154 f155 f156 f157 f158 f159 f160 f161 f162 f163 f164 f165 f166 f167 f168 f169 f170 f171 f172 f173 f174 f175 f176 f177 f178 f179 f180 f181 f182 f183 f184 f185:Value}
  (HL:Hid (∀ W,Below w.heap.size w W→IntRow W ⟨a,cap⟩ L)) (s0:Sl) (BX:Hid (Bx w ⟨hd.g,hd.d,hd.r,s0⟩ { T with buses:=[] } W0))
  (HP:∀ c a d v w,Q (.panic c) (a.put d v) w→Q (.panic c) a w) (HQ:Hid (∀ (x11 x122 x123 x124 x125 x126 x127 x128 x129 x130 x131 x132 x133 x134 x135 x136 x137 x138 x139 x140 x141 x142 x143 x144 x145 x146 x147 x148:Value) (W':World) (s1:Sl),Bx w ⟨hd.g,hd.d,hd.r,s1⟩ { T with buses:=down (fun i:Nat=>genBs L i n) k k } W'→Q (.exit 10) ⟨#[Value.slice a L.length cap,f1,Value.pointer (some ⟨w.heap.size,0,none⟩),Value.pointer (some ⟨w.heap.size+1,0,none⟩),Value.int .i64 (n:Nat),f5,f6,f7,f8,f9,f10,x11,f12,f13,f14,f15,f16,f17,f18,f19,f20,f21,f22,f23,f24,f25,f26,f27,f28,f29,f30,f31,f32,f33,f34,f35,f36,f37,f38,f39,f40,f41,f42,f43,f44,f45,f46,f47,f48,f49,f50,f51,f52,f53,f54,f55,f56,f57,f58,f59,f60,f61,f62,f63,f64,f65,f66,f67,f68,f69,f70,f71,f72,f73,f74,f75,f76,f77,f78,f79,f80,f81,f82,f83,f84,f85,f86,f87,f88,f89,f90,f91,f92,f93,f94,f95,f96,f97,f98,f99,f100,f101,f102,f103,f104,f105,f106,f107,f108,f109,f110,f111,f112,f113,f114,f115,f116,f117,f118,f119,f120,f121,x122,x123,x124,x125,x126,x127,x128,x129,x130,x131,x132,x133,x134,x135,x136,x137,x138,x139,x140,x141,x142,x143,x144,x145,x146,x147,x148,f149,f150,f151,f152,f153,f154,f155,f156,f157,f158,f159,f160,f161,f162,f163,f164,f165,f166,f167,f168,f169,f170,f171,f172,f173,f174,f175,f176,f177,f178,f179,f180,f181,f182,f183,f184,f185],[]⟩ W')) :
  (lp 29 Tryz.f12).wp Tryz.prog Q ⟨#[Value.slice a L.length cap,f1,Value.pointer (some ⟨w.heap.size,0,none⟩),Value.pointer (some ⟨w.heap.size+1,0,none⟩),Value.int .i64 (n:Nat),f5,f6,f7,f8,f9,f10,Value.int .i64 (k:Nat),f12,f13,f14,f15,f16,f17,f18,f19,f20,f21,f22,f23,f24,f25,f26,f27,f28,f29,f30,f31,f32,f33,f34,f35,f36,f37,f38,f39,f40,f41,f42,f43,f44,f45,f46,f47,f48,f49,f50,f51,f52,f53,f54,f55,f56,f57,f58,f59,f60,f61,f62,f63,f64,f65,f66,f67,f68,f69,f70,f71,f72,f73,f74,f75,f76,f77,f78,f79,f80,f81,f82,f83,f84,f85,f86,f87,f88,f89,f90,f91,f92,f93,f94,f95,f96,f97,f98,f99,f100,f101,f102,f103,f104,f105,f106,f107,f108,f109,f110,f111,f112,f113,f114,f115,f116,f117,f118,f119,f120,f121,f122,f123,f124,f125,f126,f127,f128,f129,f130,f131,f132,f133,f134,f135,f136,f137,f138,f139,f140,f141,f142,f143,f144,f145,f146,f147,f148,f149,f150,f151,f152,f153,f154,f155,f156,f157,f158,f159,f160,f161,f162,f163,f164,f165,f166,f167,f168,f169,f170,f171,f172,f173,f174,f175,f176,f177,f178,f179,f180,f181,f182,f183,f184,f185],[]⟩ W0:=by
 conv=>arg 2;whnf
 dsimp only
 obtain ⟨j0,hj,hy0,hy1,hy2⟩:=info_parts infoBz3
 go_loopw [11] (fun i wr=>∃ j:Nat,j≤k∧i=.int .i64 (k - j:Nat)∧∃ s,Bx w ⟨hd.g,hd.d,hd.r,s⟩ { T with buses:=down (fun i:Nat=>genBs L i n) k j } wr) (fun i _=>(intOf i).toNat)
 case atStart=>exact ⟨0,by omega,by go_num,s0,BX.out⟩
 case round =>
  obtain ⟨j,hjk,rfl,⟨da,dc⟩,hbx⟩:=hrel
  have HB:=hJJ hbx
  clear hbx BX
  by_cases hlt:j < k
  ·obtain ⟨i,hi⟩:∃ i:Nat,i=k - j:=⟨_,rfl⟩
   have NX:Hid (down (fun i:Nat=>genBs L i n) k (j+1)=down (fun i:Nat=>genBs L i n) k j++[(genBs L i n)]):=hJJ (by rw [down,← hi])
   have DL:Hid ((down (fun i:Nat=>genBs L i n) k j).length=j):=hJJ (down_len _ _ _)
   generalize down (fun i:Nat=>genBs L i n) k j=D at *
   have HI:=hJJ hi
   have hi0:0 < i:=by omega
   have hi9:i≤20:=by omega
   rw [← hi]
   clear hi
   have e1:IntKind.i64.wrap (2*(i:Int))=2*i:=by rw [IntKind.wrap_i64];omega
   have e2:IntKind.i64.wrap (330+2*(i:Int))=330+2*i:=by rw [IntKind.wrap_i64];omega
   have e3:IntKind.i64.wrap (331+2*(i:Int))=331+2*i:=by rw [IntKind.wrap_i64];omega
   obtain ⟨x1,hx1,F1⟩:∃ x:Int,x=num L (330+2*i) 256∧Hid (∀ W,Below w.heap.size w W→Calls Tryz.prog 43 #[.slice a L.length cap,.int .i64 (330+2*i),.int .i64 256] W fun e w'=>e=.returned (.int .i64 x)∧w'=W):=⟨_,rfl,hJJ (fun W hb=>(from_any a cap L _ _ W (HL.out _ hb) (by omega) (by omega) (by omega)).mono fun _ _ ⟨e,q⟩=>⟨e,q.symm⟩)⟩
   obtain ⟨x2,hx2,⟨r2,s2⟩,F2⟩:∃ x:Int,x=num L (331+2*i) 30∧(0≤x∧x < 30)∧Hid (∀ W,Below w.heap.size w W→Calls Tryz.prog 43 #[.slice a L.length cap,.int .i64 (331+2*i),.int .i64 30] W fun e w'=>e=.returned (.int .i64 x)∧w'=W):=⟨_,rfl,num_range _ _ _ (by omega),hJJ (fun W hb=>(from_any a cap L _ _ W (HL.out _ hb) (by omega) (by omega) (by omega)).mono fun _ _ ⟨e,q⟩=>⟨e,q.symm⟩)⟩
   have HX:Hid ([I (max 1 (bits .and .i64 x1 (GenR.maskV n))),I (1+x2)]=(genBs L i n).cells):=hJJ (by rw [hx1,hx2];rfl)
   have e4:IntKind.i64.wrap (1+x2)=1+x2:=by rw [IntKind.wrap_i64];omega
   clear hx1 hx2
   generalize genBs L i n=X at NX HX
   go_upto_region 31 with fail
   refine wp_region_held (S:=fun _=>True) (by kernel_rfl) ?_
   have hS:True:=trivial
   have hb:Bx w ⟨hd.g,hd.d,hd.r,⟨da,dc⟩⟩ { T with buses:=D } { wr with drawn:=wr.drawn+1 }:=HB.out.step (Below.refl _ _).drew
   generalize ({ wr with drawn:=wr.drawn+1 }:World)=v at hb ⊢
   clear HB
   refine tqZ 0 126 ?_ rfl (fun _ _ _ h=>HP _ _ _ _ _ h) ?_ hS ?_
   rotate_left
   ·intro w' hw'
    go_simp
    try with_reducible rfl
   (try dsimp only [Act.put]);(try simp only [zA,zB,zC])
   refine tqZ 2 128 ?_ rfl (fun _ _ _ h=>HP _ _ _ _ _ h) ?_ hS ?_
   rotate_left
   ·intro w' hw'
    go_simp
    try with_reducible rfl
   (try dsimp only [Act.put]);(try simp only [zA,zB,zC])
   refine tqZ 3 129 ?_ rfl (fun _ _ _ h=>HP _ _ _ _ _ h) ?_ hS ?_
   rotate_left
   ·intro w' hw'
    go_simp
    try with_reducible rfl
   (try dsimp only [Act.put]);(try simp only [zA,zB,zC])
   refine tqZ 4 130 ?_ rfl (fun _ _ _ h=>HP _ _ _ _ _ h) ?_ hS ?_
   rotate_left
   ·intro w' hw'
    go_simp
    try with_reducible rfl
   (try dsimp only [Act.put]);(try simp only [zA,zB,zC])
   refine tqZ 5 131 ?_ rfl (fun _ _ _ h=>HP _ _ _ _ _ h) ?_ hS ?_
   rotate_left
   ·intro w' hw'
    go_simp
    try with_reducible rfl
   (try dsimp only [Act.put]);(try simp only [zA,zB,zC])
   refine tqZ 7 133 ?_ rfl (fun _ _ _ h=>HP _ _ _ _ _ h) ?_ hS ?_
   rotate_left
   ·intro w' hw'
    go_simp
    try with_reducible rfl
   (try dsimp only [Act.put]);(try simp only [zA,zB,zC])
   refine tqZ 8 134 ?_ rfl (fun _ _ _ h=>HP _ _ _ _ _ h) ?_ hS ?_
   rotate_left
   ·intro w' hw'
    go_simp
    try with_reducible rfl
   (try dsimp only [Act.put]);(try simp only [zA,zB,zC])
   refine tqZ 9 135 ?_ rfl (fun _ _ _ h=>HP _ _ _ _ _ h) ?_ hS ?_
   rotate_left
   ·intro w' hw'
    go_simp
    try with_reducible rfl
   (try dsimp only [Act.put]);(try simp only [zA,zB,zC])
   refine tqZ 10 136 (.int .i64 (GenR.maskV n)) rfl (fun _ _ _ h=>HP _ _ _ _ _ h) ?_ hS ?_
   ·intro w' hw'
    go_simp
    try (first | rfl | (simp only [Int.max_def];split <;> split <;> omega))
   (try dsimp only [Act.put]);(try simp only [zA,zB,zC])
   refine tqZ 13 139 ?_ rfl (fun _ _ _ h=>HP _ _ _ _ _ h) ?_ hS ?_
   rotate_left
   ·intro w' hw'
    go_simp
    try with_reducible rfl
   (try dsimp only [Act.put]);(try simp only [zA,zB,zC])
   refine tqZ 14 140 ?_ rfl (fun _ _ _ h=>HP _ _ _ _ _ h) ?_ hS ?_
   rotate_left
   ·intro w' hw'
    go_simp
    try with_reducible rfl
   (try dsimp only [Act.put]);(try simp only [zA,zB,zC])
   refine tqZ 15 141 ?_ rfl (fun _ _ _ h=>HP _ _ _ _ _ h) ?_ hS ?_
   rotate_left
   ·intro w' hw'
    go_simp
    try with_reducible rfl
   (try dsimp only [Act.put]);(try simp only [zA,zB,zC])
   refine tqZ 16 142 ?_ rfl (fun _ _ _ h=>HP _ _ _ _ _ h) ?_ hS ?_
   rotate_left
   ·intro w' hw'
    go_simp
    try with_reducible rfl
   (try dsimp only [Act.put]);(try simp only [zA,zB,zC])
   refine rd2Z 1 6 rfl rfl (fun K hK=>?_) (fun K hK=>?_)
   ·have c4:v.cell? ⟨w.heap.size+1,115,none⟩=some (.slice da D.length dc):=by rw [hb.cell,← List.getElem?_toArray];exact (cells_ok hb.tab).b
    go_simp
    refine hK.out _ _ trivial (fun _=>?_)
    clear hK K
    clear c4
    refine rdZ 6 rfl (fun K hK=>?_)
    go_simp
    refine (F1.out _ hb.bel).mono ?_
    rintro e w' ⟨rfl,hq⟩
    subst w'
    go_simp
    refine hK.out _ _ trivial (fun _=>?_)
    clear hK K
    refine tqZ 11 137 (.int .i64 (bits .and .i64 x1 (GenR.maskV n))) rfl (fun _ _ _ h=>HP _ _ _ _ _ h) ?_ hS ?_
    ·intro w' hw'
     go_simp
     try (first | rfl | (simp only [Int.max_def];split <;> split <;> omega))
    (try dsimp only [Act.put]);(try simp only [zA,zB,zC])
    refine tqZ 12 138 (.int .i64 (max 1 (bits .and .i64 x1 (GenR.maskV n)))) rfl (fun _ _ _ h=>HP _ _ _ _ _ h) ?_ hS ?_
    ·intro w' hw'
     go_simp
     try (first | rfl | (simp only [Int.max_def];split <;> split <;> omega))
    (try dsimp only [Act.put]);(try simp only [zA,zB,zC])
    refine rdZ 17 rfl (fun K hK=>?_)
    go_simp
    refine (F2.out _ hb.bel).mono ?_
    rintro e w' ⟨rfl,hq⟩
    subst w'
    go_simp
    refine hK.out _ _ trivial (fun _=>?_)
    clear hK K
    refine tqZ 18 144 (.int .i64 (1+x2)) rfl (fun _ _ _ h=>HP _ _ _ _ _ h) ?_ hS ?_
    ·intro w' hw'
     go_simp
     try (first | rfl | (simp only [Int.max_def];split <;> split <;> omega))
    (try dsimp only [Act.put]);(try simp only [zA,zB,zC])
    refine Held.take_build (i:=19) (some 145) rfl 49 _ #[I (max 1 (bits .and .i64 x1 (GenR.maskV n))),I (1+x2)] rfl rfl (by kernel_rfl) (by kernel_rfl) (by kernel_rfl) (fun _ _ _ h=>HP _ _ _ _ _ h) (by rfl) hS (by simp only [List.map_toArray,List.map_cons,List.map_nil];exact built_bus _ _) ?_
    (try dsimp only [Act.put]);(try simp only [zA,zB,zC])
    refine rdZ 20 rfl (fun K hK=>?_)
    go_simp
    have hbw:Below v.heap.size v (v.alloc (.cells #[I (max 1 (bits .and .i64 x1 (GenR.maskV n))),I (1+x2)] 49)):=(Below.refl _ _).alloc (Nat.le_refl _) _
    have hN:=heap_alloc_new v (.cells #[I (max 1 (bits .and .i64 x1 (GenR.maskV n))),I (1+x2)] 49)
    replace hb:=hb.step hbw
    clear hbw
    generalize hbn:v.heap.size=bn at hN ⊢
    clear hbn
    generalize World.alloc v (.cells #[I (max 1 (bits .and .i64 x1 (GenR.maskV n))),I (1+x2)] 49)=v at hb hN ⊢
    refine hK.out _ _ trivial (fun _=>?_)
    clear hK K
    refine rdZ 21 rfl (fun K hK=>?_)
    rw [if_pos (by rfl)]
    have hown2:v.ownsRow w.heap.size 49 2 (.slice da D.length dc) D.length (D.flatMap Bs.cells):=hb.buses
    refine wp_append_own _ _ _ _ rfl w.heap.size 49 j0 (.agg #[I 0,I 0]) 2 16 Tryz.underlying30 hj hy0 hy1 hy2 rfl (by decide) (.slice da D.length dc) D.length _ rfl hown2 ⟨bn,0,none⟩ 1 1 [I (max 1 (bits .and .i64 x1 (GenR.maskV n))),I (1+x2)] rfl rfl ?c1 ?c2 ?c3 ?c4 hb.bel.size ?_
    case c1 =>
     intro j e hj
     exact Row.lies_of_block hN j e hj
    case c2=>intro e he;have h1:=(show (#[I (max 1 (bits .and .i64 x1 (GenR.maskV n))),I (1+x2)]:Array Value).all (·.oneCell')=true from by simp [Value.oneCell']);exact (Array.all_eq_true_iff_forall_mem.1 h1) e (by simpa using he)
    case c3=>unfold maxLen;have:=DL.out;omega
    case c4=>have:=DL.out;omega
    intro v' w5 hown' hgrow hnil'
    rw [HX.out] at hown'
    obtain ⟨hbk,a',c',rfl,hG⟩:=hb.put_buses X hgrow hown'
    have c5:w5.cell? ⟨w.heap.size+1,115,none⟩=some (.slice da D.length dc):=by rw [cell_of_row _ _ _ _ _ _ hbk];exact (cells_ok hb.tab).b
    have f5:w5.frozen? ⟨w.heap.size+1,115,none⟩=false:=frozen_of_row _ _ _ _ _ hbk
    have HG:=hJJ hG
    clear hown' hgrow hown2 hnil' hbk hG hb hN
    refine hK.out _ _ trivial (fun _=>?_)
    clear hK K
    refine tqZ 22 148 ?_ rfl (fun _ _ _ h=>HP _ _ _ _ _ h) ?_ hS ?_
    rotate_left
    ·intro w' hw'
     go_simp
     try with_reducible rfl
    (try dsimp only [Act.put]);(try simp only [zA,zB,zC])
    refine rdZ 23 rfl (fun K hK=>?_)
    go_simp
    refine hK.out _ _ trivial (fun _=>?_)
    clear hK K
    refine wpAnyH_done (by kernel_rfl) ?_ _
    clear hS c5 f5
    go_wp2
    go_roundw
    case rel=>exact ⟨j+1,by omega,by have:=HI.out;go_num,_,by rw [NX.out];exact HG.out⟩
    case measure=>simp [intOf];have:=HI.out;omega
   ·go_simp
    refine (F1.out _ hb.bel).mono ?_
    rintro e w' ⟨rfl,hq⟩
    subst w'
    go_simp
    refine hK.out _ _ trivial (fun _=>?_)
    clear hK K
    refine tqZ 11 137 (.int .i64 (bits .and .i64 x1 (GenR.maskV n))) rfl (fun _ _ _ h=>HP _ _ _ _ _ h) ?_ hS ?_
    ·intro w' hw'
     go_simp
     try (first | rfl | (simp only [Int.max_def];split <;> split <;> omega))
    (try dsimp only [Act.put]);(try simp only [zA,zB,zC])
    refine tqZ 12 138 (.int .i64 (max 1 (bits .and .i64 x1 (GenR.maskV n)))) rfl (fun _ _ _ h=>HP _ _ _ _ _ h) ?_ hS ?_
    ·intro w' hw'
     go_simp
     try (first | rfl | (simp only [Int.max_def];split <;> split <;> omega))
    (try dsimp only [Act.put]);(try simp only [zA,zB,zC])
    refine rd2Z 1 17 rfl rfl (fun K hK=>?_) (fun K hK=>?_)
    ·have c4:v.cell? ⟨w.heap.size+1,115,none⟩=some (.slice da D.length dc):=by rw [hb.cell,← List.getElem?_toArray];exact (cells_ok hb.tab).b
     go_simp
     refine hK.out _ _ trivial (fun _=>?_)
     clear hK K
     clear c4
     refine rdZ 17 rfl (fun K hK=>?_)
     go_simp
     refine (F2.out _ hb.bel).mono ?_
     rintro e w' ⟨rfl,hq⟩
     subst w'
     go_simp
     refine hK.out _ _ trivial (fun _=>?_)
     clear hK K
     refine tqZ 18 144 (.int .i64 (1+x2)) rfl (fun _ _ _ h=>HP _ _ _ _ _ h) ?_ hS ?_
     ·intro w' hw'
      go_simp
      try (first | rfl | (simp only [Int.max_def];split <;> split <;> omega))
     (try dsimp only [Act.put]);(try simp only [zA,zB,zC])
     refine Held.take_build (i:=19) (some 145) rfl 49 _ #[I (max 1 (bits .and .i64 x1 (GenR.maskV n))),I (1+x2)] rfl rfl (by kernel_rfl) (by kernel_rfl) (by kernel_rfl) (fun _ _ _ h=>HP _ _ _ _ _ h) (by rfl) hS (by simp only [List.map_toArray,List.map_cons,List.map_nil];exact built_bus _ _) ?_
     (try dsimp only [Act.put]);(try simp only [zA,zB,zC])
     refine rdZ 20 rfl (fun K hK=>?_)
     go_simp
     have hbw:Below v.heap.size v (v.alloc (.cells #[I (max 1 (bits .and .i64 x1 (GenR.maskV n))),I (1+x2)] 49)):=(Below.refl _ _).alloc (Nat.le_refl _) _
     have hN:=heap_alloc_new v (.cells #[I (max 1 (bits .and .i64 x1 (GenR.maskV n))),I (1+x2)] 49)
     replace hb:=hb.step hbw
     clear hbw
     generalize hbn:v.heap.size=bn at hN ⊢
     clear hbn
     generalize World.alloc v (.cells #[I (max 1 (bits .and .i64 x1 (GenR.maskV n))),I (1+x2)] 49)=v at hb hN ⊢
     refine hK.out _ _ trivial (fun _=>?_)
     clear hK K
     refine rdZ 21 rfl (fun K hK=>?_)
     rw [if_pos (by rfl)]
     have hown2:v.ownsRow w.heap.size 49 2 (.slice da D.length dc) D.length (D.flatMap Bs.cells):=hb.buses
     refine wp_append_own _ _ _ _ rfl w.heap.size 49 j0 (.agg #[I 0,I 0]) 2 16 Tryz.underlying30 hj hy0 hy1 hy2 rfl (by decide) (.slice da D.length dc) D.length _ rfl hown2 ⟨bn,0,none⟩ 1 1 [I (max 1 (bits .and .i64 x1 (GenR.maskV n))),I (1+x2)] rfl rfl ?c1 ?c2 ?c3 ?c4 hb.bel.size ?_
     case c1 =>
      intro j e hj
      exact Row.lies_of_block hN j e hj
     case c2=>intro e he;have h1:=(show (#[I (max 1 (bits .and .i64 x1 (GenR.maskV n))),I (1+x2)]:Array Value).all (·.oneCell')=true from by simp [Value.oneCell']);exact (Array.all_eq_true_iff_forall_mem.1 h1) e (by simpa using he)
     case c3=>unfold maxLen;have:=DL.out;omega
     case c4=>have:=DL.out;omega
     intro v' w5 hown' hgrow hnil'
     rw [HX.out] at hown'
     obtain ⟨hbk,a',c',rfl,hG⟩:=hb.put_buses X hgrow hown'
     have c5:w5.cell? ⟨w.heap.size+1,115,none⟩=some (.slice da D.length dc):=by rw [cell_of_row _ _ _ _ _ _ hbk];exact (cells_ok hb.tab).b
     have f5:w5.frozen? ⟨w.heap.size+1,115,none⟩=false:=frozen_of_row _ _ _ _ _ hbk
     have HG:=hJJ hG
     clear hown' hgrow hown2 hnil' hbk hG hb hN
     refine hK.out _ _ trivial (fun _=>?_)
     clear hK K
     refine tqZ 22 148 ?_ rfl (fun _ _ _ h=>HP _ _ _ _ _ h) ?_ hS ?_
     rotate_left
     ·intro w' hw'
      go_simp
      try with_reducible rfl
     (try dsimp only [Act.put]);(try simp only [zA,zB,zC])
     refine rdZ 23 rfl (fun K hK=>?_)
     go_simp
     refine hK.out _ _ trivial (fun _=>?_)
     clear hK K
     refine wpAnyH_done (by kernel_rfl) ?_ _
     clear hS c5 f5
     go_wp2
     go_roundw
     case rel=>exact ⟨j+1,by omega,by have:=HI.out;go_num,_,by rw [NX.out];exact HG.out⟩
     case measure=>simp [intOf];have:=HI.out;omega
    ·go_simp
     refine (F2.out _ hb.bel).mono ?_
     rintro e w' ⟨rfl,hq⟩
     subst w'
     go_simp
     refine hK.out _ _ trivial (fun _=>?_)
     clear hK K
     refine tqZ 18 144 (.int .i64 (1+x2)) rfl (fun _ _ _ h=>HP _ _ _ _ _ h) ?_ hS ?_
     ·intro w' hw'
      go_simp
      try (first | rfl | (simp only [Int.max_def];split <;> split <;> omega))
     (try dsimp only [Act.put]);(try simp only [zA,zB,zC])
     refine Held.take_build (i:=19) (some 145) rfl 49 _ #[I (max 1 (bits .and .i64 x1 (GenR.maskV n))),I (1+x2)] rfl rfl (by kernel_rfl) (by kernel_rfl) (by kernel_rfl) (fun _ _ _ h=>HP _ _ _ _ _ h) (by rfl) hS (by simp only [List.map_toArray,List.map_cons,List.map_nil];exact built_bus _ _) ?_
     (try dsimp only [Act.put]);(try simp only [zA,zB,zC])
     refine rd2Z 1 20 rfl rfl (fun K hK=>?_) (fun K hK=>?_)
     ·have c4:v.cell? ⟨w.heap.size+1,115,none⟩=some (.slice da D.length dc):=by rw [hb.cell,← List.getElem?_toArray];exact (cells_ok hb.tab).b
      go_simp
      refine hK.out _ _ trivial (fun _=>?_)
      clear hK K
      clear c4
      refine rdZ 20 rfl (fun K hK=>?_)
      go_simp
      have hbw:Below v.heap.size v (v.alloc (.cells #[I (max 1 (bits .and .i64 x1 (GenR.maskV n))),I (1+x2)] 49)):=(Below.refl _ _).alloc (Nat.le_refl _) _
      have hN:=heap_alloc_new v (.cells #[I (max 1 (bits .and .i64 x1 (GenR.maskV n))),I (1+x2)] 49)
      replace hb:=hb.step hbw
      clear hbw
      generalize hbn:v.heap.size=bn at hN ⊢
      clear hbn
      generalize World.alloc v (.cells #[I (max 1 (bits .and .i64 x1 (GenR.maskV n))),I (1+x2)] 49)=v at hb hN ⊢
      refine hK.out _ _ trivial (fun _=>?_)
      clear hK K
      refine rdZ 21 rfl (fun K hK=>?_)
      rw [if_pos (by rfl)]
      have hown2:v.ownsRow w.heap.size 49 2 (.slice da D.length dc) D.length (D.flatMap Bs.cells):=hb.buses
      refine wp_append_own _ _ _ _ rfl w.heap.size 49 j0 (.agg #[I 0,I 0]) 2 16 Tryz.underlying30 hj hy0 hy1 hy2 rfl (by decide) (.slice da D.length dc) D.length _ rfl hown2 ⟨bn,0,none⟩ 1 1 [I (max 1 (bits .and .i64 x1 (GenR.maskV n))),I (1+x2)] rfl rfl ?c1 ?c2 ?c3 ?c4 hb.bel.size ?_
      case c1 =>
       intro j e hj
       exact Row.lies_of_block hN j e hj
      case c2=>intro e he;have h1:=(show (#[I (max 1 (bits .and .i64 x1 (GenR.maskV n))),I (1+x2)]:Array Value).all (·.oneCell')=true from by simp [Value.oneCell']);exact (Array.all_eq_true_iff_forall_mem.1 h1) e (by simpa using he)
      case c3=>unfold maxLen;have:=DL.out;omega
      case c4=>have:=DL.out;omega
      intro v' w5 hown' hgrow hnil'
      rw [HX.out] at hown'
      obtain ⟨hbk,a',c',rfl,hG⟩:=hb.put_buses X hgrow hown'
      have c5:w5.cell? ⟨w.heap.size+1,115,none⟩=some (.slice da D.length dc):=by rw [cell_of_row _ _ _ _ _ _ hbk];exact (cells_ok hb.tab).b
      have f5:w5.frozen? ⟨w.heap.size+1,115,none⟩=false:=frozen_of_row _ _ _ _ _ hbk
      have HG:=hJJ hG
      clear hown' hgrow hown2 hnil' hbk hG hb hN
      refine hK.out _ _ trivial (fun _=>?_)
      clear hK K
      refine tqZ 22 148 ?_ rfl (fun _ _ _ h=>HP _ _ _ _ _ h) ?_ hS ?_
      rotate_left
      ·intro w' hw'
       go_simp
       try with_reducible rfl
      (try dsimp only [Act.put]);(try simp only [zA,zB,zC])
      refine rdZ 23 rfl (fun K hK=>?_)
      go_simp
      refine hK.out _ _ trivial (fun _=>?_)
      clear hK K
      refine wpAnyH_done (by kernel_rfl) ?_ _
      clear hS c5 f5
      go_wp2
      go_roundw
      case rel=>exact ⟨j+1,by omega,by have:=HI.out;go_num,_,by rw [NX.out];exact HG.out⟩
      case measure=>simp [intOf];have:=HI.out;omega
     ·go_simp
      have hbw:Below v.heap.size v (v.alloc (.cells #[I (max 1 (bits .and .i64 x1 (GenR.maskV n))),I (1+x2)] 49)):=(Below.refl _ _).alloc (Nat.le_refl _) _
      have hN:=heap_alloc_new v (.cells #[I (max 1 (bits .and .i64 x1 (GenR.maskV n))),I (1+x2)] 49)
      replace hb:=hb.step hbw
      clear hbw
      generalize hbn:v.heap.size=bn at hN ⊢
      clear hbn
      generalize World.alloc v (.cells #[I (max 1 (bits .and .i64 x1 (GenR.maskV n))),I (1+x2)] 49)=v at hb hN ⊢
      refine hK.out _ _ trivial (fun _=>?_)
      clear hK K
      refine rdZ 1 rfl (fun K hK=>?_)
      have c4:v.cell? ⟨w.heap.size+1,115,none⟩=some (.slice da D.length dc):=by rw [hb.cell,← List.getElem?_toArray];exact (cells_ok hb.tab).b
      go_simp
      refine hK.out _ _ trivial (fun _=>?_)
      clear hK K
      clear c4
      refine rdZ 21 rfl (fun K hK=>?_)
      rw [if_pos (by rfl)]
      have hown2:v.ownsRow w.heap.size 49 2 (.slice da D.length dc) D.length (D.flatMap Bs.cells):=hb.buses
      refine wp_append_own _ _ _ _ rfl w.heap.size 49 j0 (.agg #[I 0,I 0]) 2 16 Tryz.underlying30 hj hy0 hy1 hy2 rfl (by decide) (.slice da D.length dc) D.length _ rfl hown2 ⟨bn,0,none⟩ 1 1 [I (max 1 (bits .and .i64 x1 (GenR.maskV n))),I (1+x2)] rfl rfl ?c1 ?c2 ?c3 ?c4 hb.bel.size ?_
      case c1 =>
       intro j e hj
       exact Row.lies_of_block hN j e hj
      case c2=>intro e he;have h1:=(show (#[I (max 1 (bits .and .i64 x1 (GenR.maskV n))),I (1+x2)]:Array Value).all (·.oneCell')=true from by simp [Value.oneCell']);exact (Array.all_eq_true_iff_forall_mem.1 h1) e (by simpa using he)
      case c3=>unfold maxLen;have:=DL.out;omega
      case c4=>have:=DL.out;omega
      intro v' w5 hown' hgrow hnil'
      rw [HX.out] at hown'
      obtain ⟨hbk,a',c',rfl,hG⟩:=hb.put_buses X hgrow hown'
      have c5:w5.cell? ⟨w.heap.size+1,115,none⟩=some (.slice da D.length dc):=by rw [cell_of_row _ _ _ _ _ _ hbk];exact (cells_ok hb.tab).b
      have f5:w5.frozen? ⟨w.heap.size+1,115,none⟩=false:=frozen_of_row _ _ _ _ _ hbk
      have HG:=hJJ hG
      clear hown' hgrow hown2 hnil' hbk hG hb hN
      refine hK.out _ _ trivial (fun _=>?_)
      clear hK K
      refine tqZ 22 148 ?_ rfl (fun _ _ _ h=>HP _ _ _ _ _ h) ?_ hS ?_
      rotate_left
      ·intro w' hw'
       go_simp
       try with_reducible rfl
      (try dsimp only [Act.put]);(try simp only [zA,zB,zC])
      refine rdZ 23 rfl (fun K hK=>?_)
      go_simp
      refine hK.out _ _ trivial (fun _=>?_)
      clear hK K
      refine wpAnyH_done (by kernel_rfl) ?_ _
      clear hS c5 f5
      go_wp2
      go_roundw
      case rel=>exact ⟨j+1,by omega,by have:=HI.out;go_num,_,by rw [NX.out];exact HG.out⟩
      case measure=>simp [intOf];have:=HI.out;omega
  ·have hje:j=k:=by omega
   subst hje
   rw [show ((j - j:Nat):Int)=(0:Int) by omega]
   go_wp2
   exact HQ.out _ _ _ _ _ _ _ _ _ _ _ _ _ _ _ _ _ _ _ _ _ _ _ _ _ _ _ _ _ _ HB.out
end GenT
namespace GenT
open Zip
open Go.ChangeShapes Go.WideShapes Go.ChangeAt Go.RowKit
open Tab Gath GenG Clone PlaceM CodeAt
open RefS (num num_range from_any)
theorem wait_win (T:Tab) (x p:Int):WaitS.waitS { T with window:=x } p=WaitS.waitS T p:=rfl
theorem loop_win {Q:Exit→Act→World→Prop} (a:Option Addr) (cap:Nat) (L:List Int) (w W0:World) (hd:Hd) (T:Tab) (n:Nat) (hn:n≤8) (sm:Few T) (few:T.rails.length≤1000) {f1 f5 f6 f7 f8 f9 f10 f11 f13 f14 f15 f16 f17 f18 f19 f20 f21 f22 f23 f24 f25 f26 f27 f28 f29 f30 f31 f32 f33 f34 f35 f36 f37 f38 f39 f40 f41 f42 f43 f44 f45 f46 f47 f48 f49 f50 f51 f52 f53 f54 f55 f56 f57 f58 f59 f60 f61 f62 f63 f64 f65 f66 f67 f68 f69 f70 f71 f72 f73 f74 f75 f76 f77 f78 f79 f80 f81 f82 f83 f84 f85 f86 f87 f88 f89 f90 f91 f92 f93 f94 f95 f96 f97 f98 f99 f100 f101 f102 f103 f104 f105 f106 f107 f108 f109 f110 f111 f112 f113 f114 f115 f116 f117 f118 f119 f120 f121 f122 f123 f124 f125 f126 f127 f128 f129 f130 f131 f132 f133 f134 f135 f136 f137 f138 f139 f140 f141 f142 f143 f144 f145 f146 f147 f148 f149 f150 f151 f152 f153 f154 f155 f156 f157 f158 f159 f160 f161 f162 f163 f164 f165 f166 f167 f168 f169 f170 f171 f172 f173 f174 f175 f176 f177 f178 f179 f180 f181 f182 f183 f184 f185:Value}
  (HL:Hid (∀ W,Below w.heap.size w W→IntRow W ⟨a,cap⟩ L)) (BX:Hid (Bx w hd { T with window:=0 } W0))
  (HP:∀ c a d v w,Q (.panic c) (a.put d v) w→Q (.panic c) a w) (HQ:Hid (∀ (x12 x167 x168 x169 x170 x171 x172 x173 x174 x175 x176 x177 x178 x179 x180 x181 x182 x183 x184:Value) (W':World),Bx w hd { T with window:=if T.rails.length=0 then 0 else maxW T n } W'→Q (.exit 12) ⟨#[Value.slice a L.length cap,f1,Value.pointer (some ⟨w.heap.size,0,none⟩),Value.pointer (some ⟨w.heap.size+1,0,none⟩),Value.int .i64 (n:Nat),f5,f6,f7,f8,f9,f10,f11,x12,f13,f14,f15,f16,f17,f18,f19,f20,f21,f22,f23,f24,f25,f26,f27,f28,f29,f30,f31,f32,f33,f34,f35,f36,f37,f38,f39,f40,f41,f42,f43,f44,f45,f46,f47,f48,f49,f50,f51,f52,f53,f54,f55,f56,f57,f58,f59,f60,f61,f62,f63,f64,f65,f66,f67,f68,f69,f70,f71,f72,f73,f74,f75,f76,f77,f78,f79,f80,f81,f82,f83,f84,f85,f86,f87,f88,f89,f90,f91,f92,f93,f94,f95,f96,f97,f98,f99,f100,f101,f102,f103,f104,f105,f106,f107,f108,f109,f110,f111,f112,f113,f114,f115,f116,f117,f118,f119,f120,f121,f122,f123,f124,f125,f126,f127,f128,f129,f130,f131,f132,f133,f134,f135,f136,f137,f138,f139,f140,f141,f142,f143,f144,f145,f146,f147,f148,f149,f150,f151,f152,f153,f154,f155,f156,f157,f158,f159,f160,f161,f162,f163,f164,f165,f166,x167,x168,x169,x170,x171,x172,x173,x174,x175,x176,x177,x178,x179,x180,x181,x182,x183,x184,f185],[]⟩ W')) :
  (lp 39 Tryz.f12).wp Tryz.prog Q ⟨#[Value.slice a L.length cap,f1,Value.pointer (some ⟨w.heap.size,0,none⟩),Value.pointer (some ⟨w.heap.size+1,0,none⟩),Value.int .i64 (n:Nat),f5,f6,f7,f8,f9,f10,f11,Value.int .i64 0,f13,f14,f15,f16,f17,f18,f19,f20,f21,f22,f23,f24,f25,f26,f27,f28,f29,f30,f31,f32,f33,f34,f35,f36,f37,f38,f39,f40,f41,f42,f43,f44,f45,f46,f47,f48,f49,f50,f51,f52,f53,f54,f55,f56,f57,f58,f59,f60,f61,f62,f63,f64,f65,f66,f67,f68,f69,f70,f71,f72,f73,f74,f75,f76,f77,f78,f79,f80,f81,f82,f83,f84,f85,f86,f87,f88,f89,f90,f91,f92,f93,f94,f95,f96,f97,f98,f99,f100,f101,f102,f103,f104,f105,f106,f107,f108,f109,f110,f111,f112,f113,f114,f115,f116,f117,f118,f119,f120,f121,f122,f123,f124,f125,f126,f127,f128,f129,f130,f131,f132,f133,f134,f135,f136,f137,f138,f139,f140,f141,f142,f143,f144,f145,f146,f147,f148,f149,f150,f151,f152,f153,f154,f155,f156,f157,f158,f159,f160,f161,f162,f163,f164,f165,f166,f167,f168,f169,f170,f171,f172,f173,f174,f175,f176,f177,f178,f179,f180,f181,f182,f183,f184,f185],[]⟩ W0:=by
 conv=>arg 2;whnf
 dsimp only
 have SMC:Hid (∀ x:Int,Few { T with window:=x }):=hJJ (fun x=>⟨sm.groups,sm.rows⟩)
 go_loopw [12] (fun i wr=>∃ q:Nat,q≤n∧i=.int .i64 q∧(T.rails.length=0→q=0)∧Bx w hd { T with window:=maxW T q } wr) (fun i _=>n - (intOf i).toNat)
 case atStart=>exact ⟨0,by omega,rfl,fun _=>rfl,BX.out⟩
 case round =>
  obtain ⟨q,hq,rfl,hq0,hbx⟩:=hrel
  have HB:=hJJ hbx
  clear hbx BX
  have NX:Hid (maxW T (q+1)=max (maxW T q) (WaitS.waitS T q)):=hJJ rfl
  obtain ⟨sg,sd,⟨ra,rc⟩,sb⟩:=hd
  have c114:wr.cell? ⟨w.heap.size+1,114,none⟩=some (.slice ra T.rails.length rc):=by rw [HB.out.cell,← List.getElem?_toArray];exact (cells_ok HB.out.tab).r
  by_cases hlt:q < n
  ·by_cases hr:T.rails.length=0
   ·have hq1:=hq0 hr
    have HQ2:Hid ((if T.rails.length=0 then 0 else maxW T n)=maxW T q):=hJJ (by rw [if_pos hr,hq1];rfl)
    have HB2:Hid (Bx w ⟨sg,sd,⟨ra,rc⟩,sb⟩ { T with window:=if T.rails.length=0 then 0 else maxW T n } wr):=hJJ (by rw [HQ2.out];exact HB.out)
    clear HQ2 HB NX hq0
    go_wp2
    exact HQ.out _ _ _ _ _ _ _ _ _ _ _ _ _ _ _ _ _ _ _ _ HB2.out
   ·generalize maxW T q=m at *
    have WC:Hid (∀ W,Bx w ⟨sg,sd,⟨ra,rc⟩,sb⟩ { T with window:=m } W→Calls Tryz.prog 36 #[.agg (({ T with window:=m }:Tab).cells ⟨sg,sd,⟨ra,rc⟩,sb⟩).toArray,.int .i64 q] W fun e w'=>e=.returned (.int .i64 (WaitS.waitS T q))∧Below W.heap.size W w'):=hJJ (fun W hb=>by
     have:=WaitS.wait_any { T with window:=m } ⟨sg,sd,⟨ra,rc⟩,sb⟩ q W hb.tab (SMC.out m) few
     rw [wait_win] at this
     exact this)
    have IA:Hid ((Tryz.prog.info? 32).map (·.size)=some (({ T with window:=m }:Tab).cells ⟨sg,sd,⟨ra,rc⟩,sb⟩).length):=hJJ (by rw [cells_cut _ HB.out.ph HB.out.cf HB.out.fl];exact May.infoT)
    generalize WaitS.waitS T q=z at NX WC
    generalize hcs:({ T with window:=m }:Tab).cells ⟨sg,sd,⟨ra,rc⟩,sb⟩=cs at WC IA
    go_upto_region 41 with fail
    clear c114
    refine wp_region_held (S:=fun _=>True) (by kernel_rfl) ?_
    have hS:True:=trivial
    have hb:Bx w ⟨sg,sd,⟨ra,rc⟩,sb⟩ { T with window:=m } { wr with drawn:=wr.drawn+1 }:=HB.out.step (Below.refl _ _).drew
    generalize ({ wr with drawn:=wr.drawn+1 }:World)=v at hb ⊢
    clear HB
    refine tqZ 0 178 ?_ rfl (fun _ _ _ h=>HP _ _ _ _ _ h) ?_ hS ?_
    rotate_left
    ·intro w' hw'
     go_simp
     try with_reducible rfl
    (try dsimp only [Act.put]);(try simp only [zA,zB,zC])
    refine tqZ 3 181 ?_ rfl (fun _ _ _ h=>HP _ _ _ _ _ h) ?_ hS ?_
    rotate_left
    ·intro w' hw'
     go_simp
     try with_reducible rfl
    (try dsimp only [Act.put]);(try simp only [zA,zB,zC])
    refine rd2Z 1 2 rfl rfl (fun K hK=>?_) (fun K hK=>?_)
    ·have c4:v.cell? ⟨w.heap.size+1,129,none⟩=some (.int .i64 m):=by rw [hb.cell,← List.getElem?_toArray];exact (cells_ok hb.tab).window
     go_simp
     refine hK.out _ _ trivial (fun _=>?_)
     clear hK K
     clear c4
     refine rdZ 2 rfl (fun K hK=>?_)
     rw [if_pos (by rfl)]
     have LT:Lies v ⟨w.heap.size+1,0,none⟩ cs:=by have:=Row.lies_of_block hb.blk;rw [hcs] at this;simpa using this
     refine Row.wp_load_lies 32 _ rfl ⟨w.heap.size+1,0,none⟩ rfl cs _ LT Tryz.underlying32 rfl IA.out ?_
     (try dsimp only [Act.put]);(try simp only [zA,zB,zC])
     refine hK.out _ _ trivial (fun _=>?_)
     clear hK K
     clear LT
     refine rdZ 4 rfl (fun K hK=>?_)
     go_simp
     refine (WC.out _ hb).mono ?_
     rintro e v2 ⟨rfl,hbb⟩
     replace hb:=hb.step hbb
     clear hbb
     rename World=>v
     go_simp
     refine hK.out _ _ trivial (fun _=>?_)
     clear hK K
     refine tqZ 5 183 (.int .i64 (max m z)) rfl (fun _ _ _ h=>HP _ _ _ _ _ h) ?_ hS ?_
     ·intro w' hw'
      go_simp
      try (first | rfl | (simp only [Int.max_def];split <;> split <;> omega))
     (try dsimp only [Act.put]);(try simp only [zA,zB,zC])
     refine tqZ 6 184 ?_ rfl (fun _ _ _ h=>HP _ _ _ _ _ h) ?_ hS ?_
     rotate_left
     ·intro w' hw'
      go_simp
      try with_reducible rfl
     (try dsimp only [Act.put]);(try simp only [zA,zB,zC])
     refine rdZ 7 rfl (fun K hK=>?_)
     have c5:v.cell? ⟨w.heap.size+1,129,none⟩=some (.int .i64 m):=by rw [hb.cell,← List.getElem?_toArray];exact (cells_ok hb.tab).window
     have f5:=hb.frozen 129
     have HG:=hJJ (hb.set 129 (I (max m z)) (cells_window ⟨sg,sd,⟨ra,rc⟩,sb⟩ hb.ph hb.cf hb.fl (max m z)) hb.ph hb.cf hb.fl rfl rfl rfl rfl)
     clear hb
     go_simp
     refine hK.out _ _ trivial (fun _=>?_)
     clear hK K
     refine wpAnyH_done (by kernel_rfl) ?_ _
     clear hS c5 f5
     go_wp2
     go_roundw
     case rel=>exact ⟨q+1,by omega,by go_num,fun e=>(hr e).elim,by rw [NX.out];exact HG.out⟩
     case measure=>simp [intOf];omega
    ·rw [if_pos (by rfl)]
     have LT:Lies v ⟨w.heap.size+1,0,none⟩ cs:=by have:=Row.lies_of_block hb.blk;rw [hcs] at this;simpa using this
     refine Row.wp_load_lies 32 _ rfl ⟨w.heap.size+1,0,none⟩ rfl cs _ LT Tryz.underlying32 rfl IA.out ?_
     (try dsimp only [Act.put]);(try simp only [zA,zB,zC])
     refine hK.out _ _ trivial (fun _=>?_)
     clear hK K
     clear LT
     refine rd2Z 1 4 rfl rfl (fun K hK=>?_) (fun K hK=>?_)
     ·have c4:v.cell? ⟨w.heap.size+1,129,none⟩=some (.int .i64 m):=by rw [hb.cell,← List.getElem?_toArray];exact (cells_ok hb.tab).window
      go_simp
      refine hK.out _ _ trivial (fun _=>?_)
      clear hK K
      clear c4
      refine rdZ 4 rfl (fun K hK=>?_)
      go_simp
      refine (WC.out _ hb).mono ?_
      rintro e v2 ⟨rfl,hbb⟩
      replace hb:=hb.step hbb
      clear hbb
      rename World=>v
      go_simp
      refine hK.out _ _ trivial (fun _=>?_)
      clear hK K
      refine tqZ 5 183 (.int .i64 (max m z)) rfl (fun _ _ _ h=>HP _ _ _ _ _ h) ?_ hS ?_
      ·intro w' hw'
       go_simp
       try (first | rfl | (simp only [Int.max_def];split <;> split <;> omega))
      (try dsimp only [Act.put]);(try simp only [zA,zB,zC])
      refine tqZ 6 184 ?_ rfl (fun _ _ _ h=>HP _ _ _ _ _ h) ?_ hS ?_
      rotate_left
      ·intro w' hw'
       go_simp
       try with_reducible rfl
      (try dsimp only [Act.put]);(try simp only [zA,zB,zC])
      refine rdZ 7 rfl (fun K hK=>?_)
      have c5:v.cell? ⟨w.heap.size+1,129,none⟩=some (.int .i64 m):=by rw [hb.cell,← List.getElem?_toArray];exact (cells_ok hb.tab).window
      have f5:=hb.frozen 129
      have HG:=hJJ (hb.set 129 (I (max m z)) (cells_window ⟨sg,sd,⟨ra,rc⟩,sb⟩ hb.ph hb.cf hb.fl (max m z)) hb.ph hb.cf hb.fl rfl rfl rfl rfl)
      clear hb
      go_simp
      refine hK.out _ _ trivial (fun _=>?_)
      clear hK K
      refine wpAnyH_done (by kernel_rfl) ?_ _
      clear hS c5 f5
      go_wp2
      go_roundw
      case rel=>exact ⟨q+1,by omega,by go_num,fun e=>(hr e).elim,by rw [NX.out];exact HG.out⟩
      case measure=>simp [intOf];omega
     ·go_simp
      refine (WC.out _ hb).mono ?_
      rintro e v2 ⟨rfl,hbb⟩
      replace hb:=hb.step hbb
      clear hbb
      rename World=>v
      go_simp
      refine hK.out _ _ trivial (fun _=>?_)
      clear hK K
      refine rdZ 1 rfl (fun K hK=>?_)
      have c4:v.cell? ⟨w.heap.size+1,129,none⟩=some (.int .i64 m):=by rw [hb.cell,← List.getElem?_toArray];exact (cells_ok hb.tab).window
      go_simp
      refine hK.out _ _ trivial (fun _=>?_)
      clear hK K
      clear c4
      refine tqZ 5 183 (.int .i64 (max m z)) rfl (fun _ _ _ h=>HP _ _ _ _ _ h) ?_ hS ?_
      ·intro w' hw'
       go_simp
       try (first | rfl | (simp only [Int.max_def];split <;> split <;> omega))
      (try dsimp only [Act.put]);(try simp only [zA,zB,zC])
      refine tqZ 6 184 ?_ rfl (fun _ _ _ h=>HP _ _ _ _ _ h) ?_ hS ?_
      rotate_left
      ·intro w' hw'
       go_simp
       try with_reducible rfl
      (try dsimp only [Act.put]);(try simp only [zA,zB,zC])
      refine rdZ 7 rfl (fun K hK=>?_)
      have c5:v.cell? ⟨w.heap.size+1,129,none⟩=some (.int .i64 m):=by rw [hb.cell,← List.getElem?_toArray];exact (cells_ok hb.tab).window
      have f5:=hb.frozen 129
      have HG:=hJJ (hb.set 129 (I (max m z)) (cells_window ⟨sg,sd,⟨ra,rc⟩,sb⟩ hb.ph hb.cf hb.fl (max m z)) hb.ph hb.cf hb.fl rfl rfl rfl rfl)
      clear hb
      go_simp
      refine hK.out _ _ trivial (fun _=>?_)
      clear hK K
      refine wpAnyH_done (by kernel_rfl) ?_ _
      clear hS c5 f5
      go_wp2
      go_roundw
      case rel=>exact ⟨q+1,by omega,by go_num,fun e=>(hr e).elim,by rw [NX.out];exact HG.out⟩
      case measure=>simp [intOf];omega
  ·have hqe:q=n:=by omega
   by_cases hr:T.rails.length=0
   ·have hq1:=hq0 hr
    have HB2:Hid (Bx w ⟨sg,sd,⟨ra,rc⟩,sb⟩ { T with window:=if T.rails.length=0 then 0 else maxW T n } wr):=hJJ (by rw [if_pos hr];have:=HB.out;rw [hq1] at this;exact this)
    clear HB NX hq0 hq1
    subst hqe
    go_wp2
    exact HQ.out _ _ _ _ _ _ _ _ _ _ _ _ _ _ _ _ _ _ _ _ HB2.out
   ·have HB2:Hid (Bx w ⟨sg,sd,⟨ra,rc⟩,sb⟩ { T with window:=if T.rails.length=0 then 0 else maxW T n } wr):=hJJ (by rw [if_neg hr];have:=HB.out;rw [hqe] at this;exact this)
    clear HB NX hq0
    subst hqe
    go_wp2
    exact HQ.out _ _ _ _ _ _ _ _ _ _ _ _ _ _ _ _ _ _ _ _ HB2.out
end GenT
namespace GenT
open Zip
open Go.ChangeShapes Go.WideShapes Go.ChangeAt Go.RowKit
open Tab Gath GenG Clone PlaceM CodeAt
open RefS (num num_range from_any)
theorem tail_any (a:Option Addr) (cap:Nat) (L:List Int) (w W0:World) (hd0:Hd) (T0:Tab) (n8:genN L≤8) (HL:Hid (∀ W,Below w.heap.size w W→IntRow W ⟨a,cap⟩ L)) (BX:Hid (Bx w hd0 T0 W0))
  (TS:{ T0 with extend:=num L 178 12,budget:=num L 179 40,start:=num L 180 8,revert:=num L 181 8,least:=num L 182 12,share:=num L 183 4 }=tabS L) (kR:Nat) (lR:kR≤20) (LR:Hid ((tabS L).rails.length=kR)) (GT2:Hid (genTab L=if kR=0 then tabS L else { tabS L with window:=maxW (tabS L) (genN L) })) {f1 f5 f6 f7 f8 f9 f10 f11 f12 f13 f14 f15 f16 f17 f18 f19 f20 f21 f22 f23 f24 f25 f26 f27 f28 f29 f30 f31 f32 f33 f34 f35 f36 f37 f38 f39 f40 f41 f42 f43 f44 f45 f46 f47 f48 f49 f50 f51 f52 f53 f54 f55 f56 f57 f58 f59 f60 f61 f62 f63 f64 f65 f66 f67 f68 f69 f70 f71 f72 f73 f74 f75 f76 f77 f78 f79 f80 f81 f82 f83 f84 f85 f86 f87 f88 f89 f90 f91 f92 f93 f94 f95 f96 f97 f98 f99 f100 f101 f102 f103 f104 f105 f106 f107 f108 f109 f110 f111 f112 f113 f114 f115 f116 f117 f118 f119 f120 f121 f122 f123 f124 f125 f126 f127 f128 f129 f130 f131 f132 f133 f134 f135 f136 f137 f138 f139 f140 f141 f142 f143 f144 f145 f146 f147 f148 f149 f150 f151 f152 f153 f154 f155 f156 f157 f158 f159 f160 f161 f162 f163 f164 f165 f166 f167 f168 f169 f170 f171 f172 f173 f174 f175 f176 f177 f178 f179 f180 f181 f182 f183 f184 f185:Value} :
  (sq 32 Tryz.f12).wp Tryz.prog (bodyPost Tryz.prog Tryz.f12 fun e w'=>∃ hd,e=.returned (.agg ((genTab L).cells hd).toArray)∧IsTab w' hd (genTab L)∧Own3 w.heap.size w' hd (genTab L)∧Below w.heap.size w w') ⟨#[Value.slice a L.length cap,f1,Value.pointer (some ⟨w.heap.size,0,none⟩),Value.pointer (some ⟨w.heap.size+1,0,none⟩),Value.int .i64 (genN L:Nat),f5,f6,f7,f8,f9,f10,f11,f12,f13,f14,f15,f16,f17,f18,f19,f20,f21,f22,f23,f24,f25,f26,f27,f28,f29,f30,f31,f32,f33,f34,f35,f36,f37,f38,f39,f40,f41,f42,f43,f44,f45,f46,f47,f48,f49,f50,f51,f52,f53,f54,f55,f56,f57,f58,f59,f60,f61,f62,f63,f64,f65,f66,f67,f68,f69,f70,f71,f72,f73,f74,f75,f76,f77,f78,f79,f80,f81,f82,f83,f84,f85,f86,f87,f88,f89,f90,f91,f92,f93,f94,f95,f96,f97,f98,f99,f100,f101,f102,f103,f104,f105,f106,f107,f108,f109,f110,f111,f112,f113,f114,f115,f116,f117,f118,f119,f120,f121,f122,f123,f124,f125,f126,f127,f128,f129,f130,f131,f132,f133,f134,f135,f136,f137,f138,f139,f140,f141,f142,f143,f144,f145,f146,f147,f148,f149,f150,f151,f152,f153,f154,f155,f156,f157,f158,f159,f160,f161,f162,f163,f164,f165,f166,f167,f168,f169,f170,f171,f172,f173,f174,f175,f176,f177,f178,f179,f180,f181,f182,f183,f184,f185],[]⟩ W0:=by
 conv=>arg 2;whnf
 dsimp only
 obtain ⟨n0,hn0,F0⟩:∃ x:Int,x=num L 178 12∧Hid (∀ W,Below w.heap.size w W→Calls Tryz.prog 43 #[.slice a L.length cap,.int .i64 178,.int .i64 12] W fun e w'=>e=.returned (.int .i64 x)∧w'=W):=⟨_,rfl,hJJ (fun W hb=>(from_any a cap L _ _ W (HL.out _ hb) (by omega) (by omega) (by omega)).mono fun _ _ ⟨e,q⟩=>⟨e,q.symm⟩)⟩
 obtain ⟨n1,hn1,F1⟩:∃ x:Int,x=num L 179 40∧Hid (∀ W,Below w.heap.size w W→Calls Tryz.prog 43 #[.slice a L.length cap,.int .i64 179,.int .i64 40] W fun e w'=>e=.returned (.int .i64 x)∧w'=W):=⟨_,rfl,hJJ (fun W hb=>(from_any a cap L _ _ W (HL.out _ hb) (by omega) (by omega) (by omega)).mono fun _ _ ⟨e,q⟩=>⟨e,q.symm⟩)⟩
 obtain ⟨n2,hn2,F2⟩:∃ x:Int,x=num L 180 8∧Hid (∀ W,Below w.heap.size w W→Calls Tryz.prog 43 #[.slice a L.length cap,.int .i64 180,.int .i64 8] W fun e w'=>e=.returned (.int .i64 x)∧w'=W):=⟨_,rfl,hJJ (fun W hb=>(from_any a cap L _ _ W (HL.out _ hb) (by omega) (by omega) (by omega)).mono fun _ _ ⟨e,q⟩=>⟨e,q.symm⟩)⟩
 obtain ⟨n3,hn3,F3⟩:∃ x:Int,x=num L 181 8∧Hid (∀ W,Below w.heap.size w W→Calls Tryz.prog 43 #[.slice a L.length cap,.int .i64 181,.int .i64 8] W fun e w'=>e=.returned (.int .i64 x)∧w'=W):=⟨_,rfl,hJJ (fun W hb=>(from_any a cap L _ _ W (HL.out _ hb) (by omega) (by omega) (by omega)).mono fun _ _ ⟨e,q⟩=>⟨e,q.symm⟩)⟩
 obtain ⟨n4,hn4,F4⟩:∃ x:Int,x=num L 182 12∧Hid (∀ W,Below w.heap.size w W→Calls Tryz.prog 43 #[.slice a L.length cap,.int .i64 182,.int .i64 12] W fun e w'=>e=.returned (.int .i64 x)∧w'=W):=⟨_,rfl,hJJ (fun W hb=>(from_any a cap L _ _ W (HL.out _ hb) (by omega) (by omega) (by omega)).mono fun _ _ ⟨e,q⟩=>⟨e,q.symm⟩)⟩
 obtain ⟨n5,hn5,F5⟩:∃ x:Int,x=num L 183 4∧Hid (∀ W,Below w.heap.size w W→Calls Tryz.prog 43 #[.slice a L.length cap,.int .i64 183,.int .i64 4] W fun e w'=>e=.returned (.int .i64 x)∧w'=W):=⟨_,rfl,hJJ (fun W hb=>(from_any a cap L _ _ W (HL.out _ hb) (by omega) (by omega) (by omega)).mono fun _ _ ⟨e,q⟩=>⟨e,q.symm⟩)⟩
 have TS2:Hid (scal T0 [n0,n1,n2,n3,n4,n5]=tabS L):=hJJ (by rw [hn0,hn1,hn2,hn3,hn4,hn5,← TS];rfl)
 have BY0:Hid (Bx w hd0 (scal T0 []) W0):=BX
 clear hn0 hn1 hn2 hn3 hn4 hn5 TS BX
 go_wp2_with fail
 refine (F0.out _ BY0.out.bel).mono ?_
 rintro e w' ⟨rfl,hq⟩
 subst w'
 obtain ⟨⟨old,c0⟩,f0,hs⟩:=scal_set BY0.out n0 116 0 rfl (by omega)
 have BY1:Hid (Bx w hd0 (scal T0 [n0]) _):=hJJ hs
 clear hs BY0 F0
 go_upto_region 33 with fail
 clear c0 f0
 go_wp2_with fail
 refine (F1.out _ BY1.out.bel).mono ?_
 rintro e w' ⟨rfl,hq⟩
 subst w'
 obtain ⟨⟨old,c0⟩,f0,hs⟩:=scal_set BY1.out n1 117 1 rfl (by omega)
 have BY2:Hid (Bx w hd0 (scal T0 [n0,n1]) _):=hJJ hs
 clear hs BY1 F1
 go_upto_region 34 with fail
 clear c0 f0
 go_wp2_with fail
 refine (F2.out _ BY2.out.bel).mono ?_
 rintro e w' ⟨rfl,hq⟩
 subst w'
 obtain ⟨⟨old,c0⟩,f0,hs⟩:=scal_set BY2.out n2 118 2 rfl (by omega)
 have BY3:Hid (Bx w hd0 (scal T0 [n0,n1,n2]) _):=hJJ hs
 clear hs BY2 F2
 go_upto_region 35 with fail
 clear c0 f0
 go_wp2_with fail
 refine (F3.out _ BY3.out.bel).mono ?_
 rintro e w' ⟨rfl,hq⟩
 subst w'
 obtain ⟨⟨old,c0⟩,f0,hs⟩:=scal_set BY3.out n3 119 3 rfl (by omega)
 have BY4:Hid (Bx w hd0 (scal T0 [n0,n1,n2,n3]) _):=hJJ hs
 clear hs BY3 F3
 go_upto_region 36 with fail
 clear c0 f0
 go_wp2_with fail
 refine (F4.out _ BY4.out.bel).mono ?_
 rintro e w' ⟨rfl,hq⟩
 subst w'
 obtain ⟨⟨old,c0⟩,f0,hs⟩:=scal_set BY4.out n4 120 4 rfl (by omega)
 have BY5:Hid (Bx w hd0 (scal T0 [n0,n1,n2,n3,n4]) _):=hJJ hs
 clear hs BY4 F4
 go_upto_region 37 with fail
 clear c0 f0
 go_wp2_with fail
 refine (F5.out _ BY5.out.bel).mono ?_
 rintro e w' ⟨rfl,hq⟩
 subst w'
 obtain ⟨⟨old,c0⟩,f0,hs⟩:=scal_set BY5.out n5 130 5 rfl (by omega)
 have BY6:Hid (Bx w hd0 (scal T0 [n0,n1,n2,n3,n4,n5]) _):=hJJ hs
 clear hs BY5 F5
 go_upto_region 38 with fail
 clear c0 f0
 have BZ:Hid (Bx w hd0 (tabS L) _):=hJJ (by rw [← TS2.out];exact BY6.out)
 clear TS2 BY6
 go_wp2_with fail
 refine loop_win a cap L w _ hd0 (tabS L) (genN L) n8 (tabS_few L) (by rw [LR.out];omega) HL (hJJ (by rw [tabS_window];exact BZ.out)) (fun _ _ d _ _ h=>by cases d <;> exact h) (hJJ ?_)
 intro v6_12 v6_167 v6_168 v6_169 v6_170 v6_171 v6_172 v6_173 v6_174 v6_175 v6_176 v6_177 v6_178 v6_179 v6_180 v6_181 v6_182 v6_183 v6_184 w7 hb7
 have BE:Hid (Bx w hd0 (genTab L) w7):=hJJ (by
  rw [GT2.out]
  rw [LR.out] at hb7
  by_cases e:kR=0
  ·rw [if_pos e] at hb7 ⊢
   rw [tabS_window] at hb7
   exact hb7
  ·rw [if_neg e] at hb7 ⊢
   exact hb7)
 clear hb7 BZ LR GT2
 dsimp only
 obtain ⟨w8,hst,hbk,htab,hown,hbel⟩:=BE.out.store_own
 have IA:Hid ((Tryz.prog.info? 32).map (·.size)=some ((genTab L).cells hd0).length):=hJJ (by rw [cells_cut _ BE.out.ph BE.out.cf BE.out.fl];exact May.infoT)
 have LT:Hid (Lies w7 ⟨w.heap.size+1,0,none⟩ ((genTab L).cells hd0)):=hJJ (by have:=Row.lies_of_block BE.out.blk;simpa using this)
 have FIN:Hid (∃ hd,Ending.returned (.agg ((genTab L).cells hd0).toArray)=.returned (.agg ((genTab L).cells hd).toArray)∧IsTab w8 hd (genTab L)∧Own3 w.heap.size w8 hd (genTab L)∧Below w.heap.size w w8):=hJJ ⟨hd0,rfl,htab,hown,hbel⟩
 have HK:=hJJ hbk
 have csl:=cells_cut hd0 BE.out.ph BE.out.cf BE.out.fl
 clear hbk htab hown hbel BE
 generalize (genTab L).cells hd0=cs at *
 go_wp2_with (refine lgZ 32 ⟨w.heap.size+1,0,none⟩ cs rfl LT.out Tryz.underlying32 IA.out ?_)
 (try simp only [Exit.inBlock,Exit.then])
 refine bodyPost_ret (v:=.agg cs.toArray) ?_ rfl FIN.out
 exact results_cell_row rfl _ _ w.heap.size 32 _ (0,0) _ rfl HK.out Tryz.underlying32 rfl (by have:=IA.out;simpa using this)
end GenT
namespace GenT
open Zip
open Go.ChangeShapes Go.WideShapes Go.ChangeAt Go.RowKit
open Tab Gath GenG Clone PlaceM CodeAt
open RefS (num num_range from_any)
theorem table_own (a:Option Addr) (cap:Nat) (L:List Int) (w:World) (h:IntRow w ⟨a,cap⟩ L) :
  Calls Tryz.prog 12 #[.slice a L.length cap] w fun e w'=>∃ hd,e=.returned (.agg ((genTab L).cells hd).toArray)∧IsTab w' hd (genTab L)∧Own3 w.heap.size w' hd (genTab L)∧Below w.heap.size w w':=by
 have HL:Hid (∀ W,Below w.heap.size w W→IntRow W ⟨a,cap⟩ L):=hJJ (fun W hb=>h.below hb)
 have SM1:=hJJ (tab1_few L)
 have GT:Hid (genTab L=if (num L 176 4 % 3).toNat=0 then tabS L else { tabS L with window:=maxW (tabS L) (genN L) }):=hJJ rfl
 have TF:Hid (tabF L=if num L 174 ((genN L:Int)+1) < genN L then { tabC L with flash:=(tabC L).flash.set (num L 174 ((genN L:Int)+1)).toNat 2 } else tabC L):=hJJ rfl
 have TC0:Hid ({ tabP L (genN L) with conflict:=call L (tabP L (genN L)) (tabP L (genN L)).conflict (genN L) }=tabC L):=hJJ (by rw [call_same (T:=tabP L (genN L)) (U:=tab1 L) rfl];rfl)
 have n8:=genN_range L
 have n1:=genN_pos L
 have hz:=(zero_of_info infoTz).1
 have Z104:(zTab.cells zHd)[104]?=some (.slice none 0 0):=rfl
 have ZL:(zTab.cells zHd).length=131:=rfl
 have B0:Hid (Below w.heap.size w ((w.alloc (.cells (zTab.cells zHd).toArray 32)).alloc (.cells (zTab.cells zHd).toArray 32))):=hJJ (((Below.refl _ _).alloc (Nat.le_refl _) _).alloc (by simp) _)
 have S0:Hid (((w.alloc (.cells (zTab.cells zHd).toArray 32)).alloc (.cells (zTab.cells zHd).toArray 32)).heap.size=w.heap.size+2):=hJJ (by simp)
 have R0:Hid (((w.alloc (.cells (zTab.cells zHd).toArray 32)).alloc (.cells (zTab.cells zHd).toArray 32)).heap[w.heap.size]?=some (.cells (zTab.cells zHd).toArray 32 (0,0))):=hJJ (heap_alloc2_old w _ _)
 have R1:Hid (((w.alloc (.cells (zTab.cells zHd).toArray 32)).alloc (.cells (zTab.cells zHd).toArray 32)).heap[w.heap.size+1]?=some (.cells (zTab.cells zHd).toArray 32 (0,0))):=hJJ (heap_alloc2_new w _ _)
 have FST:Hid (∀ (W0 W:World) (ga:Option Addr) (gc:Nat) (gs:List Gr),Below w.heap.size w W0→W0.heap.size=w.heap.size+2→W0.heap[w.heap.size]?=some (.cells (zTab.cells zHd).toArray 32 (0,0))→gs.map Gr.data=genGs L→GS W0 (w.heap.size+1) (zTab.cells zHd) ga gc (genG L) gs W→Bx w ⟨⟨ga,gc⟩,⟨none,0⟩,⟨none,0⟩,⟨none,0⟩⟩ (tab1 L) W):=hJJ (fun W0 W ga gc gs=>Bx.first)
 generalize hZ:zTab.cells zHd=Z at *
 clear hZ
 go_enter Tryz.func12,Tryz.ntmps12
 go_upto_region 2 with fail
 generalize (w.alloc (.cells Z.toArray 32)).alloc (.cells Z.toArray 32)=W0 at B0 S0 R0 R1 ⊢
 go_wp2_with fail
 refine (rows_any (w.heap.size+1) a cap L Z W0 R1.out ZL Z104 (hJJ (fun W hg=>HL.out W ⟨hg.os.trans B0.out.os,hg.tape.trans B0.out.tape,hg.output.trans B0.out.output,by have:=hg.size;have:=S0.out;omega,fun j hj=>(hg.block j (by have:=S0.out;omega) (fun e=>by simp at e;omega)).trans (B0.out.block j hj)⟩))).mono ?_
 rintro e w1 ⟨ga,gc,gs,rfl,hdt,hgs⟩
 have BX:=hJJ (FST.out W0 w1 ga gc gs B0.out S0.out R0.out hdt hgs)
 clear hdt hgs hz Z104 ZL B0 S0 R0 R1 FST h
 go_wp2_with fail
 refine loop_ph a cap L w w1 _ (tab1 L) (genN L) n8 HL BX (fun _ _ d _ _ h=>by cases d <;> exact h) (hJJ ?_)
 intro y5 y15 y16 y17 y18 y19 y20 y21 y22 y23 y24 y25 y26 y27 y28 y29 y30 w2 hb2
 have BX2:Hid (Bx w _ (tabP L (genN L)) w2):=hJJ hb2
 clear hb2 BX
 dsimp only
 go_wp2_with fail
 refine loop_cf a cap L w w2 _ (tabP L (genN L)) (genN L) n8 ⟨SM1.out.groups,SM1.out.rows⟩ HL BX2 (fun _ _ d _ _ h=>by cases d <;> exact h) (hJJ ?_)
 intro z6 z7 z31 z32 z33 z34 z35 z36 z37 z38 z39 z40 z41 z42 z43 z44 z45 z46 z47 z48 z49 z50 z51 z52 z53 z54 z55 z56 z57 z58 z59 z60 z61 z62 z63 z64 z65 z66 z67 z68 z69 z70 z71 z72 z73 w3 hb3
 have BX3:Hid (Bx w _ (tabC L) w3):=hJJ (by rw [TC0.out] at hb3;exact hb3)
 clear hb3 BX2 TC0
 dsimp only
 have hp:=num_range L 174 ((genN L:Int)+1) (by omega)
 go_upto_region 17 with fail
 go_wp2_with fail
 refine (from_any a cap L _ _ w3 (HL.out _ BX3.out.bel) (by omega) (by omega) (by omega)).mono ?_
 rintro e w' ⟨rfl,rfl⟩
 go_upto_if 80 with fail
 go_cut [8] from 74 (fun t8 wx=>Bx w ⟨⟨ga,gc⟩,⟨none,0⟩,⟨none,0⟩,⟨none,0⟩⟩ (tabF L) wx)
 case first =>
  generalize num L 174 ((genN L:Int)+1)=p at *
  by_cases hlt:p < (genN L:Int)
  ·obtain ⟨k,rfl⟩:=Int.eq_ofNat_of_zero_le hp.1
   have TE:Hid (tabF L={ tabC L with flash:=(tabC L).flash.set k 2 }):=hJJ (by rw [TF.out,if_pos hlt];rfl)
   have hs:=BX3.out.set (121+k) (I 2) (cells_flash _ BX3.out.ph BX3.out.cf BX3.out.fl k (by omega) 2) BX3.out.ph BX3.out.cf (by simp [BX3.out.fl]) rfl rfl rfl rfl
   have c7:w3.cell? ⟨w.heap.size+1,121+k,none⟩=some (I ((tabC L).flash.getD k 0)):=(range_of BX3.out.blk 121 8 _ (cells_ok BX3.out.tab).flash) k _ (by rw [List.getElem?_map,List.getD_eq_getElem?_getD,List.getElem?_eq_getElem (show k < (tabC L).flash.length by rw [BX3.out.fl];omega)];rfl)
   have f7:=BX3.out.frozen (121+k)
   rw [← TE.out] at hs
   have HS:=hJJ hs
   generalize (tabC L).flash.getD k 0=old at c7
   clear hs BX3 TE TF
   go_wp2_with fail
   go_meet
   exact HS.out
  ·have HS:Hid (Bx w ⟨⟨ga,gc⟩,⟨none,0⟩,⟨none,0⟩,⟨none,0⟩⟩ (tabF L) w3):=hJJ (by rw [TF.out,if_neg hlt];exact BX3.out)
   clear BX3 TF
   go_wp2_with fail
   go_meet
   exact HS.out
 case rest =>
  have BX4:=hJJ hcut
  clear hcut BX3 TF hp
  obtain ⟨kd0,kd1⟩:=num_range L 175 9 (by omega)
  obtain ⟨kr0,kr1⟩:=num_range L 176 4 (by omega)
  obtain ⟨kb0,kb1⟩:=num_range L 177 3 (by omega)
  obtain ⟨kD,hkD⟩:∃ k,k=(num L 175 9).toNat:=⟨_,rfl⟩
  obtain ⟨kR,hkR⟩:∃ k,k=(num L 176 4 % 3).toNat:=⟨_,rfl⟩
  obtain ⟨kB,hkB⟩:∃ k,k=(num L 177 3).toNat:=⟨_,rfl⟩
  have ED:Hid (num L 175 9=(kD:Int)):=hJJ (by omega)
  have ER:Hid ((num L 176 4).tmod 3=(kR:Int)):=hJJ (by rw [Int.tmod_eq_emod_of_nonneg kr0];omega)
  have EB:Hid (num L 177 3=(kB:Int)):=hJJ (by omega)
  have lD:kD≤20:=by omega
  have lR:kR≤20:=by omega
  have lB:kB≤20:=by omega
  have TD:Hid ({ tabF L with dets:=down (fun i:Nat=>GenD.genDet L (180+8*i) (genN L)) kD kD }=tabD L kD):=hJJ (by rw [hkD];rfl)
  have TR:Hid ({ tabD L kD with rails:=down (fun i:Nat=>GenR.genRl (tabD L kD) L (260+16*i) (genN L)) kR kR }=tabR L kR):=hJJ (by
   rw [down_same (g:=fun i:Nat=>GenR.genRl (tab1 L) L (260+16*i) (genN L)) (fun i=>genRl_same (T:=tabD L kD) (U:=tab1 L) (tabF_groups L) L _ _),hkR,hkD];rfl)
  have TB:Hid ({ tabR L kR with buses:=down (fun i:Nat=>genBs L i (genN L)) kB kB }=tabB L kB):=hJJ (by rw [hkB,hkR];rfl)
  have TS:Hid ({ tabB L kB with extend:=num L 178 12,budget:=num L 179 40,start:=num L 180 8,revert:=num L 181 8,least:=num L 182 12,share:=num L 183 4 }=tabS L):=hJJ (by rw [hkB];rfl)
  have LR:Hid ((tabS L).rails.length=kR):=hJJ (by rw [tabS_rails,hkR])
  have GT2:Hid (genTab L=if kR=0 then tabS L else { tabS L with window:=maxW (tabS L) (genN L) }):=hJJ (by rw [GT.out,hkR])
  clear hkD hkR hkB GT kd0 kd1 kr0 kr1 kb0 kb1
  go_wp2_with fail
  refine (from_any a cap L _ _ _ (HL.out _ BX4.out.bel) (by omega) (by omega) (by omega)).mono ?_
  rintro e w' ⟨rfl,rfl⟩
  rw [ED.out]
  go_wp2_with fail
  refine loop_dets a cap L w _ ⟨⟨ga,gc⟩,⟨none,0⟩,⟨none,0⟩,⟨none,0⟩⟩ (tabF L) (genN L) n8 n1 kD lD HL ⟨none,0⟩ (hJJ (by rw [tabF_dets];exact BX4.out)) (fun _ _ d _ _ h=>by cases d <;> exact h) (hJJ ?_)
  intro v3_9 v3_86 v3_87 v3_88 v3_89 v3_90 v3_91 v3_92 v3_93 v3_94 v3_95 v3_96 v3_97 v3_98 v3_99 v3_100 w4 s1 hb4
  have BX5:Hid (Bx w _ (tabD L kD) w4):=hJJ (by rw [TD.out] at hb4;exact hb4)
  clear hb4 BX4
  dsimp only
  go_wp2_with fail
  refine (from_any a cap L _ _ _ (HL.out _ BX5.out.bel) (by omega) (by omega) (by omega)).mono ?_
  rintro e w' ⟨rfl,rfl⟩
  go_upto_region 25 with fail
  rw [ER.out]
  go_wp2_with fail
  refine loop_rails a cap L w _ ⟨⟨ga,gc⟩,s1,⟨none,0⟩,⟨none,0⟩⟩ (tabD L kD) (genN L) n8 n1 kR lR ⟨by rw [show (tabD L kD).groups=genGs L from tabF_groups L];exact SM1.out.groups,by rw [show (tabD L kD).groups=genGs L from tabF_groups L];exact SM1.out.rows⟩ HL ⟨none,0⟩ (hJJ (by rw [tabD_rails];exact BX5.out)) (fun _ _ d _ _ h=>by cases d <;> exact h) (hJJ ?_)
  intro v4_10 v4_104 v4_105 v4_106 v4_107 v4_108 v4_109 v4_110 v4_111 v4_112 v4_113 v4_114 v4_115 v4_116 v4_117 v4_118 v4_119 w5 s2 hb5
  have BX6:Hid (Bx w _ (tabR L kR) w5):=hJJ (by rw [TR.out] at hb5;exact hb5)
  clear hb5 BX5 TR
  dsimp only
  go_wp2_with fail
  refine (from_any a cap L _ _ _ (HL.out _ BX6.out.bel) (by omega) (by omega) (by omega)).mono ?_
  rintro e w' ⟨rfl,rfl⟩
  rw [EB.out]
  go_wp2_with fail
  refine loop_buses a cap L w _ ⟨⟨ga,gc⟩,s1,s2,⟨none,0⟩⟩ (tabR L kR) (genN L) n8 n1 kB lB HL ⟨none,0⟩ (hJJ (by rw [tabR_buses];exact BX6.out)) (fun _ _ d _ _ h=>by cases d <;> exact h) (hJJ ?_)
  intro v5_11 v5_122 v5_123 v5_124 v5_125 v5_126 v5_127 v5_128 v5_129 v5_130 v5_131 v5_132 v5_133 v5_134 v5_135 v5_136 v5_137 v5_138 v5_139 v5_140 v5_141 v5_142 v5_143 v5_144 v5_145 v5_146 v5_147 v5_148 w6 s3 hb6
  have BX7:Hid (Bx w _ (tabB L kB) w6):=hJJ (by rw [TB.out] at hb6;exact hb6)
  clear hb6 BX6 TB
  dsimp only
  simp only [Exit.inBlock,Exit.then,if_true]
  apply_assumption
  exact tail_any a cap L w _ _ (tabB L kB) n8 HL BX7 TS.out kR lR LR GT2
theorem table_any (a:Option Addr) (cap:Nat) (L:List Int) (w:World) (h:IntRow w ⟨a,cap⟩ L) :
  Calls Tryz.prog 12 #[.slice a L.length cap] w fun e w'=>∃ hd,e=.returned (.agg ((genTab L).cells hd).toArray)∧IsTab w' hd (genTab L)∧Below w.heap.size w w' :=
 (table_own a cap L w h).mono (by
  rintro e w' ⟨hd,rfl,ht,_,hb⟩
  exact ⟨hd,rfl,ht,hb⟩)
end GenT
namespace BdS
open Zip
open Go.ChangeShapes Go.WideShapes Go.ChangeAt Go.RowKit
open RefC
theorem limit_any (n:Int) (w:World):Calls Tryz.prog 101 #[.int .i64 n] w fun e w'=>e=.returned (.int .i64 (cap n))∧w=w':=by
 by_cases h1:n < 0
 ·go_enter Tryz.func101,Tryz.ntmps101
  go_wp2
  go_ret
  exact ⟨ret_int (cap_neg h1).symm,rfl⟩
 by_cases h2:2147483647 < n
 ·go_enter Tryz.func101,Tryz.ntmps101
  go_wp2
  go_ret
  exact ⟨ret_int (cap_big h2).symm,rfl⟩
 ·go_enter Tryz.func101,Tryz.ntmps101
  go_wp2
  go_ret
  exact ⟨ret_int (cap_in (by omega) (by omega)).symm,rfl⟩
theorem cap_any (n:Int) (w:World):Calls Tryz.prog 126 #[.int .i64 n] w fun e w'=>e=.returned (.int .i64 (cap n))∧w=w':=by
 go_enter Tryz.func126,Tryz.ntmps126
 go_wp2_with (go_at_call 101;refine (limit_any _ _).mono ?_;rintro e w' ⟨rfl,rfl⟩)
 go_ret
 exact ⟨rfl,rfl⟩
theorem wide_any (n:Int) (w:World):Calls Tryz.prog 102 #[.int .i64 n] w fun e w'=>e=.returned (.int .i64 (cap n))∧w=w':=by
 have b1:=cap_lo n
 have b2:=cap_hi n
 go_enter Tryz.func102,Tryz.ntmps102
 go_wp2_with (go_at_call 126;refine (cap_any _ _).mono ?_;rintro e w' ⟨rfl,rfl⟩)
 go_ret
 exact ⟨rfl,rfl⟩
theorem add_any (a b:Int) (w:World):Calls Tryz.prog 97 #[.int .i64 a,.int .i64 b] w fun e w'=>e=.returned (.int .i64 (add a b))∧w=w':=by
 have b1:=cap_lo a
 have b2:=cap_hi a
 have b3:=cap_lo b
 have b4:=cap_hi b
 go_enter Tryz.func97,Tryz.ntmps97
 go_wp2_with (first | (go_at_call 102;refine (wide_any _ _).mono ?_;rintro e w' ⟨rfl,rfl⟩) | (go_at_call 101;refine (limit_any _ _).mono ?_;rintro e w' ⟨rfl,rfl⟩))
 go_ret
 exact ⟨rfl,rfl⟩
theorem mul_any (a b:Int) (w:World):Calls Tryz.prog 64 #[.int .i64 a,.int .i64 b] w fun e w'=>e=.returned (.int .i64 (mul a b))∧w=w':=by
 have b1:=cap_lo a
 have b2:=cap_hi a
 have b3:=cap_lo b
 have b4:=cap_hi b
 obtain ⟨c1,c2⟩:=mul_bd b1 b2 b3 b4
 go_enter Tryz.func64,Tryz.ntmps64
 go_wp2_with (first | (go_at_call 102;refine (wide_any _ _).mono ?_;rintro e w' ⟨rfl,rfl⟩) | (go_at_call 101;refine (limit_any _ _).mono ?_;rintro e w' ⟨rfl,rfl⟩))
 go_ret
 exact ⟨rfl,rfl⟩
def full (n:Int):Bool:=decide (2147483647≤n)
theorem full_any (n:Int) (w:World):Calls Tryz.prog 106 #[.int .i64 n] w fun e w'=>e=.returned (.bool (full n))∧w=w':=by
 go_enter Tryz.func106,Tryz.ntmps106
 go_wp2
 go_ret
 exact ⟨rfl,rfl⟩
theorem sum_any (a:Option Addr) (len cap:Nat) (zs:List Int) (w:World) (h:IsRow w a len zs) :
  Calls Tryz.prog 58 #[.slice a len cap] w fun e w'=>e=.returned (.int .i64 (sums (zs.take len)))∧w=w':=by
 obtain ⟨h1,h2,h3⟩:=h
 unfold maxLen at h2
 go_enter Tryz.func58,Tryz.ntmps58
 go_wp2
 go_loop [3,8] (fun t i=>∃ k:Nat,k≤len∧i=.int .i64 k∧t=.int .i64 (sums (zs.take k))) (fun _ i=>len - (intOf i).toNat)
 case atStart=>exact ⟨0,Nat.zero_le _,rfl,rfl⟩
 case round =>
  obtain ⟨k,hk,rfl,rfl⟩:=hrel
  by_cases hlt:k < len
  ·have HS:=hJJ (sums_take zs k (by omega))
   obtain ⟨x,rfl,hc⟩:∃ x,a=some x∧∀ i,i < zs.length→w.cell? (x.add i)=some (.int .i64 (zs.getD i 0)):=by
    rcases h3 with h3 | h3
    ·omega
    ·exact h3
   have hcell:=hc k (by omega)
   clear hc h3
   go_wp2_with (go_at_call 97;refine (add_any _ _ _).mono ?_;rintro e w' ⟨rfl,rfl⟩)
   go_round
   case rel=>exact ⟨k+1,by omega,by go_num,by rw [HS.out,List.getD_eq_getElem?_getD]⟩
   case measure=>simp [intOf];omega
  ·go_wp2
   go_ret
   have:k=len:=by omega
   subst this
   exact ⟨rfl,rfl⟩
open Tab in
theorem sum_row (a:Option Addr) (cap:Nat) (L:List Int) (n:Nat) (hn:L.length=n) (w:World) (h:IntRow w ⟨a,cap⟩ L) :
  Calls Tryz.prog 58 #[.slice a n cap] w fun e w'=>e=.returned (.int .i64 (sums L))∧w=w':=by
 subst hn
 have:=sum_any a L.length cap L w (is_row h)
 rwa [List.take_length] at this
end BdS
namespace SetP
open Zip
open Go.ChangeShapes Go.WideShapes Go.ChangeAt Go.RowKit
open Go.Proofs.YtjolhoilcibdfaaGreat
theorem ret_int {k:IntKind} {a b:Int} (h:a=b):Ending.returned (.int k a)=.returned (.int k b):=by rw [h]
theorem ret_bool {a b:Bool} (h:a=b):Ending.returned (.bool a)=.returned (.bool b):=by rw [h]
theorem eight {p:Int} (h:0≤p) (h':p < 8):p=0∨p=1∨p=2∨p=3∨p=4∨p=5∨p=6∨p=7:=by omega
theorem bit_any (p:Int) (w:World):Calls Tryz.prog 123 #[.int .i64 p] w fun e w'=>e=.returned (.int .i64 (SetM.bit p))∧w=w':=by
 by_cases h1:p < 0
 ·have HB:=hJJ (SetM.bit_out (p:=p) (by omega))
  go_enter Tryz.func123,Tryz.ntmps123
  go_wp2
  go_ret
  exact ⟨ret_int (by rw [HB.out];rfl),rfl⟩
 by_cases h2:8≤p
 ·have HB:=hJJ (SetM.bit_out (p:=p) (by omega))
  go_enter Tryz.func123,Tryz.ntmps123
  go_wp2
  go_ret
  exact ⟨ret_int (by rw [HB.out];rfl),rfl⟩
 rcases eight (p:=p) (by omega) (by omega) with rfl | rfl | rfl | rfl | rfl | rfl | rfl | rfl
 all_goals
  clear h1 h2
  go_enter Tryz.func123,Tryz.ntmps123
  go_wp2
  go_ret
  exact ⟨ret_int (by decide),rfl⟩
theorem ne_has (s p:Int):(bits .and .i64 s (SetM.bit p) != 0)=SetM.has s p:=by
 have h:=SetM.has_and s p
 cases hb:SetM.has s p
 ·rw [h.2 hb];rfl
 ·rw [bne_iff_ne];intro e;rw [h.1 e] at hb;cases hb
theorem has_any (s p:Int) (w:World):Calls Tryz.prog 95 #[.int .i64 s,.int .i64 p] w fun e w'=>e=.returned (.bool (SetM.has s p))∧w=w':=by
 have HB:=hJJ (ne_has s p)
 go_enter Tryz.func95,Tryz.ntmps95
 go_wp2_with (go_at_call 123;refine (bit_any _ _).mono ?_;rintro e w' ⟨rfl,rfl⟩)
 go_ret
 exact ⟨ret_bool HB.out,rfl⟩
theorem with_any (s p:Int) (w:World):Calls Tryz.prog 124 #[.int .i64 s,.int .i64 p] w fun e w'=>e=.returned (.int .i64 (SetM.withN s p))∧w=w':=by
 have HB:=hJJ (SetM.with_bits s p)
 go_enter Tryz.func124,Tryz.ntmps124
 go_wp2_with (go_at_call 123;refine (bit_any _ _).mono ?_;rintro e w' ⟨rfl,rfl⟩)
 go_ret
 exact ⟨ret_int HB.out,rfl⟩
theorem with_take (l:List Int) (k:Nat) (h:k < l.length):SetM.withN (SetM.of (l.take k):Nat) (l.getD k 0)=SetM.of (l.take (k+1)):=by
 rw [RefS.take_succ l k h,SetM.with_of]
theorem of_any (a:Option Addr) (cap:Nat) (l:List Int) (w:World) (h:RefS.Row w a l) :
  Calls Tryz.prog 100 #[.slice a l.length cap] w fun e w'=>e=.returned (.int .i64 (SetM.of l:Nat))∧w=w':=by
 have h1:=h.1
 unfold maxLen at h1
 have Hr:=hJJ h
 clear h
 go_enter Tryz.func100,Tryz.ntmps100
 go_wp2
 go_loop [3,8] (fun t i=>∃ k:Nat,k≤l.length∧i=.int .i64 k∧t=.int .i64 (SetM.of (l.take k):Nat)) (fun _ i=>l.length - (intOf i).toNat)
 case atStart=>exact ⟨0,Nat.zero_le _,rfl,rfl⟩
 case round =>
  obtain ⟨k,hk,rfl,rfl⟩:=hrel
  by_cases hlt:k < l.length
  ·have HS:=with_take l k hlt
   obtain ⟨x,rfl,hc⟩:=Hr.out.cells hlt
   have hcell:=hc k hlt
   clear hc
   generalize l.getD k 0=y at HS hcell
   have HS2:=hJJ HS
   clear HS
   go_wp2_with (go_at_call 124;refine (SetP.with_any _ _ _).mono ?_;rintro e w' ⟨rfl,rfl⟩)
   go_round
   case rel=>exact ⟨k+1,by omega,by go_num,by rw [HS2.out]⟩
   case measure=>simp [intOf];omega
  ·go_wp2
   go_ret
   have:k=l.length:=by omega
   subst this
   exact ⟨by rw [List.take_of_length_le (Nat.le_refl _)];rfl,rfl⟩
end SetP
namespace PlanC
open Zip
open Go.ChangeShapes Go.WideShapes Go.ChangeAt Go.RowKit
open Tab PlaceM PlanM
open May (ret_bool chain infoP infoG St phases_in)
open SetP (of_any has_any)
open Same (below_setRow)
theorem ret_int {k:IntKind} {a b:Int} (h:a=b):Ending.returned (.int k a)=.returned (.int k b):=by rw [h]
theorem infoZ:(Tryz.prog.info? 41).map (fun i=>(i.zero,i.size))=some (some (.agg #[.slice none 0 0,.slice none 0 0]),2):=by kernel_rfl
theorem infoT:(Tryz.prog.info? 32).map (·.size)=some 131:=by kernel_rfl
theorem info2:(Tryz.prog.info? 41).map (·.size)=some 2:=by kernel_rfl
theorem idx0 (v0 v1:Value) (w:World):Sem.run Tryz.prog (Instr.index 41 (.agg #[v0,v1]) (.int .i64 0)) w=.ok v0 w:=by kernel_rfl
theorem idx1 (v0 v1:Value) (w:World):Sem.run Tryz.prog (Instr.index 41 (.agg #[v0,v1]) (.int .i64 1)) w=.ok v1 w:=by kernel_rfl
theorem row_of_int {w:World} {a:Option Addr} {cap:Nat} {L:List Int} (h:IntRow w ⟨a,cap⟩ L):RefS.Row w a L:=by
 have hl:=h.len
 refine ⟨by omega,?_⟩
 by_cases h0:L=[]
 ·exact .inl h0
 ·have hp:0 < L.length:=List.length_pos_iff.2 h0
  obtain ⟨x,hx,_⟩:=IntRow.at h (List.getElem?_eq_getElem hp)
  refine .inr ⟨x,hx,fun i hi=>?_⟩
  obtain ⟨y,hy,hc⟩:=IntRow.at h (List.getElem?_eq_getElem hi)
  obtain rfl:x=y:=Option.some.inj (hx.symm.trans hy)
  rw [hc,List.getD_eq_getElem?_getD,List.getElem?_eq_getElem hi]
  rfl
theorem hasGroup_any (T:Tab) (h:Hd) (g:Int) (w:World) (ht:IsTab w h T) :
  Calls Tryz.prog 147 #[.agg (T.cells h).toArray,.int .i64 g] w fun e w'=>e=.returned (.bool (decide (0≤g∧g < T.groups.length)))∧Below w.heap.size w w':=by
 have C:=hJJ (cells_ok ht)
 generalize (T.cells h).toArray=cs at C ⊢
 have hsz:=C.out.size
 have S0:=hJJ (St.box (cs:=cs) ht)
 clear ht
 have q104:=S0.out.cell C.out.g
 generalize hr:decide (0≤g∧g < T.groups.length)=r
 have HR:=hJJ hr
 clear hr
 generalize T.groups.length=n at *
 have Q104:=hJJ q104
 clear q104
 go_enter Tryz.func147,Tryz.ntmps147
 go_upto_region 1 with fail
 generalize w.alloc (.cells cs 32)=w1 at S0 Q104 ⊢
 clear hsz
 have q104:=Q104.out
 by_cases h0:0≤g
 ·by_cases h1:g < n
  ·go_wp2
   go_ret
   exact ⟨ret_bool (by rw [← HR.out];simp [h0,h1]),S0.out.bel⟩
  ·go_wp2
   go_ret
   exact ⟨ret_bool (by rw [← HR.out];simp [h0,h1]),S0.out.bel⟩
 ·go_wp2
  go_ret
  exact ⟨ret_bool (by rw [← HR.out];symm;rw [decide_eq_false_iff_not];omega),S0.out.bel⟩
def Pair (w:World) (y:List Int × List Int) (s0 s1:Sl):Prop:=IntRow w s0 y.1∧IntRow w s1 y.2
theorem rowsOf_any (T:Tab) (h:Hd) (g:Int) (w:World) (ht:IsTab w h T) :
  Calls Tryz.prog 140 #[.agg (T.cells h).toArray,.int .i64 g] w fun e w'=>∃ s0 s1:Sl,e=.returned (.agg #[s0.val (rowsAt T g).1.length,s1.val (rowsAt T g).2.length])∧Pair w' (rowsAt T g) s0 s1∧Below w.heap.size w w':=by
 have hsz:=(cells_ok ht).size
 have C:=hJJ (cells_ok ht)
 have IA:Hid ((Tryz.prog.info? 32).map (·.size)=some (T.cells h).length):=hJJ (by rw [List.size_toArray] at hsz;rw [hsz];exact infoT)
 have HG:Hid (∀ W,Below w.heap.size w W→Calls Tryz.prog 147 #[.agg (T.cells h).toArray,.int .i64 g] W fun e w'=>e=.returned (.bool (decide (0≤g∧g < T.groups.length)))∧Below W.heap.size W w'):=hJJ (fun W hb=>hasGroup_any T h g W (ht.below hb))
 obtain ⟨gs,hgd,hgr⟩:=ht.groups
 have Hgr:=hJJ hgr
 have Hgd:=hJJ hgd
 have Hgl:=hJJ (show T.groups.length=gs.length by rw [← hgd,List.length_map])
 have Kg:=hgr.1.len
 unfold maxLen at Kg
 have A0:Hid (Below w.heap.size w ((w.alloc (.cells (T.cells h).toArray 32)).alloc (.cells #[.slice none 0 0,.slice none 0 0] 41))):=hJJ (((Below.refl _ _).alloc (Nat.le_refl _) _).alloc (by simp) _)
 have A1:Hid (((w.alloc (.cells (T.cells h).toArray 32)).alloc (.cells #[.slice none 0 0,.slice none 0 0] 41)).heap[w.heap.size]?=some (.cells (T.cells h).toArray 32 (0,0))):=hJJ (heap_alloc2_old w _ _)
 have A2:Hid (((w.alloc (.cells (T.cells h).toArray 32)).alloc (.cells #[.slice none 0 0,.slice none 0 0] 41)).heap[w.heap.size+1]?=some (.cells #[.slice none 0 0,.slice none 0 0] 41 (0,0))):=hJJ (heap_alloc2_new w _ _)
 have hz:=(zero_of_info infoZ).1
 clear ht hgr hgd
 generalize T.cells h=c at *
 go_enter Tryz.func140,Tryz.ntmps140
 go_upto_region 1 with fail
 generalize ((w.alloc (.cells c.toArray 32)).alloc (.cells #[.slice none 0 0,.slice none 0 0] 41))=u at A0 A1 A2 ⊢
 clear hsz hz
 have LT:Hid (Lies u ⟨w.heap.size,0,none⟩ c):=hJJ (by have:=Row.lies_of_block A1.out;simpa using this)
 go_wp2_with (refine lgZ 32 ⟨w.heap.size,0,none⟩ c rfl LT.out Tryz.underlying32 IA.out ?_)
 refine (HG.out _ A0.out).mono ?_
 rintro e u1 ⟨rfl,hb⟩
 have B0:Hid (Below w.heap.size w u1):=hJJ (A0.out.trans (hb.mono A0.out.size))
 have B1:Hid (u1.heap[w.heap.size]?=some (.cells c.toArray 32 (0,0))):=hJJ ((hb.block _ (Array.getElem?_eq_some_iff.1 A1.out).1).trans A1.out)
 have B2:Hid (u1.heap[w.heap.size+1]?=some (.cells #[.slice none 0 0,.slice none 0 0] 41 (0,0))):=hJJ ((hb.block _ (Array.getElem?_eq_some_iff.1 A2.out).1).trans A2.out)
 clear hb A0 A1 A2 LT HG
 by_cases hg:0≤g∧g < T.groups.length
 ·rw [decide_eq_true hg]
  obtain ⟨g0,g1⟩:=hg
  obtain ⟨q,rfl⟩:=Int.eq_ofNat_of_zero_le g0
  have hlt:q < gs.length:=by have:=Hgl.out;omega
  have hv:=List.getElem?_eq_getElem hlt
  generalize gs[q]=v at hv
  have HR:Hid (rowsAt T q=v.data):=hJJ (rows_in (by rw [← Hgd.out,List.getElem?_map,hv];rfl))
  obtain ⟨x,hx,hc⟩:=(Hgr.out.1.below B0.out).at hv
  have hok:=(Hgr.out.2 v (List.mem_of_getElem? hv)).below B0.out
  have q104:u1.cell? ⟨w.heap.size,104,none⟩=some (.slice (some x) gs.length h.g.cap):=by
   rw [cell_of_row _ _ _ _ _ _ B1.out,C.out.g,Hgl.out];simp only [Sl.val,hx]
  have HC:=hJJ hc
  have HM:=hJJ (List.mem_of_getElem? hv)
  have HW:=hJJ (below_setRow B0.out (g:=w.heap.size+1) (by omega) v.cells.toArray)
  have HK:=hJJ (setRow_heap u1 (w.heap.size+1) _ v.cells.toArray _ _ B2.out)
  have V1:Hid (v.cells.toArray.all (·.oneCell')=true):=hJJ (Gr.one v)
  clear hv hc hok hx g1
  go_wp2_with (first | (refine Row.wpList_load_g 41 _ rfl (by first | rfl | go_simp) (x.add (q*2)) rfl v.cells _ HC.out Tryz.underlying41 rfl info2 ?_) | (refine wpList_store_row rfl 41 _ _ rfl (w.heap.size+1) v.cells.toArray rfl rfl 41 _ B2.out info2 rfl V1.out ?_))
  have HO2:Hid (v.ok (u1.setRow (w.heap.size+1) v.cells.toArray)):=hJJ ((Hgr.out.2 v HM.out).below HW.out)
  generalize u1.setRow (w.heap.size+1) v.cells.toArray=u2 at HW HK HO2 ⊢
  go_wp2_with fail
  (try simp only [Exit.inBlock,Exit.then])
  refine bodyPost_ret (v:=.agg v.cells.toArray) ?_ rfl ⟨v.s0,v.s1,by rw [HR.out];rfl,by rw [HR.out];exact HO2.out,HW.out⟩
  exact results_cell_row rfl _ _ (w.heap.size+1) 41 _ (0,0) _ rfl HK.out Tryz.underlying41 rfl info2
 ·rw [decide_eq_false hg]
  have HR:Hid (rowsAt T g=([],[])):=hJJ (rows_out hg)
  have HW:=hJJ (below_setRow B0.out (g:=w.heap.size+1) (by omega) #[.slice none 0 0,.slice none 0 0])
  have HK:=hJJ (setRow_heap u1 (w.heap.size+1) _ #[.slice none 0 0,.slice none 0 0] _ _ B2.out)
  clear hg
  go_wp2_with (first | (refine wpList_store_row rfl 41 _ _ rfl (w.heap.size+1) #[.slice none 0 0,.slice none 0 0] rfl rfl 41 _ B2.out info2 rfl (by simp [Value.oneCell']) ?_))
  generalize u1.setRow (w.heap.size+1) #[.slice none 0 0,.slice none 0 0]=u2 at HW HK ⊢
  go_wp2_with fail
  (try simp only [Exit.inBlock,Exit.then])
  refine bodyPost_ret (v:=.agg #[.slice none 0 0,.slice none 0 0]) ?_ rfl ⟨⟨none,0⟩,⟨none,0⟩,by rw [HR.out];rfl,by rw [HR.out];exact ⟨RowOf.nil _,RowOf.nil _⟩,HW.out⟩
  exact results_cell_row rfl _ _ (w.heap.size+1) 41 _ (0,0) _ rfl HK.out Tryz.underlying41 rfl info2
theorem of_len (a:Option Addr) (cap:Nat) (l:List Int) (w:World) (h:IntRow w ⟨a,cap⟩ l):Calls Tryz.prog 100 #[.slice a l.length cap] w fun e w'=>e=.returned (.int .i64 (SetM.of l:Nat))∧w=w':=of_any a cap l w (row_of_int h)
theorem or0 (m:Nat) (h:m < 256):bits .or .i64 0 (m:Int)=(m:Int):=by
 have:=RefS.or_small 0 m (by decide) h
 simpa using this
theorem members_any (T:Tab) (h:Hd) (g:Int) (w:World) (ht:IsTab w h T) :
  Calls Tryz.prog 111 #[.agg (T.cells h).toArray,.int .i64 g] w fun e w'=>e=.returned (.int .i64 (membS T g:Nat))∧Below w.heap.size w w':=by
 have hsz:=(cells_ok ht).size
 have C:=hJJ (cells_ok ht)
 have IA:Hid ((Tryz.prog.info? 32).map (·.size)=some (T.cells h).length):=hJJ (by rw [List.size_toArray] at hsz;rw [hsz];exact infoT)
 have RO:Hid (∀ W,Below w.heap.size w W→Calls Tryz.prog 140 #[.agg (T.cells h).toArray,.int .i64 g] W fun e w'=>∃ s0 s1:Sl,e=.returned (.agg #[s0.val (rowsAt T g).1.length,s1.val (rowsAt T g).2.length])∧Pair w' (rowsAt T g) s0 s1∧Below W.heap.size W w'):=hJJ (fun W hb=>rowsOf_any T h g W (ht.below hb))
 have A0:Hid (Below w.heap.size w (w.alloc (.cells (T.cells h).toArray 32))):=hJJ ((Below.refl _ _).alloc (Nat.le_refl _) _)
 have A1:Hid (Lies (w.alloc (.cells (T.cells h).toArray 32)) ⟨w.heap.size,0,none⟩ (T.cells h)):=hJJ (Row.lies_new w _ _)
 have MS:Hid (membS T g=SetM.of (rowsAt T g).1 ||| SetM.of (rowsAt T g).2):=hJJ rfl
 generalize membS T g=m at MS ⊢
 generalize rowsAt T g=y at MS RO
 obtain ⟨l0,l1⟩:=y
 clear ht
 generalize T.cells h=c at *
 go_enter Tryz.func111,Tryz.ntmps111
 go_upto_region 1 with fail
 generalize w.alloc (.cells c.toArray 32)=u at A0 A1 ⊢
 clear hsz
 go_wp2_with (refine lgZ 32 ⟨w.heap.size,0,none⟩ c rfl A1.out Tryz.underlying32 IA.out ?_)
 refine (RO.out _ A0.out).mono ?_
 rintro e u1 ⟨⟨a0,cap0⟩,⟨a1,cap1⟩,rfl,hpair,hb⟩
 have B0:Hid (Below w.heap.size w u1):=hJJ (A0.out.trans (hb.mono A0.out.size))
 have HP:=hJJ hpair
 clear hb A0 A1 RO hpair IA
 rw [show (Value.agg #[Sl.val ⟨a0,cap0⟩ (l0,l1).fst.length,Sl.val ⟨a1,cap1⟩ (l0,l1).snd.length])=.agg #[.slice a0 l0.length cap0,.slice a1 l1.length cap1] from rfl]
 have i0:=idx0 (.slice a0 l0.length cap0) (.slice a1 l1.length cap1)
 have i1:=idx1 (.slice a0 l0.length cap0) (.slice a1 l1.length cap1)
 have I0:=hJJ i0
 have I1:=hJJ i1
 clear i0 i1
 go_wp2_with fail
 go_loopw [5,11] (fun t i wr=>∃ r:Nat,r≤2∧i=.int .i64 r∧t=.int .i64 ((if r=0 then 0 else if r=1 then SetM.of l0 else m:Nat):Int)∧wr=u1) (fun _ i _=>2 - (intOf i).toNat)
 case atStart=>exact ⟨0,by omega,rfl,rfl,rfl⟩
 case round =>
  obtain ⟨r,hr,rfl,rfl,rfl⟩:=hrel
  have hr2:r=0∨r=1∨r=2:=by omega
  rcases hr2 with rfl | rfl | rfl
  ·rw [show ((0:Nat):Int)=(0:Int) from rfl]
   have i0:=I0.out
   have HS:=hJJ (or0 (SetM.of l0) (SetM.of_lt l0))
   simp only [if_true]
   go_wp2_with fail
   refine (of_len a0 cap0 l0 _ HP.out.1).mono ?_
   rintro e w' ⟨rfl,rfl⟩
   generalize hs:SetM.of l0=s at HS MS ⊢
   have HQ:=hJJ hs
   clear hs
   go_wp2
   go_roundw
   case rel=>exact ⟨1,by omega,by go_num,by rw [HS.out,← HQ.out];rfl,trivial⟩
   case measure=>simp [intOf]
  ·rw [show ((1:Nat):Int)=(1:Int) from rfl]
   have i1:=I1.out
   have HS:Hid (bits .or .i64 (SetM.of l0:Nat) (SetM.of l1:Nat)=(m:Nat)):=hJJ (by rw [RefS.or_small _ _ (SetM.of_lt _) (SetM.of_lt _),MS.out])
   simp only [Nat.one_ne_zero,if_false,if_true]
   go_wp2_with fail
   refine (of_len a1 cap1 l1 _ HP.out.2).mono ?_
   rintro e w' ⟨rfl,rfl⟩
   generalize SetM.of l0=s at HS MS ⊢
   generalize SetM.of l1=s' at HS MS ⊢
   go_wp2
   go_roundw
   case rel=>exact ⟨2,by omega,by go_num,by rw [HS.out];rfl,trivial⟩
   case measure=>simp [intOf]
  ·rw [show ((2:Nat):Int)=(2:Int) from rfl]
   simp only [show ¬ (2=0) by decide,show ¬ (2=1) by decide,if_false]
   go_wp2
   go_ret
   exact ⟨rfl,B0.out⟩
theorem infoPs:(Tryz.prog.info? 25).map (·.size)=some 104:=by kernel_rfl
theorem cellsP:Tryz.prog.cellsOf 24=13:=by kernel_rfl
theorem rowP:Flat.rowT Tryz.prog 24=true:=by kernel_rfl
theorem infoPz:∃ i,Tryz.prog.info? 24=some i∧i.size=13:=by
 have:=infoP
 cases h:Tryz.prog.info? 24 with
 | none=>rw [h] at this;simp at this
 | some i=>rw [h] at this;exact ⟨i,rfl,by simpa using this⟩
theorem flat_take:∀ {l:List Ph} {q:Nat} {u:Ph},l[q]?=some u→((l.flatMap Ph.cells).drop (q*13)).take 13=u.cells
 | [],q,u,h=>by simp at h
 | p :: l,0,u,h=>by
  obtain rfl:p=u:=by simpa using h
  rw [Nat.zero_mul,List.drop_zero,List.flatMap_cons]
  exact List.take_left' rfl
 | p :: l,q+1,u,h=>by
  rw [List.flatMap_cons,Nat.add_mul,Nat.one_mul,Nat.add_comm,List.drop_append,List.drop_of_length_le (by simp [Ph.cells]),List.nil_append,show 13+q*13 - p.cells.length=q*13 by simp [Ph.cells]]
  exact flat_take (by simpa using h)
theorem idx_phase {l:List Ph} {q:Nat} {u:Ph} (hl:l.length=8) (hu:l[q]?=some u) (w:World) :
  Sem.run Tryz.prog (Instr.index 25 (.agg (l.flatMap Ph.cells).toArray) (.int .i64 q)) w=.ok (.agg u.cells.toArray) w:=by
 have hq:q < l.length:=(List.getElem?_eq_some_iff.1 hu).1
 obtain ⟨i,hi,hs⟩:=infoPz
 have hp:=Flat.run_part (P:=Tryz.prog) w (t:=24) (d:=_) Tryz.underlying24 (by rw [rowP];simp) (l.flatMap Ph.cells) (q*13) (by rw [cellsP,phases_len];omega)
 rw [cellsP,Flat.vOf,if_pos rowP,flat_take hu] at hp
 unfold Instr.index
 have hc:0≤(q:Int)∧(q:Int) < 8:=by omega
 simp [run_underlying Tryz.underlying25,asIntOf]
 rw [if_pos (by omega)]
 first | exact hp | (rw [cellsP];exact hp)
theorem lies_take {w:World} {b:Nat} {cs:Array Value} {t:TypeId} {fr:Nat × Nat} (hb:w.heap[b]?=some (.cells cs t fr)) (n:Nat) (l:List Value) (h:cs.toList.take n=l):Lies w ⟨b,0,none⟩ l:=by
 intro j v hv
 rw [Addr.add_mid,Nat.zero_add,cell_of_row _ _ _ _ _ _ hb]
 subst h
 rw [List.getElem?_take] at hv
 split at hv
 ·rwa [Array.getElem?_toList] at hv
 ·cases hv
end PlanC
namespace PlanO
open Zip
open Go.ChangeShapes Go.WideShapes Go.ChangeAt Go.RowKit
open Tab PlaceM PlanM OnS PlanC
open May (infoP St)
open SetP (with_any)
theorem on_with {l:List Ph} {q:Nat} {p:Ph} (h:l[q]?=some p) (hp:p.on=true):SetM.withN (SetM.of (onTo 0 (l.take q)):Nat) q=SetM.of (onTo 0 (l.take (q+1))):=by
 rw [on_step h,hp,if_pos rfl,SetM.with_of]
theorem on_skip {l:List Ph} {q:Nat} {p:Ph} (h:l[q]?=some p) (hp:p.on=false):SetM.of (onTo 0 (l.take (q+1)))=SetM.of (onTo 0 (l.take q)):=by
 rw [on_step h,hp];simp
theorem pon_any (T:Tab) (h:Hd) (w:World) (ht:IsTab w h T) :
  Calls Tryz.prog 96 #[.agg (T.cells h).toArray] w fun e w'=>e=.returned (.int .i64 (onS T:Nat))∧Below w.heap.size w w':=by
 have C:=hJJ (cells_ok ht)
 generalize (T.cells h).toArray=cs at C ⊢
 have hsz:=C.out.size
 have L8:=hJJ ht.ph
 have S0:=hJJ (St.box (cs:=cs) ht)
 have RS:Hid ((onS T:Nat)=SetM.of (onTo 0 T.phases)):=hJJ rfl
 have IX:Hid (∀ (q:Nat) u,T.phases[q]?=some u→∀ W,Sem.run Tryz.prog (Instr.index 25 (.agg (T.phases.flatMap Ph.cells).toArray) (.int .i64 q)) W=.ok (.agg u.cells.toArray) W):=hJJ (fun q u hu W=>idx_phase L8.out hu W)
 have LI:Hid ((Tryz.prog.info? 25).map (·.size)=some (T.phases.flatMap Ph.cells).length):=hJJ (by rw [phases_len,L8.out];exact infoPs)
 generalize onS T=r at RS ⊢
 clear ht
 go_enter Tryz.func96,Tryz.ntmps96
 go_upto_region 1 with fail
 generalize w.alloc (.cells cs 32)=w1 at S0 ⊢
 clear hsz
 have LT:Hid (Lies w1 ⟨w.heap.size,0,none⟩ (T.phases.flatMap Ph.cells)):=hJJ (lies_take S0.out.blk 104 _ C.out.phases)
 generalize T.phases.flatMap Ph.cells=fl at IX LI LT
 go_wp2_with (refine lgZ 25 ⟨w.heap.size,0,none⟩ fl rfl LT.out Tryz.underlying25 LI.out ?_)
 go_loopw [3,8] (fun v g wr=>∃ q:Nat,q≤8∧g=.int .i64 q∧v=.int .i64 (SetM.of (onTo 0 (T.phases.take q)):Nat)∧Below w1.heap.size w1 wr) (fun _ g _=>8 - (intOf g).toNat)
 case atStart=>exact ⟨0,by omega,rfl,rfl,Below.refl _ _⟩
 case round =>
  obtain ⟨q,hq,rfl,rfl,hbel⟩:=hrel
  have HB:=hJJ hbel
  clear hbel
  by_cases hlt:q < 8
  ·have hv:T.phases[q]?=some (T.phases[q]'(by rw [L8.out];exact hlt)):=List.getElem?_eq_getElem _
   generalize T.phases[q]'(by rw [L8.out];exact hlt)=u at hv
   have HV:=hJJ hv
   have hidx:=IX.out q u hv
   clear hv
   have hsz:=HB.out.size
   go_upto_region 5 with (refine Row.wpList_store_new rfl 24 _ _ rfl wr _ u.cells.toArray rfl rfl rfl infoP rfl (Ph.one _) ?_)
   clear hidx
   have hbn:Below w1.heap.size w1 (wr.alloc (.cells u.cells.toArray 24)):=HB.out.alloc hsz _
   have hg:=Row.lies_of_block (heap_alloc_new wr (.cells u.cells.toArray 24))
   have HL:=hJJ hg
   have HN:=hJJ hbn
   clear hg hbn HB
   generalize wr.alloc (.cells u.cells.toArray 24)=w4 at HL HN ⊢
   generalize wr.heap.size=b4 at HL ⊢
   have c0:w4.cell? ⟨b4,0,none⟩=some (.bool u.on):=by
    have:=HL.out 0 _ rfl
    rwa [Tab.add_zero] at this
   cases hon:u.on with
   | true =>
    rw [hon] at c0
    have HS:=hJJ (on_with HV.out hon)
    clear hon
    generalize SetM.of (onTo 0 (T.phases.take q))=s0 at HS ⊢
    go_wp2_with (go_at_call 124;refine (with_any _ _ _).mono ?_;rintro e w' ⟨rfl,rfl⟩)
    go_roundw
    case rel=>exact ⟨q+1,by omega,by go_num,by rw [← HS.out],HN.out⟩
    case measure=>simp [intOf];omega
   | false =>
    rw [hon] at c0
    have HS:=hJJ (on_skip HV.out hon)
    clear hon
    generalize SetM.of (onTo 0 (T.phases.take q))=s0 at HS ⊢
    go_wp2
    go_roundw
    case rel=>exact ⟨q+1,by omega,by go_num,by rw [← HS.out],HN.out⟩
    case measure=>simp [intOf];omega
  ·have HE:Hid (SetM.of (onTo 0 (T.phases.take q))=r):=hJJ (by rw [RS.out,List.take_of_length_le (by rw [L8.out];omega)])
   have HF:Hid (Below w.heap.size w wr):=hJJ (S0.out.bel.trans (HB.out.mono S0.out.bel.size))
   generalize SetM.of (onTo 0 (T.phases.take q))=s0 at HE ⊢
   go_wp2
   go_ret
   exact ⟨ret_int (by rw [HE.out]),HF.out⟩
end PlanO
namespace BdA
open Zip
open Go.ChangeShapes Go.WideShapes Go.ChangeAt Go.RowKit
open Tab Gath OnS RefC Clear
open May (St phases_in infoP infoT row_new)
def neededP (u:Ph):Int:=max u.min (sums [u.walk,u.blinks])
def clrP (u:Ph):Int:=sums [u.yellow,u.red]
theorem isOn_any (T:Tab) (h:Hd) (p:Int) (w:World) (ht:IsTab w h T) :
  Calls Tryz.prog 57 #[.agg (T.cells h).toArray,.int .i64 p] w fun e w'=>e=.returned (.bool (SetM.has (onS T:Nat) p))∧Below w.heap.size w w':=by
 have C:=hJJ (cells_ok ht)
 have hsz:=C.out.size
 have IA:Hid ((Tryz.prog.info? 32).map (·.size)=some (T.cells h).length):=hJJ (by rw [List.size_toArray] at hsz;rw [hsz];exact infoT)
 have ON:Hid (∀ W,Below w.heap.size w W→Calls Tryz.prog 96 #[.agg (T.cells h).toArray] W fun e w'=>e=.returned (.int .i64 (onS T:Nat))∧Below W.heap.size W w'):=hJJ (fun W hb=>PlanO.pon_any T h W (ht.below hb))
 have S0:=hJJ (St.box (cs:=(T.cells h).toArray) ht)
 generalize ((onS T:Nat):Int)=os at ON
 clear ht
 generalize T.cells h=c at *
 go_enter Tryz.func57,Tryz.ntmps57
 go_upto_region 1 with fail
 generalize w.alloc (.cells c.toArray 32)=w1 at S0 ⊢
 clear hsz
 have LT:Hid (Lies w1 ⟨w.heap.size,0,none⟩ c):=hJJ (by have:=Row.lies_of_block S0.out.blk;simpa using this)
 go_wp2_with (refine lgZ 32 ⟨w.heap.size,0,none⟩ c rfl LT.out Tryz.underlying32 IA.out ?_)
 refine (ON.out _ S0.out.bel).mono ?_
 rintro e w2 ⟨rfl,hb⟩
 have S2:=hJJ (S0.out.step hb)
 clear hb S0 LT ON IA
 go_wp2_with fail
 refine (SetP.has_any os p _).mono ?_
 rintro e w' ⟨rfl,rfl⟩
 go_wp2
 go_ret
 exact ⟨rfl,S2.out.bel⟩
theorem needed_any (u:Ph) (w:World) :
  Calls Tryz.prog 59 #[.agg u.cells.toArray] w fun e w'=>e=.returned (.int .i64 (neededP u))∧Below w.heap.size w w':=by
 have RS:Hid (neededP u=max u.min (sums [u.walk,u.blinks])):=hJJ rfl
 generalize neededP u=r at RS ⊢
 have B0:=hJJ ((Below.refl w.heap.size w).alloc (Nat.le_refl _) (.cells u.cells.toArray 24))
 have hg:=heap_alloc_new w (.cells u.cells.toArray 24)
 go_enter Tryz.func59,Tryz.ntmps59
 go_upto_region 1 with fail
 generalize World.alloc w _=w1 at hg B0 ⊢
 have HL:Hid (Lies w1 ⟨w.heap.size,0,none⟩ u.cells):=hJJ (by have:=Row.lies_of_block hg;simpa using this)
 clear hg
 have M1:Hid (∀ w',Below w1.heap.size w1 w'→w'.cell? ⟨w.heap.size,1,none⟩=some (I u.min)):=hJJ (fun w' hb=>by have:=(HL.out.below hb) 1 _ rfl;rwa [Addr.add_mid,Nat.zero_add] at this)
 have M8:Hid (∀ w',Below w1.heap.size w1 w'→w'.cell? ⟨w.heap.size,8,none⟩=some (I u.walk)):=hJJ (fun w' hb=>by have:=(HL.out.below hb) 8 _ rfl;rwa [Addr.add_mid,Nat.zero_add] at this)
 have M9:Hid (∀ w',Below w1.heap.size w1 w'→w'.cell? ⟨w.heap.size,9,none⟩=some (I u.blinks)):=hJJ (fun w' hb=>by have:=(HL.out.below hb) 9 _ rfl;rwa [Addr.add_mid,Nat.zero_add] at this)
 refine wp_region_held (S:=fun w'=>Below w1.heap.size w1 w') (by kernel_rfl) ?_
 have hS:Below w1.heap.size w1 { w1 with drawn:=w1.drawn+1 }:=(Below.refl _ _).drew
 generalize ({ w1 with drawn:=w1.drawn+1 }:World)=v at hS ⊢
 refine tkZ 0 3 ?_ rfl ?_ hS ?_
 rotate_left
 ·intro w' hw'
  go_simp
  try with_reducible rfl
 (try dsimp only [Act.put]);(try simp only [zA,zB,zC])
 refine tkZ 1 4 ?_ rfl ?_ hS ?_
 rotate_left
 ·intro w' hw'
  have cf:=M1.out w' hw'
  go_simp
  try with_reducible rfl
 (try dsimp only [Act.put]);(try simp only [zA,zB,zC])
 refine tkZ 2 5 ?_ rfl ?_ hS ?_
 rotate_left
 ·intro w' hw'
  go_simp
  try with_reducible rfl
 (try dsimp only [Act.put]);(try simp only [zA,zB,zC])
 refine tkZ 3 6 ?_ rfl ?_ hS ?_
 rotate_left
 ·intro w' hw'
  have cf:=M8.out w' hw'
  go_simp
  try with_reducible rfl
 (try dsimp only [Act.put]);(try simp only [zA,zB,zC])
 refine tkZ 4 7 ?_ rfl ?_ hS ?_
 rotate_left
 ·intro w' hw'
  go_simp
  try with_reducible rfl
 (try dsimp only [Act.put]);(try simp only [zA,zB,zC])
 refine tkZ 5 8 ?_ rfl ?_ hS ?_
 rotate_left
 ·intro w' hw'
  have cf:=M9.out w' hw'
  go_simp
  try with_reducible rfl
 (try dsimp only [Act.put]);(try simp only [zA,zB,zC])
 refine rdZ 6 rfl (fun K hK=>?_)
 go_simp
 have R1:Hid (IntRow (v.alloc (.cells #[I u.walk,I u.blinks] 3)) ⟨some ⟨v.heap.size,0,none⟩,2⟩ [u.walk,u.blinks]):=hJJ (row_new v 3 [u.walk,u.blinks] 2 rfl (by decide) _ rfl)
 have hq:=hS.alloc hS.size (.cells #[I u.walk,I u.blinks] 3)
 clear hS
 generalize v.heap.size=b1 at R1 ⊢
 generalize World.alloc v _=v at R1 hq ⊢
 refine hK.out _ _ hq (fun hS=>?_)
 clear hK K hq
 refine rdZ 7 rfl (fun K hK=>?_)
 go_simp
 refine (BdS.sum_row (some ⟨b1,0,none⟩) 2 [u.walk,u.blinks] 2 rfl _ R1.out).mono ?_
 rintro e w' ⟨rfl,rfl⟩
 go_simp
 refine hK.out _ _ hS (fun hS=>?_)
 clear hK K
 clear R1
 generalize sums [u.walk,u.blinks]=z at RS ⊢
 refine tkZ 8 11 (.int .i64 (max u.min z)) rfl ?_ hS ?_
 ·intro w' hw'
  go_simp
  try (first | rfl | (simp only [Int.max_def];split <;> split <;> omega))
 (try dsimp only [Act.put]);(try simp only [zA,zB,zC])
 rw [← RS.out]
 refine tkZ 9 2 ?_ rfl ?_ hS ?_
 rotate_left
 ·intro w' hw'
  go_simp
  try with_reducible rfl
 (try dsimp only [Act.put]);(try simp only [zA,zB,zC])
 refine wpAnyH_done (by kernel_rfl) ?_ _
 have HF:=hJJ (B0.out.trans (hS.mono B0.out.size))
 clear hS
 go_wp2
 go_ret
 exact ⟨rfl,HF.out⟩
theorem clr_any (u:Ph) (w:World) :
  Calls Tryz.prog 103 #[.agg u.cells.toArray] w fun e w'=>e=.returned (.int .i64 (clrP u))∧Below w.heap.size w w':=by
 have RS:Hid (clrP u=sums [u.yellow,u.red]):=hJJ rfl
 generalize clrP u=r at RS ⊢
 have B0:=hJJ ((Below.refl w.heap.size w).alloc (Nat.le_refl _) (.cells u.cells.toArray 24))
 have hg:=heap_alloc_new w (.cells u.cells.toArray 24)
 go_enter Tryz.func103,Tryz.ntmps103
 go_upto_region 1 with fail
 generalize World.alloc w _=w1 at hg B0 ⊢
 have HL:Hid (Lies w1 ⟨w.heap.size,0,none⟩ u.cells):=hJJ (by have:=Row.lies_of_block hg;simpa using this)
 clear hg
 have M6:Hid (∀ w',Below w1.heap.size w1 w'→w'.cell? ⟨w.heap.size,6,none⟩=some (I u.yellow)):=hJJ (fun w' hb=>by have:=(HL.out.below hb) 6 _ rfl;rwa [Addr.add_mid,Nat.zero_add] at this)
 have M7:Hid (∀ w',Below w1.heap.size w1 w'→w'.cell? ⟨w.heap.size,7,none⟩=some (I u.red)):=hJJ (fun w' hb=>by have:=(HL.out.below hb) 7 _ rfl;rwa [Addr.add_mid,Nat.zero_add] at this)
 have c6:=M6.out _ (Below.refl _ _)
 have c7:=M7.out _ (Below.refl _ _)
 go_wp2_with fail
 have R1:Hid (IntRow (w1.alloc (.cells #[I u.yellow,I u.red] 3)) ⟨some ⟨w1.heap.size,0,none⟩,2⟩ [u.yellow,u.red]):=hJJ (row_new w1 3 [u.yellow,u.red] 2 rfl (by decide) _ rfl)
 have HF:Hid (Below w.heap.size w (w1.alloc (.cells #[I u.yellow,I u.red] 3))):=hJJ (B0.out.alloc B0.out.size _)
 clear M6 M7 c6 c7 HL
 generalize w1.heap.size=b1 at R1 ⊢
 generalize World.alloc w1 _=v at R1 HF ⊢
 refine (BdS.sum_row (some ⟨b1,0,none⟩) 2 [u.yellow,u.red] 2 rfl _ R1.out).mono ?_
 rintro e w' ⟨rfl,rfl⟩
 rw [← RS.out]
 go_wp2
 go_ret
 exact ⟨rfl,HF.out⟩
end BdA
namespace BdM
open RefC
def tot (l:List Int):Int:=l.foldl (fun s x=>s+cap x) 0
theorem tot_snoc (l:List Int) (x:Int):tot (l++[x])=tot l+cap x:=by unfold tot;rw [List.foldl_append];rfl
theorem fold_from (l:List Int):∀ s:Int,l.foldl (fun s x=>s+cap x) s=s+tot l:=by
 induction l with
 | nil=>intro s;simp [tot]
 | cons y t ih =>
  intro s
  have e:tot (y :: t)=cap y+tot t:=by
   show List.foldl (fun s x=>s+cap x) (0+cap y) t=_
   rw [ih];omega
  rw [List.foldl_cons,ih,e];omega
theorem tot_cons (y:Int) (t:List Int):tot (y :: t)=cap y+tot t:=by
 show List.foldl (fun s x=>s+cap x) (0+cap y) t=_
 rw [fold_from];omega
theorem tot_nil:tot []=0:=rfl
theorem tot_append (l m:List Int):tot (l++m)=tot l+tot m:=by
 induction l with
 | nil=>simp [tot_nil]
 | cons y t ih=>rw [List.cons_append,tot_cons,tot_cons,ih];omega
theorem tot_lo (l:List Int):0≤tot l:=by
 induction l with
 | nil=>exact Int.le_refl _
 | cons y t ih=>rw [tot_cons];have:=cap_lo y;omega
theorem sums_tot_from (l:List Int):∀ s:Int,0≤s→l.foldl add (min s 2147483647)=min (s+tot l) 2147483647:=by
 induction l with
 | nil=>intro s hs;simp [tot_nil]
 | cons y t ih =>
  intro s hs
  have hc:=cap_lo y
  have hh:=cap_hi y
  have e:add (min s 2147483647) y=min (s+cap y) 2147483647:=by
   unfold add
   rw [cap_in (n:=min s 2147483647) (by omega) (by omega)]
   by_cases h:s+cap y≤2147483647
   ·rw [cap_in (by omega) (by omega)];omega
   ·by_cases h2:2147483647 < min s 2147483647+cap y
    ·rw [cap_big h2];omega
    ·rw [cap_in (by omega) (by omega)];omega
  rw [List.foldl_cons,e,ih _ (by omega),tot_cons]
  congr 1;omega
theorem sums_tot (l:List Int):sums l=min (tot l) 2147483647:=by
 have:=sums_tot_from l 0 (Int.le_refl _)
 rw [show min (0:Int) 2147483647=0 from rfl] at this
 unfold sums;rw [this,Int.zero_add]
theorem sums_lo (l:List Int):0≤sums l:=by rw [sums_tot];have:=tot_lo l;omega
theorem sums_hi (l:List Int):sums l≤2147483647:=by rw [sums_tot];omega
theorem cap_sums (l:List Int):cap (sums l)=sums l:=cap_in (sums_lo l) (sums_hi l)
theorem cap_max (a b:Int):cap (max a b)=max (cap a) (cap b):=by unfold cap;split <;> (try split) <;> (try split) <;> (try split) <;> (try split) <;> (try split) <;> omega
theorem cap_mono {a b:Int} (h:a≤b):cap a≤cap b:=by unfold cap;split <;> (try split) <;> (try split) <;> (try split) <;> omega
theorem mosts_cons_from (l:List Int):∀ s:Int,0≤s→l.foldl max s=max s (mosts l):=by
 induction l with
 | nil=>intro s hs;show s=max s (mosts []);unfold mosts;simp;omega
 | cons y t ih =>
  intro s hs
  have e:mosts (y :: t)=max (max 0 y) (mosts t):=by
   show List.foldl max (max 0 y) t=_
   exact ih _ (by omega)
  rw [List.foldl_cons,ih _ (by omega),e];omega
theorem mosts_cons (y:Int) (t:List Int):mosts (y :: t)=max (max 0 y) (mosts t):=mosts_cons_from t _ (by omega)
theorem mosts_nil:mosts []=0:=rfl
theorem mosts_snoc (l:List Int) (x:Int):mosts (l++[x])=max (mosts l) x:=by unfold mosts;rw [List.foldl_append];rfl
end BdM
namespace BdV
open Zip
open Go.ChangeShapes Go.WideShapes Go.ChangeAt Go.RowKit
open Tab Gath OnS RefC Clear
open May (St phases_in infoP infoT row_new)
open ServeS (serveS serveR)
theorem serveR_eq (T:Tab) (u:Ph):serveR T u=sums [max (BdA.neededP u) u.top,T.extend,u.yellow,u.red,T.revert,8]:=by
 unfold serveR BdA.neededP
 simp only [BdM.sums_tot (_ :: _ :: _ :: _),BdM.tot_cons,BdM.cap_max,BdM.cap_sums,BdM.mosts_cons,BdM.mosts_nil,cap_cap,show cap 0=0 from rfl]
 have:=cap_lo u.min
 have:=cap_lo u.top
 have:=BdM.sums_lo [u.walk,u.blinks]
 have e:max (max 0 (cap u.min)) (max (max 0 (sums [u.walk,u.blinks])) (max (max 0 (cap u.top)) 0))=max (max (cap u.min) (sums [u.walk,u.blinks])) (cap u.top):=by omega
 rw [e]
theorem pserve_any (T:Tab) (h:Hd) (p:Int) (w:World) (ht:IsTab w h T) :
  Calls Tryz.prog 25 #[.agg (T.cells h).toArray,.int .i64 p] w fun e w'=>e=.returned (.int .i64 (serveS T p))∧Below w.heap.size w w':=by
 have C:=hJJ (cells_ok ht)
 have hsz:=C.out.size
 have IA:Hid ((Tryz.prog.info? 32).map (·.size)=some (T.cells h).length):=hJJ (by rw [List.size_toArray] at hsz;rw [hsz];exact infoT)
 have ON:Hid (∀ W,Below w.heap.size w W→Calls Tryz.prog 57 #[.agg (T.cells h).toArray,.int .i64 p] W fun e w'=>e=.returned (.bool (SetM.has (onS T:Nat) p))∧Below W.heap.size W w'):=hJJ (fun W hb=>BdA.isOn_any T h p W (ht.below hb))
 have L8:=hJJ ht.ph
 have S0:=hJJ (St.box (cs:=(T.cells h).toArray) ht)
 have RS:Hid (serveS T p=if SetM.has (onS T:Nat) p then serveR T (phAt T p) else 0):=hJJ rfl
 generalize serveS T p=e0 at RS ⊢
 generalize ((onS T:Nat):Int)=os at RS ON
 clear ht
 generalize T.cells h=c at *
 go_enter Tryz.func25,Tryz.ntmps25
 go_upto_region 1 with fail
 generalize w.alloc (.cells c.toArray 32)=w1 at S0 ⊢
 clear hsz
 have LT:Hid (Lies w1 ⟨w.heap.size,0,none⟩ c):=hJJ (by have:=Row.lies_of_block S0.out.blk;simpa using this)
 go_wp2_with (refine lgZ 32 ⟨w.heap.size,0,none⟩ c rfl LT.out Tryz.underlying32 IA.out ?_)
 refine (ON.out _ S0.out.bel).mono ?_
 rintro e w2 ⟨rfl,hb⟩
 have S2:=hJJ (S0.out.step hb)
 clear hb S0 LT ON IA
 by_cases hh:SetM.has os p=true
 rotate_left
 ·have h2:SetM.has os p=false:=by simpa using hh
  have HE:Hid (0=e0):=hJJ (by rw [RS.out,h2];rfl)
  rw [h2]
  clear hh h2
  go_wp2
  go_ret
  exact ⟨RefC.ret_int HE.out,S2.out.bel⟩
 have HE:Hid (serveR T (phAt T p)=e0):=hJJ (by rw [RS.out,hh];rfl)
 have hbd:=SetM.list_bd os p ((SetM.mem_list os p).2 hh)
 rw [hh]
 clear hh RS
 obtain ⟨p0,p8⟩:=hbd
 obtain ⟨k,rfl⟩:=Int.eq_ofNat_of_zero_le p0
 have hk:k < 8:=by omega
 have hv:T.phases[k]?=some (phAt T k):=by
  unfold phAt
  rw [Int.toNat_natCast,List.getD_eq_getElem?_getD,List.getElem?_eq_getElem (by rw [L8.out];exact hk)];rfl
 generalize phAt T k=u at hv HE
 have ER:Hid (serveR T u=sums [max (BdA.neededP u) u.top,T.extend,u.yellow,u.red,T.revert,8]):=hJJ (serveR_eq T u)
 generalize serveR T u=sr at HE ER
 obtain ⟨y,hy,hcc⟩:=(phases_in S2.out.blk C.out L8.out).at hv
 obtain rfl:=Option.some.inj hy
 have HC:=hJJ (show Lies w2 ⟨w.heap.size,k*13,none⟩ u.cells by have:=hcc;rwa [Addr.add_mid,Nat.zero_add] at this)
 clear hv hcc hy
 go_upto_region 3 with fail
 go_upto_region 4 with (first | (refine lgZ 24 ⟨w.heap.size,k*13,none⟩ u.cells rfl HC.out Tryz.underlying24 infoP ?_) | (refine Row.wpList_store_new rfl 24 _ _ rfl w2 _ u.cells.toArray rfl rfl rfl infoP rfl (Ph.one _) ?_))
 (try dsimp only [Act.put])
 have hb2:Below w2.heap.size w2 (w2.alloc (.cells u.cells.toArray 24)):=(Below.refl _ _).alloc (Nat.le_refl _) _
 have hg:=heap_alloc_new w2 (.cells u.cells.toArray 24)
 have S3:=hJJ (S2.out.step hb2)
 clear HC hb2 S2
 generalize World.alloc w2 _=w3 at hg S3 ⊢
 generalize w2.heap.size=b at hg ⊢
 have HL:Hid (Lies w3 ⟨b,0,none⟩ u.cells):=hJJ (by have:=Row.lies_of_block hg;simpa using this)
 clear hg
 have M4:Hid (∀ w',Below w3.heap.size w3 w'→w'.cell? ⟨b,4,none⟩=some (I u.top)):=hJJ (fun w' hb=>by have:=(HL.out.below hb) 4 _ rfl;rwa [Addr.add_mid,Nat.zero_add] at this)
 have M6:Hid (∀ w',Below w3.heap.size w3 w'→w'.cell? ⟨b,6,none⟩=some (I u.yellow)):=hJJ (fun w' hb=>by have:=(HL.out.below hb) 6 _ rfl;rwa [Addr.add_mid,Nat.zero_add] at this)
 have M7:Hid (∀ w',Below w3.heap.size w3 w'→w'.cell? ⟨b,7,none⟩=some (I u.red)):=hJJ (fun w' hb=>by have:=(HL.out.below hb) 7 _ rfl;rwa [Addr.add_mid,Nat.zero_add] at this)
 have dME:=S3.out.cell C.out.extend
 have ME:=hJJ (fun w' (hb:Below w3.heap.size w3 w')=>(hb.cell (World.block_lt_of_cell? w3 _ dME)).trans dME)
 clear dME
 have dMR:=S3.out.cell C.out.revert
 have MR:=hJJ (fun w' (hb:Below w3.heap.size w3 w')=>(hb.cell (World.block_lt_of_cell? w3 _ dMR)).trans dMR)
 clear dMR
 have HLB:Hid (∀ w',Below w3.heap.size w3 w'→Lies w' ⟨b,0,none⟩ u.cells):=hJJ (fun w' hb=>HL.out.below hb)
 refine wp_region_held (S:=fun w'=>Below w3.heap.size w3 w') (by kernel_rfl) ?_
 have hS:Below w3.heap.size w3 { w3 with drawn:=w3.drawn+1 }:=(Below.refl _ _).drew
 generalize ({ w3 with drawn:=w3.drawn+1 }:World)=v at hS ⊢
 refine tlZ 0 14 24 (.tmp 5) ⟨b,0,none⟩ u.cells rfl hS (fun w' hw'=>HLB.out w' hw') Tryz.underlying24 infoP ?_
 (try dsimp only [Act.put]);(try simp only [zA,zB,zC])
 refine tkZ 2 16 ?_ rfl ?_ hS ?_
 rotate_left
 ·intro w' hw'
  go_simp
  try with_reducible rfl
 (try dsimp only [Act.put]);(try simp only [zA,zB,zC])
 refine tkZ 3 17 ?_ rfl ?_ hS ?_
 rotate_left
 ·intro w' hw'
  have cf:=M4.out w' hw'
  go_simp
  try with_reducible rfl
 (try dsimp only [Act.put]);(try simp only [zA,zB,zC])
 refine tkZ 5 19 ?_ rfl ?_ hS ?_
 rotate_left
 ·intro w' hw'
  go_simp
  try with_reducible rfl
 (try dsimp only [Act.put]);(try simp only [zA,zB,zC])
 refine tkZ 6 20 ?_ rfl ?_ hS ?_
 rotate_left
 ·intro w' hw'
  have cf:=ME.out w' hw'
  go_simp
  try with_reducible rfl
 (try dsimp only [Act.put]);(try simp only [zA,zB,zC])
 refine tkZ 7 21 ?_ rfl ?_ hS ?_
 rotate_left
 ·intro w' hw'
  go_simp
  try with_reducible rfl
 (try dsimp only [Act.put]);(try simp only [zA,zB,zC])
 refine tkZ 8 22 ?_ rfl ?_ hS ?_
 rotate_left
 ·intro w' hw'
  have cf:=M6.out w' hw'
  go_simp
  try with_reducible rfl
 (try dsimp only [Act.put]);(try simp only [zA,zB,zC])
 refine tkZ 9 23 ?_ rfl ?_ hS ?_
 rotate_left
 ·intro w' hw'
  go_simp
  try with_reducible rfl
 (try dsimp only [Act.put]);(try simp only [zA,zB,zC])
 refine tkZ 10 24 ?_ rfl ?_ hS ?_
 rotate_left
 ·intro w' hw'
  have cf:=M7.out w' hw'
  go_simp
  try with_reducible rfl
 (try dsimp only [Act.put]);(try simp only [zA,zB,zC])
 refine tkZ 11 25 ?_ rfl ?_ hS ?_
 rotate_left
 ·intro w' hw'
  go_simp
  try with_reducible rfl
 (try dsimp only [Act.put]);(try simp only [zA,zB,zC])
 refine tkZ 12 26 ?_ rfl ?_ hS ?_
 rotate_left
 ·intro w' hw'
  have cf:=MR.out w' hw'
  go_simp
  try with_reducible rfl
 (try dsimp only [Act.put]);(try simp only [zA,zB,zC])
 refine rdZ 1 rfl (fun K hK=>?_)
 go_simp
 refine (BdA.needed_any u _).mono ?_
 rintro e w' ⟨rfl,hb⟩
 have hq:=hS.trans (hb.mono hS.size)
 clear hS hb
 rename World=>v
 go_simp
 refine hK.out _ _ hq (fun hS=>?_)
 clear hK K hq
 generalize BdA.neededP u=z at ER ⊢
 refine tkZ 4 18 (.int .i64 (max z u.top)) rfl ?_ hS ?_
 ·intro w' hw'
  go_simp
  try (first | rfl | (simp only [Int.max_def];split <;> split <;> omega))
 (try dsimp only [Act.put]);(try simp only [zA,zB,zC])
 generalize max z u.top=mo at ER ⊢
 refine rdZ 13 rfl (fun K hK=>?_)
 go_simp
 have R3:Hid (IntRow (v.alloc (.cells #[I mo,I T.extend,I u.yellow,I u.red,I T.revert,I 8] 3)) ⟨some ⟨v.heap.size,0,none⟩,6⟩ [mo,T.extend,u.yellow,u.red,T.revert,8]):=hJJ (row_new v 3 [mo,T.extend,u.yellow,u.red,T.revert,8] 6 rfl (by decide) _ rfl)
 have hq:=hS.alloc hS.size (.cells #[I mo,I T.extend,I u.yellow,I u.red,I T.revert,I 8] 3)
 clear hS
 generalize v.heap.size=b3 at R3 ⊢
 generalize World.alloc v _=v at R3 hq ⊢
 refine hK.out _ _ hq (fun hS=>?_)
 clear hK K hq
 refine rdZ 14 rfl (fun K hK=>?_)
 go_simp
 refine (BdS.sum_row (some ⟨b3,0,none⟩) 6 [mo,T.extend,u.yellow,u.red,T.revert,8] 6 rfl _ R3.out).mono ?_
 rintro e w' ⟨rfl,rfl⟩
 go_simp
 refine hK.out _ _ hS (fun hS=>?_)
 clear hK K
 rw [← ER.out,HE.out]
 refine tkZ 15 4 ?_ rfl ?_ hS ?_
 rotate_left
 ·intro w' hw'
  go_simp
  try with_reducible rfl
 (try dsimp only [Act.put]);(try simp only [zA,zB,zC])
 refine wpAnyH_done (by kernel_rfl) ?_ _
 have HF:=hJJ (S3.out.bel.trans (hS.mono S3.out.bel.size))
 clear hS
 go_wp2
 go_ret
 exact ⟨rfl,HF.out⟩
end BdV
namespace BdPM
open Tab PlaceM RefC ServeS PassS BdM
def tg (T:Tab) (g:Int) (l:List Spt):Int:=tot (passL T g l)
theorem tg_append (T:Tab) (g:Int) (l m:List Spt):tg T g (l++m)=tg T g l+tg T g m:=by
 unfold tg passL;rw [List.filter_append,List.map_append,tot_append]
theorem serve_off (T:Tab) (p:Int) (h:¬ (0≤p∧p < 8)):serveS T p=0:=by
 unfold serveS
 rw [if_neg]
 intro hh
 exact h (SetM.list_bd _ p ((SetM.mem_list _ p).2 hh))
theorem tg_row (T:Tab) (g:Int) (g' k:Nat):∀ (i:Nat) (l:List Int),tg T g (rowS g' k i l)=if (g':Int)=g then tot (l.map (serveS T)) else 0
 | i,[]=>by
  have:tg T g (rowS g' k i [])=0:=rfl
  rw [this];split <;> rfl
 | i,p :: l=>by
  rw [rowS,tg_append,tg_row T g g' k (i+1) l,List.map_cons,tot_cons]
  unfold one
  by_cases hp:0≤p∧p < 8
  ·rw [if_pos hp]
   by_cases e:(g':Int)=g
   ·have:tg T g [(⟨g',k,i,p⟩:Spt)]=cap (serveS T p):=by
     unfold tg passL
     simp [e,tot_cons,tot_nil]
    rw [this,if_pos e,if_pos e]
   ·have:tg T g [(⟨g',k,i,p⟩:Spt)]=0:=by
     unfold tg passL
     simp [e,tot_nil]
    rw [this,if_neg e,if_neg e];rfl
  ·rw [if_neg hp,serve_off T p hp]
   have:tg T g []=0:=rfl
   rw [this]
   split <;> simp [show cap 0=0 from rfl]
theorem tg_before (T:Tab) (g:Int):∀ (G:List (List Int × List Int)) (s:Nat),g < s→tg T g (allS s G)=0
 | [],s,h=>rfl
 | x :: l,s,h=>by
  rw [allS,tg_append,grpS,tg_append,tg_row,tg_row,tg_before T g l (s+1) (by omega),if_neg (by omega),if_neg (by omega)];rfl
theorem tg_all (T:Tab) (g:Int):∀ (G:List (List Int × List Int)) (s j:Nat) (y:List Int × List Int),G[j]?=some y→g=s+j→tg T g (allS s G)=tot ((y.1++y.2).map (serveS T))
 | [],s,j,y,h,e=>by simp at h
 | x :: l,s,0,y,h,e=>by
  obtain rfl:x=y:=by simpa using h
  rw [allS,tg_append,grpS,tg_append,tg_row,tg_row,tg_before T g l (s+1) (by omega),if_pos (by omega),if_pos (by omega),List.map_append,tot_append];omega
 | x :: l,s,j+1,y,h,e=>by
  rw [allS,tg_append,grpS,tg_append,tg_row,tg_row,if_neg (by omega),if_neg (by omega),tg_all T g l (s+1) j y (by simpa using h) (by omega)];omega
theorem pass_rows {T:Tab} {q:Nat} {y:List Int × List Int} (h:T.groups[q]?=some y):passS T q=sums (8 :: (y.1++y.2).map (serveS T)):=by
 have hl:=(List.getElem?_eq_some_iff.1 h).1
 unfold passS
 rw [if_pos (by omega),sums_tot,sums_tot,tot_cons,tot_cons]
 have:=tg_all T q T.groups 0 q y h (by omega)
 unfold tg at this
 rw [show passL T q (spots T)=passL T q (allS 0 T.groups) from rfl,this]
def acc (T:Tab) (l0 l1:List Int) (r:Nat):List Int:=8 :: ((if r=0 then [] else if r=1 then l0 else l0++l1).map (serveS T))
theorem acc0 (T:Tab) (l0 l1:List Int):acc T l0 l1 0=[8]:=rfl
theorem acc1 (T:Tab) (l0 l1:List Int):acc T l0 l1 1=[8]++l0.map (serveS T):=rfl
theorem acc2 (T:Tab) (l0 l1:List Int):acc T l0 l1 2=acc T l0 l1 1++l1.map (serveS T):=by
 show 8 :: ((l0++l1).map (serveS T))=8 :: (l0.map (serveS T))++l1.map (serveS T)
 rw [List.map_append];rfl
theorem inner_step (T:Tab) (A l:List Int) {i:Nat} {p:Int} (h:l[i]?=some p):A++(l.take (i+1)).map (serveS T)=(A++(l.take i).map (serveS T))++[serveS T p]:=by
 rw [PlaceM.take_succ h,List.map_append,List.append_assoc];rfl
end BdPM
end Go.Proofs.YtjolhoilcibdfaaGreat
