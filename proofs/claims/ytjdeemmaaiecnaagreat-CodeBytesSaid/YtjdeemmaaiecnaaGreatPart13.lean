/- 6 texts in one file, in build order. -/
import Derived.Test.YtjdeemmaaiecnaaGreatRows
import Derived.Test.YtjdeemmaaiecnaaGreatPart10
import Derived.Test.YtjdeemmaaiecnaaGreatPart12
import Derived.Test.YtjdeemmaaiecnaaGreatPart02
import Derived.Test.YtjdeemmaaiecnaaGreatPart11
import Derived.Test.YtjdeemmaaiecnaaGreatPart01
import Derived.StillTailTactics
import Derived.Laws.Rows
import Derived.Deep.Cut
import Derived.Test.YtjdeemmaaiecnaaGreatPart08
import Derived.Test.YtjdeemmaaiecnaaGreatPart04
import Derived.WalkKit
import Derived.ProofKit
import Derived.IntWalk
import Derived.Lib.Hide
import Derived.LoopTactic
import Derived.Below
set_option linter.unusedVariables false
set_option linter.unusedSimpArgs false
set_option linter.unusedSectionVars false
set_option maxHeartbeats 8000000
set_option maxRecDepth 100000
namespace Go.Proofs.YtjdeemmaaiecnaaGreat
namespace GenR
open Go.ChangeShapes Go.WideShapes Go.ChangeAt Go.RowKit
open Tab Clone RefS CodeAt
open May (infoR infoT)
open Same (below_setRow)
open GenW Where
abbrev FromC (a:Option Addr) (cap:Nat) (L:List Int) (w:World) (i n x:Int):Prop:=∀ W,Below w.heap.size w W→Calls Tryz.prog 36 #[.slice a L.length cap,.int .i64 i,.int .i64 n] W fun e w'=>e=.returned (.int .i64 x)∧w'=W
theorem rail1_rg {Q:Exit→Act→World→Prop} (hP:∀ c (a a':Act) w,a.defers=a'.defers→Q (.panic c) a w→Q (.panic c) a' w) (T:Tab) (c:List Value) (a:Option Addr) (cap:Nat) (L:List Int) (i n x0 x1 x2 x3:Int) (w u:World) (h0:0≤i) (h1:i≤100000)
  (IA:Hid ((Tryz.prog.info? 33).map (·.size)=some c.length)) (HB:Hid (Below w.heap.size w u)) (HS:Hid (u.heap.size=w.heap.size+2)) (LT:Hid (∀ w',Below u.heap.size u w'→Lies w' ⟨w.heap.size,0,none⟩ c))
  (F0:Hid (FromC a cap L w i n x0)) (F1:Hid (FromC a cap L w (i+1) n x1)) (F2:Hid (FromC a cap L w (i+2) n x2)) (F3:Hid (FromC a cap L w (i+3) n x3))
  (WC:Hid (∀ (p q:Int) W,Below w.heap.size w W→Calls Tryz.prog 73 #[.agg c.toArray,.int .i64 p,.int .i64 q] W fun e w'=>e=.returned (.int .i64 (withS T p q))∧Below W.heap.size W w')) (f0 f5 f6 f7 f8 f9 f10 f11 f12 f13 f14 f15 f16 f17 f18 f19 f20 f21 f22 f23 f24 f25 f26 f27 f28 f29 f30 f31 f32 f33 f34 f35 f36 f37 f38 f39 f40 f41 f42 f43 f44 f45 f46 f47 f48 f49 f50 f51 f52 f53 f54 f55 f56 f57 f58 f59 f60 f61 f62 f63 f64 f65 f66 f67 f68 f69 f70 f71 f72 f73 f74 f75 f76 f77 f78 f79 f80 f81 f82 f83 f84 f85 f86 f87 f88 f89 f90 f91 f92 f93 f94 f95 f96 f97 f98 f99 f100 f101 f102 f103 f104 f105 f106 f107 f108 f109 f110 f111 f112 f113 f114 f115 f116 f117 f118:Value)
  (HQ:Hid (∀ (x_11 x_12 x_13 x_14 x_15 x_16 x_17 x_18 x_19 x_20 x_21 x_22 x_23 x_24 x_25 x_26 x_27 x_28 x_29 x_30 x_31 x_32 x_33 x_34:Value) (b5:Nat) (wx:World),w.heap.size+1 < b5→wx.heap[b5]?=some (.cells #[I 0,I 0,I (withS T x0 x1),I (withS T x2 x3),I 0,I 0,I 0,I 0,I 0,I 0,I 0] 75 (0,0))→Below u.heap.size u wx→Q .normal ⟨#[f0,.slice a L.length cap,.int .i64 i,.int .i64 n,.pointer (some ⟨w.heap.size,0,none⟩),f5,f6,f7,f8,.pointer (some ⟨b5,0,none⟩),f10,x_11,x_12,x_13,x_14,x_15,x_16,x_17,x_18,x_19,x_20,x_21,x_22,x_23,x_24,x_25,x_26,x_27,x_28,x_29,x_30,x_31,x_32,x_33,x_34,f35,f36,f37,f38,f39,f40,f41,f42,f43,f44,f45,f46,f47,f48,f49,f50,f51,f52,f53,f54,f55,f56,f57,f58,f59,f60,f61,f62,f63,f64,f65,f66,f67,f68,f69,f70,f71,f72,f73,f74,f75,f76,f77,f78,f79,f80,f81,f82,f83,f84,f85,f86,f87,f88,f89,f90,f91,f92,f93,f94,f95,f96,f97,f98,f99,f100,f101,f102,f103,f104,f105,f106,f107,f108,f109,f110,f111,f112,f113,f114,f115,f116,f117,f118],[]⟩ wx)) :
  (rg 1 Tryz.f39).wp Tryz.prog Q ⟨#[f0,.slice a L.length cap,.int .i64 i,.int .i64 n,.pointer (some ⟨w.heap.size,0,none⟩),f5,f6,f7,f8,f9,f10,f11,f12,f13,f14,f15,f16,f17,f18,f19,f20,f21,f22,f23,f24,f25,f26,f27,f28,f29,f30,f31,f32,f33,f34,f35,f36,f37,f38,f39,f40,f41,f42,f43,f44,f45,f46,f47,f48,f49,f50,f51,f52,f53,f54,f55,f56,f57,f58,f59,f60,f61,f62,f63,f64,f65,f66,f67,f68,f69,f70,f71,f72,f73,f74,f75,f76,f77,f78,f79,f80,f81,f82,f83,f84,f85,f86,f87,f88,f89,f90,f91,f92,f93,f94,f95,f96,f97,f98,f99,f100,f101,f102,f103,f104,f105,f106,f107,f108,f109,f110,f111,f112,f113,f114,f115,f116,f117,f118],[]⟩ u:=by
 conv=>arg 2;whnf
 have e1:IntKind.i64.wrap (i+1)=i+1:=by rw [IntKind.wrap_i64];omega
 have e2:IntKind.i64.wrap (i+2)=i+2:=by rw [IntKind.wrap_i64];omega
 have e3:IntKind.i64.wrap (i+3)=i+3:=by rw [IntKind.wrap_i64];omega
 refine wp_region_held (S:=fun w'=>Below u.heap.size u w') (by kernel_rfl) ?_
 have hS:Below u.heap.size u { u with drawn:=u.drawn+1 }:=(Below.refl _ _).drew
 generalize ({ u with drawn:=u.drawn+1 }:World)=v at hS ⊢
 refine Held.take_load (i:=0) (some 11) rfl 33 _ ⟨w.heap.size,0,none⟩ c _ rfl rfl (by kernel_rfl) (by kernel_rfl) (by kernel_rfl) (fun c a w h=>hP c _ a w (by rfl) h) (by rfl) hS rfl (LT.out) Tryz.underlying33 rfl IA.out ?_
 (try dsimp only [Act.put]);(try simp only [List.setIfInBounds_toArray,List.set_cons_zero,List.set_cons_succ])
 refine Held.take (i:=1) (some 12) rfl (v:=?_) rfl (by kernel_rfl) (by kernel_rfl) (by kernel_rfl) (fun c a w h=>hP c _ a w (by rfl) h) (Or.inl ⟨by rfl,?_⟩) hS ?_
 rotate_left
 ·intro w' hw'
  go_simp
  try with_reducible rfl
 (try dsimp only [Act.put]);(try simp only [List.setIfInBounds_toArray,List.set_cons_zero,List.set_cons_succ])
 refine Held.take (i:=2) (some 13) rfl (v:=?_) rfl (by kernel_rfl) (by kernel_rfl) (by kernel_rfl) (fun c a w h=>hP c _ a w (by rfl) h) (Or.inl ⟨by rfl,?_⟩) hS ?_
 rotate_left
 ·intro w' hw'
  go_simp
  try with_reducible rfl
 (try dsimp only [Act.put]);(try simp only [List.setIfInBounds_toArray,List.set_cons_zero,List.set_cons_succ])
 refine Held.take (i:=3) (some 14) rfl (v:=?_) rfl (by kernel_rfl) (by kernel_rfl) (by kernel_rfl) (fun c a w h=>hP c _ a w (by rfl) h) (Or.inl ⟨by rfl,?_⟩) hS ?_
 rotate_left
 ·intro w' hw'
  go_simp
  try with_reducible rfl
 (try dsimp only [Act.put]);(try simp only [List.setIfInBounds_toArray,List.set_cons_zero,List.set_cons_succ])
 refine Held.take (i:=5) (some 16) rfl (v:=?_) rfl (by kernel_rfl) (by kernel_rfl) (by kernel_rfl) (fun c a w h=>hP c _ a w (by rfl) h) (Or.inl ⟨by rfl,?_⟩) hS ?_
 rotate_left
 ·intro w' hw'
  go_simp
  try with_reducible rfl
 (try dsimp only [Act.put]);(try simp only [List.setIfInBounds_toArray,List.set_cons_zero,List.set_cons_succ])
 refine Held.take (i:=6) (some 17) rfl (v:=?_) rfl (by kernel_rfl) (by kernel_rfl) (by kernel_rfl) (fun c a w h=>hP c _ a w (by rfl) h) (Or.inl ⟨by rfl,?_⟩) hS ?_
 rotate_left
 ·intro w' hw'
  go_simp
  try with_reducible rfl
 (try dsimp only [Act.put]);(try simp only [List.setIfInBounds_toArray,List.set_cons_zero,List.set_cons_succ])
 refine Held.take (i:=7) (some 18) rfl (v:=?_) rfl (by kernel_rfl) (by kernel_rfl) (by kernel_rfl) (fun c a w h=>hP c _ a w (by rfl) h) (Or.inl ⟨by rfl,?_⟩) hS ?_
 rotate_left
 ·intro w' hw'
  go_simp
  try with_reducible rfl
 (try dsimp only [Act.put]);(try simp only [List.setIfInBounds_toArray,List.set_cons_zero,List.set_cons_succ])
 refine Held.take (i:=8) (some 19) rfl (v:=?_) rfl (by kernel_rfl) (by kernel_rfl) (by kernel_rfl) (fun c a w h=>hP c _ a w (by rfl) h) (Or.inl ⟨by rfl,?_⟩) hS ?_
 rotate_left
 ·intro w' hw'
  go_simp
  try with_reducible rfl
 (try dsimp only [Act.put]);(try simp only [List.setIfInBounds_toArray,List.set_cons_zero,List.set_cons_succ])
 refine Held.take_load (i:=11) (some 22) rfl 33 _ ⟨w.heap.size,0,none⟩ c _ rfl rfl (by kernel_rfl) (by kernel_rfl) (by kernel_rfl) (fun c a w h=>hP c _ a w (by rfl) h) (by rfl) hS rfl (LT.out) Tryz.underlying33 rfl IA.out ?_
 (try dsimp only [Act.put]);(try simp only [List.setIfInBounds_toArray,List.set_cons_zero,List.set_cons_succ])
 refine Held.take (i:=12) (some 23) rfl (v:=?_) rfl (by kernel_rfl) (by kernel_rfl) (by kernel_rfl) (fun c a w h=>hP c _ a w (by rfl) h) (Or.inl ⟨by rfl,?_⟩) hS ?_
 rotate_left
 ·intro w' hw'
  go_simp
  try with_reducible rfl
 (try dsimp only [Act.put]);(try simp only [List.setIfInBounds_toArray,List.set_cons_zero,List.set_cons_succ])
 refine Held.take (i:=13) (some 24) rfl (v:=?_) rfl (by kernel_rfl) (by kernel_rfl) (by kernel_rfl) (fun c a w h=>hP c _ a w (by rfl) h) (Or.inl ⟨by rfl,?_⟩) hS ?_
 rotate_left
 ·intro w' hw'
  go_simp
  try with_reducible rfl
 (try dsimp only [Act.put]);(try simp only [List.setIfInBounds_toArray,List.set_cons_zero,List.set_cons_succ])
 refine Held.take (i:=14) (some 25) rfl (v:=?_) rfl (by kernel_rfl) (by kernel_rfl) (by kernel_rfl) (fun c a w h=>hP c _ a w (by rfl) h) (Or.inl ⟨by rfl,?_⟩) hS ?_
 rotate_left
 ·intro w' hw'
  go_simp
  try with_reducible rfl
 (try dsimp only [Act.put]);(try simp only [List.setIfInBounds_toArray,List.set_cons_zero,List.set_cons_succ])
 refine Held.take (i:=15) (some 26) rfl (v:=?_) rfl (by kernel_rfl) (by kernel_rfl) (by kernel_rfl) (fun c a w h=>hP c _ a w (by rfl) h) (Or.inl ⟨by rfl,?_⟩) hS ?_
 rotate_left
 ·intro w' hw'
  go_simp
  try with_reducible rfl
 (try dsimp only [Act.put]);(try simp only [List.setIfInBounds_toArray,List.set_cons_zero,List.set_cons_succ])
 refine Held.take (i:=17) (some 28) rfl (v:=?_) rfl (by kernel_rfl) (by kernel_rfl) (by kernel_rfl) (fun c a w h=>hP c _ a w (by rfl) h) (Or.inl ⟨by rfl,?_⟩) hS ?_
 rotate_left
 ·intro w' hw'
  go_simp
  try with_reducible rfl
 (try dsimp only [Act.put]);(try simp only [List.setIfInBounds_toArray,List.set_cons_zero,List.set_cons_succ])
 refine Held.take (i:=18) (some 29) rfl (v:=?_) rfl (by kernel_rfl) (by kernel_rfl) (by kernel_rfl) (fun c a w h=>hP c _ a w (by rfl) h) (Or.inl ⟨by rfl,?_⟩) hS ?_
 rotate_left
 ·intro w' hw'
  go_simp
  try with_reducible rfl
 (try dsimp only [Act.put]);(try simp only [List.setIfInBounds_toArray,List.set_cons_zero,List.set_cons_succ])
 refine Held.take (i:=19) (some 30) rfl (v:=?_) rfl (by kernel_rfl) (by kernel_rfl) (by kernel_rfl) (fun c a w h=>hP c _ a w (by rfl) h) (Or.inl ⟨by rfl,?_⟩) hS ?_
 rotate_left
 ·intro w' hw'
  go_simp
  try with_reducible rfl
 (try dsimp only [Act.put]);(try simp only [List.setIfInBounds_toArray,List.set_cons_zero,List.set_cons_succ])
 refine Held.take (i:=20) (some 31) rfl (v:=?_) rfl (by kernel_rfl) (by kernel_rfl) (by kernel_rfl) (fun c a w h=>hP c _ a w (by rfl) h) (Or.inl ⟨by rfl,?_⟩) hS ?_
 rotate_left
 ·intro w' hw'
  go_simp
  try with_reducible rfl
 (try dsimp only [Act.put]);(try simp only [List.setIfInBounds_toArray,List.set_cons_zero,List.set_cons_succ])
 refine wpAnyH_ready (rs:=[4,24]) (by kernel_rfl) (by simp) (AllReadyH.cons rfl (fun K hK=>?_) (AllReadyH.cons rfl (fun K hK=>?_) AllReadyH.nil))
 ·go_simp
  refine (F0.out _ (HB.out.trans (hS.mono HB.out.size))).mono ?_
  rintro e w' ⟨rfl,hq⟩
  subst w'
  go_simp
  refine hK.out _ _ hS (fun hS=>?_)
  clear hK K
  refine wpAnyH_ready (rs:=[9,24]) (by kernel_rfl) (by simp) (AllReadyH.cons rfl (fun K hK=>?_) (AllReadyH.cons rfl (fun K hK=>?_) AllReadyH.nil))
  ·go_simp
   refine (F1.out _ (HB.out.trans (hS.mono HB.out.size))).mono ?_
   rintro e w' ⟨rfl,hq⟩
   subst w'
   go_simp
   refine hK.out _ _ hS (fun hS=>?_)
   clear hK K
   refine wpAnyH_ready (rs:=[10,24]) (by kernel_rfl) (by simp) (AllReadyH.cons rfl (fun K hK=>?_) (AllReadyH.cons rfl (fun K hK=>?_) AllReadyH.nil))
   ·go_simp
    refine (WC.out x0 x1 _ (HB.out.trans (hS.mono HB.out.size))).mono ?_
    rintro e v ⟨rfl,hb⟩
    go_simp
    refine hK.out _ _ (Below.trans hS (hb.mono hS.size)) (fun hS=>?_)
    clear hK K hb
    refine wpAnyH_ready (rs:=[16,24]) (by kernel_rfl) (by simp) (AllReadyH.cons rfl (fun K hK=>?_) (AllReadyH.cons rfl (fun K hK=>?_) AllReadyH.nil))
    ·go_simp
     refine (F2.out _ (HB.out.trans (hS.mono HB.out.size))).mono ?_
     rintro e w' ⟨rfl,hq⟩
     subst w'
     go_simp
     refine hK.out _ _ hS (fun hS=>?_)
     clear hK K
     refine wpAnyH_ready (rs:=[21,24]) (by kernel_rfl) (by simp) (AllReadyH.cons rfl (fun K hK=>?_) (AllReadyH.cons rfl (fun K hK=>?_) AllReadyH.nil))
     ·go_simp
      refine (F3.out _ (HB.out.trans (hS.mono HB.out.size))).mono ?_
      rintro e w' ⟨rfl,hq⟩
      subst w'
      go_simp
      refine hK.out _ _ hS (fun hS=>?_)
      clear hK K
      refine wpAnyH_ready (rs:=[22,24]) (by kernel_rfl) (by simp) (AllReadyH.cons rfl (fun K hK=>?_) (AllReadyH.cons rfl (fun K hK=>?_) AllReadyH.nil))
      ·go_simp
       refine (WC.out x2 x3 _ (HB.out.trans (hS.mono HB.out.size))).mono ?_
       rintro e v ⟨rfl,hb⟩
       go_simp
       refine hK.out _ _ (Below.trans hS (hb.mono hS.size)) (fun hS=>?_)
       clear hK K hb
       refine Held.take (i:=23) (some 34) rfl (v:=?_) rfl (by kernel_rfl) (by kernel_rfl) (by kernel_rfl) (fun c a w h=>hP c _ a w (by rfl) h) (Or.inl ⟨by rfl,?_⟩) hS ?_
       rotate_left
       ·intro w' hw'
        go_simp
        try with_reducible rfl
       (try dsimp only [Act.put]);(try simp only [List.setIfInBounds_toArray,List.set_cons_zero,List.set_cons_succ])
       refine wpAnyH_ready (rs:=[24]) (by kernel_rfl) (by simp) (AllReadyH.cons rfl (fun K hK=>?_) AllReadyH.nil)
       go_simp
       have g5:=heap_alloc_new v (.cells #[I 0,I 0,I 0,I 0,I 0,I 0,I 0,I 0,I 0,I 0,I 0] 75)
       have b5lt:w.heap.size+1 < v.heap.size:=by have:=HS.out;have:=hS.size;omega
       have b5u:u.heap.size≤v.heap.size:=hS.size
       refine hK.out _ _ (hS.alloc hS.size _) (fun hS=>?_)
       clear hK K
       generalize v.heap.size=b5 at g5 b5lt b5u ⊢
       generalize World.alloc v _=v at g5 hS ⊢
       have G5:=Lib.hid g5
       clear g5
       refine wpAnyH_ready (rs:=[25]) (by kernel_rfl) (by simp) (AllReadyH.cons rfl (fun K hK=>?_) AllReadyH.nil)
       rw [if_pos (by rfl)]
       refine Same.wp_store_whole 75 _ _ rfl b5 #[I 0,I 0,I (withS T x0 x1),I (withS T x2 x3),I 0,I 0,I 0,I 0,I 0,I 0,I 0] rfl rfl 75 _ G5.out infoR rfl (by simp [Value.oneCell']) rfl ?_
       have hS2:=below_setRow hS (g:=b5) (by omega) #[I 0,I 0,I (withS T x0 x1),I (withS T x2 x3),I 0,I 0,I 0,I 0,I 0,I 0,I 0]
       have g5:=setRow_heap v b5 _ #[I 0,I 0,I (withS T x0 x1),I (withS T x2 x3),I 0,I 0,I 0,I 0,I 0,I 0,I 0] _ _ G5.out
       clear G5 hS
       generalize v.setRow _ _=v at hS2 g5 ⊢
       refine hK.out _ _ hS2 (fun hS=>?_)
       clear hK K hS2
       refine wpAnyH_done (by kernel_rfl) ?_ _
       exact HQ.out _ _ _ _ _ _ _ _ _ _ _ _ _ _ _ _ _ _ _ _ _ _ _ _ b5 _ b5lt g5 hS
      ·go_simp
       have g5:=heap_alloc_new v (.cells #[I 0,I 0,I 0,I 0,I 0,I 0,I 0,I 0,I 0,I 0,I 0] 75)
       have b5lt:w.heap.size+1 < v.heap.size:=by have:=HS.out;have:=hS.size;omega
       have b5u:u.heap.size≤v.heap.size:=hS.size
       refine hK.out _ _ (hS.alloc hS.size _) (fun hS=>?_)
       clear hK K
       generalize v.heap.size=b5 at g5 b5lt b5u ⊢
       generalize World.alloc v _=v at g5 hS ⊢
       have G5:=Lib.hid g5
       clear g5
       refine wpAnyH_ready (rs:=[22]) (by kernel_rfl) (by simp) (AllReadyH.cons rfl (fun K hK=>?_) AllReadyH.nil)
       go_simp
       refine (WC.out x2 x3 _ (HB.out.trans (hS.mono HB.out.size))).mono ?_
       rintro e v ⟨rfl,hb⟩
       go_simp
       have G5b:=Lib.hid ((hb.block _ (Array.getElem?_eq_some_iff.1 G5.out).1).trans G5.out)
       clear G5
       have G5:=G5b
       clear G5b
       refine hK.out _ _ (Below.trans hS (hb.mono hS.size)) (fun hS=>?_)
       clear hK K hb
       refine Held.take (i:=23) (some 34) rfl (v:=?_) rfl (by kernel_rfl) (by kernel_rfl) (by kernel_rfl) (fun c a w h=>hP c _ a w (by rfl) h) (Or.inl ⟨by rfl,?_⟩) hS ?_
       rotate_left
       ·intro w' hw'
        go_simp
        try with_reducible rfl
       (try dsimp only [Act.put]);(try simp only [List.setIfInBounds_toArray,List.set_cons_zero,List.set_cons_succ])
       refine wpAnyH_ready (rs:=[25]) (by kernel_rfl) (by simp) (AllReadyH.cons rfl (fun K hK=>?_) AllReadyH.nil)
       rw [if_pos (by rfl)]
       refine Same.wp_store_whole 75 _ _ rfl b5 #[I 0,I 0,I (withS T x0 x1),I (withS T x2 x3),I 0,I 0,I 0,I 0,I 0,I 0,I 0] rfl rfl 75 _ G5.out infoR rfl (by simp [Value.oneCell']) rfl ?_
       have hS2:=below_setRow hS (g:=b5) (by omega) #[I 0,I 0,I (withS T x0 x1),I (withS T x2 x3),I 0,I 0,I 0,I 0,I 0,I 0,I 0]
       have g5:=setRow_heap v b5 _ #[I 0,I 0,I (withS T x0 x1),I (withS T x2 x3),I 0,I 0,I 0,I 0,I 0,I 0,I 0] _ _ G5.out
       clear G5 hS
       generalize v.setRow _ _=v at hS2 g5 ⊢
       refine hK.out _ _ hS2 (fun hS=>?_)
       clear hK K hS2
       refine wpAnyH_done (by kernel_rfl) ?_ _
       exact HQ.out _ _ _ _ _ _ _ _ _ _ _ _ _ _ _ _ _ _ _ _ _ _ _ _ b5 _ b5lt g5 hS
     ·go_simp
      have g5:=heap_alloc_new v (.cells #[I 0,I 0,I 0,I 0,I 0,I 0,I 0,I 0,I 0,I 0,I 0] 75)
      have b5lt:w.heap.size+1 < v.heap.size:=by have:=HS.out;have:=hS.size;omega
      have b5u:u.heap.size≤v.heap.size:=hS.size
      refine hK.out _ _ (hS.alloc hS.size _) (fun hS=>?_)
      clear hK K
      generalize v.heap.size=b5 at g5 b5lt b5u ⊢
      generalize World.alloc v _=v at g5 hS ⊢
      have G5:=Lib.hid g5
      clear g5
      refine wpAnyH_ready (rs:=[21]) (by kernel_rfl) (by simp) (AllReadyH.cons rfl (fun K hK=>?_) AllReadyH.nil)
      go_simp
      refine (F3.out _ (HB.out.trans (hS.mono HB.out.size))).mono ?_
      rintro e w' ⟨rfl,hq⟩
      subst w'
      go_simp
      refine hK.out _ _ hS (fun hS=>?_)
      clear hK K
      refine wpAnyH_ready (rs:=[22]) (by kernel_rfl) (by simp) (AllReadyH.cons rfl (fun K hK=>?_) AllReadyH.nil)
      go_simp
      refine (WC.out x2 x3 _ (HB.out.trans (hS.mono HB.out.size))).mono ?_
      rintro e v ⟨rfl,hb⟩
      go_simp
      have G5b:=Lib.hid ((hb.block _ (Array.getElem?_eq_some_iff.1 G5.out).1).trans G5.out)
      clear G5
      have G5:=G5b
      clear G5b
      refine hK.out _ _ (Below.trans hS (hb.mono hS.size)) (fun hS=>?_)
      clear hK K hb
      refine Held.take (i:=23) (some 34) rfl (v:=?_) rfl (by kernel_rfl) (by kernel_rfl) (by kernel_rfl) (fun c a w h=>hP c _ a w (by rfl) h) (Or.inl ⟨by rfl,?_⟩) hS ?_
      rotate_left
      ·intro w' hw'
       go_simp
       try with_reducible rfl
      (try dsimp only [Act.put]);(try simp only [List.setIfInBounds_toArray,List.set_cons_zero,List.set_cons_succ])
      refine wpAnyH_ready (rs:=[25]) (by kernel_rfl) (by simp) (AllReadyH.cons rfl (fun K hK=>?_) AllReadyH.nil)
      rw [if_pos (by rfl)]
      refine Same.wp_store_whole 75 _ _ rfl b5 #[I 0,I 0,I (withS T x0 x1),I (withS T x2 x3),I 0,I 0,I 0,I 0,I 0,I 0,I 0] rfl rfl 75 _ G5.out infoR rfl (by simp [Value.oneCell']) rfl ?_
      have hS2:=below_setRow hS (g:=b5) (by omega) #[I 0,I 0,I (withS T x0 x1),I (withS T x2 x3),I 0,I 0,I 0,I 0,I 0,I 0,I 0]
      have g5:=setRow_heap v b5 _ #[I 0,I 0,I (withS T x0 x1),I (withS T x2 x3),I 0,I 0,I 0,I 0,I 0,I 0,I 0] _ _ G5.out
      clear G5 hS
      generalize v.setRow _ _=v at hS2 g5 ⊢
      refine hK.out _ _ hS2 (fun hS=>?_)
      clear hK K hS2
      refine wpAnyH_done (by kernel_rfl) ?_ _
      exact HQ.out _ _ _ _ _ _ _ _ _ _ _ _ _ _ _ _ _ _ _ _ _ _ _ _ b5 _ b5lt g5 hS
    ·go_simp
     have g5:=heap_alloc_new v (.cells #[I 0,I 0,I 0,I 0,I 0,I 0,I 0,I 0,I 0,I 0,I 0] 75)
     have b5lt:w.heap.size+1 < v.heap.size:=by have:=HS.out;have:=hS.size;omega
     have b5u:u.heap.size≤v.heap.size:=hS.size
     refine hK.out _ _ (hS.alloc hS.size _) (fun hS=>?_)
     clear hK K
     generalize v.heap.size=b5 at g5 b5lt b5u ⊢
     generalize World.alloc v _=v at g5 hS ⊢
     have G5:=Lib.hid g5
     clear g5
     refine wpAnyH_ready (rs:=[16]) (by kernel_rfl) (by simp) (AllReadyH.cons rfl (fun K hK=>?_) AllReadyH.nil)
     go_simp
     refine (F2.out _ (HB.out.trans (hS.mono HB.out.size))).mono ?_
     rintro e w' ⟨rfl,hq⟩
     subst w'
     go_simp
     refine hK.out _ _ hS (fun hS=>?_)
     clear hK K
     refine wpAnyH_ready (rs:=[21]) (by kernel_rfl) (by simp) (AllReadyH.cons rfl (fun K hK=>?_) AllReadyH.nil)
     go_simp
     refine (F3.out _ (HB.out.trans (hS.mono HB.out.size))).mono ?_
     rintro e w' ⟨rfl,hq⟩
     subst w'
     go_simp
     refine hK.out _ _ hS (fun hS=>?_)
     clear hK K
     refine wpAnyH_ready (rs:=[22]) (by kernel_rfl) (by simp) (AllReadyH.cons rfl (fun K hK=>?_) AllReadyH.nil)
     go_simp
     refine (WC.out x2 x3 _ (HB.out.trans (hS.mono HB.out.size))).mono ?_
     rintro e v ⟨rfl,hb⟩
     go_simp
     have G5b:=Lib.hid ((hb.block _ (Array.getElem?_eq_some_iff.1 G5.out).1).trans G5.out)
     clear G5
     have G5:=G5b
     clear G5b
     refine hK.out _ _ (Below.trans hS (hb.mono hS.size)) (fun hS=>?_)
     clear hK K hb
     refine Held.take (i:=23) (some 34) rfl (v:=?_) rfl (by kernel_rfl) (by kernel_rfl) (by kernel_rfl) (fun c a w h=>hP c _ a w (by rfl) h) (Or.inl ⟨by rfl,?_⟩) hS ?_
     rotate_left
     ·intro w' hw'
      go_simp
      try with_reducible rfl
     (try dsimp only [Act.put]);(try simp only [List.setIfInBounds_toArray,List.set_cons_zero,List.set_cons_succ])
     refine wpAnyH_ready (rs:=[25]) (by kernel_rfl) (by simp) (AllReadyH.cons rfl (fun K hK=>?_) AllReadyH.nil)
     rw [if_pos (by rfl)]
     refine Same.wp_store_whole 75 _ _ rfl b5 #[I 0,I 0,I (withS T x0 x1),I (withS T x2 x3),I 0,I 0,I 0,I 0,I 0,I 0,I 0] rfl rfl 75 _ G5.out infoR rfl (by simp [Value.oneCell']) rfl ?_
     have hS2:=below_setRow hS (g:=b5) (by omega) #[I 0,I 0,I (withS T x0 x1),I (withS T x2 x3),I 0,I 0,I 0,I 0,I 0,I 0,I 0]
     have g5:=setRow_heap v b5 _ #[I 0,I 0,I (withS T x0 x1),I (withS T x2 x3),I 0,I 0,I 0,I 0,I 0,I 0,I 0] _ _ G5.out
     clear G5 hS
     generalize v.setRow _ _=v at hS2 g5 ⊢
     refine hK.out _ _ hS2 (fun hS=>?_)
     clear hK K hS2
     refine wpAnyH_done (by kernel_rfl) ?_ _
     exact HQ.out _ _ _ _ _ _ _ _ _ _ _ _ _ _ _ _ _ _ _ _ _ _ _ _ b5 _ b5lt g5 hS
   ·go_simp
    have g5:=heap_alloc_new v (.cells #[I 0,I 0,I 0,I 0,I 0,I 0,I 0,I 0,I 0,I 0,I 0] 75)
    have b5lt:w.heap.size+1 < v.heap.size:=by have:=HS.out;have:=hS.size;omega
    have b5u:u.heap.size≤v.heap.size:=hS.size
    refine hK.out _ _ (hS.alloc hS.size _) (fun hS=>?_)
    clear hK K
    generalize v.heap.size=b5 at g5 b5lt b5u ⊢
    generalize World.alloc v _=v at g5 hS ⊢
    have G5:=Lib.hid g5
    clear g5
    refine wpAnyH_ready (rs:=[10]) (by kernel_rfl) (by simp) (AllReadyH.cons rfl (fun K hK=>?_) AllReadyH.nil)
    go_simp
    refine (WC.out x0 x1 _ (HB.out.trans (hS.mono HB.out.size))).mono ?_
    rintro e v ⟨rfl,hb⟩
    go_simp
    have G5b:=Lib.hid ((hb.block _ (Array.getElem?_eq_some_iff.1 G5.out).1).trans G5.out)
    clear G5
    have G5:=G5b
    clear G5b
    refine hK.out _ _ (Below.trans hS (hb.mono hS.size)) (fun hS=>?_)
    clear hK K hb
    refine wpAnyH_ready (rs:=[16]) (by kernel_rfl) (by simp) (AllReadyH.cons rfl (fun K hK=>?_) AllReadyH.nil)
    go_simp
    refine (F2.out _ (HB.out.trans (hS.mono HB.out.size))).mono ?_
    rintro e w' ⟨rfl,hq⟩
    subst w'
    go_simp
    refine hK.out _ _ hS (fun hS=>?_)
    clear hK K
    refine wpAnyH_ready (rs:=[21]) (by kernel_rfl) (by simp) (AllReadyH.cons rfl (fun K hK=>?_) AllReadyH.nil)
    go_simp
    refine (F3.out _ (HB.out.trans (hS.mono HB.out.size))).mono ?_
    rintro e w' ⟨rfl,hq⟩
    subst w'
    go_simp
    refine hK.out _ _ hS (fun hS=>?_)
    clear hK K
    refine wpAnyH_ready (rs:=[22]) (by kernel_rfl) (by simp) (AllReadyH.cons rfl (fun K hK=>?_) AllReadyH.nil)
    go_simp
    refine (WC.out x2 x3 _ (HB.out.trans (hS.mono HB.out.size))).mono ?_
    rintro e v ⟨rfl,hb⟩
    go_simp
    have G5b:=Lib.hid ((hb.block _ (Array.getElem?_eq_some_iff.1 G5.out).1).trans G5.out)
    clear G5
    have G5:=G5b
    clear G5b
    refine hK.out _ _ (Below.trans hS (hb.mono hS.size)) (fun hS=>?_)
    clear hK K hb
    refine Held.take (i:=23) (some 34) rfl (v:=?_) rfl (by kernel_rfl) (by kernel_rfl) (by kernel_rfl) (fun c a w h=>hP c _ a w (by rfl) h) (Or.inl ⟨by rfl,?_⟩) hS ?_
    rotate_left
    ·intro w' hw'
     go_simp
     try with_reducible rfl
    (try dsimp only [Act.put]);(try simp only [List.setIfInBounds_toArray,List.set_cons_zero,List.set_cons_succ])
    refine wpAnyH_ready (rs:=[25]) (by kernel_rfl) (by simp) (AllReadyH.cons rfl (fun K hK=>?_) AllReadyH.nil)
    rw [if_pos (by rfl)]
    refine Same.wp_store_whole 75 _ _ rfl b5 #[I 0,I 0,I (withS T x0 x1),I (withS T x2 x3),I 0,I 0,I 0,I 0,I 0,I 0,I 0] rfl rfl 75 _ G5.out infoR rfl (by simp [Value.oneCell']) rfl ?_
    have hS2:=below_setRow hS (g:=b5) (by omega) #[I 0,I 0,I (withS T x0 x1),I (withS T x2 x3),I 0,I 0,I 0,I 0,I 0,I 0,I 0]
    have g5:=setRow_heap v b5 _ #[I 0,I 0,I (withS T x0 x1),I (withS T x2 x3),I 0,I 0,I 0,I 0,I 0,I 0,I 0] _ _ G5.out
    clear G5 hS
    generalize v.setRow _ _=v at hS2 g5 ⊢
    refine hK.out _ _ hS2 (fun hS=>?_)
    clear hK K hS2
    refine wpAnyH_done (by kernel_rfl) ?_ _
    exact HQ.out _ _ _ _ _ _ _ _ _ _ _ _ _ _ _ _ _ _ _ _ _ _ _ _ b5 _ b5lt g5 hS
  ·go_simp
   have g5:=heap_alloc_new v (.cells #[I 0,I 0,I 0,I 0,I 0,I 0,I 0,I 0,I 0,I 0,I 0] 75)
   have b5lt:w.heap.size+1 < v.heap.size:=by have:=HS.out;have:=hS.size;omega
   have b5u:u.heap.size≤v.heap.size:=hS.size
   refine hK.out _ _ (hS.alloc hS.size _) (fun hS=>?_)
   clear hK K
   generalize v.heap.size=b5 at g5 b5lt b5u ⊢
   generalize World.alloc v _=v at g5 hS ⊢
   have G5:=Lib.hid g5
   clear g5
   refine wpAnyH_ready (rs:=[9]) (by kernel_rfl) (by simp) (AllReadyH.cons rfl (fun K hK=>?_) AllReadyH.nil)
   go_simp
   refine (F1.out _ (HB.out.trans (hS.mono HB.out.size))).mono ?_
   rintro e w' ⟨rfl,hq⟩
   subst w'
   go_simp
   refine hK.out _ _ hS (fun hS=>?_)
   clear hK K
   refine wpAnyH_ready (rs:=[10]) (by kernel_rfl) (by simp) (AllReadyH.cons rfl (fun K hK=>?_) AllReadyH.nil)
   go_simp
   refine (WC.out x0 x1 _ (HB.out.trans (hS.mono HB.out.size))).mono ?_
   rintro e v ⟨rfl,hb⟩
   go_simp
   have G5b:=Lib.hid ((hb.block _ (Array.getElem?_eq_some_iff.1 G5.out).1).trans G5.out)
   clear G5
   have G5:=G5b
   clear G5b
   refine hK.out _ _ (Below.trans hS (hb.mono hS.size)) (fun hS=>?_)
   clear hK K hb
   refine wpAnyH_ready (rs:=[16]) (by kernel_rfl) (by simp) (AllReadyH.cons rfl (fun K hK=>?_) AllReadyH.nil)
   go_simp
   refine (F2.out _ (HB.out.trans (hS.mono HB.out.size))).mono ?_
   rintro e w' ⟨rfl,hq⟩
   subst w'
   go_simp
   refine hK.out _ _ hS (fun hS=>?_)
   clear hK K
   refine wpAnyH_ready (rs:=[21]) (by kernel_rfl) (by simp) (AllReadyH.cons rfl (fun K hK=>?_) AllReadyH.nil)
   go_simp
   refine (F3.out _ (HB.out.trans (hS.mono HB.out.size))).mono ?_
   rintro e w' ⟨rfl,hq⟩
   subst w'
   go_simp
   refine hK.out _ _ hS (fun hS=>?_)
   clear hK K
   refine wpAnyH_ready (rs:=[22]) (by kernel_rfl) (by simp) (AllReadyH.cons rfl (fun K hK=>?_) AllReadyH.nil)
   go_simp
   refine (WC.out x2 x3 _ (HB.out.trans (hS.mono HB.out.size))).mono ?_
   rintro e v ⟨rfl,hb⟩
   go_simp
   have G5b:=Lib.hid ((hb.block _ (Array.getElem?_eq_some_iff.1 G5.out).1).trans G5.out)
   clear G5
   have G5:=G5b
   clear G5b
   refine hK.out _ _ (Below.trans hS (hb.mono hS.size)) (fun hS=>?_)
   clear hK K hb
   refine Held.take (i:=23) (some 34) rfl (v:=?_) rfl (by kernel_rfl) (by kernel_rfl) (by kernel_rfl) (fun c a w h=>hP c _ a w (by rfl) h) (Or.inl ⟨by rfl,?_⟩) hS ?_
   rotate_left
   ·intro w' hw'
    go_simp
    try with_reducible rfl
   (try dsimp only [Act.put]);(try simp only [List.setIfInBounds_toArray,List.set_cons_zero,List.set_cons_succ])
   refine wpAnyH_ready (rs:=[25]) (by kernel_rfl) (by simp) (AllReadyH.cons rfl (fun K hK=>?_) AllReadyH.nil)
   rw [if_pos (by rfl)]
   refine Same.wp_store_whole 75 _ _ rfl b5 #[I 0,I 0,I (withS T x0 x1),I (withS T x2 x3),I 0,I 0,I 0,I 0,I 0,I 0,I 0] rfl rfl 75 _ G5.out infoR rfl (by simp [Value.oneCell']) rfl ?_
   have hS2:=below_setRow hS (g:=b5) (by omega) #[I 0,I 0,I (withS T x0 x1),I (withS T x2 x3),I 0,I 0,I 0,I 0,I 0,I 0,I 0]
   have g5:=setRow_heap v b5 _ #[I 0,I 0,I (withS T x0 x1),I (withS T x2 x3),I 0,I 0,I 0,I 0,I 0,I 0,I 0] _ _ G5.out
   clear G5 hS
   generalize v.setRow _ _=v at hS2 g5 ⊢
   refine hK.out _ _ hS2 (fun hS=>?_)
   clear hK K hS2
   refine wpAnyH_done (by kernel_rfl) ?_ _
   exact HQ.out _ _ _ _ _ _ _ _ _ _ _ _ _ _ _ _ _ _ _ _ _ _ _ _ b5 _ b5lt g5 hS
 ·go_simp
  have g5:=heap_alloc_new v (.cells #[I 0,I 0,I 0,I 0,I 0,I 0,I 0,I 0,I 0,I 0,I 0] 75)
  have b5lt:w.heap.size+1 < v.heap.size:=by have:=HS.out;have:=hS.size;omega
  have b5u:u.heap.size≤v.heap.size:=hS.size
  refine hK.out _ _ (hS.alloc hS.size _) (fun hS=>?_)
  clear hK K
  generalize v.heap.size=b5 at g5 b5lt b5u ⊢
  generalize World.alloc v _=v at g5 hS ⊢
  have G5:=Lib.hid g5
  clear g5
  refine wpAnyH_ready (rs:=[4]) (by kernel_rfl) (by simp) (AllReadyH.cons rfl (fun K hK=>?_) AllReadyH.nil)
  go_simp
  refine (F0.out _ (HB.out.trans (hS.mono HB.out.size))).mono ?_
  rintro e w' ⟨rfl,hq⟩
  subst w'
  go_simp
  refine hK.out _ _ hS (fun hS=>?_)
  clear hK K
  refine wpAnyH_ready (rs:=[9]) (by kernel_rfl) (by simp) (AllReadyH.cons rfl (fun K hK=>?_) AllReadyH.nil)
  go_simp
  refine (F1.out _ (HB.out.trans (hS.mono HB.out.size))).mono ?_
  rintro e w' ⟨rfl,hq⟩
  subst w'
  go_simp
  refine hK.out _ _ hS (fun hS=>?_)
  clear hK K
  refine wpAnyH_ready (rs:=[10]) (by kernel_rfl) (by simp) (AllReadyH.cons rfl (fun K hK=>?_) AllReadyH.nil)
  go_simp
  refine (WC.out x0 x1 _ (HB.out.trans (hS.mono HB.out.size))).mono ?_
  rintro e v ⟨rfl,hb⟩
  go_simp
  have G5b:=Lib.hid ((hb.block _ (Array.getElem?_eq_some_iff.1 G5.out).1).trans G5.out)
  clear G5
  have G5:=G5b
  clear G5b
  refine hK.out _ _ (Below.trans hS (hb.mono hS.size)) (fun hS=>?_)
  clear hK K hb
  refine wpAnyH_ready (rs:=[16]) (by kernel_rfl) (by simp) (AllReadyH.cons rfl (fun K hK=>?_) AllReadyH.nil)
  go_simp
  refine (F2.out _ (HB.out.trans (hS.mono HB.out.size))).mono ?_
  rintro e w' ⟨rfl,hq⟩
  subst w'
  go_simp
  refine hK.out _ _ hS (fun hS=>?_)
  clear hK K
  refine wpAnyH_ready (rs:=[21]) (by kernel_rfl) (by simp) (AllReadyH.cons rfl (fun K hK=>?_) AllReadyH.nil)
  go_simp
  refine (F3.out _ (HB.out.trans (hS.mono HB.out.size))).mono ?_
  rintro e w' ⟨rfl,hq⟩
  subst w'
  go_simp
  refine hK.out _ _ hS (fun hS=>?_)
  clear hK K
  refine wpAnyH_ready (rs:=[22]) (by kernel_rfl) (by simp) (AllReadyH.cons rfl (fun K hK=>?_) AllReadyH.nil)
  go_simp
  refine (WC.out x2 x3 _ (HB.out.trans (hS.mono HB.out.size))).mono ?_
  rintro e v ⟨rfl,hb⟩
  go_simp
  have G5b:=Lib.hid ((hb.block _ (Array.getElem?_eq_some_iff.1 G5.out).1).trans G5.out)
  clear G5
  have G5:=G5b
  clear G5b
  refine hK.out _ _ (Below.trans hS (hb.mono hS.size)) (fun hS=>?_)
  clear hK K hb
  refine Held.take (i:=23) (some 34) rfl (v:=?_) rfl (by kernel_rfl) (by kernel_rfl) (by kernel_rfl) (fun c a w h=>hP c _ a w (by rfl) h) (Or.inl ⟨by rfl,?_⟩) hS ?_
  rotate_left
  ·intro w' hw'
   go_simp
   try with_reducible rfl
  (try dsimp only [Act.put]);(try simp only [List.setIfInBounds_toArray,List.set_cons_zero,List.set_cons_succ])
  refine wpAnyH_ready (rs:=[25]) (by kernel_rfl) (by simp) (AllReadyH.cons rfl (fun K hK=>?_) AllReadyH.nil)
  rw [if_pos (by rfl)]
  refine Same.wp_store_whole 75 _ _ rfl b5 #[I 0,I 0,I (withS T x0 x1),I (withS T x2 x3),I 0,I 0,I 0,I 0,I 0,I 0,I 0] rfl rfl 75 _ G5.out infoR rfl (by simp [Value.oneCell']) rfl ?_
  have hS2:=below_setRow hS (g:=b5) (by omega) #[I 0,I 0,I (withS T x0 x1),I (withS T x2 x3),I 0,I 0,I 0,I 0,I 0,I 0,I 0]
  have g5:=setRow_heap v b5 _ #[I 0,I 0,I (withS T x0 x1),I (withS T x2 x3),I 0,I 0,I 0,I 0,I 0,I 0,I 0] _ _ G5.out
  clear G5 hS
  generalize v.setRow _ _=v at hS2 g5 ⊢
  refine hK.out _ _ hS2 (fun hS=>?_)
  clear hK K hS2
  refine wpAnyH_done (by kernel_rfl) ?_ _
  exact HQ.out _ _ _ _ _ _ _ _ _ _ _ _ _ _ _ _ _ _ _ _ _ _ _ _ b5 _ b5lt g5 hS
end GenR
namespace GenR
open Go.ChangeShapes Go.WideShapes Go.ChangeAt Go.RowKit
open Tab Clone RefS
open May (infoR infoT)
open GenW Where
open Same (below_setRow)
theorem infoRz:(Tryz.prog.info? 75).map (fun i=>(i.zero,i.size))=some (some (.agg #[I 0,I 0,I 0,I 0,I 0,I 0,I 0,I 0,I 0,I 0,I 0]),11):=by kernel_rfl
def maskV (n:Int):Int:=IntKind.i64.wrap (IntKind.i64.wrap (2 ^ min (IntKind.u64.wrap n).toNat 64) - 1)
def barsV (x d n:Int):Int:=bits .andNot .i64 (bits .and .i64 x (maskV n)) d
def limTab (x:Int):Int:=[10000,400,20].getD x.toNat 0
theorem lim_range (x:Int):0≤limTab x∧limTab x≤10000:=by
 unfold limTab
 match x.toNat with
 | 0 | 1 | 2=>decide
 | _+3=>exact ⟨show (0:Int)≤0 from by decide,show (0:Int)≤10000 from by decide⟩
theorem lim_0 (w:World):Sem.run Tryz.prog (Instr.index 132 (.agg #[I 10000,I 400,I 20]) (.int .i64 0)) w=.ok (I (limTab 0)) w:=by kernel_rfl
theorem lim_1 (w:World):Sem.run Tryz.prog (Instr.index 132 (.agg #[I 10000,I 400,I 20]) (.int .i64 1)) w=.ok (I (limTab 1)) w:=by kernel_rfl
theorem lim_2 (w:World):Sem.run Tryz.prog (Instr.index 132 (.agg #[I 10000,I 400,I 20]) (.int .i64 2)) w=.ok (I (limTab 2)) w:=by kernel_rfl
theorem lim_at (x:Int) (h0:0≤x) (h1:x < 3) (w:World):Sem.run Tryz.prog (Instr.index 132 (.agg #[I 10000,I 400,I 20]) (.int .i64 x)) w=.ok (I (limTab x)) w:=by
 have:x=0∨x=1∨x=2:=by omega
 rcases this with rfl | rfl | rfl
 ·exact lim_0 w
 ·exact lim_1 w
 ·exact lim_2 w
def genRl (T:Tab) (L:List Int) (i n:Int):Rl :=
 let dwell:=withS T (num L i n) (num L (i+1) n)
 let p:=num L (i+4) (n+1)
 let stay:=1+num L (i+11) 15
 ⟨barsV (num L (i+7) 256) dwell n,if p < n then withS T p (num L (i+5) n) else 0,dwell,withS T (num L (i+2) n) (num L (i+3) n),
  num L (i+8) 4,1+num L (i+9) 6,num L (i+10) 6,if p < n then 1+num L (i+6) 10 else 0,stay,if num L (i+12) 3=1 then stay+num L (i+13) 30 else 0,num L (i+8) 4+1+limTab (num L (i+14) 3)⟩
theorem rail_any (T:Tab) (hd:Hd) (a:Option Addr) (cap:Nat) (L:List Int) (i n:Int) (w:World) (ht:IsTab w hd T) (sm:PlaceM.Few T) (h:IntRow w ⟨a,cap⟩ L) (h0:0≤i) (h1:i≤100000) (n0:0 < n) (n8:n≤8) :
  Calls Tryz.prog 39 #[.agg (T.cells hd).toArray,.slice a L.length cap,.int .i64 i,.int .i64 n] w fun e w'=>e=.returned (.agg (genRl T L i n).cells.toArray)∧Below w.heap.size w w':=by
 obtain ⟨x0,hx0,⟨r0,s0⟩,F0⟩:∃ x:Int,x=num L i n∧(0≤x∧x < n)∧Hid (∀ W,Below w.heap.size w W→Calls Tryz.prog 36 #[.slice a L.length cap,.int .i64 i,.int .i64 n] W fun e w'=>e=.returned (.int .i64 x)∧w'=W):=⟨_,rfl,num_range _ _ _ (by omega),Lib.hid (fun W hb=>(from_any a cap L _ _ W (h.below hb) (by omega) (by omega) (by omega)).mono fun _ _ ⟨e,q⟩=>⟨e,q.symm⟩)⟩
 obtain ⟨x1,hx1,⟨r1,s1⟩,F1⟩:∃ x:Int,x=num L (i+1) n∧(0≤x∧x < n)∧Hid (∀ W,Below w.heap.size w W→Calls Tryz.prog 36 #[.slice a L.length cap,.int .i64 (i+1),.int .i64 n] W fun e w'=>e=.returned (.int .i64 x)∧w'=W):=⟨_,rfl,num_range _ _ _ (by omega),Lib.hid (fun W hb=>(from_any a cap L _ _ W (h.below hb) (by omega) (by omega) (by omega)).mono fun _ _ ⟨e,q⟩=>⟨e,q.symm⟩)⟩
 obtain ⟨x2,hx2,⟨r2,s2⟩,F2⟩:∃ x:Int,x=num L (i+2) n∧(0≤x∧x < n)∧Hid (∀ W,Below w.heap.size w W→Calls Tryz.prog 36 #[.slice a L.length cap,.int .i64 (i+2),.int .i64 n] W fun e w'=>e=.returned (.int .i64 x)∧w'=W):=⟨_,rfl,num_range _ _ _ (by omega),Lib.hid (fun W hb=>(from_any a cap L _ _ W (h.below hb) (by omega) (by omega) (by omega)).mono fun _ _ ⟨e,q⟩=>⟨e,q.symm⟩)⟩
 obtain ⟨x3,hx3,⟨r3,s3⟩,F3⟩:∃ x:Int,x=num L (i+3) n∧(0≤x∧x < n)∧Hid (∀ W,Below w.heap.size w W→Calls Tryz.prog 36 #[.slice a L.length cap,.int .i64 (i+3),.int .i64 n] W fun e w'=>e=.returned (.int .i64 x)∧w'=W):=⟨_,rfl,num_range _ _ _ (by omega),Lib.hid (fun W hb=>(from_any a cap L _ _ W (h.below hb) (by omega) (by omega) (by omega)).mono fun _ _ ⟨e,q⟩=>⟨e,q.symm⟩)⟩
 obtain ⟨x4,hx4,⟨r4,s4⟩,F4⟩:∃ x:Int,x=num L (i+4) (n+1)∧(0≤x∧x < (n+1))∧Hid (∀ W,Below w.heap.size w W→Calls Tryz.prog 36 #[.slice a L.length cap,.int .i64 (i+4),.int .i64 (n+1)] W fun e w'=>e=.returned (.int .i64 x)∧w'=W):=⟨_,rfl,num_range _ _ _ (by omega),Lib.hid (fun W hb=>(from_any a cap L _ _ W (h.below hb) (by omega) (by omega) (by omega)).mono fun _ _ ⟨e,q⟩=>⟨e,q.symm⟩)⟩
 obtain ⟨x5,hx5,⟨r5,s5⟩,F5⟩:∃ x:Int,x=num L (i+5) n∧(0≤x∧x < n)∧Hid (∀ W,Below w.heap.size w W→Calls Tryz.prog 36 #[.slice a L.length cap,.int .i64 (i+5),.int .i64 n] W fun e w'=>e=.returned (.int .i64 x)∧w'=W):=⟨_,rfl,num_range _ _ _ (by omega),Lib.hid (fun W hb=>(from_any a cap L _ _ W (h.below hb) (by omega) (by omega) (by omega)).mono fun _ _ ⟨e,q⟩=>⟨e,q.symm⟩)⟩
 obtain ⟨x6,hx6,⟨r6,s6⟩,F6⟩:∃ x:Int,x=num L (i+6) 10∧(0≤x∧x < 10)∧Hid (∀ W,Below w.heap.size w W→Calls Tryz.prog 36 #[.slice a L.length cap,.int .i64 (i+6),.int .i64 10] W fun e w'=>e=.returned (.int .i64 x)∧w'=W):=⟨_,rfl,num_range _ _ _ (by omega),Lib.hid (fun W hb=>(from_any a cap L _ _ W (h.below hb) (by omega) (by omega) (by omega)).mono fun _ _ ⟨e,q⟩=>⟨e,q.symm⟩)⟩
 obtain ⟨x7,hx7,⟨r7,s7⟩,F7⟩:∃ x:Int,x=num L (i+7) 256∧(0≤x∧x < 256)∧Hid (∀ W,Below w.heap.size w W→Calls Tryz.prog 36 #[.slice a L.length cap,.int .i64 (i+7),.int .i64 256] W fun e w'=>e=.returned (.int .i64 x)∧w'=W):=⟨_,rfl,num_range _ _ _ (by omega),Lib.hid (fun W hb=>(from_any a cap L _ _ W (h.below hb) (by omega) (by omega) (by omega)).mono fun _ _ ⟨e,q⟩=>⟨e,q.symm⟩)⟩
 obtain ⟨x8,hx8,⟨r8,s8⟩,F8⟩:∃ x:Int,x=num L (i+8) 4∧(0≤x∧x < 4)∧Hid (∀ W,Below w.heap.size w W→Calls Tryz.prog 36 #[.slice a L.length cap,.int .i64 (i+8),.int .i64 4] W fun e w'=>e=.returned (.int .i64 x)∧w'=W):=⟨_,rfl,num_range _ _ _ (by omega),Lib.hid (fun W hb=>(from_any a cap L _ _ W (h.below hb) (by omega) (by omega) (by omega)).mono fun _ _ ⟨e,q⟩=>⟨e,q.symm⟩)⟩
 obtain ⟨x9,hx9,⟨r9,s9⟩,F9⟩:∃ x:Int,x=num L (i+9) 6∧(0≤x∧x < 6)∧Hid (∀ W,Below w.heap.size w W→Calls Tryz.prog 36 #[.slice a L.length cap,.int .i64 (i+9),.int .i64 6] W fun e w'=>e=.returned (.int .i64 x)∧w'=W):=⟨_,rfl,num_range _ _ _ (by omega),Lib.hid (fun W hb=>(from_any a cap L _ _ W (h.below hb) (by omega) (by omega) (by omega)).mono fun _ _ ⟨e,q⟩=>⟨e,q.symm⟩)⟩
 obtain ⟨xa,hxa,⟨ra,sa⟩,Fa⟩:∃ x:Int,x=num L (i+10) 6∧(0≤x∧x < 6)∧Hid (∀ W,Below w.heap.size w W→Calls Tryz.prog 36 #[.slice a L.length cap,.int .i64 (i+10),.int .i64 6] W fun e w'=>e=.returned (.int .i64 x)∧w'=W):=⟨_,rfl,num_range _ _ _ (by omega),Lib.hid (fun W hb=>(from_any a cap L _ _ W (h.below hb) (by omega) (by omega) (by omega)).mono fun _ _ ⟨e,q⟩=>⟨e,q.symm⟩)⟩
 obtain ⟨xb,hxb,⟨rb,sb⟩,Fb⟩:∃ x:Int,x=num L (i+11) 15∧(0≤x∧x < 15)∧Hid (∀ W,Below w.heap.size w W→Calls Tryz.prog 36 #[.slice a L.length cap,.int .i64 (i+11),.int .i64 15] W fun e w'=>e=.returned (.int .i64 x)∧w'=W):=⟨_,rfl,num_range _ _ _ (by omega),Lib.hid (fun W hb=>(from_any a cap L _ _ W (h.below hb) (by omega) (by omega) (by omega)).mono fun _ _ ⟨e,q⟩=>⟨e,q.symm⟩)⟩
 obtain ⟨xc,hxc,⟨rc,sc⟩,Fc⟩:∃ x:Int,x=num L (i+12) 3∧(0≤x∧x < 3)∧Hid (∀ W,Below w.heap.size w W→Calls Tryz.prog 36 #[.slice a L.length cap,.int .i64 (i+12),.int .i64 3] W fun e w'=>e=.returned (.int .i64 x)∧w'=W):=⟨_,rfl,num_range _ _ _ (by omega),Lib.hid (fun W hb=>(from_any a cap L _ _ W (h.below hb) (by omega) (by omega) (by omega)).mono fun _ _ ⟨e,q⟩=>⟨e,q.symm⟩)⟩
 obtain ⟨xd,hxd,⟨rd,sd⟩,Fd⟩:∃ x:Int,x=num L (i+13) 30∧(0≤x∧x < 30)∧Hid (∀ W,Below w.heap.size w W→Calls Tryz.prog 36 #[.slice a L.length cap,.int .i64 (i+13),.int .i64 30] W fun e w'=>e=.returned (.int .i64 x)∧w'=W):=⟨_,rfl,num_range _ _ _ (by omega),Lib.hid (fun W hb=>(from_any a cap L _ _ W (h.below hb) (by omega) (by omega) (by omega)).mono fun _ _ ⟨e,q⟩=>⟨e,q.symm⟩)⟩
 obtain ⟨xg,hxg,⟨rg,sg⟩,Fg⟩:∃ x:Int,x=num L (i+14) 3∧(0≤x∧x < 3)∧Hid (∀ W,Below w.heap.size w W→Calls Tryz.prog 36 #[.slice a L.length cap,.int .i64 (i+14),.int .i64 3] W fun e w'=>e=.returned (.int .i64 x)∧w'=W):=⟨_,rfl,num_range _ _ _ (by omega),Lib.hid (fun W hb=>(from_any a cap L _ _ W (h.below hb) (by omega) (by omega) (by omega)).mono fun _ _ ⟨e,q⟩=>⟨e,q.symm⟩)⟩
 have hsz:=(cells_ok ht).size
 have IA:Hid ((Tryz.prog.info? 33).map (·.size)=some (T.cells hd).length):=Lib.hid (by rw [List.size_toArray] at hsz;rw [hsz];exact infoT)
 have WC:Hid (∀ (p q:Int) W,Below w.heap.size w W→Calls Tryz.prog 73 #[.agg (T.cells hd).toArray,.int .i64 p,.int .i64 q] W fun e w'=>e=.returned (.int .i64 (withS T p q))∧Below W.heap.size W w'):=Lib.hid (fun p q W hb=>with_any T hd p q W (ht.below hb) sm)
 generalize T.cells hd=c at *
 clear ht sm h
 obtain ⟨bv,hbv,EB⟩:∃ v:Int,v=barsV x7 (withS T x0 x1) n∧Hid (bits .andNot .i64 (bits .and .i64 x7 (IntKind.i64.wrap (IntKind.i64.wrap (2 ^ min (IntKind.u64.wrap n).toNat 64) - 1))) (withS T x0 x1)=v):=⟨_,rfl,Lib.hid rfl⟩
 obtain ⟨vg,hvg,⟨rv,sv⟩,EG⟩:∃ v:Int,v=limTab xg∧(0≤v∧v≤10000)∧Hid (∀ w,Sem.run Tryz.prog (Instr.index 132 (.agg #[I 10000,I 400,I 20]) (.int .i64 xg)) w=.ok (.int .i64 v) w):=⟨_,rfl,lim_range xg,Lib.hid (fun w=>lim_at xg rg sg w)⟩
 have RES:Hid (genRl T L i n=⟨bv,if x4 < n then withS T x4 x5 else 0,withS T x0 x1,withS T x2 x3,x8,1+x9,xa,if x4 < n then 1+x6 else 0,1+xb,if xc=1 then 1+xb+xd else 0,x8+1+vg⟩):=Lib.hid (by subst hbv hvg hx0 hx1 hx2 hx3 hx4 hx5 hx6 hx7 hx8 hx9 hxa hxb hxc hxd hxg;rfl)
 generalize genRl T L i n=R at RES ⊢
 clear hbv hvg
 clear hx0 hx1 hx2 hx3 hx4 hx5 hx6 hx7 hx8 hx9 hxa hxb hxc hxd hxg
 have hz:=(zero_of_info infoRz).1
 have hb:=((Below.refl w.heap.size w).alloc (Nat.le_refl _) (.cells c.toArray 33)).alloc (by simp) (.cells #[I 0,I 0,I 0,I 0,I 0,I 0,I 0,I 0,I 0,I 0,I 0] 75)
 have g0:=heap_alloc2_old w (.cells c.toArray 33) (.cells #[I 0,I 0,I 0,I 0,I 0,I 0,I 0,I 0,I 0,I 0,I 0] 75)
 have g4:=heap_alloc2_new w (.cells c.toArray 33) (.cells #[I 0,I 0,I 0,I 0,I 0,I 0,I 0,I 0,I 0,I 0,I 0] 75)
 have hs:((w.alloc (.cells c.toArray 33)).alloc (.cells #[I 0,I 0,I 0,I 0,I 0,I 0,I 0,I 0,I 0,I 0,I 0] 75)).heap.size=w.heap.size+2:=by simp
 have HB:=Lib.hid hb
 have G0:=Lib.hid g0
 have G4:=Lib.hid g4
 have HS:=Lib.hid hs
 clear hb g0 g4 hs
 go_enter Tryz.func39,Tryz.ntmps39
 go_upto_region 1 with fail
 generalize (World.alloc (World.alloc w _) _)=u at HB G0 G4 HS ⊢
 clear hsz hz
 have LT:Hid (∀ w',Below u.heap.size u w'→Lies w' ⟨w.heap.size,0,none⟩ c):=Lib.hid (fun w' hb=>by
  have:=(Row.lies_of_block G0.out)
  exact Lies.below this hb)
 refine rail1_rg (fun c a a' w e h=>by cases a;cases a';cases e;exact h) T c a cap L i n x0 x1 x2 x3 w u h0 h1 IA HB HS LT F0 F1 F2 F3 WC _ _ _ _ _ _ _ _ _ _ _ _ _ _ _ _ _ _ _ _ _ _ _ _ _ _ _ _ _ _ _ _ _ _ _ _ _ _ _ _ _ _ _ _ _ _ _ _ _ _ _ _ _ _ _ _ _ _ _ _ _ _ _ _ _ _ _ _ _ _ _ _ _ _ _ _ _ _ _ _ _ _ _ _ _ _ _ _ _ _ _ _ _ _ _ _ _ _ _ _ _ _ _ _ _ _ _ _ _ _ _ _ _ _ _ (Lib.hid ?_)
 intro x_11 x_12 x_13 x_14 x_15 x_16 x_17 x_18 x_19 x_20 x_21 x_22 x_23 x_24 x_25 x_26 x_27 x_28 x_29 x_30 x_31 x_32 x_33 x_34 b5 wx b5lt g5 hbx
 have hb:=HB.out.trans (hbx.mono HB.out.size)
 have gG0:=(hbx.block _ (by have:=HS.out;omega)).trans G0.out
 have gG4:=(hbx.block _ (by have:=HS.out;omega)).trans G4.out
 clear HB G0 G4 HS LT hbx
 generalize wx=u0 at gG0 gG4 g5 hb ⊢
 have G0:=Lib.hid gG0
 have G4:=Lib.hid gG4
 have G5:=Lib.hid g5
 have HB:=Lib.hid hb
 clear gG0 gG4 g5 hb
 go_wp2_with fail
 refine (F4.out _ HB.out).mono ?_
 rintro e w' ⟨rfl,hq⟩
 subst w'
 by_cases h4:x4 < n
 ·have H4:=Lib.hid h4
  go_upto_region 4 with fail
  clear h4
  have LT:Hid (∀ w',Below b5 u0 w'→Lies w' ⟨w.heap.size,0,none⟩ c):=Lib.hid (fun w' hb=>by
   have g:=(hb.block w.heap.size (by omega)).trans G0.out
   have:=Row.lies_of_block g
   simpa using this)
  have e5:IntKind.i64.wrap (i+5)=i+5:=by rw [IntKind.wrap_i64];omega
  refine wp_region_held (S:=fun w'=>Below b5 u0 w') (by kernel_rfl) ?_
  have hS:Below b5 u0 { u0 with drawn:=u0.drawn+1 }:=(Below.refl _ _).drew
  have G5v:Hid (({ u0 with drawn:=u0.drawn+1 }:World).heap[b5]?=some (.cells #[I 0,I 0,I (withS T x0 x1),I (withS T x2 x3),I 0,I 0,I 0,I 0,I 0,I 0,I 0] 75 (0,0))):=Lib.hid G5.out
  generalize ({ u0 with drawn:=u0.drawn+1 }:World)=v at hS G5v ⊢
  refine Held.take_load (i:=0) (some 44) rfl 33 _ ⟨w.heap.size,0,none⟩ c _ rfl rfl (by kernel_rfl) (by kernel_rfl) (by kernel_rfl) (fun _ _ _ h=>h) (by rfl) hS rfl (LT.out) Tryz.underlying33 rfl IA.out ?_
  (try dsimp only [Act.put]);(try simp only [List.setIfInBounds_toArray,List.set_cons_zero,List.set_cons_succ])
  refine Held.take (i:=1) (some 45) rfl (v:=?_) rfl (by kernel_rfl) (by kernel_rfl) (by kernel_rfl) (fun _ _ _ h=>h) (Or.inl ⟨by rfl,?_⟩) hS ?_
  rotate_left
  ·intro w' hw'
   go_simp
   try with_reducible rfl
  (try dsimp only [Act.put]);(try simp only [List.setIfInBounds_toArray,List.set_cons_zero,List.set_cons_succ])
  refine Held.take (i:=2) (some 46) rfl (v:=?_) rfl (by kernel_rfl) (by kernel_rfl) (by kernel_rfl) (fun _ _ _ h=>h) (Or.inl ⟨by rfl,?_⟩) hS ?_
  rotate_left
  ·intro w' hw'
   go_simp
   try with_reducible rfl
  (try dsimp only [Act.put]);(try simp only [List.setIfInBounds_toArray,List.set_cons_zero,List.set_cons_succ])
  refine Held.take (i:=3) (some 47) rfl (v:=?_) rfl (by kernel_rfl) (by kernel_rfl) (by kernel_rfl) (fun _ _ _ h=>h) (Or.inl ⟨by rfl,?_⟩) hS ?_
  rotate_left
  ·intro w' hw'
   go_simp
   try with_reducible rfl
  (try dsimp only [Act.put]);(try simp only [List.setIfInBounds_toArray,List.set_cons_zero,List.set_cons_succ])
  refine Held.take (i:=4) (some 48) rfl (v:=?_) rfl (by kernel_rfl) (by kernel_rfl) (by kernel_rfl) (fun _ _ _ h=>h) (Or.inl ⟨by rfl,?_⟩) hS ?_
  rotate_left
  ·intro w' hw'
   go_simp
   try with_reducible rfl
  (try dsimp only [Act.put]);(try simp only [List.setIfInBounds_toArray,List.set_cons_zero,List.set_cons_succ])
  refine Held.take (i:=5) (some 49) rfl (v:=?_) rfl (by kernel_rfl) (by kernel_rfl) (by kernel_rfl) (fun _ _ _ h=>h) (Or.inl ⟨by rfl,?_⟩) hS ?_
  rotate_left
  ·intro w' hw'
   go_simp
   try with_reducible rfl
  (try dsimp only [Act.put]);(try simp only [List.setIfInBounds_toArray,List.set_cons_zero,List.set_cons_succ])
  refine wpAnyH_ready (rs:=[6]) (by kernel_rfl) (by simp) (AllReadyH.cons rfl (fun K hK=>?_) AllReadyH.nil)
  go_simp
  refine (F5.out _ (HB.out.trans (hS.mono (by omega)))).mono ?_
  rintro e w' ⟨rfl,hq⟩
  subst w'
  go_simp
  refine hK.out _ _ hS (fun hS=>?_)
  clear hK K
  refine wpAnyH_ready (rs:=[7]) (by kernel_rfl) (by simp) (AllReadyH.cons rfl (fun K hK=>?_) AllReadyH.nil)
  go_simp
  refine (WC.out x4 x5 _ (HB.out.trans (hS.mono (by omega)))).mono ?_
  rintro e v ⟨rfl,hb⟩
  go_simp
  have hlt:=(Array.getElem?_eq_some_iff.1 G5v.out).1
  have G5w:=Lib.hid ((hb.block _ hlt).trans G5v.out)
  refine hK.out _ _ (hS.trans (hb.mono (by omega))) (fun hS=>?_)
  clear hK K hb hlt G5v
  refine Held.take (i:=8) (some 52) rfl (v:=?_) rfl (by kernel_rfl) (by kernel_rfl) (by kernel_rfl) (fun _ _ _ h=>h) (Or.inl ⟨by rfl,?_⟩) hS ?_
  rotate_left
  ·intro w' hw'
   go_simp
   try with_reducible rfl
  (try dsimp only [Act.put]);(try simp only [List.setIfInBounds_toArray,List.set_cons_zero,List.set_cons_succ])
  have c1:v.cell? ⟨b5,1,none⟩=some (I 0):=by rw [cell_of_row _ _ _ _ _ _ G5w.out];rfl
  have f1:v.frozen? ⟨b5,1,none⟩=false:=frozen_of_row _ _ _ _ _ G5w.out
  refine wpAnyH_ready (rs:=[9]) (by kernel_rfl) (by simp) (AllReadyH.cons rfl (fun K hK=>?_) AllReadyH.nil)
  go_simp
  have hS2:=Owned.below_write hS (Nat.le_refl b5) (i:=1) (.int .i64 (withS T x4 x5))
  have g5:=heap_setCell_same v b5 1 _ _ (.int .i64 (withS T x4 x5)) G5w.out
  simp only [List.setIfInBounds_toArray,List.set_cons_succ,List.set_cons_zero] at g5
  clear c1 f1 G5w hS
  generalize World.setCell v ⟨b5,1,none⟩ _=v at hS2 g5 ⊢
  refine hK.out _ _ hS2 (fun hS=>?_)
  clear hK K
  refine wpAnyH_done (by kernel_rfl) ?_ _
  have hb:=HB.out.trans (hS2.mono (by omega))
  have gG0:=(hS2.block w.heap.size (by omega)).trans G0.out
  have gG4:=(hS2.block (w.heap.size+1) (by omega)).trans G4.out
  clear HB G0 G4 G5 hS hS2 LT e5
  generalize v=u1 at gG0 gG4 g5 hb ⊢
  have G0:=Lib.hid gG0
  have G4:=Lib.hid gG4
  have G5:=Lib.hid g5
  have HB:=Lib.hid hb
  clear gG0 gG4 g5 hb
  go_upto_region 5 with fail
  have c7:u1.cell? ⟨b5,7,none⟩=some (I 0):=by rw [cell_of_row _ _ _ _ _ _ G5.out];rfl
  have f7:u1.frozen? ⟨b5,7,none⟩=false:=frozen_of_row _ _ _ _ _ G5.out
  go_wp2_with fail
  refine (F6.out _ HB.out).mono ?_
  rintro e w' ⟨rfl,hq⟩
  subst w'
  go_upto_region 6 with fail
  have g5:=heap_setCell_same u1 b5 7 _ _ (I (1+x6)) G5.out
  simp only [List.setIfInBounds_toArray,List.set_cons_succ,List.set_cons_zero] at g5
  have gG0:=(Below.heap_setCell u1 ⟨b5,7,none⟩ (I (1+x6)) w.heap.size (by simp;omega)).trans G0.out
  have gG4:=(Below.heap_setCell u1 ⟨b5,7,none⟩ (I (1+x6)) (w.heap.size+1) (by simp;omega)).trans G4.out
  have hb:=Owned.below_write HB.out (g:=b5) (i:=7) (by omega) (I (1+x6))
  clear c7 f7 G0 G4 G5 HB
  generalize World.setCell u1 ⟨b5,7,none⟩ (I (1+x6))=u2 at gG0 gG4 g5 hb ⊢
  have G0:=Lib.hid gG0
  have G4:=Lib.hid gG4
  have G5:=Lib.hid g5
  have HB:=Lib.hid hb
  clear gG0 gG4 g5 hb
  have e0:IntKind.i64.wrap (i+7)=i+7:=by rw [IntKind.wrap_i64];omega
  have eb:=EB.out
  have gG0:u2.drew.heap[w.heap.size]?=some (.cells c.toArray 33 (0,0)):=G0.out
  have gG4:u2.drew.heap[(w.heap.size+1)]?=some (.cells #[I 0,I 0,I 0,I 0,I 0,I 0,I 0,I 0,I 0,I 0,I 0] 75 (0,0)):=G4.out
  have g5:u2.drew.heap[b5]?=some (.cells #[I 0,I (withS T x4 x5),I (withS T x0 x1),I (withS T x2 x3),I 0,I 0,I 0,I (1+x6),I 0,I 0,I 0] 75 (0,0)):=G5.out
  have hb:Below w.heap.size w u2.drew:=HB.out.drew
  clear G0 G4 G5 HB
  refine QB.region_tail 13 (by kernel_rfl) (by kernel_rfl) ?_
  generalize World.drew u2=u3 at gG0 gG4 g5 hb ⊢
  have G0:=Lib.hid gG0
  have G4:=Lib.hid gG4
  have G5:=Lib.hid g5
  have HB:=Lib.hid hb
  clear gG0 gG4 g5 hb
  have c0:u3.cell? ⟨b5,0,none⟩=some (I 0):=by rw [cell_of_row _ _ _ _ _ _ G5.out];rfl
  have c2:u3.cell? ⟨b5,2,none⟩=some (I (withS T x0 x1)):=by rw [cell_of_row _ _ _ _ _ _ G5.out];rfl
  have f0:u3.frozen? ⟨b5,0,none⟩=false:=frozen_of_row _ _ _ _ _ G5.out
  simp only [List.take_succ_cons,List.take_zero,List.drop_succ_cons,List.drop_zero]
  repeat still_step
  still_call (F7.out _ HB.out)
  repeat still_step
  refine wpStill_nil ?_
  go_upto_region 7 with fail
  clear e0 eb
  have g5:=heap_setCell_same u3 b5 0 _ _ (I bv) G5.out
  simp only [List.setIfInBounds_toArray,List.set_cons_succ,List.set_cons_zero] at g5
  have gG0:=(Below.heap_setCell u3 ⟨b5,0,none⟩ (I bv) w.heap.size (by simp;omega)).trans G0.out
  have gG4:=(Below.heap_setCell u3 ⟨b5,0,none⟩ (I bv) (w.heap.size+1) (by simp;omega)).trans G4.out
  have hb:=Owned.below_write HB.out (g:=b5) (i:=0) (by omega) (I bv)
  clear c0 c2 f0 G0 G4 G5 HB
  generalize World.setCell u3 ⟨b5,0,none⟩ (I bv)=u4 at gG0 gG4 g5 hb ⊢
  have G0:=Lib.hid gG0
  have G4:=Lib.hid gG4
  have G5:=Lib.hid g5
  have HB:=Lib.hid hb
  clear gG0 gG4 g5 hb
  have c4:u4.cell? ⟨b5,4,none⟩=some (I 0):=by rw [cell_of_row _ _ _ _ _ _ G5.out];rfl
  have f4:u4.frozen? ⟨b5,4,none⟩=false:=frozen_of_row _ _ _ _ _ G5.out
  go_wp2_with fail
  refine (F8.out _ HB.out).mono ?_
  rintro e w' ⟨rfl,hq⟩
  subst w'
  go_upto_region 8 with fail
  have g5:=heap_setCell_same u4 b5 4 _ _ (I x8) G5.out
  simp only [List.setIfInBounds_toArray,List.set_cons_succ,List.set_cons_zero] at g5
  have gG0:=(Below.heap_setCell u4 ⟨b5,4,none⟩ (I x8) w.heap.size (by simp;omega)).trans G0.out
  have gG4:=(Below.heap_setCell u4 ⟨b5,4,none⟩ (I x8) (w.heap.size+1) (by simp;omega)).trans G4.out
  have hb:=Owned.below_write HB.out (g:=b5) (i:=4) (by omega) (I x8)
  clear c4 f4 G0 G4 G5 HB
  generalize World.setCell u4 ⟨b5,4,none⟩ (I x8)=u5 at gG0 gG4 g5 hb ⊢
  have G0:=Lib.hid gG0
  have G4:=Lib.hid gG4
  have G5:=Lib.hid g5
  have HB:=Lib.hid hb
  clear gG0 gG4 g5 hb
  have c5:u5.cell? ⟨b5,5,none⟩=some (I 0):=by rw [cell_of_row _ _ _ _ _ _ G5.out];rfl
  have f5:u5.frozen? ⟨b5,5,none⟩=false:=frozen_of_row _ _ _ _ _ G5.out
  go_wp2_with fail
  refine (F9.out _ HB.out).mono ?_
  rintro e w' ⟨rfl,hq⟩
  subst w'
  go_upto_region 9 with fail
  have g5:=heap_setCell_same u5 b5 5 _ _ (I (1+x9)) G5.out
  simp only [List.setIfInBounds_toArray,List.set_cons_succ,List.set_cons_zero] at g5
  have gG0:=(Below.heap_setCell u5 ⟨b5,5,none⟩ (I (1+x9)) w.heap.size (by simp;omega)).trans G0.out
  have gG4:=(Below.heap_setCell u5 ⟨b5,5,none⟩ (I (1+x9)) (w.heap.size+1) (by simp;omega)).trans G4.out
  have hb:=Owned.below_write HB.out (g:=b5) (i:=5) (by omega) (I (1+x9))
  clear c5 f5 G0 G4 G5 HB
  generalize World.setCell u5 ⟨b5,5,none⟩ (I (1+x9))=u6 at gG0 gG4 g5 hb ⊢
  have G0:=Lib.hid gG0
  have G4:=Lib.hid gG4
  have G5:=Lib.hid g5
  have HB:=Lib.hid hb
  clear gG0 gG4 g5 hb
  have c6:u6.cell? ⟨b5,6,none⟩=some (I 0):=by rw [cell_of_row _ _ _ _ _ _ G5.out];rfl
  have f6:u6.frozen? ⟨b5,6,none⟩=false:=frozen_of_row _ _ _ _ _ G5.out
  go_wp2_with fail
  refine (Fa.out _ HB.out).mono ?_
  rintro e w' ⟨rfl,hq⟩
  subst w'
  go_upto_region 10 with fail
  have g5:=heap_setCell_same u6 b5 6 _ _ (I xa) G5.out
  simp only [List.setIfInBounds_toArray,List.set_cons_succ,List.set_cons_zero] at g5
  have gG0:=(Below.heap_setCell u6 ⟨b5,6,none⟩ (I xa) w.heap.size (by simp;omega)).trans G0.out
  have gG4:=(Below.heap_setCell u6 ⟨b5,6,none⟩ (I xa) (w.heap.size+1) (by simp;omega)).trans G4.out
  have hb:=Owned.below_write HB.out (g:=b5) (i:=6) (by omega) (I xa)
  clear c6 f6 G0 G4 G5 HB
  generalize World.setCell u6 ⟨b5,6,none⟩ (I xa)=u7 at gG0 gG4 g5 hb ⊢
  have G0:=Lib.hid gG0
  have G4:=Lib.hid gG4
  have G5:=Lib.hid g5
  have HB:=Lib.hid hb
  clear gG0 gG4 g5 hb
  have c8:u7.cell? ⟨b5,8,none⟩=some (I 0):=by rw [cell_of_row _ _ _ _ _ _ G5.out];rfl
  have f8:u7.frozen? ⟨b5,8,none⟩=false:=frozen_of_row _ _ _ _ _ G5.out
  go_wp2_with fail
  refine (Fb.out _ HB.out).mono ?_
  rintro e w' ⟨rfl,hq⟩
  subst w'
  go_upto_region 11 with fail
  have g5:=heap_setCell_same u7 b5 8 _ _ (I (1+xb)) G5.out
  simp only [List.setIfInBounds_toArray,List.set_cons_succ,List.set_cons_zero] at g5
  have gG0:=(Below.heap_setCell u7 ⟨b5,8,none⟩ (I (1+xb)) w.heap.size (by simp;omega)).trans G0.out
  have gG4:=(Below.heap_setCell u7 ⟨b5,8,none⟩ (I (1+xb)) (w.heap.size+1) (by simp;omega)).trans G4.out
  have hb:=Owned.below_write HB.out (g:=b5) (i:=8) (by omega) (I (1+xb))
  clear c8 f8 G0 G4 G5 HB
  generalize World.setCell u7 ⟨b5,8,none⟩ (I (1+xb))=u8 at gG0 gG4 g5 hb ⊢
  have G0:=Lib.hid gG0
  have G4:=Lib.hid gG4
  have G5:=Lib.hid g5
  have HB:=Lib.hid hb
  clear gG0 gG4 g5 hb
  go_wp2_with fail
  refine (Fc.out _ HB.out).mono ?_
  rintro e w' ⟨rfl,hq⟩
  subst w'
  by_cases hc:xc=1
  ·have HC:=Lib.hid hc
   have ec:(xc == 1)=true:=by simpa using hc
   clear hc
   go_upto_region 12 with fail
   have e0:IntKind.i64.wrap (i+13)=i+13:=by rw [IntKind.wrap_i64];omega
   have e1:IntKind.i64.wrap (1+xb+xd)=1+xb+xd:=by rw [IntKind.wrap_i64];omega
   have gG0:u8.drew.heap[w.heap.size]?=some (.cells c.toArray 33 (0,0)):=G0.out
   have gG4:u8.drew.heap[(w.heap.size+1)]?=some (.cells #[I 0,I 0,I 0,I 0,I 0,I 0,I 0,I 0,I 0,I 0,I 0] 75 (0,0)):=G4.out
   have g5:u8.drew.heap[b5]?=some (.cells #[I bv,I (withS T x4 x5),I (withS T x0 x1),I (withS T x2 x3),I x8,I (1+x9),I xa,I (1+x6),I (1+xb),I 0,I 0] 75 (0,0)):=G5.out
   have hb:Below w.heap.size w u8.drew:=HB.out.drew
   clear G0 G4 G5 HB
   refine QB.region_tail 8 (by kernel_rfl) (by kernel_rfl) ?_
   generalize World.drew u8=u9 at gG0 gG4 g5 hb ⊢
   have G0:=Lib.hid gG0
   have G4:=Lib.hid gG4
   have G5:=Lib.hid g5
   have HB:=Lib.hid hb
   clear gG0 gG4 g5 hb
   have c8:u9.cell? ⟨b5,8,none⟩=some (I (1+xb)):=by rw [cell_of_row _ _ _ _ _ _ G5.out];rfl
   have c9:u9.cell? ⟨b5,9,none⟩=some (I 0):=by rw [cell_of_row _ _ _ _ _ _ G5.out];rfl
   have f9:u9.frozen? ⟨b5,9,none⟩=false:=frozen_of_row _ _ _ _ _ G5.out
   simp only [List.take_succ_cons,List.take_zero,List.drop_succ_cons,List.drop_zero]
   repeat still_step
   still_call (Fd.out _ HB.out)
   repeat still_step
   refine wpStill_nil ?_
   go_upto_region 13 with fail
   clear e0 e1
   have g5:=heap_setCell_same u9 b5 9 _ _ (I (1+xb+xd)) G5.out
   simp only [List.setIfInBounds_toArray,List.set_cons_succ,List.set_cons_zero] at g5
   have gG0:=(Below.heap_setCell u9 ⟨b5,9,none⟩ (I (1+xb+xd)) w.heap.size (by simp;omega)).trans G0.out
   have gG4:=(Below.heap_setCell u9 ⟨b5,9,none⟩ (I (1+xb+xd)) (w.heap.size+1) (by simp;omega)).trans G4.out
   have hb:=Owned.below_write HB.out (g:=b5) (i:=9) (by omega) (I (1+xb+xd))
   clear c8 c9 f9 G0 G4 G5 HB
   generalize World.setCell u9 ⟨b5,9,none⟩ (I (1+xb+xd))=u10 at gG0 gG4 g5 hb ⊢
   have G0:=Lib.hid gG0
   have G4:=Lib.hid gG4
   have G5:=Lib.hid g5
   have HB:=Lib.hid hb
   clear gG0 gG4 g5 hb
   have e0:IntKind.i64.wrap (x8+1)=x8+1:=by rw [IntKind.wrap_i64];omega
   have e1:IntKind.i64.wrap (i+14)=i+14:=by rw [IntKind.wrap_i64];omega
   have e2:IntKind.i64.wrap (x8+1+vg)=x8+1+vg:=by rw [IntKind.wrap_i64];omega
   have eg:=EG.out
   have gG0:u10.drew.heap[w.heap.size]?=some (.cells c.toArray 33 (0,0)):=G0.out
   have gG4:u10.drew.heap[(w.heap.size+1)]?=some (.cells #[I 0,I 0,I 0,I 0,I 0,I 0,I 0,I 0,I 0,I 0,I 0] 75 (0,0)):=G4.out
   have g5:u10.drew.heap[b5]?=some (.cells #[I bv,I (withS T x4 x5),I (withS T x0 x1),I (withS T x2 x3),I x8,I (1+x9),I xa,I (1+x6),I (1+xb),I (1+xb+xd),I 0] 75 (0,0)):=G5.out
   have hb:Below w.heap.size w u10.drew:=HB.out.drew
   clear G0 G4 G5 HB
   refine QB.region_tail 11 (by kernel_rfl) (by kernel_rfl) ?_
   generalize World.drew u10=u11 at gG0 gG4 g5 hb ⊢
   have G0:=Lib.hid gG0
   have G4:=Lib.hid gG4
   have G5:=Lib.hid g5
   have HB:=Lib.hid hb
   clear gG0 gG4 g5 hb
   have c4:u11.cell? ⟨b5,4,none⟩=some (I x8):=by rw [cell_of_row _ _ _ _ _ _ G5.out];rfl
   have c10:u11.cell? ⟨b5,10,none⟩=some (I 0):=by rw [cell_of_row _ _ _ _ _ _ G5.out];rfl
   have f10:u11.frozen? ⟨b5,10,none⟩=false:=frozen_of_row _ _ _ _ _ G5.out
   simp only [List.take_succ_cons,List.take_zero,List.drop_succ_cons,List.drop_zero]
   repeat still_step
   still_call (Fg.out _ HB.out)
   repeat still_step
   refine wpStill_nil ?_
   go_upto_region 14 with fail
   clear e0 e1 e2 eg
   have g5:=heap_setCell_same u11 b5 10 _ _ (I (x8+1+vg)) G5.out
   simp only [List.setIfInBounds_toArray,List.set_cons_succ,List.set_cons_zero] at g5
   have gG0:=(Below.heap_setCell u11 ⟨b5,10,none⟩ (I (x8+1+vg)) w.heap.size (by simp;omega)).trans G0.out
   have gG4:=(Below.heap_setCell u11 ⟨b5,10,none⟩ (I (x8+1+vg)) (w.heap.size+1) (by simp;omega)).trans G4.out
   have hb:=Owned.below_write HB.out (g:=b5) (i:=10) (by omega) (I (x8+1+vg))
   clear c4 c10 f10 G0 G4 G5 HB
   generalize World.setCell u11 ⟨b5,10,none⟩ (I (x8+1+vg))=u12 at gG0 gG4 g5 hb ⊢
   have G0:=Lib.hid gG0
   have G4:=Lib.hid gG4
   have G5:=Lib.hid g5
   have HB:=Lib.hid hb
   clear gG0 gG4 g5 hb
   have FIN:Hid (R.cells.toArray=#[I bv,I (withS T x4 x5),I (withS T x0 x1),I (withS T x2 x3),I x8,I (1+x9),I xa,I (1+x6),I (1+xb),I (1+xb+xd),I (x8+1+vg)]):=Lib.hid (by rw [RES.out];simp only [Rl.cells,if_pos H4.out,if_pos HC.out])
   have LV:Hid (Lies u12 ⟨b5,0,none⟩ #[I bv,I (withS T x4 x5),I (withS T x0 x1),I (withS T x2 x3),I x8,I (1+x9),I xa,I (1+x6),I (1+xb),I (1+xb+xd),I (x8+1+vg)].toList):=Lib.hid (Row.lies_of_block G5.out)
   have HG:=Lib.hid (below_setRow HB.out (g:=w.heap.size+1) (by omega) #[I bv,I (withS T x4 x5),I (withS T x0 x1),I (withS T x2 x3),I x8,I (1+x9),I xa,I (1+x6),I (1+xb),I (1+xb+xd),I (x8+1+vg)])
   have HK:=Lib.hid (setRow_heap u12 (w.heap.size+1) _ #[I bv,I (withS T x4 x5),I (withS T x0 x1),I (withS T x2 x3),I x8,I (1+x9),I xa,I (1+x6),I (1+xb),I (1+xb+xd),I (x8+1+vg)] _ _ G4.out)
   go_wp2_with (first | (refine Row.wpList_load_g 75 _ rfl (by first | rfl | go_simp) ⟨b5,0,none⟩ rfl #[I bv,I (withS T x4 x5),I (withS T x0 x1),I (withS T x2 x3),I x8,I (1+x9),I xa,I (1+x6),I (1+xb),I (1+xb+xd),I (x8+1+vg)].toList _ LV.out Tryz.underlying75 rfl infoR ?_) | (refine wpList_store_row rfl 75 _ _ rfl (w.heap.size+1) #[I bv,I (withS T x4 x5),I (withS T x0 x1),I (withS T x2 x3),I x8,I (1+x9),I xa,I (1+x6),I (1+xb),I (1+xb+xd),I (x8+1+vg)] rfl rfl 75 _ G4.out infoR rfl (by simp [Value.oneCell']) ?_))
   generalize u12.setRow (w.heap.size+1) #[I bv,I (withS T x4 x5),I (withS T x0 x1),I (withS T x2 x3),I x8,I (1+x9),I xa,I (1+x6),I (1+xb),I (1+xb+xd),I (x8+1+vg)]=uz at HG HK ⊢
   go_wp2_with fail
   (try simp only [Exit.inBlock,Exit.then])
   refine bodyPost_ret (v:=.agg #[I bv,I (withS T x4 x5),I (withS T x0 x1),I (withS T x2 x3),I x8,I (1+x9),I xa,I (1+x6),I (1+xb),I (1+xb+xd),I (x8+1+vg)]) ?_ rfl ⟨by rw [FIN.out],HG.out⟩
   exact results_cell_row rfl _ _ (w.heap.size+1) 75 _ (0,0) _ rfl HK.out Tryz.underlying75 rfl infoR
  ·have HC:=Lib.hid hc
   have ec:(xc == 1)=false:=by simpa using hc
   clear hc
   go_upto_region 13 with fail
   have e0:IntKind.i64.wrap (x8+1)=x8+1:=by rw [IntKind.wrap_i64];omega
   have e1:IntKind.i64.wrap (i+14)=i+14:=by rw [IntKind.wrap_i64];omega
   have e2:IntKind.i64.wrap (x8+1+vg)=x8+1+vg:=by rw [IntKind.wrap_i64];omega
   have eg:=EG.out
   have gG0:u8.drew.heap[w.heap.size]?=some (.cells c.toArray 33 (0,0)):=G0.out
   have gG4:u8.drew.heap[(w.heap.size+1)]?=some (.cells #[I 0,I 0,I 0,I 0,I 0,I 0,I 0,I 0,I 0,I 0,I 0] 75 (0,0)):=G4.out
   have g5:u8.drew.heap[b5]?=some (.cells #[I bv,I (withS T x4 x5),I (withS T x0 x1),I (withS T x2 x3),I x8,I (1+x9),I xa,I (1+x6),I (1+xb),I 0,I 0] 75 (0,0)):=G5.out
   have hb:Below w.heap.size w u8.drew:=HB.out.drew
   clear G0 G4 G5 HB
   refine QB.region_tail 11 (by kernel_rfl) (by kernel_rfl) ?_
   generalize World.drew u8=u9 at gG0 gG4 g5 hb ⊢
   have G0:=Lib.hid gG0
   have G4:=Lib.hid gG4
   have G5:=Lib.hid g5
   have HB:=Lib.hid hb
   clear gG0 gG4 g5 hb
   have c4:u9.cell? ⟨b5,4,none⟩=some (I x8):=by rw [cell_of_row _ _ _ _ _ _ G5.out];rfl
   have c10:u9.cell? ⟨b5,10,none⟩=some (I 0):=by rw [cell_of_row _ _ _ _ _ _ G5.out];rfl
   have f10:u9.frozen? ⟨b5,10,none⟩=false:=frozen_of_row _ _ _ _ _ G5.out
   simp only [List.take_succ_cons,List.take_zero,List.drop_succ_cons,List.drop_zero]
   repeat still_step
   still_call (Fg.out _ HB.out)
   repeat still_step
   refine wpStill_nil ?_
   go_upto_region 14 with fail
   clear e0 e1 e2 eg
   have g5:=heap_setCell_same u9 b5 10 _ _ (I (x8+1+vg)) G5.out
   simp only [List.setIfInBounds_toArray,List.set_cons_succ,List.set_cons_zero] at g5
   have gG0:=(Below.heap_setCell u9 ⟨b5,10,none⟩ (I (x8+1+vg)) w.heap.size (by simp;omega)).trans G0.out
   have gG4:=(Below.heap_setCell u9 ⟨b5,10,none⟩ (I (x8+1+vg)) (w.heap.size+1) (by simp;omega)).trans G4.out
   have hb:=Owned.below_write HB.out (g:=b5) (i:=10) (by omega) (I (x8+1+vg))
   clear c4 c10 f10 G0 G4 G5 HB
   generalize World.setCell u9 ⟨b5,10,none⟩ (I (x8+1+vg))=u10 at gG0 gG4 g5 hb ⊢
   have G0:=Lib.hid gG0
   have G4:=Lib.hid gG4
   have G5:=Lib.hid g5
   have HB:=Lib.hid hb
   clear gG0 gG4 g5 hb
   have FIN:Hid (R.cells.toArray=#[I bv,I (withS T x4 x5),I (withS T x0 x1),I (withS T x2 x3),I x8,I (1+x9),I xa,I (1+x6),I (1+xb),I 0,I (x8+1+vg)]):=Lib.hid (by rw [RES.out];simp only [Rl.cells,if_pos H4.out,if_neg HC.out])
   have LV:Hid (Lies u10 ⟨b5,0,none⟩ #[I bv,I (withS T x4 x5),I (withS T x0 x1),I (withS T x2 x3),I x8,I (1+x9),I xa,I (1+x6),I (1+xb),I 0,I (x8+1+vg)].toList):=Lib.hid (Row.lies_of_block G5.out)
   have HG:=Lib.hid (below_setRow HB.out (g:=w.heap.size+1) (by omega) #[I bv,I (withS T x4 x5),I (withS T x0 x1),I (withS T x2 x3),I x8,I (1+x9),I xa,I (1+x6),I (1+xb),I 0,I (x8+1+vg)])
   have HK:=Lib.hid (setRow_heap u10 (w.heap.size+1) _ #[I bv,I (withS T x4 x5),I (withS T x0 x1),I (withS T x2 x3),I x8,I (1+x9),I xa,I (1+x6),I (1+xb),I 0,I (x8+1+vg)] _ _ G4.out)
   go_wp2_with (first | (refine Row.wpList_load_g 75 _ rfl (by first | rfl | go_simp) ⟨b5,0,none⟩ rfl #[I bv,I (withS T x4 x5),I (withS T x0 x1),I (withS T x2 x3),I x8,I (1+x9),I xa,I (1+x6),I (1+xb),I 0,I (x8+1+vg)].toList _ LV.out Tryz.underlying75 rfl infoR ?_) | (refine wpList_store_row rfl 75 _ _ rfl (w.heap.size+1) #[I bv,I (withS T x4 x5),I (withS T x0 x1),I (withS T x2 x3),I x8,I (1+x9),I xa,I (1+x6),I (1+xb),I 0,I (x8+1+vg)] rfl rfl 75 _ G4.out infoR rfl (by simp [Value.oneCell']) ?_))
   generalize u10.setRow (w.heap.size+1) #[I bv,I (withS T x4 x5),I (withS T x0 x1),I (withS T x2 x3),I x8,I (1+x9),I xa,I (1+x6),I (1+xb),I 0,I (x8+1+vg)]=uz at HG HK ⊢
   go_wp2_with fail
   (try simp only [Exit.inBlock,Exit.then])
   refine bodyPost_ret (v:=.agg #[I bv,I (withS T x4 x5),I (withS T x0 x1),I (withS T x2 x3),I x8,I (1+x9),I xa,I (1+x6),I (1+xb),I 0,I (x8+1+vg)]) ?_ rfl ⟨by rw [FIN.out],HG.out⟩
   exact results_cell_row rfl _ _ (w.heap.size+1) 75 _ (0,0) _ rfl HK.out Tryz.underlying75 rfl infoR
 ·have H4:=Lib.hid h4
  go_upto_region 6 with fail
  clear h4
  have e0:IntKind.i64.wrap (i+7)=i+7:=by rw [IntKind.wrap_i64];omega
  have eb:=EB.out
  have gG0:u0.drew.heap[w.heap.size]?=some (.cells c.toArray 33 (0,0)):=G0.out
  have gG4:u0.drew.heap[(w.heap.size+1)]?=some (.cells #[I 0,I 0,I 0,I 0,I 0,I 0,I 0,I 0,I 0,I 0,I 0] 75 (0,0)):=G4.out
  have g5:u0.drew.heap[b5]?=some (.cells #[I 0,I 0,I (withS T x0 x1),I (withS T x2 x3),I 0,I 0,I 0,I 0,I 0,I 0,I 0] 75 (0,0)):=G5.out
  have hb:Below w.heap.size w u0.drew:=HB.out.drew
  clear G0 G4 G5 HB
  refine QB.region_tail 13 (by kernel_rfl) (by kernel_rfl) ?_
  generalize World.drew u0=u1 at gG0 gG4 g5 hb ⊢
  have G0:=Lib.hid gG0
  have G4:=Lib.hid gG4
  have G5:=Lib.hid g5
  have HB:=Lib.hid hb
  clear gG0 gG4 g5 hb
  have c0:u1.cell? ⟨b5,0,none⟩=some (I 0):=by rw [cell_of_row _ _ _ _ _ _ G5.out];rfl
  have c2:u1.cell? ⟨b5,2,none⟩=some (I (withS T x0 x1)):=by rw [cell_of_row _ _ _ _ _ _ G5.out];rfl
  have f0:u1.frozen? ⟨b5,0,none⟩=false:=frozen_of_row _ _ _ _ _ G5.out
  simp only [List.take_succ_cons,List.take_zero,List.drop_succ_cons,List.drop_zero]
  repeat still_step
  still_call (F7.out _ HB.out)
  repeat still_step
  refine wpStill_nil ?_
  go_upto_region 7 with fail
  clear e0 eb
  have g5:=heap_setCell_same u1 b5 0 _ _ (I bv) G5.out
  simp only [List.setIfInBounds_toArray,List.set_cons_succ,List.set_cons_zero] at g5
  have gG0:=(Below.heap_setCell u1 ⟨b5,0,none⟩ (I bv) w.heap.size (by simp;omega)).trans G0.out
  have gG4:=(Below.heap_setCell u1 ⟨b5,0,none⟩ (I bv) (w.heap.size+1) (by simp;omega)).trans G4.out
  have hb:=Owned.below_write HB.out (g:=b5) (i:=0) (by omega) (I bv)
  clear c0 c2 f0 G0 G4 G5 HB
  generalize World.setCell u1 ⟨b5,0,none⟩ (I bv)=u2 at gG0 gG4 g5 hb ⊢
  have G0:=Lib.hid gG0
  have G4:=Lib.hid gG4
  have G5:=Lib.hid g5
  have HB:=Lib.hid hb
  clear gG0 gG4 g5 hb
  have c4:u2.cell? ⟨b5,4,none⟩=some (I 0):=by rw [cell_of_row _ _ _ _ _ _ G5.out];rfl
  have f4:u2.frozen? ⟨b5,4,none⟩=false:=frozen_of_row _ _ _ _ _ G5.out
  go_wp2_with fail
  refine (F8.out _ HB.out).mono ?_
  rintro e w' ⟨rfl,hq⟩
  subst w'
  go_upto_region 8 with fail
  have g5:=heap_setCell_same u2 b5 4 _ _ (I x8) G5.out
  simp only [List.setIfInBounds_toArray,List.set_cons_succ,List.set_cons_zero] at g5
  have gG0:=(Below.heap_setCell u2 ⟨b5,4,none⟩ (I x8) w.heap.size (by simp;omega)).trans G0.out
  have gG4:=(Below.heap_setCell u2 ⟨b5,4,none⟩ (I x8) (w.heap.size+1) (by simp;omega)).trans G4.out
  have hb:=Owned.below_write HB.out (g:=b5) (i:=4) (by omega) (I x8)
  clear c4 f4 G0 G4 G5 HB
  generalize World.setCell u2 ⟨b5,4,none⟩ (I x8)=u3 at gG0 gG4 g5 hb ⊢
  have G0:=Lib.hid gG0
  have G4:=Lib.hid gG4
  have G5:=Lib.hid g5
  have HB:=Lib.hid hb
  clear gG0 gG4 g5 hb
  have c5:u3.cell? ⟨b5,5,none⟩=some (I 0):=by rw [cell_of_row _ _ _ _ _ _ G5.out];rfl
  have f5:u3.frozen? ⟨b5,5,none⟩=false:=frozen_of_row _ _ _ _ _ G5.out
  go_wp2_with fail
  refine (F9.out _ HB.out).mono ?_
  rintro e w' ⟨rfl,hq⟩
  subst w'
  go_upto_region 9 with fail
  have g5:=heap_setCell_same u3 b5 5 _ _ (I (1+x9)) G5.out
  simp only [List.setIfInBounds_toArray,List.set_cons_succ,List.set_cons_zero] at g5
  have gG0:=(Below.heap_setCell u3 ⟨b5,5,none⟩ (I (1+x9)) w.heap.size (by simp;omega)).trans G0.out
  have gG4:=(Below.heap_setCell u3 ⟨b5,5,none⟩ (I (1+x9)) (w.heap.size+1) (by simp;omega)).trans G4.out
  have hb:=Owned.below_write HB.out (g:=b5) (i:=5) (by omega) (I (1+x9))
  clear c5 f5 G0 G4 G5 HB
  generalize World.setCell u3 ⟨b5,5,none⟩ (I (1+x9))=u4 at gG0 gG4 g5 hb ⊢
  have G0:=Lib.hid gG0
  have G4:=Lib.hid gG4
  have G5:=Lib.hid g5
  have HB:=Lib.hid hb
  clear gG0 gG4 g5 hb
  have c6:u4.cell? ⟨b5,6,none⟩=some (I 0):=by rw [cell_of_row _ _ _ _ _ _ G5.out];rfl
  have f6:u4.frozen? ⟨b5,6,none⟩=false:=frozen_of_row _ _ _ _ _ G5.out
  go_wp2_with fail
  refine (Fa.out _ HB.out).mono ?_
  rintro e w' ⟨rfl,hq⟩
  subst w'
  go_upto_region 10 with fail
  have g5:=heap_setCell_same u4 b5 6 _ _ (I xa) G5.out
  simp only [List.setIfInBounds_toArray,List.set_cons_succ,List.set_cons_zero] at g5
  have gG0:=(Below.heap_setCell u4 ⟨b5,6,none⟩ (I xa) w.heap.size (by simp;omega)).trans G0.out
  have gG4:=(Below.heap_setCell u4 ⟨b5,6,none⟩ (I xa) (w.heap.size+1) (by simp;omega)).trans G4.out
  have hb:=Owned.below_write HB.out (g:=b5) (i:=6) (by omega) (I xa)
  clear c6 f6 G0 G4 G5 HB
  generalize World.setCell u4 ⟨b5,6,none⟩ (I xa)=u5 at gG0 gG4 g5 hb ⊢
  have G0:=Lib.hid gG0
  have G4:=Lib.hid gG4
  have G5:=Lib.hid g5
  have HB:=Lib.hid hb
  clear gG0 gG4 g5 hb
  have c8:u5.cell? ⟨b5,8,none⟩=some (I 0):=by rw [cell_of_row _ _ _ _ _ _ G5.out];rfl
  have f8:u5.frozen? ⟨b5,8,none⟩=false:=frozen_of_row _ _ _ _ _ G5.out
  go_wp2_with fail
  refine (Fb.out _ HB.out).mono ?_
  rintro e w' ⟨rfl,hq⟩
  subst w'
  go_upto_region 11 with fail
  have g5:=heap_setCell_same u5 b5 8 _ _ (I (1+xb)) G5.out
  simp only [List.setIfInBounds_toArray,List.set_cons_succ,List.set_cons_zero] at g5
  have gG0:=(Below.heap_setCell u5 ⟨b5,8,none⟩ (I (1+xb)) w.heap.size (by simp;omega)).trans G0.out
  have gG4:=(Below.heap_setCell u5 ⟨b5,8,none⟩ (I (1+xb)) (w.heap.size+1) (by simp;omega)).trans G4.out
  have hb:=Owned.below_write HB.out (g:=b5) (i:=8) (by omega) (I (1+xb))
  clear c8 f8 G0 G4 G5 HB
  generalize World.setCell u5 ⟨b5,8,none⟩ (I (1+xb))=u6 at gG0 gG4 g5 hb ⊢
  have G0:=Lib.hid gG0
  have G4:=Lib.hid gG4
  have G5:=Lib.hid g5
  have HB:=Lib.hid hb
  clear gG0 gG4 g5 hb
  go_wp2_with fail
  refine (Fc.out _ HB.out).mono ?_
  rintro e w' ⟨rfl,hq⟩
  subst w'
  by_cases hc:xc=1
  ·have HC:=Lib.hid hc
   have ec:(xc == 1)=true:=by simpa using hc
   clear hc
   go_upto_region 12 with fail
   have e0:IntKind.i64.wrap (i+13)=i+13:=by rw [IntKind.wrap_i64];omega
   have e1:IntKind.i64.wrap (1+xb+xd)=1+xb+xd:=by rw [IntKind.wrap_i64];omega
   have gG0:u6.drew.heap[w.heap.size]?=some (.cells c.toArray 33 (0,0)):=G0.out
   have gG4:u6.drew.heap[(w.heap.size+1)]?=some (.cells #[I 0,I 0,I 0,I 0,I 0,I 0,I 0,I 0,I 0,I 0,I 0] 75 (0,0)):=G4.out
   have g5:u6.drew.heap[b5]?=some (.cells #[I bv,I 0,I (withS T x0 x1),I (withS T x2 x3),I x8,I (1+x9),I xa,I 0,I (1+xb),I 0,I 0] 75 (0,0)):=G5.out
   have hb:Below w.heap.size w u6.drew:=HB.out.drew
   clear G0 G4 G5 HB
   refine QB.region_tail 8 (by kernel_rfl) (by kernel_rfl) ?_
   generalize World.drew u6=u7 at gG0 gG4 g5 hb ⊢
   have G0:=Lib.hid gG0
   have G4:=Lib.hid gG4
   have G5:=Lib.hid g5
   have HB:=Lib.hid hb
   clear gG0 gG4 g5 hb
   have c8:u7.cell? ⟨b5,8,none⟩=some (I (1+xb)):=by rw [cell_of_row _ _ _ _ _ _ G5.out];rfl
   have c9:u7.cell? ⟨b5,9,none⟩=some (I 0):=by rw [cell_of_row _ _ _ _ _ _ G5.out];rfl
   have f9:u7.frozen? ⟨b5,9,none⟩=false:=frozen_of_row _ _ _ _ _ G5.out
   simp only [List.take_succ_cons,List.take_zero,List.drop_succ_cons,List.drop_zero]
   repeat still_step
   still_call (Fd.out _ HB.out)
   repeat still_step
   refine wpStill_nil ?_
   go_upto_region 13 with fail
   clear e0 e1
   have g5:=heap_setCell_same u7 b5 9 _ _ (I (1+xb+xd)) G5.out
   simp only [List.setIfInBounds_toArray,List.set_cons_succ,List.set_cons_zero] at g5
   have gG0:=(Below.heap_setCell u7 ⟨b5,9,none⟩ (I (1+xb+xd)) w.heap.size (by simp;omega)).trans G0.out
   have gG4:=(Below.heap_setCell u7 ⟨b5,9,none⟩ (I (1+xb+xd)) (w.heap.size+1) (by simp;omega)).trans G4.out
   have hb:=Owned.below_write HB.out (g:=b5) (i:=9) (by omega) (I (1+xb+xd))
   clear c8 c9 f9 G0 G4 G5 HB
   generalize World.setCell u7 ⟨b5,9,none⟩ (I (1+xb+xd))=u8 at gG0 gG4 g5 hb ⊢
   have G0:=Lib.hid gG0
   have G4:=Lib.hid gG4
   have G5:=Lib.hid g5
   have HB:=Lib.hid hb
   clear gG0 gG4 g5 hb
   have e0:IntKind.i64.wrap (x8+1)=x8+1:=by rw [IntKind.wrap_i64];omega
   have e1:IntKind.i64.wrap (i+14)=i+14:=by rw [IntKind.wrap_i64];omega
   have e2:IntKind.i64.wrap (x8+1+vg)=x8+1+vg:=by rw [IntKind.wrap_i64];omega
   have eg:=EG.out
   have gG0:u8.drew.heap[w.heap.size]?=some (.cells c.toArray 33 (0,0)):=G0.out
   have gG4:u8.drew.heap[(w.heap.size+1)]?=some (.cells #[I 0,I 0,I 0,I 0,I 0,I 0,I 0,I 0,I 0,I 0,I 0] 75 (0,0)):=G4.out
   have g5:u8.drew.heap[b5]?=some (.cells #[I bv,I 0,I (withS T x0 x1),I (withS T x2 x3),I x8,I (1+x9),I xa,I 0,I (1+xb),I (1+xb+xd),I 0] 75 (0,0)):=G5.out
   have hb:Below w.heap.size w u8.drew:=HB.out.drew
   clear G0 G4 G5 HB
   refine QB.region_tail 11 (by kernel_rfl) (by kernel_rfl) ?_
   generalize World.drew u8=u9 at gG0 gG4 g5 hb ⊢
   have G0:=Lib.hid gG0
   have G4:=Lib.hid gG4
   have G5:=Lib.hid g5
   have HB:=Lib.hid hb
   clear gG0 gG4 g5 hb
   have c4:u9.cell? ⟨b5,4,none⟩=some (I x8):=by rw [cell_of_row _ _ _ _ _ _ G5.out];rfl
   have c10:u9.cell? ⟨b5,10,none⟩=some (I 0):=by rw [cell_of_row _ _ _ _ _ _ G5.out];rfl
   have f10:u9.frozen? ⟨b5,10,none⟩=false:=frozen_of_row _ _ _ _ _ G5.out
   simp only [List.take_succ_cons,List.take_zero,List.drop_succ_cons,List.drop_zero]
   repeat still_step
   still_call (Fg.out _ HB.out)
   repeat still_step
   refine wpStill_nil ?_
   go_upto_region 14 with fail
   clear e0 e1 e2 eg
   have g5:=heap_setCell_same u9 b5 10 _ _ (I (x8+1+vg)) G5.out
   simp only [List.setIfInBounds_toArray,List.set_cons_succ,List.set_cons_zero] at g5
   have gG0:=(Below.heap_setCell u9 ⟨b5,10,none⟩ (I (x8+1+vg)) w.heap.size (by simp;omega)).trans G0.out
   have gG4:=(Below.heap_setCell u9 ⟨b5,10,none⟩ (I (x8+1+vg)) (w.heap.size+1) (by simp;omega)).trans G4.out
   have hb:=Owned.below_write HB.out (g:=b5) (i:=10) (by omega) (I (x8+1+vg))
   clear c4 c10 f10 G0 G4 G5 HB
   generalize World.setCell u9 ⟨b5,10,none⟩ (I (x8+1+vg))=u10 at gG0 gG4 g5 hb ⊢
   have G0:=Lib.hid gG0
   have G4:=Lib.hid gG4
   have G5:=Lib.hid g5
   have HB:=Lib.hid hb
   clear gG0 gG4 g5 hb
   have FIN:Hid (R.cells.toArray=#[I bv,I 0,I (withS T x0 x1),I (withS T x2 x3),I x8,I (1+x9),I xa,I 0,I (1+xb),I (1+xb+xd),I (x8+1+vg)]):=Lib.hid (by rw [RES.out];simp only [Rl.cells,if_neg (Int.not_lt.2 H4.out),if_pos HC.out])
   have LV:Hid (Lies u10 ⟨b5,0,none⟩ #[I bv,I 0,I (withS T x0 x1),I (withS T x2 x3),I x8,I (1+x9),I xa,I 0,I (1+xb),I (1+xb+xd),I (x8+1+vg)].toList):=Lib.hid (Row.lies_of_block G5.out)
   have HG:=Lib.hid (below_setRow HB.out (g:=w.heap.size+1) (by omega) #[I bv,I 0,I (withS T x0 x1),I (withS T x2 x3),I x8,I (1+x9),I xa,I 0,I (1+xb),I (1+xb+xd),I (x8+1+vg)])
   have HK:=Lib.hid (setRow_heap u10 (w.heap.size+1) _ #[I bv,I 0,I (withS T x0 x1),I (withS T x2 x3),I x8,I (1+x9),I xa,I 0,I (1+xb),I (1+xb+xd),I (x8+1+vg)] _ _ G4.out)
   go_wp2_with (first | (refine Row.wpList_load_g 75 _ rfl (by first | rfl | go_simp) ⟨b5,0,none⟩ rfl #[I bv,I 0,I (withS T x0 x1),I (withS T x2 x3),I x8,I (1+x9),I xa,I 0,I (1+xb),I (1+xb+xd),I (x8+1+vg)].toList _ LV.out Tryz.underlying75 rfl infoR ?_) | (refine wpList_store_row rfl 75 _ _ rfl (w.heap.size+1) #[I bv,I 0,I (withS T x0 x1),I (withS T x2 x3),I x8,I (1+x9),I xa,I 0,I (1+xb),I (1+xb+xd),I (x8+1+vg)] rfl rfl 75 _ G4.out infoR rfl (by simp [Value.oneCell']) ?_))
   generalize u10.setRow (w.heap.size+1) #[I bv,I 0,I (withS T x0 x1),I (withS T x2 x3),I x8,I (1+x9),I xa,I 0,I (1+xb),I (1+xb+xd),I (x8+1+vg)]=uz at HG HK ⊢
   go_wp2_with fail
   (try simp only [Exit.inBlock,Exit.then])
   refine bodyPost_ret (v:=.agg #[I bv,I 0,I (withS T x0 x1),I (withS T x2 x3),I x8,I (1+x9),I xa,I 0,I (1+xb),I (1+xb+xd),I (x8+1+vg)]) ?_ rfl ⟨by rw [FIN.out],HG.out⟩
   exact results_cell_row rfl _ _ (w.heap.size+1) 75 _ (0,0) _ rfl HK.out Tryz.underlying75 rfl infoR
  ·have HC:=Lib.hid hc
   have ec:(xc == 1)=false:=by simpa using hc
   clear hc
   go_upto_region 13 with fail
   have e0:IntKind.i64.wrap (x8+1)=x8+1:=by rw [IntKind.wrap_i64];omega
   have e1:IntKind.i64.wrap (i+14)=i+14:=by rw [IntKind.wrap_i64];omega
   have e2:IntKind.i64.wrap (x8+1+vg)=x8+1+vg:=by rw [IntKind.wrap_i64];omega
   have eg:=EG.out
   have gG0:u6.drew.heap[w.heap.size]?=some (.cells c.toArray 33 (0,0)):=G0.out
   have gG4:u6.drew.heap[(w.heap.size+1)]?=some (.cells #[I 0,I 0,I 0,I 0,I 0,I 0,I 0,I 0,I 0,I 0,I 0] 75 (0,0)):=G4.out
   have g5:u6.drew.heap[b5]?=some (.cells #[I bv,I 0,I (withS T x0 x1),I (withS T x2 x3),I x8,I (1+x9),I xa,I 0,I (1+xb),I 0,I 0] 75 (0,0)):=G5.out
   have hb:Below w.heap.size w u6.drew:=HB.out.drew
   clear G0 G4 G5 HB
   refine QB.region_tail 11 (by kernel_rfl) (by kernel_rfl) ?_
   generalize World.drew u6=u7 at gG0 gG4 g5 hb ⊢
   have G0:=Lib.hid gG0
   have G4:=Lib.hid gG4
   have G5:=Lib.hid g5
   have HB:=Lib.hid hb
   clear gG0 gG4 g5 hb
   have c4:u7.cell? ⟨b5,4,none⟩=some (I x8):=by rw [cell_of_row _ _ _ _ _ _ G5.out];rfl
   have c10:u7.cell? ⟨b5,10,none⟩=some (I 0):=by rw [cell_of_row _ _ _ _ _ _ G5.out];rfl
   have f10:u7.frozen? ⟨b5,10,none⟩=false:=frozen_of_row _ _ _ _ _ G5.out
   simp only [List.take_succ_cons,List.take_zero,List.drop_succ_cons,List.drop_zero]
   repeat still_step
   still_call (Fg.out _ HB.out)
   repeat still_step
   refine wpStill_nil ?_
   go_upto_region 14 with fail
   clear e0 e1 e2 eg
   have g5:=heap_setCell_same u7 b5 10 _ _ (I (x8+1+vg)) G5.out
   simp only [List.setIfInBounds_toArray,List.set_cons_succ,List.set_cons_zero] at g5
   have gG0:=(Below.heap_setCell u7 ⟨b5,10,none⟩ (I (x8+1+vg)) w.heap.size (by simp;omega)).trans G0.out
   have gG4:=(Below.heap_setCell u7 ⟨b5,10,none⟩ (I (x8+1+vg)) (w.heap.size+1) (by simp;omega)).trans G4.out
   have hb:=Owned.below_write HB.out (g:=b5) (i:=10) (by omega) (I (x8+1+vg))
   clear c4 c10 f10 G0 G4 G5 HB
   generalize World.setCell u7 ⟨b5,10,none⟩ (I (x8+1+vg))=u8 at gG0 gG4 g5 hb ⊢
   have G0:=Lib.hid gG0
   have G4:=Lib.hid gG4
   have G5:=Lib.hid g5
   have HB:=Lib.hid hb
   clear gG0 gG4 g5 hb
   have FIN:Hid (R.cells.toArray=#[I bv,I 0,I (withS T x0 x1),I (withS T x2 x3),I x8,I (1+x9),I xa,I 0,I (1+xb),I 0,I (x8+1+vg)]):=Lib.hid (by rw [RES.out];simp only [Rl.cells,if_neg (Int.not_lt.2 H4.out),if_neg HC.out])
   have LV:Hid (Lies u8 ⟨b5,0,none⟩ #[I bv,I 0,I (withS T x0 x1),I (withS T x2 x3),I x8,I (1+x9),I xa,I 0,I (1+xb),I 0,I (x8+1+vg)].toList):=Lib.hid (Row.lies_of_block G5.out)
   have HG:=Lib.hid (below_setRow HB.out (g:=w.heap.size+1) (by omega) #[I bv,I 0,I (withS T x0 x1),I (withS T x2 x3),I x8,I (1+x9),I xa,I 0,I (1+xb),I 0,I (x8+1+vg)])
   have HK:=Lib.hid (setRow_heap u8 (w.heap.size+1) _ #[I bv,I 0,I (withS T x0 x1),I (withS T x2 x3),I x8,I (1+x9),I xa,I 0,I (1+xb),I 0,I (x8+1+vg)] _ _ G4.out)
   go_wp2_with (first | (refine Row.wpList_load_g 75 _ rfl (by first | rfl | go_simp) ⟨b5,0,none⟩ rfl #[I bv,I 0,I (withS T x0 x1),I (withS T x2 x3),I x8,I (1+x9),I xa,I 0,I (1+xb),I 0,I (x8+1+vg)].toList _ LV.out Tryz.underlying75 rfl infoR ?_) | (refine wpList_store_row rfl 75 _ _ rfl (w.heap.size+1) #[I bv,I 0,I (withS T x0 x1),I (withS T x2 x3),I x8,I (1+x9),I xa,I 0,I (1+xb),I 0,I (x8+1+vg)] rfl rfl 75 _ G4.out infoR rfl (by simp [Value.oneCell']) ?_))
   generalize u8.setRow (w.heap.size+1) #[I bv,I 0,I (withS T x0 x1),I (withS T x2 x3),I x8,I (1+x9),I xa,I 0,I (1+xb),I 0,I (x8+1+vg)]=uz at HG HK ⊢
   go_wp2_with fail
   (try simp only [Exit.inBlock,Exit.then])
   refine bodyPost_ret (v:=.agg #[I bv,I 0,I (withS T x0 x1),I (withS T x2 x3),I x8,I (1+x9),I xa,I 0,I (1+xb),I 0,I (x8+1+vg)]) ?_ rfl ⟨by rw [FIN.out],HG.out⟩
   exact results_cell_row rfl _ _ (w.heap.size+1) 75 _ (0,0) _ rfl HK.out Tryz.underlying75 rfl infoR
end GenR
namespace OnS
open Go.ChangeShapes Go.WideShapes Go.ChangeAt Go.RowKit
open Tab Gath RefS
open May (St phases_in infoP)
theorem row_of_int {w:World} {a:Option Addr} {cap:Nat} {L:List Int} (h:IntRow w ⟨a,cap⟩ L):RefS.Row w a L:=by
 have hl:=h.len
 refine ⟨by omega,?_⟩
 by_cases h0:L=[]
 ·exact .inl h0
 ·have hp:0 < L.length:=List.length_pos_iff.2 h0
  obtain ⟨x,hx,_⟩:=IntRow.at h (List.getElem?_eq_getElem hp)
  refine .inr ⟨x,hx,fun i hi=>?_⟩
  obtain ⟨y,hy,hc⟩:=IntRow.at h (List.getElem?_eq_getElem hi)
  obtain rfl:x=y:=Option.some.inj (hx.symm.trans hy)
  rw [hc,List.getD_eq_getElem?_getD,List.getElem?_eq_getElem hi]
  rfl
def onTo:Nat→List Ph→List Int
 | _,[]=>[]
 | i,p :: l=>(if p.on then [(i:Int)] else [])++onTo (i+1) l
theorem onTo_append:∀ (i:Nat) (l m:List Ph),onTo i (l++m)=onTo i l++onTo (i+l.length) m
 | i,[],m=>rfl
 | i,p :: l,m=>by
  rw [List.cons_append,onTo,onTo,onTo_append (i+1) l m,List.append_assoc,List.length_cons,show i+1+l.length=i+(l.length+1) by omega]
theorem on_step {l:List Ph} {q:Nat} {p:Ph} (h:l[q]?=some p):onTo 0 (l.take (q+1))=onTo 0 (l.take q)++(if p.on then [(q:Int)] else []):=by
 have hi:q < l.length:=(List.getElem?_eq_some_iff.1 h).1
 rw [PlaceM.take_succ h,onTo_append,List.length_take,Nat.min_eq_left (by omega),Nat.zero_add]
 simp [onTo]
theorem on_len:∀ (i:Nat) (l:List Ph),(onTo i l).length≤l.length
 | i,[]=>Nat.le_refl _
 | i,p :: l=>by
  rw [onTo,List.length_append,List.length_cons]
  have:=on_len (i+1) l
  split <;> simp <;> omega
def onL (T:Tab):List Int:=onTo 0 T.phases
def onS (T:Tab):Nat:=SetM.of (onL T)
abbrev OwnsI (B:Nat) (w:World) (v:Value) (l:List Int):Prop:=Owns (fun n=>[I n]) 1 B w 3 v l
theorem on_any (T:Tab) (h:Hd) (w:World) (ht:IsTab w h T) :
  Calls Tryz.prog 101 #[.agg (T.cells h).toArray] w fun e w'=>e=.returned (.int .i64 (onS T:Nat))∧Below w.heap.size w w':=by
 have C:=Lib.hid (cells_ok ht)
 generalize (T.cells h).toArray=cs at C ⊢
 have hsz:=C.out.size
 have L8:=Lib.hid ht.ph
 have S0:=Lib.hid (St.box (cs:=cs) ht)
 obtain ⟨i0,hi,hz0,hz1,hz2⟩:=info_parts info3
 have RS:Hid ((onS T:Nat)=SetM.of (onTo 0 T.phases)):=Lib.hid rfl
 generalize onS T=r at RS ⊢
 clear ht
 go_enter Tryz.func101,Tryz.ntmps101
 go_upto_region 1 with fail
 generalize w.alloc (.cells cs 33)=w1 at S0 ⊢
 clear hsz
 go_wp2_with fail
 go_loopw [3,4] (fun v g wr=>∃ q:Nat,q≤8∧g=.int .i64 q∧OwnsI w1.heap.size wr v (onTo 0 (T.phases.take q))∧Below w1.heap.size w1 wr) (fun _ g _=>8 - (intOf g).toNat)
 case atStart=>exact ⟨0,by omega,rfl,Owns.nil,Below.refl _ _⟩
 case round =>
  obtain ⟨q,hq,rfl,hown,hbel⟩:=hrel
  have HO:=Lib.hid hown
  have HB:=Lib.hid hbel
  clear hown hbel
  have S1:=Lib.hid (S0.out.step HB.out)
  by_cases hlt:q < 8
  ·have hv:T.phases[q]?=some (T.phases[q]'(by rw [L8.out];exact hlt)):=List.getElem?_eq_getElem _
   generalize T.phases[q]'(by rw [L8.out];exact hlt)=u at hv
   obtain ⟨x,hx,hc⟩:=(phases_in S1.out.blk C.out L8.out).at hv
   obtain rfl:=Option.some.inj hx
   have c0:wr.cell? ⟨w.heap.size,q*13,none⟩=some (.bool u.on):=by
    have:=hc 0 _ rfl
    rwa [Addr.add_mid,Nat.zero_add,Tab.add_zero] at this
   have HS:=Lib.hid (on_step hv)
   have hlen:(onTo 0 (T.phases.take q)).length≤8:=by have:=on_len 0 (T.phases.take q);rw [List.length_take] at this;omega
   have hsz:=HB.out.size
   clear hv hc hx
   generalize onTo 0 (T.phases.take q)=P1 at HO HS hlen
   cases hon:u.on
   ·rw [hon] at c0 HS
    have HS2:Hid (onTo 0 (T.phases.take (q+1))=P1):=Lib.hid (by rw [HS.out];simp)
    go_wp2
    go_roundw
    case rel=>exact ⟨q+1,by omega,by go_num,by rw [HS2.out];exact HO.out,HB.out⟩
    case measure=>simp [intOf];omega
   ·rw [hon] at c0 HS
    have HS2:Hid (onTo 0 (T.phases.take (q+1))=P1++[(q:Int)]):=Lib.hid (by rw [HS.out];simp)
    have hown2:wr.ownsRow w1.heap.size 3 1 u3 P1.length (P1.flatMap (fun n=>[I n])):=HO.out
    clear HO
    go_wp2_with (at_builtin;refine wpList_append_own _ rfl _ _ 42 rfl w1.heap.size 3 i0 (.int .i64 0) 1 8 Tryz.underlying42 hi hz0 hz1 hz2 rfl (by decide) _ _ _ rfl (hown2.alloc _) ⟨wr.heap.size,0,none⟩ 1 1 [.int .i64 (q:Int)] rfl rfl ?c1 ?c2 ?c3 ?c4 ?c5 ?_)
    case c2=>rfl
    case c3=>unfold maxLen;omega
    case c4=>omega
    case c5=>omega
    intro v' w2 hown' hgrow hnil'
    have HB2:Hid (Below w1.heap.size w1 w2):=Lib.hid ((HB.out.alloc hsz _).grown hgrow (by simp;omega) fun m hm=>(show OwnsI w1.heap.size wr u3 P1 from hown2).blk m hm)
    have HO2:Hid (OwnsI w1.heap.size w2 v' (P1++[(q:Int)])):=Lib.hid (Owns.snoc hown')
    clear hown' hgrow hown2 hnil'
    go_wp2
    go_roundw
    case rel=>exact ⟨q+1,by omega,by go_num,by rw [HS2.out];exact HO2.out,HB2.out⟩
    case measure=>simp [intOf];omega
  ·have HE:Hid (onTo 0 (T.phases.take q)=onTo 0 T.phases):=Lib.hid (by rw [List.take_of_length_le (by rw [L8.out];omega)])
   obtain ⟨⟨sa,sc⟩,hs,hrow⟩:=HO.out.row (enc:=fun n=>[I n]) (fun _=>rfl)
   rw [HE.out] at hs hrow
   have HR:=Lib.hid (row_of_int hrow)
   have HF:Hid (Below w.heap.size w wr):=Lib.hid (S1.out.bel)
   clear hrow HE
   subst hs
   generalize onTo 0 T.phases=P2 at RS HR ⊢
   show Code.wp _ _ _ _ _
   rw [show (Sl.val ⟨sa,sc⟩ P2.length)=.slice sa P2.length sc from rfl]
   go_wp2_with fail
   refine (rof_any sa sc P2 _ HR.out).mono ?_
   rintro e w' ⟨rfl,rfl⟩
   rw [← RS.out]
   go_wp2
   go_ret
   exact ⟨rfl,HF.out⟩
end OnS
namespace RefC
open Go.ChangeShapes Go.WideShapes Go.ChangeAt Go.RowKit
def cap (n:Int):Int:=if n < 0 then 0 else if 2147483647 < n then 2147483647 else n
theorem cap_lo (n:Int):0≤cap n:=by unfold cap;split <;> (try split) <;> omega
theorem cap_hi (n:Int):cap n≤2147483647:=by unfold cap;split <;> (try split) <;> omega
theorem cap_neg {n:Int} (h:n < 0):cap n=0:=by unfold cap;rw [if_pos h]
theorem cap_big {n:Int} (h:2147483647 < n):cap n=2147483647:=by unfold cap;rw [if_neg (by omega),if_pos h]
theorem cap_in {n:Int} (h:0≤n) (h':n≤2147483647):cap n=n:=by unfold cap;rw [if_neg (by omega),if_neg (by omega)]
theorem mul_bd {a b:Int} (ha:0≤a) (ha':a≤2147483647) (hb:0≤b) (hb':b≤2147483647):0≤a*b∧a*b≤2147483647*2147483647:=by
 refine ⟨Int.mul_nonneg ha hb,?_⟩
 exact Int.mul_le_mul ha' hb' hb (by omega)
theorem ret_int {k:IntKind} {a b:Int} (h:a=b):Ending.returned (.int k a)=.returned (.int k b):=by rw [h]
def add (a b:Int):Int:=cap (cap a+cap b)
def mul (a b:Int):Int:=cap (cap a*cap b)
theorem cut_cap (n:Int) (w:World):Calls Tryz.prog 66 #[.int .i64 n,.int .i64 0,.int .i64 2147483647] w fun e w'=>e=.returned (.int .i64 (cap n))∧w=w':=by
 by_cases h1:n < 0
 ·go_enter Tryz.func66,Tryz.ntmps66
  go_wp2
  go_ret
  exact ⟨ret_int (cap_neg h1).symm,rfl⟩
 by_cases h2:2147483647 < n
 ·go_enter Tryz.func66,Tryz.ntmps66
  go_wp2
  go_ret
  exact ⟨ret_int (cap_big h2).symm,rfl⟩
 ·go_enter Tryz.func66,Tryz.ntmps66
  go_wp2
  go_ret
  exact ⟨ret_int (cap_in (by omega) (by omega)).symm,rfl⟩
theorem rcap_any (n:Int) (w:World):Calls Tryz.prog 104 #[.int .i64 n] w fun e w'=>e=.returned (.int .i64 (cap n))∧w=w':=by
 go_enter Tryz.func104,Tryz.ntmps104
 go_wp2_with (go_at_call 66;refine (cut_cap _ _).mono ?_;rintro e w' ⟨rfl,rfl⟩)
 go_ret
 exact ⟨rfl,rfl⟩
theorem radd_any (a b:Int) (w:World):Calls Tryz.prog 119 #[.int .i64 a,.int .i64 b] w fun e w'=>e=.returned (.int .i64 (add a b))∧w=w':=by
 have b1:=cap_lo a
 have b2:=cap_hi a
 have b3:=cap_lo b
 have b4:=cap_hi b
 go_enter Tryz.func119,Tryz.ntmps119
 go_wp2_with (go_at_call 104;refine (rcap_any _ _).mono ?_;rintro e w' ⟨rfl,rfl⟩)
 go_ret
 exact ⟨rfl,rfl⟩
theorem rmul_any (a b:Int) (w:World):Calls Tryz.prog 76 #[.int .i64 a,.int .i64 b] w fun e w'=>e=.returned (.int .i64 (mul a b))∧w=w':=by
 have b1:=cap_lo a
 have b2:=cap_hi a
 have b3:=cap_lo b
 have b4:=cap_hi b
 obtain ⟨c1,c2⟩:=mul_bd b1 b2 b3 b4
 go_enter Tryz.func76,Tryz.ntmps76
 go_wp2_with (go_at_call 104;refine (rcap_any _ _).mono ?_;rintro e w' ⟨rfl,rfl⟩)
 go_ret
 exact ⟨rfl,rfl⟩
def IsRow (w:World) (a:Option Addr) (len:Nat) (zs:List Int):Prop :=
 len≤zs.length∧len≤maxLen∧(len=0∨∃ x,a=some x∧∀ i,i < zs.length→w.cell? (x.add i)=some (.int .i64 (zs.getD i 0)))
def sums (l:List Int):Int:=l.foldl add 0
theorem sums_snoc (l:List Int) (x:Int):sums (l++[x])=add (sums l) x:=by unfold sums;rw [List.foldl_append];rfl
theorem take_succ_getD (zs:List Int) (k:Nat) (h:k < zs.length):zs.take (k+1)=zs.take k++[zs.getD k 0]:=by
 rw [List.take_succ_eq_append_getElem h,List.getD_eq_getElem?_getD,List.getElem?_eq_getElem h];rfl
theorem sums_take (zs:List Int) (k:Nat) (h:k < zs.length):sums (zs.take (k+1))=add (sums (zs.take k)) (zs.getD k 0):=by
 rw [take_succ_getD zs k h,sums_snoc]
theorem rsum_any (a:Option Addr) (len cap:Nat) (zs:List Int) (w:World) (h:IsRow w a len zs) :
  Calls Tryz.prog 103 #[.slice a len cap] w fun e w'=>e=.returned (.int .i64 (sums (zs.take len)))∧w=w':=by
 obtain ⟨h1,h2,h3⟩:=h
 unfold maxLen at h2
 go_enter Tryz.func103,Tryz.ntmps103
 go_wp2
 go_loop [3,4] (fun t i=>∃ k:Nat,k≤len∧i=.int .i64 k∧t=.int .i64 (sums (zs.take k))) (fun _ i=>len - (intOf i).toNat)
 case atStart=>exact ⟨0,Nat.zero_le _,rfl,rfl⟩
 case round =>
  obtain ⟨k,hk,rfl,rfl⟩:=hrel
  by_cases hlt:k < len
  ·have HS:=Lib.hid (sums_take zs k (by omega))
   obtain ⟨x,rfl,hc⟩:∃ x,a=some x∧∀ i,i < zs.length→w.cell? (x.add i)=some (.int .i64 (zs.getD i 0)):=by
    rcases h3 with h3 | h3
    ·omega
    ·exact h3
   have hcell:=hc k (by omega)
   clear hc h3
   go_wp2_with (go_at_call 119;refine (radd_any _ _ _).mono ?_;rintro e w' ⟨rfl,rfl⟩)
   go_round
   case rel=>exact ⟨k+1,by omega,by go_num,by rw [HS.out,List.getD_eq_getElem?_getD]⟩
   case measure=>simp [intOf];omega
  ·go_wp2
   go_ret
   have:k=len:=by omega
   subst this
   exact ⟨rfl,rfl⟩
open Tab in
theorem is_row {w:World} {a:Option Addr} {cap:Nat} {L:List Int} (h:IntRow w ⟨a,cap⟩ L):IsRow w a L.length L:=by
 have hl:=h.len
 refine ⟨Nat.le_refl _,by omega,?_⟩
 by_cases h0:L.length=0
 ·exact .inl h0
 ·have h1:L[0]?=some L[0]:=List.getElem?_eq_getElem (by omega)
  obtain ⟨x,hx,_⟩:=IntRow.at h h1
  refine .inr ⟨x,hx,fun i hi=>?_⟩
  obtain ⟨y,hy,hc⟩:=IntRow.at h (List.getElem?_eq_getElem hi)
  obtain rfl:x=y:=Option.some.inj (hx.symm.trans hy)
  rw [hc,List.getD_eq_getElem?_getD,List.getElem?_eq_getElem hi]
  rfl
open Tab in
theorem rsum_row (a:Option Addr) (cap:Nat) (L:List Int) (w:World) (h:IntRow w ⟨a,cap⟩ L) :
  Calls Tryz.prog 103 #[.slice a L.length cap] w fun e w'=>e=.returned (.int .i64 (sums L))∧w=w':=by
 have:=rsum_any a L.length cap L w (is_row h)
 rwa [List.take_length] at this
open Tab in
theorem sum_row (a:Option Addr) (cap:Nat) (L:List Int) (w:World) (h:IntRow w ⟨a,cap⟩ L) :
  Calls Tryz.prog 75 #[.slice a L.length cap] w fun e w'=>e=.returned (.int .i64 (sums L))∧w=w':=by
 have H:=Lib.hid (rsum_row a cap L w h)
 clear h
 generalize sums L=s at H ⊢
 go_enter Tryz.func75,Tryz.ntmps75
 go_wp2_with fail
 refine H.out.mono ?_
 rintro e w' ⟨rfl,rfl⟩
 go_wp2
 go_ret
 exact ⟨rfl,rfl⟩
def mosts (l:List Int):Int:=l.foldl max 0
theorem mosts_take (l:List Int) (k:Nat) (h:k < l.length):mosts (l.take (k+1))=max (mosts (l.take k)) (l.getD k 0):=by
 rw [take_succ_getD l k h];unfold mosts;rw [List.foldl_append];rfl
open Tab in
theorem most_row (a:Option Addr) (cap:Nat) (L:List Int) (w:World) (h:IntRow w ⟨a,cap⟩ L) :
  Calls Tryz.prog 106 #[.slice a L.length cap] w fun e w'=>e=.returned (.int .i64 (mosts L))∧w=w':=by
 obtain ⟨h1,h2,h3⟩:=is_row h
 unfold maxLen at h2
 clear h
 go_enter Tryz.func106,Tryz.ntmps106
 go_wp2
 go_loop [3,4] (fun t i=>∃ k:Nat,k≤L.length∧i=.int .i64 k∧t=.int .i64 (mosts (L.take k))) (fun _ i=>L.length - (intOf i).toNat)
 case atStart=>exact ⟨0,Nat.zero_le _,rfl,rfl⟩
 case round =>
  obtain ⟨k,hk,rfl,rfl⟩:=hrel
  by_cases hlt:k < L.length
  ·have HS:=Lib.hid (mosts_take L k (by omega))
   obtain ⟨x,rfl,hc⟩:∃ x,a=some x∧∀ i,i < L.length→w.cell? (x.add i)=some (.int .i64 (L.getD i 0)):=by
    rcases h3 with h3 | h3
    ·omega
    ·exact h3
   have hcell:=hc k (by omega)
   clear hc h3
   generalize L.getD k 0=v at HS hcell
   generalize mosts (L.take k)=m at HS ⊢
   by_cases hmv:m < v
   ·have HM:Hid (max m v=v):=Lib.hid (by omega)
    go_wp2
    go_round
    case rel=>exact ⟨k+1,by omega,by go_num,by rw [HS.out];first | rw [HM.out] | rfl⟩
    case measure=>simp [intOf];omega
   ·have HM:Hid (max m v=m):=Lib.hid (by omega)
    go_wp2
    go_round
    case rel=>exact ⟨k+1,by omega,by go_num,by rw [HS.out];first | rw [HM.out] | rfl⟩
    case measure=>simp [intOf];omega
  ·go_wp2
   go_ret
   have:k=L.length:=by omega
   subst this
   exact ⟨by rw [List.take_length];rfl,rfl⟩
end RefC
namespace Clear
open Go.ChangeShapes Go.WideShapes Go.ChangeAt Go.RowKit
open Tab Gath RefS OnS RefC
open May (St phases_in infoP infoT row_new)
def phAt (T:Tab) (p:Int):Ph:=T.phases.getD p.toNat default
def clr (T:Tab) (p:Int):Int:=sums [(phAt T p).yellow,(phAt T p).red]
def clearS (T:Tab):Int:=mosts ((SetM.list (onS T:Nat)).map (clr T))
theorem sum_len (a:Option Addr) (cap:Nat) (L:List Int) (n:Nat) (hn:L.length=n) (w:World) (h:IntRow w ⟨a,cap⟩ L) :
  Calls Tryz.prog 75 #[.slice a n cap] w fun e w'=>e=.returned (.int .i64 (sums L))∧w=w':=by
 subst hn;exact sum_row a cap L w h
theorem clear_any (T:Tab) (h:Hd) (w:World) (ht:IsTab w h T) :
  Calls Tryz.prog 107 #[.agg (T.cells h).toArray] w fun e w'=>e=.returned (.int .i64 (clearS T))∧Below w.heap.size w w':=by
 have C:=Lib.hid (cells_ok ht)
 have hsz:=C.out.size
 have IA:Hid ((Tryz.prog.info? 33).map (·.size)=some (T.cells h).length):=Lib.hid (by rw [List.size_toArray] at hsz;rw [hsz];exact infoT)
 have ON:Hid (∀ W,Below w.heap.size w W→Calls Tryz.prog 101 #[.agg (T.cells h).toArray] W fun e w'=>e=.returned (.int .i64 (onS T:Nat))∧Below W.heap.size W w'):=Lib.hid (fun W hb=>on_any T h W (ht.below hb))
 have L8:=Lib.hid ht.ph
 have S0:=Lib.hid (St.box (cs:=(T.cells h).toArray) ht)
 have RS:Hid (clearS T=mosts ((SetM.list (onS T:Nat)).map (clr T))):=Lib.hid rfl
 generalize clearS T=r at RS ⊢
 generalize ((onS T:Nat):Int)=os at RS ON
 obtain ⟨i0,hi,hz0,hz1,hz2⟩:=info_parts info3
 clear ht
 generalize T.cells h=c at *
 go_enter Tryz.func107,Tryz.ntmps107
 go_upto_region 1 with fail
 generalize w.alloc (.cells c.toArray 33)=w1 at S0 ⊢
 clear hsz
 have LT:Hid (Lies w1 ⟨w.heap.size,0,none⟩ c):=Lib.hid (by have:=Row.lies_of_block S0.out.blk;simpa using this)
 go_wp2_with (refine Row.wpList_load_g 33 _ rfl (by first | rfl | go_simp) ⟨w.heap.size,0,none⟩ rfl c _ LT.out Tryz.underlying33 rfl IA.out ?_)
 refine (ON.out _ S0.out.bel).mono ?_
 rintro e w2 ⟨rfl,hb⟩
 have S2:=Lib.hid (S0.out.step hb)
 clear hb S0 LT ON IA
 go_wp2_with fail
 refine (rlist_any os _).mono ?_
 rintro e w3 ⟨v0,rfl,hown,hb⟩
 have S3:=Lib.hid (S2.out.step hb)
 obtain ⟨sa,sc,rfl,hrow⟩:=row_of hown
 have HR:=Lib.hid hrow
 have hl8:=SetM.list_len os
 have BD:=Lib.hid (SetM.list_bd os)
 clear hown hrow hb S2
 generalize SetM.list os=M at RS HR hl8 BD ⊢
 go_wp2_with fail
 go_loopw [3,10] (fun v i wr=>∃ q:Nat,q≤M.length∧i=.int .i64 q∧OwnsI w3.heap.size wr v ((M.take q).map (clr T))∧Below w3.heap.size w3 wr) (fun _ i _=>M.length - (intOf i).toNat)
 case atStart=>exact ⟨0,by omega,rfl,Owns.nil,Below.refl _ _⟩
 case round =>
  obtain ⟨q,hq,rfl,hown,hbel⟩:=hrel
  have HO:=Lib.hid hown
  have HB:=Lib.hid hbel
  clear hown hbel
  by_cases hlt:q < M.length
  ·obtain ⟨x,hx,hc⟩:=(HR.out.below HB.out).cells hlt
   obtain rfl:sa=some x:=hx
   have c0:=hc q hlt
   have hmem:M.getD q 0 ∈ M:=by rw [List.getD_eq_getElem?_getD,List.getElem?_eq_getElem hlt];exact List.getElem_mem hlt
   have hbd:=BD.out _ hmem
   have MS:Hid ((M.take (q+1)).map (clr T)=(M.take q).map (clr T)++[clr T (M.getD q 0)]):=Lib.hid (by rw [RefS.take_succ M q hlt,List.map_append];rfl)
   clear hc hmem
   generalize M.getD q 0=p at c0 hbd MS
   obtain ⟨p0,p8⟩:=hbd
   obtain ⟨k,rfl⟩:=Int.eq_ofNat_of_zero_le p0
   have hk:k < 8:=by omega
   have hv:T.phases[k]?=some (phAt T k):=by
    unfold phAt
    rw [Int.toNat_natCast,List.getD_eq_getElem?_getD,List.getElem?_eq_getElem (by rw [L8.out];exact hk)];rfl
   have CL:Hid (clr T k=sums [(phAt T k).yellow,(phAt T k).red]):=Lib.hid rfl
   generalize phAt T k=u at hv CL
   obtain ⟨y,hy,hcc⟩:=(phases_in (S3.out.step HB.out).blk C.out L8.out).at hv
   obtain rfl:=Option.some.inj hy
   have d6:wr.cell? ⟨w.heap.size,k*13+6,none⟩=some (I u.yellow):=by have:=hcc 6 _ rfl;rwa [Addr.add_mid,Nat.zero_add,Addr.add_mid] at this
   have d7:wr.cell? ⟨w.heap.size,k*13+7,none⟩=some (I u.red):=by have:=hcc 7 _ rfl;rwa [Addr.add_mid,Nat.zero_add,Addr.add_mid] at this
   have hl3:w.heap.size < w3.heap.size:=(Array.getElem?_eq_some_iff.1 S3.out.blk).1
   have CY:Hid (∀ w',Below w3.heap.size wr w'→w'.cell? ⟨w.heap.size,k*13+6,none⟩=some (I u.yellow)):=Lib.hid (fun w' hb=>(hb.cell (show w.heap.size < _ from hl3)).trans d6)
   have CR:Hid (∀ w',Below w3.heap.size wr w'→w'.cell? ⟨w.heap.size,k*13+7,none⟩=some (I u.red)):=Lib.hid (fun w' hb=>(hb.cell (show w.heap.size < _ from hl3)).trans d7)
   clear hv hcc hy d6 d7
   have hwr:=HB.out.size
   have hlen:((M.take q).map (clr T)).length≤8:=by rw [List.length_map,List.length_take];omega
   go_upto_region 5 with fail
   refine wp_region_held (S:=fun w'=>Below w3.heap.size wr w') (by kernel_rfl) ?_
   have hO:OwnsI w3.heap.size { wr with drawn:=wr.drawn+1 } u3 ((M.take q).map (clr T)):=HO.out
   have hS:Below w3.heap.size wr { wr with drawn:=wr.drawn+1 }:=(Below.refl _ _).drew
   have hv3:w3.heap.size≤({ wr with drawn:=wr.drawn+1 }:World).heap.size:=hwr
   generalize ({ wr with drawn:=wr.drawn+1 }:World)=v at hS hO hv3 ⊢
   generalize (M.take q).map (clr T)=P1 at hO hlen MS HO
   refine Held.take (i:=0) (some 14) rfl (v:=?_) rfl (by kernel_rfl) (by kernel_rfl) (by kernel_rfl) (fun _ _ _ h=>h) (Or.inl ⟨by rfl,?_⟩) hS ?_
   rotate_left
   ·intro w' hw'
    have c6:=CY.out w' hw'
    have c7:=CR.out w' hw'
    go_simp
    try with_reducible rfl
   (try dsimp only [Act.put]);(try simp only [List.setIfInBounds_toArray,List.set_cons_zero,List.set_cons_succ])
   refine Held.take (i:=1) (some 15) rfl (v:=?_) rfl (by kernel_rfl) (by kernel_rfl) (by kernel_rfl) (fun _ _ _ h=>h) (Or.inl ⟨by rfl,?_⟩) hS ?_
   rotate_left
   ·intro w' hw'
    have c6:=CY.out w' hw'
    have c7:=CR.out w' hw'
    go_simp
    try with_reducible rfl
   (try dsimp only [Act.put]);(try simp only [List.setIfInBounds_toArray,List.set_cons_zero,List.set_cons_succ])
   refine Held.take (i:=2) (some 16) rfl (v:=?_) rfl (by kernel_rfl) (by kernel_rfl) (by kernel_rfl) (fun _ _ _ h=>h) (Or.inl ⟨by rfl,?_⟩) hS ?_
   rotate_left
   ·intro w' hw'
    have c6:=CY.out w' hw'
    have c7:=CR.out w' hw'
    go_simp
    try with_reducible rfl
   (try dsimp only [Act.put]);(try simp only [List.setIfInBounds_toArray,List.set_cons_zero,List.set_cons_succ])
   refine Held.take (i:=3) (some 17) rfl (v:=?_) rfl (by kernel_rfl) (by kernel_rfl) (by kernel_rfl) (fun _ _ _ h=>h) (Or.inl ⟨by rfl,?_⟩) hS ?_
   rotate_left
   ·intro w' hw'
    have c6:=CY.out w' hw'
    have c7:=CR.out w' hw'
    go_simp
    try with_reducible rfl
   (try dsimp only [Act.put]);(try simp only [List.setIfInBounds_toArray,List.set_cons_zero,List.set_cons_succ])
   refine Held.take (i:=4) (some 18) rfl (v:=?_) rfl (by kernel_rfl) (by kernel_rfl) (by kernel_rfl) (fun _ _ _ h=>h) (Or.inl ⟨by rfl,?_⟩) hS ?_
   rotate_left
   ·intro w' hw'
    have c6:=CY.out w' hw'
    have c7:=CR.out w' hw'
    go_simp
    try with_reducible rfl
   (try dsimp only [Act.put]);(try simp only [List.setIfInBounds_toArray,List.set_cons_zero,List.set_cons_succ])
   refine Held.take (i:=5) (some 19) rfl (v:=?_) rfl (by kernel_rfl) (by kernel_rfl) (by kernel_rfl) (fun _ _ _ h=>h) (Or.inl ⟨by rfl,?_⟩) hS ?_
   rotate_left
   ·intro w' hw'
    have c6:=CY.out w' hw'
    have c7:=CR.out w' hw'
    go_simp
    try with_reducible rfl
   (try dsimp only [Act.put]);(try simp only [List.setIfInBounds_toArray,List.set_cons_zero,List.set_cons_succ])
   refine Held.take (i:=6) (some 20) rfl (v:=?_) rfl (by kernel_rfl) (by kernel_rfl) (by kernel_rfl) (fun _ _ _ h=>h) (Or.inl ⟨by rfl,?_⟩) hS ?_
   rotate_left
   ·intro w' hw'
    have c6:=CY.out w' hw'
    have c7:=CR.out w' hw'
    go_simp
    try with_reducible rfl
   (try dsimp only [Act.put]);(try simp only [List.setIfInBounds_toArray,List.set_cons_zero,List.set_cons_succ])
   refine Held.take (i:=7) (some 21) rfl (v:=?_) rfl (by kernel_rfl) (by kernel_rfl) (by kernel_rfl) (fun _ _ _ h=>h) (Or.inl ⟨by rfl,?_⟩) hS ?_
   rotate_left
   ·intro w' hw'
    have c6:=CY.out w' hw'
    have c7:=CR.out w' hw'
    go_simp
    try with_reducible rfl
   (try dsimp only [Act.put]);(try simp only [List.setIfInBounds_toArray,List.set_cons_zero,List.set_cons_succ])
   refine Held.take (i:=8) (some 22) rfl (v:=?_) rfl (by kernel_rfl) (by kernel_rfl) (by kernel_rfl) (fun _ _ _ h=>h) (Or.inl ⟨by rfl,?_⟩) hS ?_
   rotate_left
   ·intro w' hw'
    have c6:=CY.out w' hw'
    have c7:=CR.out w' hw'
    go_simp
    try with_reducible rfl
   (try dsimp only [Act.put]);(try simp only [List.setIfInBounds_toArray,List.set_cons_zero,List.set_cons_succ])
   refine Held.take (i:=9) (some 23) rfl (v:=?_) rfl (by kernel_rfl) (by kernel_rfl) (by kernel_rfl) (fun _ _ _ h=>h) (Or.inl ⟨by rfl,?_⟩) hS ?_
   rotate_left
   ·intro w' hw'
    have c6:=CY.out w' hw'
    have c7:=CR.out w' hw'
    go_simp
    try with_reducible rfl
   (try dsimp only [Act.put]);(try simp only [List.setIfInBounds_toArray,List.set_cons_zero,List.set_cons_succ])
   refine Held.take (i:=10) (some 24) rfl (v:=?_) rfl (by kernel_rfl) (by kernel_rfl) (by kernel_rfl) (fun _ _ _ h=>h) (Or.inl ⟨by rfl,?_⟩) hS ?_
   rotate_left
   ·intro w' hw'
    have c6:=CY.out w' hw'
    have c7:=CR.out w' hw'
    go_simp
    try with_reducible rfl
   (try dsimp only [Act.put]);(try simp only [List.setIfInBounds_toArray,List.set_cons_zero,List.set_cons_succ])
   clear CY CR
   refine wpAnyH_ready (rs:=[11]) (by kernel_rfl) (by simp) (AllReadyH.cons rfl (fun K hK=>?_) AllReadyH.nil)
   go_simp
   have r1:Hid (IntRow (v.alloc (.cells #[I u.yellow,I u.red] 3)) ⟨some ⟨v.heap.size,0,none⟩,2⟩ [u.yellow,u.red]):=Lib.hid (row_new v 3 [u.yellow,u.red] 2 rfl (by decide) _ rfl)
   have o1:=hO.below ((Below.refl v.heap.size v).alloc (Nat.le_refl _) (.cells #[I u.yellow,I u.red] 3))
   have s1:=hS.alloc hv3 (.cells #[I u.yellow,I u.red] 3)
   have z1:(v.alloc (.cells #[I u.yellow,I u.red] 3)).heap.size=v.heap.size+1:=by simp
   have v1:w3.heap.size≤(v.alloc (.cells #[I u.yellow,I u.red] 3)).heap.size:=by rw [z1];omega
   clear hS hO z1
   generalize v.heap.size=b1 at r1 ⊢
   generalize World.alloc v _=v at r1 o1 s1 v1 ⊢
   refine hK.out _ _ s1 (fun hS=>?_)
   clear hK K s1
   refine wpAnyH_ready (rs:=[12]) (by kernel_rfl) (by simp) (AllReadyH.cons rfl (fun K hK=>?_) AllReadyH.nil)
   go_simp
   refine (sum_len (some ⟨b1,0,none⟩) 2 [u.yellow,u.red] 2 rfl _ r1.out).mono ?_
   rintro e w' ⟨rfl,hq⟩
   subst w'
   rw [← CL.out]
   go_simp
   refine hK.out _ _ hS (fun hS=>?_)
   clear hK K r1
   generalize clr T ((k:Nat):Int)=z at MS ⊢
   refine wpAnyH_ready (rs:=[13]) (by kernel_rfl) (by simp) (AllReadyH.cons rfl (fun K hK=>?_) AllReadyH.nil)
   go_simp
   have c1:(v.alloc (.cells #[I z] 3)).cell? ⟨v.heap.size,0,none⟩=some (I z):=by rw [cell_of_row _ _ _ _ _ _ (heap_alloc_new v _)];rfl
   have o2:=o1.below ((Below.refl v.heap.size v).alloc (Nat.le_refl _) (.cells #[I z] 3))
   have s2:=hS.alloc v1 (.cells #[I z] 3)
   have z2:(v.alloc (.cells #[I z] 3)).heap.size=v.heap.size+1:=by simp
   have v2:w3.heap.size≤(v.alloc (.cells #[I z] 3)).heap.size:=by rw [z2];omega
   clear hS o1 v1 z2
   generalize v.heap.size=b2 at c1 ⊢
   generalize World.alloc v _=v at c1 o2 s2 v2 ⊢
   refine hK.out _ _ s2 (fun hS=>?_)
   clear hK K s2
   refine wpAnyH_ready (rs:=[14]) (by kernel_rfl) (by simp) (AllReadyH.cons rfl (fun K hK=>?_) AllReadyH.nil)
   rw [if_pos (by rfl)]
   refine wp_append_own _ _ _ _ rfl w3.heap.size 3 i0 (.int .i64 0) 1 8 Tryz.underlying42 hi hz0 hz1 hz2 rfl (by decide) u3 P1.length _ rfl o2 ⟨b2,0,none⟩ 1 1 [I z] rfl rfl ?c1 ?c2 ?c3 ?c4 v2 ?_
   case c1 =>
    intro j e hj
    match j,hj with
    | 0,hj=>simp at hj;subst hj;rw [Tab.add_zero];exact c1
   case c2=>intro e he;simp at he;subst he;rfl
   case c3=>unfold maxLen;omega
   case c4=>omega
   intro v' w5 hown' hgrow hnil'
   have s3:Below w3.heap.size wr w5:=hS.grown hgrow (by omega) (fun m hm=>(show OwnsI w3.heap.size v u3 P1 from o2).blk m hm)
   have HO2:Hid (OwnsI w3.heap.size w5 v' (P1++[z])):=Lib.hid (Owns.snoc hown')
   clear hown' hgrow hnil' hS o2 c1 v2
   refine hK.out _ _ s3 (fun hS=>?_)
   clear hK K s3
   refine Held.take (i:=15) (some 3) rfl (v:=?_) rfl (by kernel_rfl) (by kernel_rfl) (by kernel_rfl) (fun _ _ _ h=>h) (Or.inl ⟨by rfl,?_⟩) hS ?_
   rotate_left
   ·intro w' hw'
    go_simp
    try with_reducible rfl
   (try dsimp only [Act.put]);(try simp only [List.setIfInBounds_toArray,List.set_cons_zero,List.set_cons_succ])
   refine wpAnyH_done (by kernel_rfl) ?_ _
   have HB2:=Lib.hid (HB.out.trans hS)
   clear hS
   go_wp2
   go_roundw
   case rel=>exact ⟨q+1,by omega,by go_num,by rw [MS.out];exact HO2.out,HB2.out⟩
   case measure=>simp [intOf];omega
  ·have HE:Hid ((M.take q).map (clr T)=M.map (clr T)):=Lib.hid (by rw [List.take_of_length_le (by omega)])
   obtain ⟨⟨ea,ec⟩,hs,hrow⟩:=HO.out.row (enc:=fun n=>[I n]) (fun _=>rfl)
   rw [HE.out] at hs hrow
   have HRR:=Lib.hid hrow
   have HF:Hid (Below w.heap.size w wr):=Lib.hid ((S3.out.step HB.out).bel)
   clear hrow HE
   subst hs
   generalize M.map (clr T)=P2 at RS HRR ⊢
   rw [show (Sl.val ⟨ea,ec⟩ P2.length)=.slice ea P2.length ec from rfl]
   go_wp2_with fail
   refine (most_row ea ec P2 _ HRR.out).mono ?_
   rintro e w' ⟨rfl,rfl⟩
   rw [← RS.out]
   go_wp2
   go_ret
   exact ⟨rfl,HF.out⟩
end Clear
namespace EntryS
open Go.ChangeShapes Go.WideShapes Go.ChangeAt Go.RowKit
open Tab Gath RefS OnS RefC Clear
open May (St phases_in infoP infoT infoR row_new)
def entryR (T:Tab) (r:Rl):Int:=sums [r.delay,r.hold,r.green,r.green,r.foot,r.foot,r.foot,clearS T,clearS T,clearS T,clearS T,clearS T,T.revert,T.revert,T.revert,60]
def entryS (T:Tab) (k:Int):Int:=if k < 0 then 0 else match T.rails[k.toNat]? with
 | some r=>entryR T r
 | none=>0
theorem entry_any (T:Tab) (h:Hd) (k:Int) (w:World) (ht:IsTab w h T) :
  Calls Tryz.prog 105 #[.agg (T.cells h).toArray,.int .i64 k] w fun e w'=>e=.returned (.int .i64 (entryS T k))∧Below w.heap.size w w':=by
 have C:=Lib.hid (cells_ok ht)
 have hsz:=C.out.size
 have IA:Hid ((Tryz.prog.info? 33).map (·.size)=some (T.cells h).length):=Lib.hid (by rw [List.size_toArray] at hsz;rw [hsz];exact infoT)
 have CC:Hid (∀ W,Below w.heap.size w W→Calls Tryz.prog 107 #[.agg (T.cells h).toArray] W fun e w'=>e=.returned (.int .i64 (clearS T))∧Below W.heap.size W w'):=Lib.hid (fun W hb=>clear_any T h W (ht.below hb))
 have S0:=Lib.hid (St.box (cs:=(T.cells h).toArray) ht)
 have Kr:=ht.rails.len
 unfold maxLen at Kr
 have RS:Hid (entryS T k=if k < 0 then 0 else match T.rails[k.toNat]? with
  | some r=>entryR T r
  | none=>0):=Lib.hid rfl
 have ER:Hid (∀ r,entryR T r=sums [r.delay,r.hold,r.green,r.green,r.foot,r.foot,r.foot,clearS T,clearS T,clearS T,clearS T,clearS T,T.revert,T.revert,T.revert,60]):=Lib.hid (fun r=>rfl)
 generalize entryS T k=e0 at RS ⊢
 generalize clearS T=cl at CC ER
 clear ht
 generalize T.cells h=c at *
 go_enter Tryz.func105,Tryz.ntmps105
 go_upto_region 1 with fail
 generalize w.alloc (.cells c.toArray 33)=w1 at S0 ⊢
 clear hsz
 have q114:=S0.out.cell C.out.r
 by_cases h0:k < 0
 ·have HE:Hid (0=e0):=Lib.hid (by rw [RS.out,if_pos h0])
  go_wp2
  go_ret
  exact ⟨RefC.ret_int HE.out,S0.out.bel⟩
 obtain ⟨m,rfl⟩:=Int.eq_ofNat_of_zero_le (show 0≤k by omega)
 by_cases h1:T.rails.length≤m
 ·have HE:Hid (0=e0):=Lib.hid (by rw [RS.out,if_neg h0,Int.toNat_natCast,List.getElem?_eq_none h1])
  go_wp2
  go_ret
  exact ⟨RefC.ret_int HE.out,S0.out.bel⟩
 have hlt:m < T.rails.length:=by omega
 have hv:=List.getElem?_eq_getElem hlt
 generalize T.rails[m]=r at hv
 have HE:Hid (entryR T r=e0):=Lib.hid (by rw [RS.out,if_neg h0,Int.toNat_natCast,hv])
 obtain ⟨x,hx,hc⟩:=S0.out.tab.rails.at hv
 have HC:=Lib.hid hc
 have qq:Hid (w1.cell? ⟨w.heap.size,114,none⟩=some (.slice (some x) T.rails.length h.r.cap)):=by have:=q114;simp only [Sl.val,hx] at this;exact this
 clear hv hc hx q114 h0 h1 RS
 have q114:=qq.out
 go_upto_region 3 with fail
 go_upto_region 4 with (first | (refine Row.wpList_load_g 75 _ rfl (by first | rfl | go_simp) (x.add (m*11)) rfl r.cells _ HC.out Tryz.underlying75 rfl infoR ?_) | (refine Row.wpList_store_new rfl 75 _ _ rfl w1 _ r.cells.toArray rfl rfl rfl infoR rfl (Rl.one _) ?_))
 have hb2:Below w1.heap.size w1 (w1.alloc (.cells r.cells.toArray 75)):=(Below.refl _ _).alloc (Nat.le_refl _) _
 have hg:=heap_alloc_new w1 (.cells r.cells.toArray 75)
 (try dsimp only [Act.put])
 have S1:=Lib.hid (S0.out.step hb2)
 clear q114 qq HC
 generalize World.alloc w1 _=w2 at hg S1 ⊢
 generalize w1.heap.size=b at hg ⊢
 have HG:=Lib.hid hg
 clear hg hb2 S0
 have LT:Hid (Lies w2 ⟨w.heap.size,0,none⟩ c):=Lib.hid (by have:=Row.lies_of_block S1.out.blk;simpa using this)
 go_wp2_with (refine Row.wpList_load_g 33 _ rfl (by first | rfl | go_simp) ⟨w.heap.size,0,none⟩ rfl c _ LT.out Tryz.underlying33 rfl IA.out ?_)
 refine (CC.out _ S1.out.bel).mono ?_
 rintro e w3 ⟨rfl,hb⟩
 have S2:=Lib.hid (S1.out.step hb)
 have hg3:=(hb.block _ (Array.getElem?_eq_some_iff.1 HG.out).1).trans HG.out
 have HL:Hid (Lies w3 ⟨b,0,none⟩ r.cells):=Lib.hid (by have:=Row.lies_of_block hg3;simpa using this)
 clear hb hg3 HG S1 LT CC IA
 have c4:w3.cell? ⟨b,4,none⟩=some (I r.delay):=by have:=HL.out 4 _ rfl;rwa [Addr.add_mid,Nat.zero_add] at this
 have c5:w3.cell? ⟨b,5,none⟩=some (I r.green):=by have:=HL.out 5 _ rfl;rwa [Addr.add_mid,Nat.zero_add] at this
 have c6:w3.cell? ⟨b,6,none⟩=some (I r.foot):=by have:=HL.out 6 _ rfl;rwa [Addr.add_mid,Nat.zero_add] at this
 have c7:w3.cell? ⟨b,7,none⟩=some (I r.hold):=by have:=HL.out 7 _ rfl;rwa [Addr.add_mid,Nat.zero_add] at this
 have c119:=S2.out.cell C.out.revert
 go_wp2_with fail
 have hrow:=row_new w3 3 [r.delay,r.hold,r.green,r.green,r.foot,r.foot,r.foot,cl,cl,cl,cl,cl,T.revert,T.revert,T.revert,60] 16 rfl (by decide) _ rfl
 have HF:Hid (Below w.heap.size w (w3.alloc (.cells #[I r.delay,I r.hold,I r.green,I r.green,I r.foot,I r.foot,I r.foot,I cl,I cl,I cl,I cl,I cl,I T.revert,I T.revert,I T.revert,I 60] 3))):=Lib.hid (S2.out.bel.alloc S2.out.bel.size _)
 refine (sum_len (some ⟨w3.heap.size,0,none⟩) 16 [r.delay,r.hold,r.green,r.green,r.foot,r.foot,r.foot,cl,cl,cl,cl,cl,T.revert,T.revert,T.revert,60] 16 rfl _ hrow).mono ?_
 rintro e w' ⟨rfl,rfl⟩
 rw [← ER.out r,HE.out]
 clear hrow c4 c5 c6 c7 c119
 go_wp2
 go_ret
 exact ⟨rfl,HF.out⟩
end EntryS
end Go.Proofs.YtjdeemmaaiecnaaGreat
