/- 3 texts in one file, in build order. -/
import Derived.Test.YtjdeemmaaiecnaaGreatRows
import Derived.Test.YtjdeemmaaiecnaaGreatPart10
import Derived.Test.YtjdeemmaaiecnaaGreatPart02
import Derived.Test.YtjdeemmaaiecnaaGreatPart04
import Derived.Deep.Cut
import Derived.Deep.CutRange
import Derived.Test.YtjdeemmaaiecnaaGreatPart01
import Derived.Deep.Slices
import Derived.ChangeSame
import Derived.Laws.Cover2
set_option linter.unusedVariables false
set_option linter.unusedSimpArgs false
set_option linter.unusedSectionVars false
set_option maxHeartbeats 8000000
set_option maxRecDepth 100000
namespace Go.Proofs.YtjdeemmaaiecnaaGreat
namespace Same
open Go.ChangeShapes Go.WideShapes Go.ChangeAt Go.RowKit
open Tab Owned CodeAt
open May (ret_bool chain take_succ' infoP infoG infoD infoR infoB infoT row_new St)
theorem dets_rg {Q:Exit→Act→World→Prop} (wc:World) (g7 g8:Nat) (v0 u0:Det) (hg7:wc.heap[g7]?=some (.cells v0.cells.toArray 71 (0,0))) (hg8:wc.heap[g8]?=some (.cells u0.cells.toArray 71 (0,0))) (f0 f1 f2 f3 f4 f5 f6 f9 f10 f11 f12 f13 f14 f15 f16 f17 f18 f19 f20 f21 f22 f23 f24 f25 f26 f27 f28 f29 f30 f31 f32 f33 f34 f35 f36 f37 f38 f39 f40 f41 f42 f43 f44 f45 f46 f47 f48 f49 f50 f51 f52 f53 f54 f55 f56 f57 f58 f59 f60 f61 f62 f63 f64 f65 f66 f67 f68 f69 f70 f71 f72 f73 f74 f75 f76 f77 f78 f79 f80 f81 f82 f83 f84 f85 f86 f87 f88 f89 f90 f91 f92 f93 f94 f95 f96 f97 f98 f99 f100 f101 f102 f103 f104 f105 f106 f107 f108 f109 f110 f111 f112 f113 f114 f115 f116 f117 f118 f119 f120 f121 f122 f123 f124 f125 f126 f127 f128 f129 f130 f131 f132 f133 f134 f135 f136 f137 f138 f139 f140 f141 f142 f143 f144 f145 f146 f147 f148 f149 f150 f151 f152 f153 f154 f155 f156 f157 f158 f159 f160 f161 f162 f163 f164 f165 f166 f167 f168 f169 f170 f171 f172 f173 f174 f175 f176 f177 f178 f179 f180 f181 f182 f183 f184 f185 f186 f187 f188 f189 f190 f191 f192 f193 f194 f195 f196 f197 f198 f199 f200 f201 f202 f203 f204 f205 f206 f207 f208 f209 f210 f211 f212 f213 f214 f215 f216 f217 f218 f219 f220 f221 f222 f223 f224 f225 f226 f227 f228 f229 f230 f231 f232 f233 f234 f235 f236 f237 f238 f239 f240 f241 f242:Value)
  (HQ:Hid (∀ (x152 x153 x154 x155 x156 x157 x158 x159 x160 x161 x162 x163 x164 x165 x166 x167 x168 x169 x170 x171 x172 x173 x174 x175 x176 x177 x178 x179 x180 x181 x182 x183 x184 x185 x186 x187 x188 x189 x190 x191 x192 x193 x194 x195 x196 x197 x198 x199 x200 x201 x202 x203 x204 x205:Value) (b:Bool) (w':World),(b=false ↔ v0=u0)→Below wc.heap.size wc w'→Q .normal ⟨#[f0,f1,f2,f3,f4,f5,f6,Value.pointer (some ⟨g7,0,none⟩),Value.pointer (some ⟨g8,0,none⟩),f9,f10,f11,f12,f13,f14,f15,f16,f17,f18,f19,f20,f21,f22,f23,f24,f25,f26,f27,f28,f29,f30,f31,f32,f33,f34,f35,f36,f37,f38,f39,f40,f41,f42,f43,f44,f45,f46,f47,f48,f49,f50,f51,f52,f53,f54,f55,f56,f57,f58,f59,f60,f61,f62,f63,f64,f65,f66,f67,f68,f69,f70,f71,f72,f73,f74,f75,f76,f77,f78,f79,f80,f81,f82,f83,f84,f85,f86,f87,f88,f89,f90,f91,f92,f93,f94,f95,f96,f97,f98,f99,f100,f101,f102,f103,f104,f105,f106,f107,f108,f109,f110,f111,f112,f113,f114,f115,f116,f117,f118,f119,f120,f121,f122,f123,f124,f125,f126,f127,f128,f129,f130,f131,f132,f133,f134,f135,f136,f137,f138,f139,f140,f141,f142,f143,f144,f145,f146,f147,f148,f149,f150,f151,x152,x153,x154,x155,x156,x157,x158,x159,x160,x161,x162,x163,x164,x165,x166,x167,x168,x169,x170,x171,x172,x173,x174,x175,x176,x177,x178,x179,x180,x181,x182,x183,x184,x185,x186,x187,x188,x189,x190,x191,x192,x193,x194,x195,x196,x197,x198,x199,x200,x201,x202,x203,x204,x205,Value.bool b,f207,f208,f209,f210,f211,f212,f213,f214,f215,f216,f217,f218,f219,f220,f221,f222,f223,f224,f225,f226,f227,f228,f229,f230,f231,f232,f233,f234,f235,f236,f237,f238,f239,f240,f241,f242],[]⟩ w')) :
  (rg 14 Tryz.f9).wp Tryz.prog Q ⟨#[f0,f1,f2,f3,f4,f5,f6,Value.pointer (some ⟨g7,0,none⟩),Value.pointer (some ⟨g8,0,none⟩),f9,f10,f11,f12,f13,f14,f15,f16,f17,f18,f19,f20,f21,f22,f23,f24,f25,f26,f27,f28,f29,f30,f31,f32,f33,f34,f35,f36,f37,f38,f39,f40,f41,f42,f43,f44,f45,f46,f47,f48,f49,f50,f51,f52,f53,f54,f55,f56,f57,f58,f59,f60,f61,f62,f63,f64,f65,f66,f67,f68,f69,f70,f71,f72,f73,f74,f75,f76,f77,f78,f79,f80,f81,f82,f83,f84,f85,f86,f87,f88,f89,f90,f91,f92,f93,f94,f95,f96,f97,f98,f99,f100,f101,f102,f103,f104,f105,f106,f107,f108,f109,f110,f111,f112,f113,f114,f115,f116,f117,f118,f119,f120,f121,f122,f123,f124,f125,f126,f127,f128,f129,f130,f131,f132,f133,f134,f135,f136,f137,f138,f139,f140,f141,f142,f143,f144,f145,f146,f147,f148,f149,f150,f151,f152,f153,f154,f155,f156,f157,f158,f159,f160,f161,f162,f163,f164,f165,f166,f167,f168,f169,f170,f171,f172,f173,f174,f175,f176,f177,f178,f179,f180,f181,f182,f183,f184,f185,f186,f187,f188,f189,f190,f191,f192,f193,f194,f195,f196,f197,f198,f199,f200,f201,f202,f203,f204,f205,f206,f207,f208,f209,f210,f211,f212,f213,f214,f215,f216,f217,f218,f219,f220,f221,f222,f223,f224,f225,f226,f227,f228,f229,f230,f231,f232,f233,f234,f235,f236,f237,f238,f239,f240,f241,f242],[]⟩ wc:=by
 conv=>arg 2;whnf
 have M1:Hid (Lies wc ⟨g7,0,none⟩ v0.cells):=Lib.hid (by have:=Row.lies_of_block hg7;simpa using this)
 have M2:Hid (Lies wc ⟨g8,0,none⟩ u0.cells):=Lib.hid (by have:=Row.lies_of_block hg8;simpa using this)
 clear hg7 hg8
 have hne:Nonempty (Ph.S (Row.Old wc)):=⟨⟨0,wc,Below.refl _ _⟩⟩
 refine Pw.region (Row.Old wc) [] (by kernel_rfl) (by kernel_rfl) (Row.Old.drew _) ?_
 by_cases h0:v0.phase=u0.phase
 rotate_left
 ·skip
  have NE:Hid (¬ v0=u0):=fun e=>h0 (by rw [e])
  have hb:((v0.phase:Int) != (u0.phase:Int))=true:=by rw [bne_iff_ne];omega
  clear h0
  have q7:∀ p:Ph.S (Row.Old wc),p.world.cell? ⟨g7,0,none⟩=some (I v0.phase):=fun p=>by have:=(M1.out.below p.is) 0 _ rfl;rwa [Addr.add_mid,Nat.zero_add] at this
  have q8:∀ p:Ph.S (Row.Old wc),p.world.cell? ⟨g8,0,none⟩=some (I u0.phase):=fun p=>by have:=(M2.out.below p.is) 0 _ rfl;rwa [Addr.add_mid,Nat.zero_add] at this
  iterate 5
   (refine Pw.calm rfl (fun K hK=>?_)
    go_simp
    refine hK _ ?_
    clear hK K)
  clear q7 q8
  iterate 1
   (refine Pw.calm rfl (fun K hK=>?_)
    go_simp
    refine hK _ ?_
    clear hK K)
  refine Pw.skips 5 (by kernel_rfl) ?_
  (try simp only [List.take_succ_cons,List.take_zero,List.drop_succ_cons,List.drop_zero,Pw.undefs])
  (try dsimp only [Act.put])
  (try simp only [List.setIfInBounds_toArray,List.set_cons_zero,List.set_cons_succ])
  iterate 2
   (refine Pw.calm rfl (fun K hK=>?_)
    go_simp
    refine hK _ ?_
    clear hK K)
  refine Pw.skips 5 (by kernel_rfl) ?_
  (try simp only [List.take_succ_cons,List.take_zero,List.drop_succ_cons,List.drop_zero,Pw.undefs])
  (try dsimp only [Act.put])
  (try simp only [List.setIfInBounds_toArray,List.set_cons_zero,List.set_cons_succ])
  iterate 2
   (refine Pw.calm rfl (fun K hK=>?_)
    go_simp
    refine hK _ ?_
    clear hK K)
  refine Pw.skips 7 (by kernel_rfl) ?_
  (try simp only [List.take_succ_cons,List.take_zero,List.drop_succ_cons,List.drop_zero,Pw.undefs])
  (try dsimp only [Act.put])
  (try simp only [List.setIfInBounds_toArray,List.set_cons_zero,List.set_cons_succ])
  iterate 2
   (refine Pw.calm rfl (fun K hK=>?_)
    go_simp
    refine hK _ ?_
    clear hK K)
  refine Pw.skips 7 (by kernel_rfl) ?_
  (try simp only [List.take_succ_cons,List.take_zero,List.drop_succ_cons,List.drop_zero,Pw.undefs])
  (try dsimp only [Act.put])
  (try simp only [List.setIfInBounds_toArray,List.set_cons_zero,List.set_cons_succ])
  iterate 2
   (refine Pw.calm rfl (fun K hK=>?_)
    go_simp
    refine hK _ ?_
    clear hK K)
  refine Pw.skips 7 (by kernel_rfl) ?_
  (try simp only [List.take_succ_cons,List.take_zero,List.drop_succ_cons,List.drop_zero,Pw.undefs])
  (try dsimp only [Act.put])
  (try simp only [List.setIfInBounds_toArray,List.set_cons_zero,List.set_cons_succ])
  iterate 2
   (refine Pw.calm rfl (fun K hK=>?_)
    go_simp
    refine hK _ ?_
    clear hK K)
  refine Pw.skips 7 (by kernel_rfl) ?_
  (try simp only [List.take_succ_cons,List.take_zero,List.drop_succ_cons,List.drop_zero,Pw.undefs])
  (try dsimp only [Act.put])
  (try simp only [List.setIfInBounds_toArray,List.set_cons_zero,List.set_cons_succ])
  iterate 1
   (refine Pw.calm rfl (fun K hK=>?_)
    go_simp
    refine hK _ ?_
    clear hK K)
  refine Pw.nil ?_
  intro w3 hb3
  exact HQ.out _ _ _ _ _ _ _ _ _ _ _ _ _ _ _ _ _ _ _ _ _ _ _ _ _ _ _ _ _ _ _ _ _ _ _ _ _ _ _ _ _ _ _ _ _ _ _ _ _ _ _ _ _ _ true w3 (by simp only [Bool.true_eq_false,false_iff];exact NE.out) hb3
 have hb0:((v0.phase:Int) != (u0.phase:Int))=false:=by rw [bne_eq_false_iff_eq];omega
 have E0:=Lib.hid h0
 clear h0
 have q7:∀ p:Ph.S (Row.Old wc),p.world.cell? ⟨g7,0,none⟩=some (I v0.phase):=fun p=>by have:=(M1.out.below p.is) 0 _ rfl;rwa [Addr.add_mid,Nat.zero_add] at this
 have q8:∀ p:Ph.S (Row.Old wc),p.world.cell? ⟨g8,0,none⟩=some (I u0.phase):=fun p=>by have:=(M2.out.below p.is) 0 _ rfl;rwa [Addr.add_mid,Nat.zero_add] at this
 iterate 5
  (refine Pw.calm rfl (fun K hK=>?_)
   go_simp
   refine hK _ ?_
   clear hK K)
 clear q7 q8
 iterate 1
  (refine Pw.calm rfl (fun K hK=>?_)
   go_simp
   refine hK _ ?_
   clear hK K)
 clear hb0
 by_cases h1:v0.maxOn=u0.maxOn
 rotate_left
 ·skip
  have NE:Hid (¬ v0=u0):=fun e=>h1 (by rw [e])
  have hb:((v0.maxOn:Int) != (u0.maxOn:Int))=true:=by rw [bne_iff_ne];omega
  clear h1
  have q7:∀ p:Ph.S (Row.Old wc),p.world.cell? ⟨g7,5,none⟩=some (I v0.maxOn):=fun p=>by have:=(M1.out.below p.is) 5 _ rfl;rwa [Addr.add_mid,Nat.zero_add] at this
  have q8:∀ p:Ph.S (Row.Old wc),p.world.cell? ⟨g8,5,none⟩=some (I u0.maxOn):=fun p=>by have:=(M2.out.below p.is) 5 _ rfl;rwa [Addr.add_mid,Nat.zero_add] at this
  iterate 5
   (refine Pw.calm rfl (fun K hK=>?_)
    go_simp
    refine hK _ ?_
    clear hK K)
  clear q7 q8
  iterate 2
   (refine Pw.calm rfl (fun K hK=>?_)
    go_simp
    refine hK _ ?_
    clear hK K)
  refine Pw.skips 5 (by kernel_rfl) ?_
  (try simp only [List.take_succ_cons,List.take_zero,List.drop_succ_cons,List.drop_zero,Pw.undefs])
  (try dsimp only [Act.put])
  (try simp only [List.setIfInBounds_toArray,List.set_cons_zero,List.set_cons_succ])
  iterate 2
   (refine Pw.calm rfl (fun K hK=>?_)
    go_simp
    refine hK _ ?_
    clear hK K)
  refine Pw.skips 7 (by kernel_rfl) ?_
  (try simp only [List.take_succ_cons,List.take_zero,List.drop_succ_cons,List.drop_zero,Pw.undefs])
  (try dsimp only [Act.put])
  (try simp only [List.setIfInBounds_toArray,List.set_cons_zero,List.set_cons_succ])
  iterate 2
   (refine Pw.calm rfl (fun K hK=>?_)
    go_simp
    refine hK _ ?_
    clear hK K)
  refine Pw.skips 7 (by kernel_rfl) ?_
  (try simp only [List.take_succ_cons,List.take_zero,List.drop_succ_cons,List.drop_zero,Pw.undefs])
  (try dsimp only [Act.put])
  (try simp only [List.setIfInBounds_toArray,List.set_cons_zero,List.set_cons_succ])
  iterate 2
   (refine Pw.calm rfl (fun K hK=>?_)
    go_simp
    refine hK _ ?_
    clear hK K)
  refine Pw.skips 7 (by kernel_rfl) ?_
  (try simp only [List.take_succ_cons,List.take_zero,List.drop_succ_cons,List.drop_zero,Pw.undefs])
  (try dsimp only [Act.put])
  (try simp only [List.setIfInBounds_toArray,List.set_cons_zero,List.set_cons_succ])
  iterate 2
   (refine Pw.calm rfl (fun K hK=>?_)
    go_simp
    refine hK _ ?_
    clear hK K)
  refine Pw.skips 7 (by kernel_rfl) ?_
  (try simp only [List.take_succ_cons,List.take_zero,List.drop_succ_cons,List.drop_zero,Pw.undefs])
  (try dsimp only [Act.put])
  (try simp only [List.setIfInBounds_toArray,List.set_cons_zero,List.set_cons_succ])
  iterate 1
   (refine Pw.calm rfl (fun K hK=>?_)
    go_simp
    refine hK _ ?_
    clear hK K)
  refine Pw.nil ?_
  intro w3 hb3
  exact HQ.out _ _ _ _ _ _ _ _ _ _ _ _ _ _ _ _ _ _ _ _ _ _ _ _ _ _ _ _ _ _ _ _ _ _ _ _ _ _ _ _ _ _ _ _ _ _ _ _ _ _ _ _ _ _ true w3 (by simp only [Bool.true_eq_false,false_iff];exact NE.out) hb3
 have hb1:((v0.maxOn:Int) != (u0.maxOn:Int))=false:=by rw [bne_eq_false_iff_eq];omega
 have E1:=Lib.hid h1
 clear h1
 have q7:∀ p:Ph.S (Row.Old wc),p.world.cell? ⟨g7,5,none⟩=some (I v0.maxOn):=fun p=>by have:=(M1.out.below p.is) 5 _ rfl;rwa [Addr.add_mid,Nat.zero_add] at this
 have q8:∀ p:Ph.S (Row.Old wc),p.world.cell? ⟨g8,5,none⟩=some (I u0.maxOn):=fun p=>by have:=(M2.out.below p.is) 5 _ rfl;rwa [Addr.add_mid,Nat.zero_add] at this
 iterate 5
  (refine Pw.calm rfl (fun K hK=>?_)
   go_simp
   refine hK _ ?_
   clear hK K)
 clear q7 q8
 iterate 2
  (refine Pw.calm rfl (fun K hK=>?_)
   go_simp
   refine hK _ ?_
   clear hK K)
 clear hb1
 by_cases h2:v0.maxOff=u0.maxOff
 rotate_left
 ·skip
  have NE:Hid (¬ v0=u0):=fun e=>h2 (by rw [e])
  have hb:((v0.maxOff:Int) != (u0.maxOff:Int))=true:=by rw [bne_iff_ne];omega
  clear h2
  have q7:∀ p:Ph.S (Row.Old wc),p.world.cell? ⟨g7,6,none⟩=some (I v0.maxOff):=fun p=>by have:=(M1.out.below p.is) 6 _ rfl;rwa [Addr.add_mid,Nat.zero_add] at this
  have q8:∀ p:Ph.S (Row.Old wc),p.world.cell? ⟨g8,6,none⟩=some (I u0.maxOff):=fun p=>by have:=(M2.out.below p.is) 6 _ rfl;rwa [Addr.add_mid,Nat.zero_add] at this
  iterate 5
   (refine Pw.calm rfl (fun K hK=>?_)
    go_simp
    refine hK _ ?_
    clear hK K)
  clear q7 q8
  iterate 2
   (refine Pw.calm rfl (fun K hK=>?_)
    go_simp
    refine hK _ ?_
    clear hK K)
  refine Pw.skips 7 (by kernel_rfl) ?_
  (try simp only [List.take_succ_cons,List.take_zero,List.drop_succ_cons,List.drop_zero,Pw.undefs])
  (try dsimp only [Act.put])
  (try simp only [List.setIfInBounds_toArray,List.set_cons_zero,List.set_cons_succ])
  iterate 2
   (refine Pw.calm rfl (fun K hK=>?_)
    go_simp
    refine hK _ ?_
    clear hK K)
  refine Pw.skips 7 (by kernel_rfl) ?_
  (try simp only [List.take_succ_cons,List.take_zero,List.drop_succ_cons,List.drop_zero,Pw.undefs])
  (try dsimp only [Act.put])
  (try simp only [List.setIfInBounds_toArray,List.set_cons_zero,List.set_cons_succ])
  iterate 2
   (refine Pw.calm rfl (fun K hK=>?_)
    go_simp
    refine hK _ ?_
    clear hK K)
  refine Pw.skips 7 (by kernel_rfl) ?_
  (try simp only [List.take_succ_cons,List.take_zero,List.drop_succ_cons,List.drop_zero,Pw.undefs])
  (try dsimp only [Act.put])
  (try simp only [List.setIfInBounds_toArray,List.set_cons_zero,List.set_cons_succ])
  iterate 2
   (refine Pw.calm rfl (fun K hK=>?_)
    go_simp
    refine hK _ ?_
    clear hK K)
  refine Pw.skips 7 (by kernel_rfl) ?_
  (try simp only [List.take_succ_cons,List.take_zero,List.drop_succ_cons,List.drop_zero,Pw.undefs])
  (try dsimp only [Act.put])
  (try simp only [List.setIfInBounds_toArray,List.set_cons_zero,List.set_cons_succ])
  iterate 1
   (refine Pw.calm rfl (fun K hK=>?_)
    go_simp
    refine hK _ ?_
    clear hK K)
  refine Pw.nil ?_
  intro w3 hb3
  exact HQ.out _ _ _ _ _ _ _ _ _ _ _ _ _ _ _ _ _ _ _ _ _ _ _ _ _ _ _ _ _ _ _ _ _ _ _ _ _ _ _ _ _ _ _ _ _ _ _ _ _ _ _ _ _ _ true w3 (by simp only [Bool.true_eq_false,false_iff];exact NE.out) hb3
 have hb2:((v0.maxOff:Int) != (u0.maxOff:Int))=false:=by rw [bne_eq_false_iff_eq];omega
 have E2:=Lib.hid h2
 clear h2
 have q7:∀ p:Ph.S (Row.Old wc),p.world.cell? ⟨g7,6,none⟩=some (I v0.maxOff):=fun p=>by have:=(M1.out.below p.is) 6 _ rfl;rwa [Addr.add_mid,Nat.zero_add] at this
 have q8:∀ p:Ph.S (Row.Old wc),p.world.cell? ⟨g8,6,none⟩=some (I u0.maxOff):=fun p=>by have:=(M2.out.below p.is) 6 _ rfl;rwa [Addr.add_mid,Nat.zero_add] at this
 iterate 5
  (refine Pw.calm rfl (fun K hK=>?_)
   go_simp
   refine hK _ ?_
   clear hK K)
 clear q7 q8
 iterate 2
  (refine Pw.calm rfl (fun K hK=>?_)
   go_simp
   refine hK _ ?_
   clear hK K)
 clear hb2
 by_cases h3:v0.on=u0.on
 rotate_left
 ·skip
  have NE:Hid (¬ v0=u0):=fun e=>h3 (by rw [e])
  have hb:((v0.on:Int) != (u0.on:Int))=true:=by rw [bne_iff_ne];omega
  clear h3
  have q7:∀ p:Ph.S (Row.Old wc),p.world.cell? ⟨g7,1,none⟩=some (F v0.on):=fun p=>by have:=(M1.out.below p.is) 1 _ rfl;rwa [Addr.add_mid,Nat.zero_add] at this
  have q8:∀ p:Ph.S (Row.Old wc),p.world.cell? ⟨g8,1,none⟩=some (F u0.on):=fun p=>by have:=(M2.out.below p.is) 1 _ rfl;rwa [Addr.add_mid,Nat.zero_add] at this
  iterate 2
   (refine Pw.calm rfl (fun K hK=>?_)
    go_simp
    refine hK _ ?_
    clear hK K)
  (refine Pw.calm rfl (fun K hK=>?_)
   go_simp
   refine ⟨_,fun p=>Row.Old.pure (MayF.bits_any _ _),hK _ ?_⟩
   clear hK K)
  iterate 2
   (refine Pw.calm rfl (fun K hK=>?_)
    go_simp
    refine hK _ ?_
    clear hK K)
  (refine Pw.calm rfl (fun K hK=>?_)
   go_simp
   refine ⟨_,fun p=>Row.Old.pure (MayF.bits_any _ _),hK _ ?_⟩
   clear hK K)
  iterate 1
   (refine Pw.calm rfl (fun K hK=>?_)
    go_simp
    refine hK _ ?_
    clear hK K)
  clear q7 q8
  iterate 2
   (refine Pw.calm rfl (fun K hK=>?_)
    go_simp
    refine hK _ ?_
    clear hK K)
  refine Pw.skips 7 (by kernel_rfl) ?_
  (try simp only [List.take_succ_cons,List.take_zero,List.drop_succ_cons,List.drop_zero,Pw.undefs])
  (try dsimp only [Act.put])
  (try simp only [List.setIfInBounds_toArray,List.set_cons_zero,List.set_cons_succ])
  iterate 2
   (refine Pw.calm rfl (fun K hK=>?_)
    go_simp
    refine hK _ ?_
    clear hK K)
  refine Pw.skips 7 (by kernel_rfl) ?_
  (try simp only [List.take_succ_cons,List.take_zero,List.drop_succ_cons,List.drop_zero,Pw.undefs])
  (try dsimp only [Act.put])
  (try simp only [List.setIfInBounds_toArray,List.set_cons_zero,List.set_cons_succ])
  iterate 2
   (refine Pw.calm rfl (fun K hK=>?_)
    go_simp
    refine hK _ ?_
    clear hK K)
  refine Pw.skips 7 (by kernel_rfl) ?_
  (try simp only [List.take_succ_cons,List.take_zero,List.drop_succ_cons,List.drop_zero,Pw.undefs])
  (try dsimp only [Act.put])
  (try simp only [List.setIfInBounds_toArray,List.set_cons_zero,List.set_cons_succ])
  iterate 1
   (refine Pw.calm rfl (fun K hK=>?_)
    go_simp
    refine hK _ ?_
    clear hK K)
  refine Pw.nil ?_
  intro w3 hb3
  exact HQ.out _ _ _ _ _ _ _ _ _ _ _ _ _ _ _ _ _ _ _ _ _ _ _ _ _ _ _ _ _ _ _ _ _ _ _ _ _ _ _ _ _ _ _ _ _ _ _ _ _ _ _ _ _ _ true w3 (by simp only [Bool.true_eq_false,false_iff];exact NE.out) hb3
 have hb3:((v0.on:Int) != (u0.on:Int))=false:=by rw [bne_eq_false_iff_eq];omega
 have E3:=Lib.hid h3
 clear h3
 have q7:∀ p:Ph.S (Row.Old wc),p.world.cell? ⟨g7,1,none⟩=some (F v0.on):=fun p=>by have:=(M1.out.below p.is) 1 _ rfl;rwa [Addr.add_mid,Nat.zero_add] at this
 have q8:∀ p:Ph.S (Row.Old wc),p.world.cell? ⟨g8,1,none⟩=some (F u0.on):=fun p=>by have:=(M2.out.below p.is) 1 _ rfl;rwa [Addr.add_mid,Nat.zero_add] at this
 iterate 2
  (refine Pw.calm rfl (fun K hK=>?_)
   go_simp
   refine hK _ ?_
   clear hK K)
 (refine Pw.calm rfl (fun K hK=>?_)
  go_simp
  refine ⟨_,fun p=>Row.Old.pure (MayF.bits_any _ _),hK _ ?_⟩
  clear hK K)
 iterate 2
  (refine Pw.calm rfl (fun K hK=>?_)
   go_simp
   refine hK _ ?_
   clear hK K)
 (refine Pw.calm rfl (fun K hK=>?_)
  go_simp
  refine ⟨_,fun p=>Row.Old.pure (MayF.bits_any _ _),hK _ ?_⟩
  clear hK K)
 iterate 1
  (refine Pw.calm rfl (fun K hK=>?_)
   go_simp
   refine hK _ ?_
   clear hK K)
 clear q7 q8
 iterate 2
  (refine Pw.calm rfl (fun K hK=>?_)
   go_simp
   refine hK _ ?_
   clear hK K)
 clear hb3
 by_cases h4:v0.off=u0.off
 rotate_left
 ·skip
  have NE:Hid (¬ v0=u0):=fun e=>h4 (by rw [e])
  have hb:((v0.off:Int) != (u0.off:Int))=true:=by rw [bne_iff_ne];omega
  clear h4
  have q7:∀ p:Ph.S (Row.Old wc),p.world.cell? ⟨g7,2,none⟩=some (F v0.off):=fun p=>by have:=(M1.out.below p.is) 2 _ rfl;rwa [Addr.add_mid,Nat.zero_add] at this
  have q8:∀ p:Ph.S (Row.Old wc),p.world.cell? ⟨g8,2,none⟩=some (F u0.off):=fun p=>by have:=(M2.out.below p.is) 2 _ rfl;rwa [Addr.add_mid,Nat.zero_add] at this
  iterate 2
   (refine Pw.calm rfl (fun K hK=>?_)
    go_simp
    refine hK _ ?_
    clear hK K)
  (refine Pw.calm rfl (fun K hK=>?_)
   go_simp
   refine ⟨_,fun p=>Row.Old.pure (MayF.bits_any _ _),hK _ ?_⟩
   clear hK K)
  iterate 2
   (refine Pw.calm rfl (fun K hK=>?_)
    go_simp
    refine hK _ ?_
    clear hK K)
  (refine Pw.calm rfl (fun K hK=>?_)
   go_simp
   refine ⟨_,fun p=>Row.Old.pure (MayF.bits_any _ _),hK _ ?_⟩
   clear hK K)
  iterate 1
   (refine Pw.calm rfl (fun K hK=>?_)
    go_simp
    refine hK _ ?_
    clear hK K)
  clear q7 q8
  iterate 2
   (refine Pw.calm rfl (fun K hK=>?_)
    go_simp
    refine hK _ ?_
    clear hK K)
  refine Pw.skips 7 (by kernel_rfl) ?_
  (try simp only [List.take_succ_cons,List.take_zero,List.drop_succ_cons,List.drop_zero,Pw.undefs])
  (try dsimp only [Act.put])
  (try simp only [List.setIfInBounds_toArray,List.set_cons_zero,List.set_cons_succ])
  iterate 2
   (refine Pw.calm rfl (fun K hK=>?_)
    go_simp
    refine hK _ ?_
    clear hK K)
  refine Pw.skips 7 (by kernel_rfl) ?_
  (try simp only [List.take_succ_cons,List.take_zero,List.drop_succ_cons,List.drop_zero,Pw.undefs])
  (try dsimp only [Act.put])
  (try simp only [List.setIfInBounds_toArray,List.set_cons_zero,List.set_cons_succ])
  iterate 1
   (refine Pw.calm rfl (fun K hK=>?_)
    go_simp
    refine hK _ ?_
    clear hK K)
  refine Pw.nil ?_
  intro w3 hb3
  exact HQ.out _ _ _ _ _ _ _ _ _ _ _ _ _ _ _ _ _ _ _ _ _ _ _ _ _ _ _ _ _ _ _ _ _ _ _ _ _ _ _ _ _ _ _ _ _ _ _ _ _ _ _ _ _ _ true w3 (by simp only [Bool.true_eq_false,false_iff];exact NE.out) hb3
 have hb4:((v0.off:Int) != (u0.off:Int))=false:=by rw [bne_eq_false_iff_eq];omega
 have E4:=Lib.hid h4
 clear h4
 have q7:∀ p:Ph.S (Row.Old wc),p.world.cell? ⟨g7,2,none⟩=some (F v0.off):=fun p=>by have:=(M1.out.below p.is) 2 _ rfl;rwa [Addr.add_mid,Nat.zero_add] at this
 have q8:∀ p:Ph.S (Row.Old wc),p.world.cell? ⟨g8,2,none⟩=some (F u0.off):=fun p=>by have:=(M2.out.below p.is) 2 _ rfl;rwa [Addr.add_mid,Nat.zero_add] at this
 iterate 2
  (refine Pw.calm rfl (fun K hK=>?_)
   go_simp
   refine hK _ ?_
   clear hK K)
 (refine Pw.calm rfl (fun K hK=>?_)
  go_simp
  refine ⟨_,fun p=>Row.Old.pure (MayF.bits_any _ _),hK _ ?_⟩
  clear hK K)
 iterate 2
  (refine Pw.calm rfl (fun K hK=>?_)
   go_simp
   refine hK _ ?_
   clear hK K)
 (refine Pw.calm rfl (fun K hK=>?_)
  go_simp
  refine ⟨_,fun p=>Row.Old.pure (MayF.bits_any _ _),hK _ ?_⟩
  clear hK K)
 iterate 1
  (refine Pw.calm rfl (fun K hK=>?_)
   go_simp
   refine hK _ ?_
   clear hK K)
 clear q7 q8
 iterate 2
  (refine Pw.calm rfl (fun K hK=>?_)
   go_simp
   refine hK _ ?_
   clear hK K)
 clear hb4
 by_cases h5:v0.delay=u0.delay
 rotate_left
 ·skip
  have NE:Hid (¬ v0=u0):=fun e=>h5 (by rw [e])
  have hb:((v0.delay:Int) != (u0.delay:Int))=true:=by rw [bne_iff_ne];omega
  clear h5
  have q7:∀ p:Ph.S (Row.Old wc),p.world.cell? ⟨g7,3,none⟩=some (F v0.delay):=fun p=>by have:=(M1.out.below p.is) 3 _ rfl;rwa [Addr.add_mid,Nat.zero_add] at this
  have q8:∀ p:Ph.S (Row.Old wc),p.world.cell? ⟨g8,3,none⟩=some (F u0.delay):=fun p=>by have:=(M2.out.below p.is) 3 _ rfl;rwa [Addr.add_mid,Nat.zero_add] at this
  iterate 2
   (refine Pw.calm rfl (fun K hK=>?_)
    go_simp
    refine hK _ ?_
    clear hK K)
  (refine Pw.calm rfl (fun K hK=>?_)
   go_simp
   refine ⟨_,fun p=>Row.Old.pure (MayF.bits_any _ _),hK _ ?_⟩
   clear hK K)
  iterate 2
   (refine Pw.calm rfl (fun K hK=>?_)
    go_simp
    refine hK _ ?_
    clear hK K)
  (refine Pw.calm rfl (fun K hK=>?_)
   go_simp
   refine ⟨_,fun p=>Row.Old.pure (MayF.bits_any _ _),hK _ ?_⟩
   clear hK K)
  iterate 1
   (refine Pw.calm rfl (fun K hK=>?_)
    go_simp
    refine hK _ ?_
    clear hK K)
  clear q7 q8
  iterate 2
   (refine Pw.calm rfl (fun K hK=>?_)
    go_simp
    refine hK _ ?_
    clear hK K)
  refine Pw.skips 7 (by kernel_rfl) ?_
  (try simp only [List.take_succ_cons,List.take_zero,List.drop_succ_cons,List.drop_zero,Pw.undefs])
  (try dsimp only [Act.put])
  (try simp only [List.setIfInBounds_toArray,List.set_cons_zero,List.set_cons_succ])
  iterate 1
   (refine Pw.calm rfl (fun K hK=>?_)
    go_simp
    refine hK _ ?_
    clear hK K)
  refine Pw.nil ?_
  intro w3 hb3
  exact HQ.out _ _ _ _ _ _ _ _ _ _ _ _ _ _ _ _ _ _ _ _ _ _ _ _ _ _ _ _ _ _ _ _ _ _ _ _ _ _ _ _ _ _ _ _ _ _ _ _ _ _ _ _ _ _ true w3 (by simp only [Bool.true_eq_false,false_iff];exact NE.out) hb3
 have hb5:((v0.delay:Int) != (u0.delay:Int))=false:=by rw [bne_eq_false_iff_eq];omega
 have E5:=Lib.hid h5
 clear h5
 have q7:∀ p:Ph.S (Row.Old wc),p.world.cell? ⟨g7,3,none⟩=some (F v0.delay):=fun p=>by have:=(M1.out.below p.is) 3 _ rfl;rwa [Addr.add_mid,Nat.zero_add] at this
 have q8:∀ p:Ph.S (Row.Old wc),p.world.cell? ⟨g8,3,none⟩=some (F u0.delay):=fun p=>by have:=(M2.out.below p.is) 3 _ rfl;rwa [Addr.add_mid,Nat.zero_add] at this
 iterate 2
  (refine Pw.calm rfl (fun K hK=>?_)
   go_simp
   refine hK _ ?_
   clear hK K)
 (refine Pw.calm rfl (fun K hK=>?_)
  go_simp
  refine ⟨_,fun p=>Row.Old.pure (MayF.bits_any _ _),hK _ ?_⟩
  clear hK K)
 iterate 2
  (refine Pw.calm rfl (fun K hK=>?_)
   go_simp
   refine hK _ ?_
   clear hK K)
 (refine Pw.calm rfl (fun K hK=>?_)
  go_simp
  refine ⟨_,fun p=>Row.Old.pure (MayF.bits_any _ _),hK _ ?_⟩
  clear hK K)
 iterate 1
  (refine Pw.calm rfl (fun K hK=>?_)
   go_simp
   refine hK _ ?_
   clear hK K)
 clear q7 q8
 iterate 2
  (refine Pw.calm rfl (fun K hK=>?_)
   go_simp
   refine hK _ ?_
   clear hK K)
 clear hb5
 by_cases h6:v0.extend=u0.extend
 rotate_left
 ·skip
  have NE:Hid (¬ v0=u0):=fun e=>h6 (by rw [e])
  have hb:((v0.extend:Int) != (u0.extend:Int))=true:=by rw [bne_iff_ne];omega
  clear h6
  have q7:∀ p:Ph.S (Row.Old wc),p.world.cell? ⟨g7,4,none⟩=some (F v0.extend):=fun p=>by have:=(M1.out.below p.is) 4 _ rfl;rwa [Addr.add_mid,Nat.zero_add] at this
  have q8:∀ p:Ph.S (Row.Old wc),p.world.cell? ⟨g8,4,none⟩=some (F u0.extend):=fun p=>by have:=(M2.out.below p.is) 4 _ rfl;rwa [Addr.add_mid,Nat.zero_add] at this
  iterate 2
   (refine Pw.calm rfl (fun K hK=>?_)
    go_simp
    refine hK _ ?_
    clear hK K)
  (refine Pw.calm rfl (fun K hK=>?_)
   go_simp
   refine ⟨_,fun p=>Row.Old.pure (MayF.bits_any _ _),hK _ ?_⟩
   clear hK K)
  iterate 2
   (refine Pw.calm rfl (fun K hK=>?_)
    go_simp
    refine hK _ ?_
    clear hK K)
  (refine Pw.calm rfl (fun K hK=>?_)
   go_simp
   refine ⟨_,fun p=>Row.Old.pure (MayF.bits_any _ _),hK _ ?_⟩
   clear hK K)
  iterate 1
   (refine Pw.calm rfl (fun K hK=>?_)
    go_simp
    refine hK _ ?_
    clear hK K)
  clear q7 q8
  iterate 1
   (refine Pw.calm rfl (fun K hK=>?_)
    go_simp
    refine hK _ ?_
    clear hK K)
  refine Pw.nil ?_
  intro w3 hb3
  exact HQ.out _ _ _ _ _ _ _ _ _ _ _ _ _ _ _ _ _ _ _ _ _ _ _ _ _ _ _ _ _ _ _ _ _ _ _ _ _ _ _ _ _ _ _ _ _ _ _ _ _ _ _ _ _ _ true w3 (by simp only [Bool.true_eq_false,false_iff];exact NE.out) hb3
 have hb6:((v0.extend:Int) != (u0.extend:Int))=false:=by rw [bne_eq_false_iff_eq];omega
 have E6:=Lib.hid h6
 clear h6
 have q7:∀ p:Ph.S (Row.Old wc),p.world.cell? ⟨g7,4,none⟩=some (F v0.extend):=fun p=>by have:=(M1.out.below p.is) 4 _ rfl;rwa [Addr.add_mid,Nat.zero_add] at this
 have q8:∀ p:Ph.S (Row.Old wc),p.world.cell? ⟨g8,4,none⟩=some (F u0.extend):=fun p=>by have:=(M2.out.below p.is) 4 _ rfl;rwa [Addr.add_mid,Nat.zero_add] at this
 iterate 2
  (refine Pw.calm rfl (fun K hK=>?_)
   go_simp
   refine hK _ ?_
   clear hK K)
 (refine Pw.calm rfl (fun K hK=>?_)
  go_simp
  refine ⟨_,fun p=>Row.Old.pure (MayF.bits_any _ _),hK _ ?_⟩
  clear hK K)
 iterate 2
  (refine Pw.calm rfl (fun K hK=>?_)
   go_simp
   refine hK _ ?_
   clear hK K)
 (refine Pw.calm rfl (fun K hK=>?_)
  go_simp
  refine ⟨_,fun p=>Row.Old.pure (MayF.bits_any _ _),hK _ ?_⟩
  clear hK K)
 iterate 1
  (refine Pw.calm rfl (fun K hK=>?_)
   go_simp
   refine hK _ ?_
   clear hK K)
 clear q7 q8
 iterate 1
  (refine Pw.calm rfl (fun K hK=>?_)
   go_simp
   refine hK _ ?_
   clear hK K)
 clear hb6
 refine Pw.nil ?_
 intro w3 hb3
 have EQ:Hid (v0=u0):=Lib.hid (by
  have e0:=E0.out;have e1:=E1.out;have e2:=E2.out;have e3:=E3.out;have e4:=E4.out;have e5:=E5.out;have e6:=E6.out
  obtain ⟨a0,a1,a2,a3,a4,a5,a6⟩:=v0
  obtain ⟨b0,b1,b2,b3,b4,b5,b6⟩:=u0
  simp only at e0 e1 e2 e3 e4 e5 e6
  subst e0 e1 e2 e3 e4 e5 e6
  rfl)
 exact HQ.out _ _ _ _ _ _ _ _ _ _ _ _ _ _ _ _ _ _ _ _ _ _ _ _ _ _ _ _ _ _ _ _ _ _ _ _ _ _ _ _ _ _ _ _ _ _ _ _ _ _ _ _ _ _ false w3 (by simp only [true_iff];exact EQ.out) hb3
end Same
namespace Same
open Go.ChangeShapes Go.WideShapes Go.ChangeAt Go.RowKit
open Tab Owned CodeAt
open May (ret_bool chain take_succ' infoP infoG infoD infoR infoB infoT row_new St)
theorem rsame_any (T U:Tab) (h k:Hd) (w:World) (ht:IsTab w h T) (hu:IsTab w k U) :
  Calls Tryz.prog 9 #[.agg (T.cells h).toArray,.agg (U.cells k).toArray] w fun e w'=>e=.returned (.bool (decide (T=U)))∧Below w.heap.size w w':=by
 have C:=Lib.hid (cells_ok ht)
 have D:=Lib.hid (cells_ok hu)
 generalize (T.cells h).toArray=cs at C ⊢
 generalize (U.cells k).toArray=ds at D ⊢
 obtain ⟨gs,hgd,hgr⟩:=ht.groups
 obtain ⟨us,hud,hur⟩:=hu.groups
 have Hgr:=Lib.hid hgr
 have Hur:=Lib.hid hur
 have Kg:=hgr.1.len
 have Ku:=hur.1.len
 have Kd:=ht.dets.len
 have Kd':=hu.dets.len
 have Kr:=ht.rails.len
 have Kr':=hu.rails.len
 have Kb:=ht.buses.len
 have Kb':=hu.buses.len
 unfold maxLen at Kg Ku Kd Kd' Kr Kr' Kb Kb'
 have Hgl:=Lib.hid (show T.groups.length=gs.length by rw [← hgd,List.length_map])
 have Hul:=Lib.hid (show U.groups.length=us.length by rw [← hud,List.length_map])
 have b1w:Below w.heap.size w ((w.alloc (.cells cs 33)).alloc (.cells ds 33)):=((Below.refl _ _).alloc (Nat.le_refl _) _).alloc (by simp) _
 have SS:Hid (Two w cs ds h k T U ((w.alloc (.cells cs 33)).alloc (.cells ds 33))):=⟨⟨b1w,heap_alloc2_old w _ _,ht.below b1w,Nat.le_refl _⟩,⟨b1w,heap_alloc2_new w _ _,hu.below b1w,by omega⟩⟩
 have E1:=Lib.hid (phases_eqs T.phases U.phases ht.ph hu.ph)
 have E3:=Lib.hid (eight_eqs T.conflict U.conflict ht.cf hu.cf)
 have E7:=Lib.hid (eight_eqs T.flash U.flash ht.fl hu.fl)
 have GD:Hid (gs.map Gr.data=us.map Gr.data ↔ T.groups=U.groups):=by rw [hgd,hud];exact Iff.rfl
 have L1:=Lib.hid ht
 have L2:=Lib.hid hu
 have hsz:=C.out.size
 have hsd:=D.out.size
 clear ht hu hgr hur b1w hgd hud
 go_enter Tryz.func9,Tryz.ntmps9
 go_upto_region 1 with fail
 generalize (w.alloc (.cells cs 33)).alloc (.cells ds 33)=w1 at SS ⊢
 clear hsz hsd
 clear E1 E3 E7
 refine heads_rg T U h k w w1 cs ds L1 L2 C D SS _ _ _ _ _ _ _ _ _ _ _ _ _ _ _ _ _ _ _ _ _ _ _ _ _ _ _ _ _ _ _ _ _ _ _ _ _ _ _ _ _ _ _ _ _ _ _ _ _ _ _ _ _ _ _ _ _ _ _ _ _ _ _ _ _ _ _ _ _ _ _ _ _ _ _ _ _ _ _ _ _ _ _ _ _ _ _ _ _ _ _ _ _ _ _ _ _ _ _ _ _ _ _ _ _ _ _ _ _ _ _ _ _ _ _ _ _ _ _ _ _ _ _ _ _ _ _ _ _ _ _ _ _ _ _ _ _ _ _ _ _ _ _ _ _ _ _ _ _ _ _ _ _ _ _ _ _ _ _ _ _ _ _ _ _ _ _ _ _ _ _ _ _ _ _ _ _ _ _ _ _ _ _ _ _ _ _ _ _ _ _ _ _ _ _ _ _ _ _ _ _ _ _ _ _ _ _ _ _ _ _ _ _ _ _ _ _ _ _ _ _ _ _ _ _ _ _ _ _ _ _ _ _ _ _ _ _ _ _ _ _ (Lib.hid ?_)
 intro x11 x12 x13 x14 x15 x16 x17 x18 x19 x20 x21 x22 x23 x24 x25 x26 x27 x28 x29 x30 x31 x32 x33 x34 x35 x36 x37 x38 x39 x40 x41 x42 x43 x44 x45 x46 x47 x48 x49 x50 x51 x52 x53 x54 x55 x56 x57 x58 x59 x60 x61 x62 x63 x64 b hb
 cases b
 rotate_left
 ·have NE:Hid (¬ T=U):=fun e=>by
   have h2:Heads T U:=by rw [e];exact ⟨rfl,rfl,rfl,rfl,rfl,rfl,rfl⟩
   have:=hb.2 h2
   simp at this
  clear hb
  go_wp2
  go_ret
  exact ⟨ret_bool (decide_eq_false NE.out).symm,SS.out.t.bel⟩
 have HH:=Lib.hid (hb.1 rfl)
 clear hb
 generalize w1=wc at SS ⊢
 go_upto_region 3 with fail
 have a0:=SS.out.t.cell C.out.extend
 have a1:=SS.out.t.cell C.out.budget
 have a2:=SS.out.t.cell C.out.start
 have a3:=SS.out.t.cell C.out.revert
 have a4:=SS.out.t.cell C.out.least
 have a5:=SS.out.t.cell C.out.window
 have a6:=SS.out.t.cell C.out.share
 have SB:=SS.out.step (show Below wc.heap.size wc (wc.alloc (.cells #[I T.extend,I T.budget,I T.start,I T.revert,I T.least,I T.window,I T.share] 3)) from (Below.refl _ _).alloc (Nat.le_refl _) _)
 have b0:=SB.u.cell D.out.extend
 have b1:=SB.u.cell D.out.budget
 have b2:=SB.u.cell D.out.start
 have b3:=SB.u.cell D.out.revert
 have b4:=SB.u.cell D.out.least
 have b5:=SB.u.cell D.out.window
 have b6:=SB.u.cell D.out.share
 clear SB
 go_wp2_with fail
 refine (rints_len (some ⟨wc.heap.size,0,none⟩) (some ⟨wc.heap.size+1,0,none⟩) 7 7 (single T) (single U) 7 7 rfl rfl _ ((row_new wc _ (single T) 7 rfl (by decide) _ rfl).below ((Below.refl _ _).alloc (Nat.le_refl _) _)) (row_new _ _ (single U) 7 rfl (by decide) (wc.heap.size+1) (by simp))).mono ?_
 rintro e w2 ⟨rfl,hb⟩
 have hb2:Below wc.heap.size wc w2:=Below.trans (Below.alloc (Below.alloc (Below.refl _ _) (Nat.le_refl _) _) (by simp) _) (hb.mono (by simp <;> omega))
 have S2:=Lib.hid (SS.out.step hb2)
 clear hb hb2 SS a0 a1 a2 a3 a4 a5 a6 b0 b1 b2 b3 b4 b5 b6
 by_cases h8:single T=single U
 rotate_left
 ·have NE:Hid (¬ T=U):=fun e=>h8 (by rw [e])
  rw [decide_eq_false h8]
  clear h8
  go_wp2
  go_ret
  exact ⟨ret_bool (decide_eq_false NE.out).symm,S2.out.t.bel⟩
 rw [decide_eq_true h8]
 have H8:=Lib.hid h8
 have HLg:Hid (gs.length=us.length):=Lib.hid (by rw [← Hgl.out,← Hul.out];exact HH.out.h4)
 have q104:=S2.out.t.cell C.out.g
 rw [Hgl.out] at q104
 clear h8
 go_wp2_with fail
 go_loopw [5] (fun i wr=>∃ q:Nat,q≤gs.length∧i=.int .i64 q∧(gs.take q).map Gr.data=(us.take q).map Gr.data∧Two w cs ds h k T U wr) (fun i _=>gs.length - (intOf i).toNat)
 case atStart=>exact ⟨0,by omega,rfl,rfl,S2.out⟩
 case round =>
  clear S2 q104
  obtain ⟨q,hq,rfl,hall,hs⟩:=hrel
  have S1:=Lib.hid hs
  have Hall:=Lib.hid hall
  clear hs hall
  have q104:=S1.out.t.cell C.out.g
  rw [Hgl.out] at q104
  by_cases hlt:q < gs.length
  ·have hlu:q < us.length:=by have:=HLg.out;omega
   have hv:=List.getElem?_eq_getElem hlt
   have hu:=List.getElem?_eq_getElem hlu
   generalize gs[q]=v at hv
   generalize us[q]=u at hu
   obtain ⟨x,hx,hc⟩:=(Hgr.out.1.below S1.out.t.bel).at hv
   obtain ⟨y,hy,hc'⟩:=(Hur.out.1.below S1.out.u.bel).at hu
   have ok1:=(Hgr.out.2 v (List.mem_of_getElem? hv)).below S1.out.t.bel
   have ok2:=(Hur.out.2 u (List.mem_of_getElem? hu)).below S1.out.u.bel
   have HV:=Lib.hid hv
   have HU:=Lib.hid hu
   obtain ⟨l0,l1,⟨a0,cap0⟩,⟨a1,cap1⟩⟩:=v
   obtain ⟨m0,m1,⟨b0,bap0⟩,⟨b1,bap1⟩⟩:=u
   have H0:=Lib.hid ok1.1
   have H1:=Lib.hid ok1.2
   have H2:=Lib.hid ok2.1
   have H3:=Lib.hid ok2.2
   have r104:=S1.out.u.cell D.out.g
   rw [Hul.out] at r104
   have qq104:Hid (wr.cell? ⟨w.heap.size,104,none⟩=some (.slice (some x) gs.length h.g.cap)):=by have:=q104;simp only [Sl.val,hx] at this;exact this
   have rr104:Hid (wr.cell? ⟨w.heap.size+1,104,none⟩=some (.slice (some y) us.length k.g.cap)):=by have:=r104;simp only [Sl.val,hy] at this;exact this
   have c0:=hc 0 _ rfl
   have c1:=hc 1 _ rfl
   have d0:=hc' 0 _ rfl
   have d1:=hc' 1 _ rfl
   rw [add_zero] at c0 d0
   rw [add_one] at c1 d1
   have C0:=Lib.hid (And.intro c0 c1)
   have D0:=Lib.hid (And.intro d0 d1)
   clear r104 hc hc' hv hu ok1 ok2 hx hy c0 c1 d0 d1
   go_wp2_with fail
   refine groups_rg w wr q gs.length us.length h.g.cap k.g.cap x y a0 a1 b0 b1 cap0 cap1 bap0 bap1 l0 l1 m0 m1 hlt hlu Kg Ku qq104 rr104 C0 D0 H0 H1 H2 H3 _ _ _ _ _ _ _ _ _ _ _ _ _ _ _ _ _ _ _ _ _ _ _ _ _ _ _ _ _ _ _ _ _ _ _ _ _ _ _ _ _ _ _ _ _ _ _ _ _ _ _ _ _ _ _ _ _ _ _ _ _ _ _ _ _ _ _ _ _ _ _ _ _ _ _ _ _ _ _ _ _ _ _ _ _ _ _ _ _ _ _ _ _ _ _ _ _ _ _ _ _ _ _ _ _ _ _ _ _ _ _ _ _ _ _ _ _ _ _ _ _ _ _ _ _ _ _ _ _ _ _ _ _ _ _ _ _ _ _ _ _ _ _ _ _ _ _ _ _ _ _ _ _ _ _ _ _ _ _ _ _ _ _ _ _ _ _ _ _ _ _ _ _ _ _ _ _ _ _ _ _ _ _ _ _ _ _ _ _ _ _ _ _ _ _ _ _ _ _ _ _ _ _ _ _ _ _ _ _ _ _ _ _ _ _ _ _ _ _ _ _ _ _ _ _ _ _ _ _ _ _ _ _ _ _ _ _ _ _ _ (Lib.hid ?_)
   intro x105 x106 x107 x108 x109 x110 x111 x112 x113 x114 x115 x116 x117 x118 x119 x120 x121 x122 x123 x124 x125 x126 x127 x128 x129 x130 x131 x132 x133 b w3 hbq hb3
   have S3:=Lib.hid (S1.out.step hb3)
   clear hb3 q104 qq104 rr104 C0 D0 H0 H1 H2 H3 S1
   cases b
   ·have HD:=Lib.hid (hbq.1 rfl)
    clear hbq
    go_wp2
    go_roundw
    case rel=>exact ⟨q+1,by omega,by go_num,data_step HV.out HU.out Hall.out (by simp only [Gr.data,HD.out.1,HD.out.2]),S3.out⟩
    case measure=>simp [intOf];omega
   ·have NE:Hid (¬ T=U):=fun e=>data_break HV.out HU.out (fun e=>by
     simp only [Gr.data,Prod.mk.injEq] at e
     have:=hbq.2 e
     simp at this) (GD.out.2 (by rw [e]))
    clear hbq
    go_wp2
    go_ret
    exact ⟨ret_bool (decide_eq_false NE.out).symm,S3.out.t.bel⟩
  ·have HG:Hid (T.groups=U.groups):=GD.out.1 (by
    have e:=Hall.out
    rwa [List.take_of_length_le (by omega),List.take_of_length_le (by have:=HLg.out;omega)] at e)
   have q113:=S1.out.t.cell C.out.d
   clear Hall
   go_wp2_with fail
   clear q104
   go_loopw [6] (fun i wr=>∃ q:Nat,q≤T.dets.length∧i=.int .i64 q∧T.dets.take q=U.dets.take q∧Two w cs ds h k T U wr) (fun i _=>T.dets.length - (intOf i).toNat)
   case atStart=>exact ⟨0,by omega,rfl,rfl,S1.out⟩
   case round =>
    clear S1 q113
    obtain ⟨q,hq,rfl,hall,hs⟩:=hrel
    have S1:=Lib.hid hs
    have Hall:=Lib.hid hall
    clear hs hall
    have q113:=S1.out.t.cell C.out.d
    by_cases hlt:q < T.dets.length
    ·have hlu:q < U.dets.length:=by have:=HH.out.h5;omega
     have hv:=List.getElem?_eq_getElem hlt
     have hu:=List.getElem?_eq_getElem hlu
     generalize T.dets[q]=v0 at hv
     generalize U.dets[q]=u0 at hu
     obtain ⟨x,hx,hc⟩:=S1.out.t.tab.dets.at hv
     obtain ⟨y,hy,hc'⟩:=S1.out.u.tab.dets.at hu
     have HV:=Lib.hid hv
     have HU:=Lib.hid hu
     have HC:=Lib.hid hc
     have HC':=Lib.hid hc'
     have r113:=S1.out.u.cell D.out.d
     have qq113:Hid (wr.cell? ⟨w.heap.size,113,none⟩=some (.slice (some x) T.dets.length h.d.cap)):=by have:=q113;simp only [Sl.val,hx] at this;exact this
     have rr113:Hid (wr.cell? ⟨w.heap.size+1,113,none⟩=some (.slice (some y) U.dets.length k.d.cap)):=by have:=r113;simp only [Sl.val,hy] at this;exact this
     clear r113 hc hc' hv hu hx hy
     go_upto_region 13 with fail
     refine boxes_rg (fun c a a' w e h=>by cases a;cases a';cases e;exact h) w wr q T.dets.length U.dets.length h.d.cap k.d.cap x y v0 u0 hlt hlu Kd Kd' qq113 rr113 HC HC' _ _ _ _ _ _ _ _ _ _ _ _ _ _ _ _ _ _ _ _ _ _ _ _ _ _ _ _ _ _ _ _ _ _ _ _ _ _ _ _ _ _ _ _ _ _ _ _ _ _ _ _ _ _ _ _ _ _ _ _ _ _ _ _ _ _ _ _ _ _ _ _ _ _ _ _ _ _ _ _ _ _ _ _ _ _ _ _ _ _ _ _ _ _ _ _ _ _ _ _ _ _ _ _ _ _ _ _ _ _ _ _ _ _ _ _ _ _ _ _ _ _ _ _ _ _ _ _ _ _ _ _ _ _ _ _ _ _ _ _ _ _ _ _ _ _ _ _ _ _ _ _ _ _ _ _ _ _ _ _ _ _ _ _ _ _ _ _ _ _ _ _ _ _ _ _ _ _ _ _ _ _ _ _ _ _ _ _ _ _ _ _ _ _ _ _ _ _ _ _ _ _ _ _ _ _ _ _ _ _ _ _ _ _ _ _ _ _ _ _ _ _ _ _ _ _ _ _ _ _ _ _ _ _ _ _ _ _ _ _ (Lib.hid ?_)
     intro x142 x143 x144 x145 x146 x147 x148 x149 x150 x151 g7 g8 wb hg7 hg8 hbx
     have S2:=Lib.hid (S1.out.step hbx)
     have G7:=Lib.hid hg7
     have G8:=Lib.hid hg8
     clear hg7 hg8 hbx q113 qq113 rr113 HC HC' S1
     go_upto_region 14 with fail
     refine dets_rg wb g7 g8 v0 u0 G7.out G8.out _ _ _ _ _ _ _ _ _ _ _ _ _ _ _ _ _ _ _ _ _ _ _ _ _ _ _ _ _ _ _ _ _ _ _ _ _ _ _ _ _ _ _ _ _ _ _ _ _ _ _ _ _ _ _ _ _ _ _ _ _ _ _ _ _ _ _ _ _ _ _ _ _ _ _ _ _ _ _ _ _ _ _ _ _ _ _ _ _ _ _ _ _ _ _ _ _ _ _ _ _ _ _ _ _ _ _ _ _ _ _ _ _ _ _ _ _ _ _ _ _ _ _ _ _ _ _ _ _ _ _ _ _ _ _ _ _ _ _ _ _ _ _ _ _ _ _ _ _ _ _ _ _ _ _ _ _ _ _ _ _ _ _ _ _ _ _ _ _ _ _ _ _ _ _ _ _ _ _ _ _ _ _ _ _ _ _ _ _ _ _ _ _ _ _ _ _ _ _ _ _ _ _ _ _ _ _ _ _ _ _ _ _ _ _ _ _ _ _ _ _ _ _ _ _ _ _ _ _ _ _ _ _ _ _ _ _ _ _ _ _ (Lib.hid ?_)
     intro x152 x153 x154 x155 x156 x157 x158 x159 x160 x161 x162 x163 x164 x165 x166 x167 x168 x169 x170 x171 x172 x173 x174 x175 x176 x177 x178 x179 x180 x181 x182 x183 x184 x185 x186 x187 x188 x189 x190 x191 x192 x193 x194 x195 x196 x197 x198 x199 x200 x201 x202 x203 x204 x205 b w3 hbq hb3
     have S3:=Lib.hid (S2.out.step hb3)
     clear hb3 G7 G8 S2
     cases b
     ·have EQ:=Lib.hid (hbq.1 rfl)
      clear hbq
      go_wp2
      go_roundw
      case rel=>exact ⟨q+1,by omega,by go_num,eq_step HV.out HU.out Hall.out EQ.out,S3.out⟩
      case measure=>simp [intOf];omega
     ·have NE:Hid (¬ T=U):=fun e=>eq_break HV.out HU.out (fun e=>by
       have:=hbq.2 e
       simp at this) (by rw [e])
      clear hbq
      go_wp2
      go_ret
      exact ⟨ret_bool (decide_eq_false NE.out).symm,S3.out.t.bel⟩
    ·have HD:Hid (T.dets=U.dets):=Lib.hid (eq_end Hall.out HH.out.h5 hlt)
     have q114:=S1.out.t.cell C.out.r
     clear Hall
     go_wp2_with fail
     clear q113
     go_loopw [9] (fun i wr=>∃ q:Nat,q≤T.rails.length∧i=.int .i64 q∧T.rails.take q=U.rails.take q∧Two w cs ds h k T U wr) (fun i _=>T.rails.length - (intOf i).toNat)
     case atStart=>exact ⟨0,by omega,rfl,rfl,S1.out⟩
     case round =>
      clear S1 q114
      obtain ⟨q,hq,rfl,hall,hs⟩:=hrel
      have S1:=Lib.hid hs
      have Hall:=Lib.hid hall
      clear hs hall
      have q114:=S1.out.t.cell C.out.r
      by_cases hlt:q < T.rails.length
      ·skip
       have hlu:q < U.rails.length:=by have:=HH.out.h6;omega
       have hv:=List.getElem?_eq_getElem hlt
       have hu:=List.getElem?_eq_getElem hlu
       generalize T.rails[q]=v at hv
       generalize U.rails[q]=u at hu
       obtain ⟨x,hx,hc⟩:=S1.out.t.tab.rails.at hv
       obtain ⟨y,hy,hc'⟩:=S1.out.u.tab.rails.at hu
       have HV:=Lib.hid hv
       have HU:=Lib.hid hu
       have HC:=Lib.hid hc
       have HC':=Lib.hid hc'
       have r:=S1.out.u.cell D.out.r
       have qq:Hid (wr.cell? ⟨w.heap.size,114,none⟩=some (.slice (some x) T.rails.length h.r.cap)):=by have:=q114;simp only [Sl.val,hx] at this;exact this
       have rr:Hid (wr.cell? ⟨w.heap.size+1,114,none⟩=some (.slice (some y) U.rails.length k.r.cap)):=by have:=r;simp only [Sl.val,hy] at this;exact this
       clear r hc hc' hv hu hx hy
       go_upto_region 19 with fail
       have f1:∀ p:Ph.S (Row.Old wr),p.world.cell? ⟨w.heap.size,114,none⟩=some (.slice (some x) T.rails.length h.r.cap):=fun p=>(p.is.cell (World.block_lt_of_cell? wr _ qq.out)).trans qq.out
       have f2:∀ p:Ph.S (Row.Old wr),p.world.cell? ⟨w.heap.size+1,114,none⟩=some (.slice (some y) U.rails.length k.r.cap):=fun p=>(p.is.cell (World.block_lt_of_cell? wr _ rr.out)).trans rr.out
       have hne:Nonempty (Ph.S (Row.Old wr)):=⟨⟨0,wr,Below.refl _ _⟩⟩
       clear q114
       refine Pw.region (Row.Old wr) [] (by kernel_rfl) (by kernel_rfl) (Row.Old.drew _) ?_
       iterate 4
        (refine Pw.calm rfl (fun K hK=>?_)
         go_simp
         refine hK _ ?_
         clear hK K)
       refine Pw.load rfl rfl 75 _ rfl (x.add (q*11)) rfl v.cells _ (fun p=>HC.out.below p.is) Tryz.underlying75 rfl infoR ?_
       (try dsimp only [Act.put]);(try simp only [List.setIfInBounds_toArray,List.set_cons_zero,List.set_cons_succ])
       iterate 4
        (refine Pw.calm rfl (fun K hK=>?_)
         go_simp
         refine hK _ ?_
         clear hK K)
       refine Pw.load rfl rfl 75 _ rfl (y.add (q*11)) rfl u.cells _ (fun p=>HC'.out.below p.is) Tryz.underlying75 rfl infoR ?_
       (try dsimp only [Act.put]);(try simp only [List.setIfInBounds_toArray,List.set_cons_zero,List.set_cons_succ])
       refine Pw.neq 75 _ _ _ rfl rfl rfl v.cells.toArray u.cells.toArray rfl rfl guardR _ (rail_eqs v u) ?_
       (try dsimp only [Act.put]);(try simp only [List.setIfInBounds_toArray,List.set_cons_zero,List.set_cons_succ])
       refine Pw.nil ?_
       intro w3 hb3
       have S3:=Lib.hid (S1.out.step hb3)
       clear hb3 hne f1 f2
       by_cases hvu:v=u
       ·have HE:=Lib.hid hvu
        rw [decide_eq_true hvu]
        clear hvu
        simp only [Bool.not_true]
        go_wp2
        go_roundw
        case rel=>exact ⟨q+1,by omega,by go_num,eq_step HV.out HU.out Hall.out HE.out,S3.out⟩
        case measure=>simp [intOf];omega
       ·have NE:Hid (¬ T=U):=fun e=>eq_break HV.out HU.out hvu (by rw [e])
        rw [decide_eq_false hvu]
        clear hvu
        simp only [Bool.not_false]
        go_wp2
        go_ret
        exact ⟨ret_bool (decide_eq_false NE.out).symm,S3.out.t.bel⟩
      ·have HErails:Hid (T.rails=U.rails):=Lib.hid (eq_end Hall.out HH.out.h6 hlt)
       clear Hall
       have q115:=S1.out.t.cell C.out.b
       go_wp2_with fail
       clear q114
       go_loopw [10] (fun i wr=>∃ q:Nat,q≤T.buses.length∧i=.int .i64 q∧T.buses.take q=U.buses.take q∧Two w cs ds h k T U wr) (fun i _=>T.buses.length - (intOf i).toNat)
       case atStart=>exact ⟨0,by omega,rfl,rfl,S1.out⟩
       case round =>
        clear S1 q115
        obtain ⟨q,hq,rfl,hall,hs⟩:=hrel
        have S1:=Lib.hid hs
        have Hall:=Lib.hid hall
        clear hs hall
        have q115:=S1.out.t.cell C.out.b
        by_cases hlt:q < T.buses.length
        ·skip
         have hlu:q < U.buses.length:=by have:=HH.out.h7;omega
         have hv:=List.getElem?_eq_getElem hlt
         have hu:=List.getElem?_eq_getElem hlu
         generalize T.buses[q]=v at hv
         generalize U.buses[q]=u at hu
         obtain ⟨x,hx,hc⟩:=S1.out.t.tab.buses.at hv
         obtain ⟨y,hy,hc'⟩:=S1.out.u.tab.buses.at hu
         have HV:=Lib.hid hv
         have HU:=Lib.hid hu
         have HC:=Lib.hid hc
         have HC':=Lib.hid hc'
         have r:=S1.out.u.cell D.out.b
         have qq:Hid (wr.cell? ⟨w.heap.size,115,none⟩=some (.slice (some x) T.buses.length h.b.cap)):=by have:=q115;simp only [Sl.val,hx] at this;exact this
         have rr:Hid (wr.cell? ⟨w.heap.size+1,115,none⟩=some (.slice (some y) U.buses.length k.b.cap)):=by have:=r;simp only [Sl.val,hy] at this;exact this
         clear r hc hc' hv hu hx hy
         go_upto_region 24 with fail
         have f1:∀ p:Ph.S (Row.Old wr),p.world.cell? ⟨w.heap.size,115,none⟩=some (.slice (some x) T.buses.length h.b.cap):=fun p=>(p.is.cell (World.block_lt_of_cell? wr _ qq.out)).trans qq.out
         have f2:∀ p:Ph.S (Row.Old wr),p.world.cell? ⟨w.heap.size+1,115,none⟩=some (.slice (some y) U.buses.length k.b.cap):=fun p=>(p.is.cell (World.block_lt_of_cell? wr _ rr.out)).trans rr.out
         have hne:Nonempty (Ph.S (Row.Old wr)):=⟨⟨0,wr,Below.refl _ _⟩⟩
         clear q115
         refine Pw.region (Row.Old wr) [] (by kernel_rfl) (by kernel_rfl) (Row.Old.drew _) ?_
         iterate 4
          (refine Pw.calm rfl (fun K hK=>?_)
           go_simp
           refine hK _ ?_
           clear hK K)
         refine Pw.load rfl rfl 77 _ rfl (x.add (q*2)) rfl v.cells _ (fun p=>HC.out.below p.is) Tryz.underlying77 rfl infoB ?_
         (try dsimp only [Act.put]);(try simp only [List.setIfInBounds_toArray,List.set_cons_zero,List.set_cons_succ])
         iterate 4
          (refine Pw.calm rfl (fun K hK=>?_)
           go_simp
           refine hK _ ?_
           clear hK K)
         refine Pw.load rfl rfl 77 _ rfl (y.add (q*2)) rfl u.cells _ (fun p=>HC'.out.below p.is) Tryz.underlying77 rfl infoB ?_
         (try dsimp only [Act.put]);(try simp only [List.setIfInBounds_toArray,List.set_cons_zero,List.set_cons_succ])
         refine Pw.neq 77 _ _ _ rfl rfl rfl v.cells.toArray u.cells.toArray rfl rfl guardB _ (bus_eqs v u) ?_
         (try dsimp only [Act.put]);(try simp only [List.setIfInBounds_toArray,List.set_cons_zero,List.set_cons_succ])
         refine Pw.nil ?_
         intro w3 hb3
         have S3:=Lib.hid (S1.out.step hb3)
         clear hb3 hne f1 f2
         by_cases hvu:v=u
         ·have HE:=Lib.hid hvu
          rw [decide_eq_true hvu]
          clear hvu
          simp only [Bool.not_true]
          go_wp2
          go_roundw
          case rel=>exact ⟨q+1,by omega,by go_num,eq_step HV.out HU.out Hall.out HE.out,S3.out⟩
          case measure=>simp [intOf];omega
         ·have NE:Hid (¬ T=U):=fun e=>eq_break HV.out HU.out hvu (by rw [e])
          rw [decide_eq_false hvu]
          clear hvu
          simp only [Bool.not_false]
          go_wp2
          go_ret
          exact ⟨ret_bool (decide_eq_false NE.out).symm,S3.out.t.bel⟩
        ·have HEbuses:Hid (T.buses=U.buses):=Lib.hid (eq_end Hall.out HH.out.h7 hlt)
         clear Hall
         go_wp2
         go_ret
         exact ⟨ret_bool (decide_eq_true (tab_eq HH.out.h1 HG.out HH.out.h2 HD.out HErails.out HEbuses.out HH.out.h3 H8.out)).symm,S1.out.t.bel⟩
end Same
namespace TabArg
open Go Go.ChangeShapes Go.WideShapes Go.Deep Flat Tab
section
variable {H:Type} {enc:TypeId × Value→H} {P:Program} {w:World} {base:Nat} {spare:Nat→Bool} {held:Bool}
instance:Inhabited Gr:=⟨⟨[],[],⟨none,0⟩,⟨none,0⟩⟩⟩
end
end TabArg
end Go.Proofs.YtjdeemmaaiecnaaGreat
