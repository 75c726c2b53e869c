/- Region 14 of the document's Same: two detectors are compared. -/
import Derived.Test.YtpofccenoobojaaRows
import Derived.Test.YtpofccenoobojaaSub
import Derived.Test.YtpofccenoobojaaSameF
import Derived.Test.YtpofccenoobojaaHeld
import Derived.Test.YtpofccenoobojaaPw
import Derived.Test.YtpofccenoobojaaOwned
import Derived.Deep.Cut
import Derived.Deep.CutRange
namespace Go.Proofs.Ytpofccenoobojaa.Same
open Go.ChangeShapes Go.WideShapes Go.ChangeAt Go.RowKit
open Tab Owned CodeAt
open May (ret_bool chain take_succ' infoP infoG infoD infoR infoB infoT row_new St)
set_option linter.unusedVariables false
set_option linter.unusedSimpArgs false
set_option maxRecDepth 100000 in
set_option maxHeartbeats 20000000 in
theorem dets_rg {Q : Exit → Act → World → Prop} (wc : World) (g7 g8 : Nat) (v0 u0 : Det) (hg7 : wc.heap[g7]? = some (.cells v0.cells.toArray 44 (0, 0))) (hg8 : wc.heap[g8]? = some (.cells u0.cells.toArray 44 (0, 0))) (f0 f1 f2 f3 f4 f5 f6 f9 f10 f11 f12 f13 f14 f15 f16 f17 f18 f19 f20 f21 f22 f23 f24 f25 f26 f27 f28 f29 f30 f31 f32 f33 f34 f35 f36 f37 f38 f39 f40 f41 f42 f43 f44 f45 f46 f47 f48 f49 f50 f51 f52 f53 f54 f55 f56 f57 f58 f59 f60 f61 f62 f63 f64 f65 f66 f67 f68 f69 f70 f71 f72 f73 f74 f75 f76 f77 f78 f79 f80 f81 f82 f83 f84 f85 f86 f87 f88 f89 f90 f91 f92 f93 f94 f95 f96 f97 f98 f99 f100 f101 f102 f103 f104 f105 f106 f107 f108 f109 f110 f111 f112 f113 f114 f115 f116 f117 f118 f119 f120 f121 f122 f123 f124 f125 f126 f127 f128 f129 f130 f131 f132 f133 f134 f135 f136 f137 f138 f139 f140 f141 f142 f143 f144 f145 f146 f147 f148 f149 f150 f151 f152 f153 f154 f155 f156 f157 f158 f159 f160 f161 f162 f163 f164 f165 f166 f167 f168 f169 f170 f171 f172 f173 f174 f175 f176 f177 f178 f179 f180 f181 f182 f183 f184 f185 f186 f187 f188 f189 f190 f191 f192 f193 f194 f195 f196 f197 f198 f199 f200 f201 f202 f203 f204 f205 f206 f207 f208 f209 f210 f211 f212 f213 f214 f215 f216 f217 f218 f219 f220 f221 f222 f223 f224 f225 f226 f227 f228 f229 f230 f231 f232 f233 f234 f235 f236 f237 f238 f239 f240 f241 f242 : Value)
    (HQ : Hid (∀ (x152 x153 x154 x155 x156 x157 x158 x159 x160 x161 x162 x163 x164 x165 x166 x167 x168 x169 x170 x171 x172 x173 x174 x175 x176 x177 x178 x179 x180 x181 x182 x183 x184 x185 x186 x187 x188 x189 x190 x191 x192 x193 x194 x195 x196 x197 x198 x199 x200 x201 x202 x203 x204 x205 : Value) (b : Bool) (w' : World), (b = false ↔ v0 = u0) → Below wc.heap.size wc w' → Q .normal ⟨#[f0, f1, f2, f3, f4, f5, f6, Value.pointer (some ⟨g7, 0, none⟩), Value.pointer (some ⟨g8, 0, none⟩), f9, f10, f11, f12, f13, f14, f15, f16, f17, f18, f19, f20, f21, f22, f23, f24, f25, f26, f27, f28, f29, f30, f31, f32, f33, f34, f35, f36, f37, f38, f39, f40, f41, f42, f43, f44, f45, f46, f47, f48, f49, f50, f51, f52, f53, f54, f55, f56, f57, f58, f59, f60, f61, f62, f63, f64, f65, f66, f67, f68, f69, f70, f71, f72, f73, f74, f75, f76, f77, f78, f79, f80, f81, f82, f83, f84, f85, f86, f87, f88, f89, f90, f91, f92, f93, f94, f95, f96, f97, f98, f99, f100, f101, f102, f103, f104, f105, f106, f107, f108, f109, f110, f111, f112, f113, f114, f115, f116, f117, f118, f119, f120, f121, f122, f123, f124, f125, f126, f127, f128, f129, f130, f131, f132, f133, f134, f135, f136, f137, f138, f139, f140, f141, f142, f143, f144, f145, f146, f147, f148, f149, f150, f151, x152, x153, x154, x155, x156, x157, x158, x159, x160, x161, x162, x163, x164, x165, x166, x167, x168, x169, x170, x171, x172, x173, x174, x175, x176, x177, x178, x179, x180, x181, x182, x183, x184, x185, x186, x187, x188, x189, x190, x191, x192, x193, x194, x195, x196, x197, x198, x199, x200, x201, x202, x203, x204, x205, Value.bool b, f207, f208, f209, f210, f211, f212, f213, f214, f215, f216, f217, f218, f219, f220, f221, f222, f223, f224, f225, f226, f227, f228, f229, f230, f231, f232, f233, f234, f235, f236, f237, f238, f239, f240, f241, f242], []⟩ w')) :
    (rg 14 Try.f9).wp Try.prog Q ⟨#[f0, f1, f2, f3, f4, f5, f6, Value.pointer (some ⟨g7, 0, none⟩), Value.pointer (some ⟨g8, 0, none⟩), f9, f10, f11, f12, f13, f14, f15, f16, f17, f18, f19, f20, f21, f22, f23, f24, f25, f26, f27, f28, f29, f30, f31, f32, f33, f34, f35, f36, f37, f38, f39, f40, f41, f42, f43, f44, f45, f46, f47, f48, f49, f50, f51, f52, f53, f54, f55, f56, f57, f58, f59, f60, f61, f62, f63, f64, f65, f66, f67, f68, f69, f70, f71, f72, f73, f74, f75, f76, f77, f78, f79, f80, f81, f82, f83, f84, f85, f86, f87, f88, f89, f90, f91, f92, f93, f94, f95, f96, f97, f98, f99, f100, f101, f102, f103, f104, f105, f106, f107, f108, f109, f110, f111, f112, f113, f114, f115, f116, f117, f118, f119, f120, f121, f122, f123, f124, f125, f126, f127, f128, f129, f130, f131, f132, f133, f134, f135, f136, f137, f138, f139, f140, f141, f142, f143, f144, f145, f146, f147, f148, f149, f150, f151, f152, f153, f154, f155, f156, f157, f158, f159, f160, f161, f162, f163, f164, f165, f166, f167, f168, f169, f170, f171, f172, f173, f174, f175, f176, f177, f178, f179, f180, f181, f182, f183, f184, f185, f186, f187, f188, f189, f190, f191, f192, f193, f194, f195, f196, f197, f198, f199, f200, f201, f202, f203, f204, f205, f206, f207, f208, f209, f210, f211, f212, f213, f214, f215, f216, f217, f218, f219, f220, f221, f222, f223, f224, f225, f226, f227, f228, f229, f230, f231, f232, f233, f234, f235, f236, f237, f238, f239, f240, f241, f242], []⟩ wc := by
  conv => arg 2; whnf
  have M1 : Hid (Lies wc ⟨g7, 0, none⟩ v0.cells) := Lib.hid (by have := Row.lies_of_block hg7; simpa using this)
  have M2 : Hid (Lies wc ⟨g8, 0, none⟩ u0.cells) := Lib.hid (by have := Row.lies_of_block hg8; simpa using this)
  clear hg7 hg8
  have hne : Nonempty (Ph.S (Row.Old wc)) := ⟨⟨0, wc, Below.refl _ _⟩⟩
  refine Pw.region (Row.Old wc) [] (by kernel_rfl) (by kernel_rfl) (Row.Old.drew _) ?_
  by_cases h0 : v0.phase = u0.phase
  rotate_left
  · skip
    have NE : Hid (¬ v0 = u0) := fun e => h0 (by rw [e])
    have hb : ((v0.phase : Int) != (u0.phase : Int)) = true := by rw [bne_iff_ne]; omega
    clear h0
    have q7 : ∀ p : Ph.S (Row.Old wc), p.world.cell? ⟨g7, 0, none⟩ = some (I v0.phase) := fun p => by have := (M1.out.below p.is) 0 _ rfl; rwa [Addr.add_mid, Nat.zero_add] at this
    have q8 : ∀ p : Ph.S (Row.Old wc), p.world.cell? ⟨g8, 0, none⟩ = some (I u0.phase) := fun p => by have := (M2.out.below p.is) 0 _ rfl; rwa [Addr.add_mid, Nat.zero_add] at this
    iterate 5
      (refine Pw.calm rfl (fun K hK => ?_)
       go_simp
       refine hK _ ?_
       clear hK K)
    clear q7 q8
    iterate 1
      (refine Pw.calm rfl (fun K hK => ?_)
       go_simp
       refine hK _ ?_
       clear hK K)
    refine Pw.skips 5 (by kernel_rfl) ?_
    (try simp only [List.take_succ_cons, List.take_zero, List.drop_succ_cons, List.drop_zero, Pw.undefs])
    (try dsimp only [Act.put])
    (try simp only [List.setIfInBounds_toArray, List.set_cons_zero, List.set_cons_succ])
    iterate 2
      (refine Pw.calm rfl (fun K hK => ?_)
       go_simp
       refine hK _ ?_
       clear hK K)
    refine Pw.skips 5 (by kernel_rfl) ?_
    (try simp only [List.take_succ_cons, List.take_zero, List.drop_succ_cons, List.drop_zero, Pw.undefs])
    (try dsimp only [Act.put])
    (try simp only [List.setIfInBounds_toArray, List.set_cons_zero, List.set_cons_succ])
    iterate 2
      (refine Pw.calm rfl (fun K hK => ?_)
       go_simp
       refine hK _ ?_
       clear hK K)
    refine Pw.skips 7 (by kernel_rfl) ?_
    (try simp only [List.take_succ_cons, List.take_zero, List.drop_succ_cons, List.drop_zero, Pw.undefs])
    (try dsimp only [Act.put])
    (try simp only [List.setIfInBounds_toArray, List.set_cons_zero, List.set_cons_succ])
    iterate 2
      (refine Pw.calm rfl (fun K hK => ?_)
       go_simp
       refine hK _ ?_
       clear hK K)
    refine Pw.skips 7 (by kernel_rfl) ?_
    (try simp only [List.take_succ_cons, List.take_zero, List.drop_succ_cons, List.drop_zero, Pw.undefs])
    (try dsimp only [Act.put])
    (try simp only [List.setIfInBounds_toArray, List.set_cons_zero, List.set_cons_succ])
    iterate 2
      (refine Pw.calm rfl (fun K hK => ?_)
       go_simp
       refine hK _ ?_
       clear hK K)
    refine Pw.skips 7 (by kernel_rfl) ?_
    (try simp only [List.take_succ_cons, List.take_zero, List.drop_succ_cons, List.drop_zero, Pw.undefs])
    (try dsimp only [Act.put])
    (try simp only [List.setIfInBounds_toArray, List.set_cons_zero, List.set_cons_succ])
    iterate 2
      (refine Pw.calm rfl (fun K hK => ?_)
       go_simp
       refine hK _ ?_
       clear hK K)
    refine Pw.skips 7 (by kernel_rfl) ?_
    (try simp only [List.take_succ_cons, List.take_zero, List.drop_succ_cons, List.drop_zero, Pw.undefs])
    (try dsimp only [Act.put])
    (try simp only [List.setIfInBounds_toArray, List.set_cons_zero, List.set_cons_succ])
    iterate 1
      (refine Pw.calm rfl (fun K hK => ?_)
       go_simp
       refine hK _ ?_
       clear hK K)
    refine Pw.nil ?_
    intro w3 hb3
    exact HQ.out _ _ _ _ _ _ _ _ _ _ _ _ _ _ _ _ _ _ _ _ _ _ _ _ _ _ _ _ _ _ _ _ _ _ _ _ _ _ _ _ _ _ _ _ _ _ _ _ _ _ _ _ _ _ true w3 (by simp only [Bool.true_eq_false, false_iff]; exact NE.out) hb3
  have hb0 : ((v0.phase : Int) != (u0.phase : Int)) = false := by rw [bne_eq_false_iff_eq]; omega
  have E0 := Lib.hid h0
  clear h0
  have q7 : ∀ p : Ph.S (Row.Old wc), p.world.cell? ⟨g7, 0, none⟩ = some (I v0.phase) := fun p => by have := (M1.out.below p.is) 0 _ rfl; rwa [Addr.add_mid, Nat.zero_add] at this
  have q8 : ∀ p : Ph.S (Row.Old wc), p.world.cell? ⟨g8, 0, none⟩ = some (I u0.phase) := fun p => by have := (M2.out.below p.is) 0 _ rfl; rwa [Addr.add_mid, Nat.zero_add] at this
  iterate 5
    (refine Pw.calm rfl (fun K hK => ?_)
     go_simp
     refine hK _ ?_
     clear hK K)
  clear q7 q8
  iterate 1
    (refine Pw.calm rfl (fun K hK => ?_)
     go_simp
     refine hK _ ?_
     clear hK K)
  clear hb0
  by_cases h1 : v0.maxOn = u0.maxOn
  rotate_left
  · skip
    have NE : Hid (¬ v0 = u0) := fun e => h1 (by rw [e])
    have hb : ((v0.maxOn : Int) != (u0.maxOn : Int)) = true := by rw [bne_iff_ne]; omega
    clear h1
    have q7 : ∀ p : Ph.S (Row.Old wc), p.world.cell? ⟨g7, 5, none⟩ = some (I v0.maxOn) := fun p => by have := (M1.out.below p.is) 5 _ rfl; rwa [Addr.add_mid, Nat.zero_add] at this
    have q8 : ∀ p : Ph.S (Row.Old wc), p.world.cell? ⟨g8, 5, none⟩ = some (I u0.maxOn) := fun p => by have := (M2.out.below p.is) 5 _ rfl; rwa [Addr.add_mid, Nat.zero_add] at this
    iterate 5
      (refine Pw.calm rfl (fun K hK => ?_)
       go_simp
       refine hK _ ?_
       clear hK K)
    clear q7 q8
    iterate 2
      (refine Pw.calm rfl (fun K hK => ?_)
       go_simp
       refine hK _ ?_
       clear hK K)
    refine Pw.skips 5 (by kernel_rfl) ?_
    (try simp only [List.take_succ_cons, List.take_zero, List.drop_succ_cons, List.drop_zero, Pw.undefs])
    (try dsimp only [Act.put])
    (try simp only [List.setIfInBounds_toArray, List.set_cons_zero, List.set_cons_succ])
    iterate 2
      (refine Pw.calm rfl (fun K hK => ?_)
       go_simp
       refine hK _ ?_
       clear hK K)
    refine Pw.skips 7 (by kernel_rfl) ?_
    (try simp only [List.take_succ_cons, List.take_zero, List.drop_succ_cons, List.drop_zero, Pw.undefs])
    (try dsimp only [Act.put])
    (try simp only [List.setIfInBounds_toArray, List.set_cons_zero, List.set_cons_succ])
    iterate 2
      (refine Pw.calm rfl (fun K hK => ?_)
       go_simp
       refine hK _ ?_
       clear hK K)
    refine Pw.skips 7 (by kernel_rfl) ?_
    (try simp only [List.take_succ_cons, List.take_zero, List.drop_succ_cons, List.drop_zero, Pw.undefs])
    (try dsimp only [Act.put])
    (try simp only [List.setIfInBounds_toArray, List.set_cons_zero, List.set_cons_succ])
    iterate 2
      (refine Pw.calm rfl (fun K hK => ?_)
       go_simp
       refine hK _ ?_
       clear hK K)
    refine Pw.skips 7 (by kernel_rfl) ?_
    (try simp only [List.take_succ_cons, List.take_zero, List.drop_succ_cons, List.drop_zero, Pw.undefs])
    (try dsimp only [Act.put])
    (try simp only [List.setIfInBounds_toArray, List.set_cons_zero, List.set_cons_succ])
    iterate 2
      (refine Pw.calm rfl (fun K hK => ?_)
       go_simp
       refine hK _ ?_
       clear hK K)
    refine Pw.skips 7 (by kernel_rfl) ?_
    (try simp only [List.take_succ_cons, List.take_zero, List.drop_succ_cons, List.drop_zero, Pw.undefs])
    (try dsimp only [Act.put])
    (try simp only [List.setIfInBounds_toArray, List.set_cons_zero, List.set_cons_succ])
    iterate 1
      (refine Pw.calm rfl (fun K hK => ?_)
       go_simp
       refine hK _ ?_
       clear hK K)
    refine Pw.nil ?_
    intro w3 hb3
    exact HQ.out _ _ _ _ _ _ _ _ _ _ _ _ _ _ _ _ _ _ _ _ _ _ _ _ _ _ _ _ _ _ _ _ _ _ _ _ _ _ _ _ _ _ _ _ _ _ _ _ _ _ _ _ _ _ true w3 (by simp only [Bool.true_eq_false, false_iff]; exact NE.out) hb3
  have hb1 : ((v0.maxOn : Int) != (u0.maxOn : Int)) = false := by rw [bne_eq_false_iff_eq]; omega
  have E1 := Lib.hid h1
  clear h1
  have q7 : ∀ p : Ph.S (Row.Old wc), p.world.cell? ⟨g7, 5, none⟩ = some (I v0.maxOn) := fun p => by have := (M1.out.below p.is) 5 _ rfl; rwa [Addr.add_mid, Nat.zero_add] at this
  have q8 : ∀ p : Ph.S (Row.Old wc), p.world.cell? ⟨g8, 5, none⟩ = some (I u0.maxOn) := fun p => by have := (M2.out.below p.is) 5 _ rfl; rwa [Addr.add_mid, Nat.zero_add] at this
  iterate 5
    (refine Pw.calm rfl (fun K hK => ?_)
     go_simp
     refine hK _ ?_
     clear hK K)
  clear q7 q8
  iterate 2
    (refine Pw.calm rfl (fun K hK => ?_)
     go_simp
     refine hK _ ?_
     clear hK K)
  clear hb1
  by_cases h2 : v0.maxOff = u0.maxOff
  rotate_left
  · skip
    have NE : Hid (¬ v0 = u0) := fun e => h2 (by rw [e])
    have hb : ((v0.maxOff : Int) != (u0.maxOff : Int)) = true := by rw [bne_iff_ne]; omega
    clear h2
    have q7 : ∀ p : Ph.S (Row.Old wc), p.world.cell? ⟨g7, 6, none⟩ = some (I v0.maxOff) := fun p => by have := (M1.out.below p.is) 6 _ rfl; rwa [Addr.add_mid, Nat.zero_add] at this
    have q8 : ∀ p : Ph.S (Row.Old wc), p.world.cell? ⟨g8, 6, none⟩ = some (I u0.maxOff) := fun p => by have := (M2.out.below p.is) 6 _ rfl; rwa [Addr.add_mid, Nat.zero_add] at this
    iterate 5
      (refine Pw.calm rfl (fun K hK => ?_)
       go_simp
       refine hK _ ?_
       clear hK K)
    clear q7 q8
    iterate 2
      (refine Pw.calm rfl (fun K hK => ?_)
       go_simp
       refine hK _ ?_
       clear hK K)
    refine Pw.skips 7 (by kernel_rfl) ?_
    (try simp only [List.take_succ_cons, List.take_zero, List.drop_succ_cons, List.drop_zero, Pw.undefs])
    (try dsimp only [Act.put])
    (try simp only [List.setIfInBounds_toArray, List.set_cons_zero, List.set_cons_succ])
    iterate 2
      (refine Pw.calm rfl (fun K hK => ?_)
       go_simp
       refine hK _ ?_
       clear hK K)
    refine Pw.skips 7 (by kernel_rfl) ?_
    (try simp only [List.take_succ_cons, List.take_zero, List.drop_succ_cons, List.drop_zero, Pw.undefs])
    (try dsimp only [Act.put])
    (try simp only [List.setIfInBounds_toArray, List.set_cons_zero, List.set_cons_succ])
    iterate 2
      (refine Pw.calm rfl (fun K hK => ?_)
       go_simp
       refine hK _ ?_
       clear hK K)
    refine Pw.skips 7 (by kernel_rfl) ?_
    (try simp only [List.take_succ_cons, List.take_zero, List.drop_succ_cons, List.drop_zero, Pw.undefs])
    (try dsimp only [Act.put])
    (try simp only [List.setIfInBounds_toArray, List.set_cons_zero, List.set_cons_succ])
    iterate 2
      (refine Pw.calm rfl (fun K hK => ?_)
       go_simp
       refine hK _ ?_
       clear hK K)
    refine Pw.skips 7 (by kernel_rfl) ?_
    (try simp only [List.take_succ_cons, List.take_zero, List.drop_succ_cons, List.drop_zero, Pw.undefs])
    (try dsimp only [Act.put])
    (try simp only [List.setIfInBounds_toArray, List.set_cons_zero, List.set_cons_succ])
    iterate 1
      (refine Pw.calm rfl (fun K hK => ?_)
       go_simp
       refine hK _ ?_
       clear hK K)
    refine Pw.nil ?_
    intro w3 hb3
    exact HQ.out _ _ _ _ _ _ _ _ _ _ _ _ _ _ _ _ _ _ _ _ _ _ _ _ _ _ _ _ _ _ _ _ _ _ _ _ _ _ _ _ _ _ _ _ _ _ _ _ _ _ _ _ _ _ true w3 (by simp only [Bool.true_eq_false, false_iff]; exact NE.out) hb3
  have hb2 : ((v0.maxOff : Int) != (u0.maxOff : Int)) = false := by rw [bne_eq_false_iff_eq]; omega
  have E2 := Lib.hid h2
  clear h2
  have q7 : ∀ p : Ph.S (Row.Old wc), p.world.cell? ⟨g7, 6, none⟩ = some (I v0.maxOff) := fun p => by have := (M1.out.below p.is) 6 _ rfl; rwa [Addr.add_mid, Nat.zero_add] at this
  have q8 : ∀ p : Ph.S (Row.Old wc), p.world.cell? ⟨g8, 6, none⟩ = some (I u0.maxOff) := fun p => by have := (M2.out.below p.is) 6 _ rfl; rwa [Addr.add_mid, Nat.zero_add] at this
  iterate 5
    (refine Pw.calm rfl (fun K hK => ?_)
     go_simp
     refine hK _ ?_
     clear hK K)
  clear q7 q8
  iterate 2
    (refine Pw.calm rfl (fun K hK => ?_)
     go_simp
     refine hK _ ?_
     clear hK K)
  clear hb2
  by_cases h3 : v0.on = u0.on
  rotate_left
  · skip
    have NE : Hid (¬ v0 = u0) := fun e => h3 (by rw [e])
    have hb : ((v0.on : Int) != (u0.on : Int)) = true := by rw [bne_iff_ne]; omega
    clear h3
    have q7 : ∀ p : Ph.S (Row.Old wc), p.world.cell? ⟨g7, 1, none⟩ = some (F v0.on) := fun p => by have := (M1.out.below p.is) 1 _ rfl; rwa [Addr.add_mid, Nat.zero_add] at this
    have q8 : ∀ p : Ph.S (Row.Old wc), p.world.cell? ⟨g8, 1, none⟩ = some (F u0.on) := fun p => by have := (M2.out.below p.is) 1 _ rfl; rwa [Addr.add_mid, Nat.zero_add] at this
    iterate 2
      (refine Pw.calm rfl (fun K hK => ?_)
       go_simp
       refine hK _ ?_
       clear hK K)
    (refine Pw.calm rfl (fun K hK => ?_)
     go_simp
     refine ⟨_, fun p => Row.Old.pure (MayF.bits_any _ _), hK _ ?_⟩
     clear hK K)
    iterate 2
      (refine Pw.calm rfl (fun K hK => ?_)
       go_simp
       refine hK _ ?_
       clear hK K)
    (refine Pw.calm rfl (fun K hK => ?_)
     go_simp
     refine ⟨_, fun p => Row.Old.pure (MayF.bits_any _ _), hK _ ?_⟩
     clear hK K)
    iterate 1
      (refine Pw.calm rfl (fun K hK => ?_)
       go_simp
       refine hK _ ?_
       clear hK K)
    clear q7 q8
    iterate 2
      (refine Pw.calm rfl (fun K hK => ?_)
       go_simp
       refine hK _ ?_
       clear hK K)
    refine Pw.skips 7 (by kernel_rfl) ?_
    (try simp only [List.take_succ_cons, List.take_zero, List.drop_succ_cons, List.drop_zero, Pw.undefs])
    (try dsimp only [Act.put])
    (try simp only [List.setIfInBounds_toArray, List.set_cons_zero, List.set_cons_succ])
    iterate 2
      (refine Pw.calm rfl (fun K hK => ?_)
       go_simp
       refine hK _ ?_
       clear hK K)
    refine Pw.skips 7 (by kernel_rfl) ?_
    (try simp only [List.take_succ_cons, List.take_zero, List.drop_succ_cons, List.drop_zero, Pw.undefs])
    (try dsimp only [Act.put])
    (try simp only [List.setIfInBounds_toArray, List.set_cons_zero, List.set_cons_succ])
    iterate 2
      (refine Pw.calm rfl (fun K hK => ?_)
       go_simp
       refine hK _ ?_
       clear hK K)
    refine Pw.skips 7 (by kernel_rfl) ?_
    (try simp only [List.take_succ_cons, List.take_zero, List.drop_succ_cons, List.drop_zero, Pw.undefs])
    (try dsimp only [Act.put])
    (try simp only [List.setIfInBounds_toArray, List.set_cons_zero, List.set_cons_succ])
    iterate 1
      (refine Pw.calm rfl (fun K hK => ?_)
       go_simp
       refine hK _ ?_
       clear hK K)
    refine Pw.nil ?_
    intro w3 hb3
    exact HQ.out _ _ _ _ _ _ _ _ _ _ _ _ _ _ _ _ _ _ _ _ _ _ _ _ _ _ _ _ _ _ _ _ _ _ _ _ _ _ _ _ _ _ _ _ _ _ _ _ _ _ _ _ _ _ true w3 (by simp only [Bool.true_eq_false, false_iff]; exact NE.out) hb3
  have hb3 : ((v0.on : Int) != (u0.on : Int)) = false := by rw [bne_eq_false_iff_eq]; omega
  have E3 := Lib.hid h3
  clear h3
  have q7 : ∀ p : Ph.S (Row.Old wc), p.world.cell? ⟨g7, 1, none⟩ = some (F v0.on) := fun p => by have := (M1.out.below p.is) 1 _ rfl; rwa [Addr.add_mid, Nat.zero_add] at this
  have q8 : ∀ p : Ph.S (Row.Old wc), p.world.cell? ⟨g8, 1, none⟩ = some (F u0.on) := fun p => by have := (M2.out.below p.is) 1 _ rfl; rwa [Addr.add_mid, Nat.zero_add] at this
  iterate 2
    (refine Pw.calm rfl (fun K hK => ?_)
     go_simp
     refine hK _ ?_
     clear hK K)
  (refine Pw.calm rfl (fun K hK => ?_)
   go_simp
   refine ⟨_, fun p => Row.Old.pure (MayF.bits_any _ _), hK _ ?_⟩
   clear hK K)
  iterate 2
    (refine Pw.calm rfl (fun K hK => ?_)
     go_simp
     refine hK _ ?_
     clear hK K)
  (refine Pw.calm rfl (fun K hK => ?_)
   go_simp
   refine ⟨_, fun p => Row.Old.pure (MayF.bits_any _ _), hK _ ?_⟩
   clear hK K)
  iterate 1
    (refine Pw.calm rfl (fun K hK => ?_)
     go_simp
     refine hK _ ?_
     clear hK K)
  clear q7 q8
  iterate 2
    (refine Pw.calm rfl (fun K hK => ?_)
     go_simp
     refine hK _ ?_
     clear hK K)
  clear hb3
  by_cases h4 : v0.off = u0.off
  rotate_left
  · skip
    have NE : Hid (¬ v0 = u0) := fun e => h4 (by rw [e])
    have hb : ((v0.off : Int) != (u0.off : Int)) = true := by rw [bne_iff_ne]; omega
    clear h4
    have q7 : ∀ p : Ph.S (Row.Old wc), p.world.cell? ⟨g7, 2, none⟩ = some (F v0.off) := fun p => by have := (M1.out.below p.is) 2 _ rfl; rwa [Addr.add_mid, Nat.zero_add] at this
    have q8 : ∀ p : Ph.S (Row.Old wc), p.world.cell? ⟨g8, 2, none⟩ = some (F u0.off) := fun p => by have := (M2.out.below p.is) 2 _ rfl; rwa [Addr.add_mid, Nat.zero_add] at this
    iterate 2
      (refine Pw.calm rfl (fun K hK => ?_)
       go_simp
       refine hK _ ?_
       clear hK K)
    (refine Pw.calm rfl (fun K hK => ?_)
     go_simp
     refine ⟨_, fun p => Row.Old.pure (MayF.bits_any _ _), hK _ ?_⟩
     clear hK K)
    iterate 2
      (refine Pw.calm rfl (fun K hK => ?_)
       go_simp
       refine hK _ ?_
       clear hK K)
    (refine Pw.calm rfl (fun K hK => ?_)
     go_simp
     refine ⟨_, fun p => Row.Old.pure (MayF.bits_any _ _), hK _ ?_⟩
     clear hK K)
    iterate 1
      (refine Pw.calm rfl (fun K hK => ?_)
       go_simp
       refine hK _ ?_
       clear hK K)
    clear q7 q8
    iterate 2
      (refine Pw.calm rfl (fun K hK => ?_)
       go_simp
       refine hK _ ?_
       clear hK K)
    refine Pw.skips 7 (by kernel_rfl) ?_
    (try simp only [List.take_succ_cons, List.take_zero, List.drop_succ_cons, List.drop_zero, Pw.undefs])
    (try dsimp only [Act.put])
    (try simp only [List.setIfInBounds_toArray, List.set_cons_zero, List.set_cons_succ])
    iterate 2
      (refine Pw.calm rfl (fun K hK => ?_)
       go_simp
       refine hK _ ?_
       clear hK K)
    refine Pw.skips 7 (by kernel_rfl) ?_
    (try simp only [List.take_succ_cons, List.take_zero, List.drop_succ_cons, List.drop_zero, Pw.undefs])
    (try dsimp only [Act.put])
    (try simp only [List.setIfInBounds_toArray, List.set_cons_zero, List.set_cons_succ])
    iterate 1
      (refine Pw.calm rfl (fun K hK => ?_)
       go_simp
       refine hK _ ?_
       clear hK K)
    refine Pw.nil ?_
    intro w3 hb3
    exact HQ.out _ _ _ _ _ _ _ _ _ _ _ _ _ _ _ _ _ _ _ _ _ _ _ _ _ _ _ _ _ _ _ _ _ _ _ _ _ _ _ _ _ _ _ _ _ _ _ _ _ _ _ _ _ _ true w3 (by simp only [Bool.true_eq_false, false_iff]; exact NE.out) hb3
  have hb4 : ((v0.off : Int) != (u0.off : Int)) = false := by rw [bne_eq_false_iff_eq]; omega
  have E4 := Lib.hid h4
  clear h4
  have q7 : ∀ p : Ph.S (Row.Old wc), p.world.cell? ⟨g7, 2, none⟩ = some (F v0.off) := fun p => by have := (M1.out.below p.is) 2 _ rfl; rwa [Addr.add_mid, Nat.zero_add] at this
  have q8 : ∀ p : Ph.S (Row.Old wc), p.world.cell? ⟨g8, 2, none⟩ = some (F u0.off) := fun p => by have := (M2.out.below p.is) 2 _ rfl; rwa [Addr.add_mid, Nat.zero_add] at this
  iterate 2
    (refine Pw.calm rfl (fun K hK => ?_)
     go_simp
     refine hK _ ?_
     clear hK K)
  (refine Pw.calm rfl (fun K hK => ?_)
   go_simp
   refine ⟨_, fun p => Row.Old.pure (MayF.bits_any _ _), hK _ ?_⟩
   clear hK K)
  iterate 2
    (refine Pw.calm rfl (fun K hK => ?_)
     go_simp
     refine hK _ ?_
     clear hK K)
  (refine Pw.calm rfl (fun K hK => ?_)
   go_simp
   refine ⟨_, fun p => Row.Old.pure (MayF.bits_any _ _), hK _ ?_⟩
   clear hK K)
  iterate 1
    (refine Pw.calm rfl (fun K hK => ?_)
     go_simp
     refine hK _ ?_
     clear hK K)
  clear q7 q8
  iterate 2
    (refine Pw.calm rfl (fun K hK => ?_)
     go_simp
     refine hK _ ?_
     clear hK K)
  clear hb4
  by_cases h5 : v0.delay = u0.delay
  rotate_left
  · skip
    have NE : Hid (¬ v0 = u0) := fun e => h5 (by rw [e])
    have hb : ((v0.delay : Int) != (u0.delay : Int)) = true := by rw [bne_iff_ne]; omega
    clear h5
    have q7 : ∀ p : Ph.S (Row.Old wc), p.world.cell? ⟨g7, 3, none⟩ = some (F v0.delay) := fun p => by have := (M1.out.below p.is) 3 _ rfl; rwa [Addr.add_mid, Nat.zero_add] at this
    have q8 : ∀ p : Ph.S (Row.Old wc), p.world.cell? ⟨g8, 3, none⟩ = some (F u0.delay) := fun p => by have := (M2.out.below p.is) 3 _ rfl; rwa [Addr.add_mid, Nat.zero_add] at this
    iterate 2
      (refine Pw.calm rfl (fun K hK => ?_)
       go_simp
       refine hK _ ?_
       clear hK K)
    (refine Pw.calm rfl (fun K hK => ?_)
     go_simp
     refine ⟨_, fun p => Row.Old.pure (MayF.bits_any _ _), hK _ ?_⟩
     clear hK K)
    iterate 2
      (refine Pw.calm rfl (fun K hK => ?_)
       go_simp
       refine hK _ ?_
       clear hK K)
    (refine Pw.calm rfl (fun K hK => ?_)
     go_simp
     refine ⟨_, fun p => Row.Old.pure (MayF.bits_any _ _), hK _ ?_⟩
     clear hK K)
    iterate 1
      (refine Pw.calm rfl (fun K hK => ?_)
       go_simp
       refine hK _ ?_
       clear hK K)
    clear q7 q8
    iterate 2
      (refine Pw.calm rfl (fun K hK => ?_)
       go_simp
       refine hK _ ?_
       clear hK K)
    refine Pw.skips 7 (by kernel_rfl) ?_
    (try simp only [List.take_succ_cons, List.take_zero, List.drop_succ_cons, List.drop_zero, Pw.undefs])
    (try dsimp only [Act.put])
    (try simp only [List.setIfInBounds_toArray, List.set_cons_zero, List.set_cons_succ])
    iterate 1
      (refine Pw.calm rfl (fun K hK => ?_)
       go_simp
       refine hK _ ?_
       clear hK K)
    refine Pw.nil ?_
    intro w3 hb3
    exact HQ.out _ _ _ _ _ _ _ _ _ _ _ _ _ _ _ _ _ _ _ _ _ _ _ _ _ _ _ _ _ _ _ _ _ _ _ _ _ _ _ _ _ _ _ _ _ _ _ _ _ _ _ _ _ _ true w3 (by simp only [Bool.true_eq_false, false_iff]; exact NE.out) hb3
  have hb5 : ((v0.delay : Int) != (u0.delay : Int)) = false := by rw [bne_eq_false_iff_eq]; omega
  have E5 := Lib.hid h5
  clear h5
  have q7 : ∀ p : Ph.S (Row.Old wc), p.world.cell? ⟨g7, 3, none⟩ = some (F v0.delay) := fun p => by have := (M1.out.below p.is) 3 _ rfl; rwa [Addr.add_mid, Nat.zero_add] at this
  have q8 : ∀ p : Ph.S (Row.Old wc), p.world.cell? ⟨g8, 3, none⟩ = some (F u0.delay) := fun p => by have := (M2.out.below p.is) 3 _ rfl; rwa [Addr.add_mid, Nat.zero_add] at this
  iterate 2
    (refine Pw.calm rfl (fun K hK => ?_)
     go_simp
     refine hK _ ?_
     clear hK K)
  (refine Pw.calm rfl (fun K hK => ?_)
   go_simp
   refine ⟨_, fun p => Row.Old.pure (MayF.bits_any _ _), hK _ ?_⟩
   clear hK K)
  iterate 2
    (refine Pw.calm rfl (fun K hK => ?_)
     go_simp
     refine hK _ ?_
     clear hK K)
  (refine Pw.calm rfl (fun K hK => ?_)
   go_simp
   refine ⟨_, fun p => Row.Old.pure (MayF.bits_any _ _), hK _ ?_⟩
   clear hK K)
  iterate 1
    (refine Pw.calm rfl (fun K hK => ?_)
     go_simp
     refine hK _ ?_
     clear hK K)
  clear q7 q8
  iterate 2
    (refine Pw.calm rfl (fun K hK => ?_)
     go_simp
     refine hK _ ?_
     clear hK K)
  clear hb5
  by_cases h6 : v0.extend = u0.extend
  rotate_left
  · skip
    have NE : Hid (¬ v0 = u0) := fun e => h6 (by rw [e])
    have hb : ((v0.extend : Int) != (u0.extend : Int)) = true := by rw [bne_iff_ne]; omega
    clear h6
    have q7 : ∀ p : Ph.S (Row.Old wc), p.world.cell? ⟨g7, 4, none⟩ = some (F v0.extend) := fun p => by have := (M1.out.below p.is) 4 _ rfl; rwa [Addr.add_mid, Nat.zero_add] at this
    have q8 : ∀ p : Ph.S (Row.Old wc), p.world.cell? ⟨g8, 4, none⟩ = some (F u0.extend) := fun p => by have := (M2.out.below p.is) 4 _ rfl; rwa [Addr.add_mid, Nat.zero_add] at this
    iterate 2
      (refine Pw.calm rfl (fun K hK => ?_)
       go_simp
       refine hK _ ?_
       clear hK K)
    (refine Pw.calm rfl (fun K hK => ?_)
     go_simp
     refine ⟨_, fun p => Row.Old.pure (MayF.bits_any _ _), hK _ ?_⟩
     clear hK K)
    iterate 2
      (refine Pw.calm rfl (fun K hK => ?_)
       go_simp
       refine hK _ ?_
       clear hK K)
    (refine Pw.calm rfl (fun K hK => ?_)
     go_simp
     refine ⟨_, fun p => Row.Old.pure (MayF.bits_any _ _), hK _ ?_⟩
     clear hK K)
    iterate 1
      (refine Pw.calm rfl (fun K hK => ?_)
       go_simp
       refine hK _ ?_
       clear hK K)
    clear q7 q8
    iterate 1
      (refine Pw.calm rfl (fun K hK => ?_)
       go_simp
       refine hK _ ?_
       clear hK K)
    refine Pw.nil ?_
    intro w3 hb3
    exact HQ.out _ _ _ _ _ _ _ _ _ _ _ _ _ _ _ _ _ _ _ _ _ _ _ _ _ _ _ _ _ _ _ _ _ _ _ _ _ _ _ _ _ _ _ _ _ _ _ _ _ _ _ _ _ _ true w3 (by simp only [Bool.true_eq_false, false_iff]; exact NE.out) hb3
  have hb6 : ((v0.extend : Int) != (u0.extend : Int)) = false := by rw [bne_eq_false_iff_eq]; omega
  have E6 := Lib.hid h6
  clear h6
  have q7 : ∀ p : Ph.S (Row.Old wc), p.world.cell? ⟨g7, 4, none⟩ = some (F v0.extend) := fun p => by have := (M1.out.below p.is) 4 _ rfl; rwa [Addr.add_mid, Nat.zero_add] at this
  have q8 : ∀ p : Ph.S (Row.Old wc), p.world.cell? ⟨g8, 4, none⟩ = some (F u0.extend) := fun p => by have := (M2.out.below p.is) 4 _ rfl; rwa [Addr.add_mid, Nat.zero_add] at this
  iterate 2
    (refine Pw.calm rfl (fun K hK => ?_)
     go_simp
     refine hK _ ?_
     clear hK K)
  (refine Pw.calm rfl (fun K hK => ?_)
   go_simp
   refine ⟨_, fun p => Row.Old.pure (MayF.bits_any _ _), hK _ ?_⟩
   clear hK K)
  iterate 2
    (refine Pw.calm rfl (fun K hK => ?_)
     go_simp
     refine hK _ ?_
     clear hK K)
  (refine Pw.calm rfl (fun K hK => ?_)
   go_simp
   refine ⟨_, fun p => Row.Old.pure (MayF.bits_any _ _), hK _ ?_⟩
   clear hK K)
  iterate 1
    (refine Pw.calm rfl (fun K hK => ?_)
     go_simp
     refine hK _ ?_
     clear hK K)
  clear q7 q8
  iterate 1
    (refine Pw.calm rfl (fun K hK => ?_)
     go_simp
     refine hK _ ?_
     clear hK K)
  clear hb6
  refine Pw.nil ?_
  intro w3 hb3
  have EQ : Hid (v0 = u0) := Lib.hid (by
    have e0 := E0.out; have e1 := E1.out; have e2 := E2.out; have e3 := E3.out; have e4 := E4.out; have e5 := E5.out; have e6 := E6.out
    obtain ⟨a0, a1, a2, a3, a4, a5, a6⟩ := v0
    obtain ⟨b0, b1, b2, b3, b4, b5, b6⟩ := u0
    simp only at e0 e1 e2 e3 e4 e5 e6
    subst e0 e1 e2 e3 e4 e5 e6
    rfl)
  exact HQ.out _ _ _ _ _ _ _ _ _ _ _ _ _ _ _ _ _ _ _ _ _ _ _ _ _ _ _ _ _ _ _ _ _ _ _ _ _ _ _ _ _ _ _ _ _ _ _ _ _ _ _ _ _ _ false w3 (by simp only [true_iff]; exact EQ.out) hb3
end Go.Proofs.Ytpofccenoobojaa.Same
