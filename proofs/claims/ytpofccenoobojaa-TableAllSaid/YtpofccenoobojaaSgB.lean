/- Region 8 of the document's Same: two groups are compared. -/
import Derived.Test.YtpofccenoobojaaRows
import Derived.Test.YtpofccenoobojaaSub
import Derived.Test.YtpofccenoobojaaSameF
import Derived.Test.YtpofccenoobojaaHeld
import Derived.Test.YtpofccenoobojaaPw
import Derived.Test.YtpofccenoobojaaOwned
import Derived.Deep.Cut
import Derived.Deep.CutRange
namespace Go.Proofs.Ytpofccenoobojaa.Same
open Go.ChangeShapes Go.WideShapes Go.ChangeAt Go.RowKit
open Tab Owned CodeAt
open May (ret_bool chain take_succ' infoP infoG infoD infoR infoB infoT row_new St)
set_option linter.unusedVariables false
set_option linter.unusedSimpArgs false
set_option maxRecDepth 100000 in
set_option maxHeartbeats 20000000 in
theorem groups_rg {Q : Exit → Act → World → Prop} (w wr : World) (q n n' c c' : Nat) (x y : Addr) (a0 a1 b0 b1 : Option Addr) (cap0 cap1 bap0 bap1 : Nat) (l0 l1 m0 m1 : List Int) (hlt : q < n) (hlu : q < n') (K1 : n ≤ c ∧ c ≤ 2 ^ 63 - 1) (K2 : n' ≤ c' ∧ c' ≤ 2 ^ 63 - 1)
    (qq104 : Hid (wr.cell? ⟨w.heap.size, 104, none⟩ = some (.slice (some x) n c))) (rr104 : Hid (wr.cell? ⟨w.heap.size + 1, 104, none⟩ = some (.slice (some y) n' c')))
    (C0 : Hid (wr.cell? (x.add (q * 2)) = some (.slice a0 l0.length cap0) ∧ wr.cell? ⟨(x.add (q * 2)).block, (x.add (q * 2)).off + 1, none⟩ = some (.slice a1 l1.length cap1)))
    (D0 : Hid (wr.cell? (y.add (q * 2)) = some (.slice b0 m0.length bap0) ∧ wr.cell? ⟨(y.add (q * 2)).block, (y.add (q * 2)).off + 1, none⟩ = some (.slice b1 m1.length bap1)))
    (H0 : Hid (IntRow wr ⟨a0, cap0⟩ l0)) (H1 : Hid (IntRow wr ⟨a1, cap1⟩ l1)) (H2 : Hid (IntRow wr ⟨b0, bap0⟩ m0)) (H3 : Hid (IntRow wr ⟨b1, bap1⟩ m1)) (f0 f1 f4 f6 f7 f8 f9 f10 f11 f12 f13 f14 f15 f16 f17 f18 f19 f20 f21 f22 f23 f24 f25 f26 f27 f28 f29 f30 f31 f32 f33 f34 f35 f36 f37 f38 f39 f40 f41 f42 f43 f44 f45 f46 f47 f48 f49 f50 f51 f52 f53 f54 f55 f56 f57 f58 f59 f60 f61 f62 f63 f64 f65 f66 f67 f68 f69 f70 f71 f72 f73 f74 f75 f76 f77 f78 f79 f80 f81 f82 f83 f84 f85 f86 f87 f88 f89 f90 f91 f92 f93 f94 f95 f96 f97 f98 f99 f100 f101 f102 f103 f104 f105 f106 f107 f108 f109 f110 f111 f112 f113 f114 f115 f116 f117 f118 f119 f120 f121 f122 f123 f124 f125 f126 f127 f128 f129 f130 f131 f132 f133 f134 f135 f136 f137 f138 f139 f140 f141 f142 f143 f144 f145 f146 f147 f148 f149 f150 f151 f152 f153 f154 f155 f156 f157 f158 f159 f160 f161 f162 f163 f164 f165 f166 f167 f168 f169 f170 f171 f172 f173 f174 f175 f176 f177 f178 f179 f180 f181 f182 f183 f184 f185 f186 f187 f188 f189 f190 f191 f192 f193 f194 f195 f196 f197 f198 f199 f200 f201 f202 f203 f204 f205 f206 f207 f208 f209 f210 f211 f212 f213 f214 f215 f216 f217 f218 f219 f220 f221 f222 f223 f224 f225 f226 f227 f228 f229 f230 f231 f232 f233 f234 f235 f236 f237 f238 f239 f240 f241 f242 : Value)
    (HQ : Hid (∀ (x105 x106 x107 x108 x109 x110 x111 x112 x113 x114 x115 x116 x117 x118 x119 x120 x121 x122 x123 x124 x125 x126 x127 x128 x129 x130 x131 x132 x133 : Value) (b : Bool) (w' : World), (b = false ↔ l0 = m0 ∧ l1 = m1) → Below wr.heap.size wr w' → Q .normal ⟨#[f0, f1, Value.pointer (some ⟨w.heap.size, 0, none⟩), Value.pointer (some ⟨w.heap.size + 1, 0, none⟩), f4, Value.int .i64 (q : Int), f6, f7, f8, f9, f10, f11, f12, f13, f14, f15, f16, f17, f18, f19, f20, f21, f22, f23, f24, f25, f26, f27, f28, f29, f30, f31, f32, f33, f34, f35, f36, f37, f38, f39, f40, f41, f42, f43, f44, f45, f46, f47, f48, f49, f50, f51, f52, f53, f54, f55, f56, f57, f58, f59, f60, f61, f62, f63, f64, f65, f66, f67, f68, f69, f70, f71, f72, f73, f74, f75, f76, f77, f78, f79, f80, f81, f82, f83, f84, f85, f86, f87, f88, f89, f90, f91, f92, f93, f94, f95, f96, f97, f98, f99, f100, f101, f102, f103, f104, x105, x106, x107, x108, x109, x110, x111, x112, x113, x114, x115, x116, x117, x118, x119, x120, x121, x122, x123, x124, x125, x126, x127, x128, x129, x130, x131, x132, x133, Value.bool b, f135, f136, f137, f138, f139, f140, f141, f142, f143, f144, f145, f146, f147, f148, f149, f150, f151, f152, f153, f154, f155, f156, f157, f158, f159, f160, f161, f162, f163, f164, f165, f166, f167, f168, f169, f170, f171, f172, f173, f174, f175, f176, f177, f178, f179, f180, f181, f182, f183, f184, f185, f186, f187, f188, f189, f190, f191, f192, f193, f194, f195, f196, f197, f198, f199, f200, f201, f202, f203, f204, f205, f206, f207, f208, f209, f210, f211, f212, f213, f214, f215, f216, f217, f218, f219, f220, f221, f222, f223, f224, f225, f226, f227, f228, f229, f230, f231, f232, f233, f234, f235, f236, f237, f238, f239, f240, f241, f242], []⟩ w')) :
    (rg 8 Try.f9).wp Try.prog Q ⟨#[f0, f1, Value.pointer (some ⟨w.heap.size, 0, none⟩), Value.pointer (some ⟨w.heap.size + 1, 0, none⟩), f4, Value.int .i64 (q : Int), f6, f7, f8, f9, f10, f11, f12, f13, f14, f15, f16, f17, f18, f19, f20, f21, f22, f23, f24, f25, f26, f27, f28, f29, f30, f31, f32, f33, f34, f35, f36, f37, f38, f39, f40, f41, f42, f43, f44, f45, f46, f47, f48, f49, f50, f51, f52, f53, f54, f55, f56, f57, f58, f59, f60, f61, f62, f63, f64, f65, f66, f67, f68, f69, f70, f71, f72, f73, f74, f75, f76, f77, f78, f79, f80, f81, f82, f83, f84, f85, f86, f87, f88, f89, f90, f91, f92, f93, f94, f95, f96, f97, f98, f99, f100, f101, f102, f103, f104, f105, f106, f107, f108, f109, f110, f111, f112, f113, f114, f115, f116, f117, f118, f119, f120, f121, f122, f123, f124, f125, f126, f127, f128, f129, f130, f131, f132, f133, f134, f135, f136, f137, f138, f139, f140, f141, f142, f143, f144, f145, f146, f147, f148, f149, f150, f151, f152, f153, f154, f155, f156, f157, f158, f159, f160, f161, f162, f163, f164, f165, f166, f167, f168, f169, f170, f171, f172, f173, f174, f175, f176, f177, f178, f179, f180, f181, f182, f183, f184, f185, f186, f187, f188, f189, f190, f191, f192, f193, f194, f195, f196, f197, f198, f199, f200, f201, f202, f203, f204, f205, f206, f207, f208, f209, f210, f211, f212, f213, f214, f215, f216, f217, f218, f219, f220, f221, f222, f223, f224, f225, f226, f227, f228, f229, f230, f231, f232, f233, f234, f235, f236, f237, f238, f239, f240, f241, f242], []⟩ wr := by
  conv => arg 2; whnf
  have lift : Hid (∀ (p : Ph.S (Row.Old wr)) (z : Addr) (c : Value), wr.cell? z = some c → p.world.cell? z = some c) := Lib.hid (fun p z c hz => (p.is.cell (World.block_lt_of_cell? wr _ hz)).trans hz)
  have f1 := fun p : Ph.S (Row.Old wr) => lift.out p _ _ qq104.out
  have f2 := fun p : Ph.S (Row.Old wr) => lift.out p _ _ rr104.out
  have f3 := fun p : Ph.S (Row.Old wr) => lift.out p _ _ C0.out.1
  have f4 := fun p : Ph.S (Row.Old wr) => lift.out p _ _ C0.out.2
  have f5 := fun p : Ph.S (Row.Old wr) => lift.out p _ _ D0.out.1
  have f6 := fun p : Ph.S (Row.Old wr) => lift.out p _ _ D0.out.2
  have hne : Nonempty (Ph.S (Row.Old wr)) := ⟨⟨0, wr, Below.refl _ _⟩⟩
  refine Pw.region (Row.Old wr) [] (by kernel_rfl) (by kernel_rfl) (Row.Old.drew _) ?_
  iterate 12
    (refine Pw.calm rfl (fun K hK => ?_)
     go_simp
     refine hK _ ?_
     clear hK K)
  (refine Pw.calm rfl (fun K hK => ?_)
   go_simp
   refine ⟨_, fun p => Row.Old.call (rints_any a0 b0 cap0 bap0 l0 m0 _ (H0.out.below p.is) (H2.out.below p.is)), hK _ ?_⟩
   clear hK K)
  by_cases hd0 : l0 = m0
  rotate_left
  · rw [decide_eq_false hd0]
    iterate 2
      (refine Pw.calm rfl (fun K hK => ?_)
       go_simp
       refine hK _ ?_
       clear hK K)
    refine Pw.skips 14 (by kernel_rfl) ?_
    (try simp only [List.take_succ_cons, List.take_zero, List.drop_succ_cons, List.drop_zero, Pw.undefs])
    (try dsimp only [Act.put])
    (try simp only [List.setIfInBounds_toArray, List.set_cons_zero, List.set_cons_succ])
    iterate 1
      (refine Pw.calm rfl (fun K hK => ?_)
       go_simp
       refine hK _ ?_
       clear hK K)
    refine Pw.nil ?_
    intro w3 hb3
    exact HQ.out _ _ _ _ _ _ _ _ _ _ _ _ _ _ _ _ _ _ _ _ _ _ _ _ _ _ _ _ _ true w3 (by simp only [Bool.true_eq_false, false_iff]; exact fun e => hd0 e.1) hb3
  rw [decide_eq_true hd0]
  have HD0 := Lib.hid hd0
  clear hd0
  iterate 2
    (refine Pw.calm rfl (fun K hK => ?_)
     go_simp
     refine hK _ ?_
     clear hK K)
  iterate 12
    (refine Pw.calm rfl (fun K hK => ?_)
     go_simp
     refine hK _ ?_
     clear hK K)
  (refine Pw.calm rfl (fun K hK => ?_)
   go_simp
   refine ⟨_, fun p => Row.Old.call (rints_any a1 b1 cap1 bap1 l1 m1 _ (H1.out.below p.is) (H3.out.below p.is)), hK _ ?_⟩
   clear hK K)
  by_cases hd1 : l1 = m1
  · rw [decide_eq_true hd1]
    iterate 2
      (refine Pw.calm rfl (fun K hK => ?_)
       go_simp
       refine hK _ ?_
       clear hK K)
    refine Pw.nil ?_
    intro w3 hb3
    exact HQ.out _ _ _ _ _ _ _ _ _ _ _ _ _ _ _ _ _ _ _ _ _ _ _ _ _ _ _ _ _ false w3 (by simp only [true_iff]; exact ⟨HD0.out, hd1⟩) hb3
  · rw [decide_eq_false hd1]
    iterate 2
      (refine Pw.calm rfl (fun K hK => ?_)
       go_simp
       refine hK _ ?_
       clear hK K)
    refine Pw.nil ?_
    intro w3 hb3
    exact HQ.out _ _ _ _ _ _ _ _ _ _ _ _ _ _ _ _ _ _ _ _ _ _ _ _ _ _ _ _ _ true w3 (by simp only [Bool.true_eq_false, false_iff]; exact fun e => hd1 e.2) hb3
end Go.Proofs.Ytpofccenoobojaa.Same
