/- 5 texts in one file, in build order. -/
import Derived.Test.YtggjconbgpfomaaGreatRows
import Derived.Test.YtggjconbgpfomaaGreatPart12
import Derived.Deep.Cut
import Derived.LoopTactic
import Derived.Great.BuildSlice
set_option linter.unusedVariables false
set_option linter.unusedSimpArgs false
set_option linter.unusedSectionVars false
set_option maxHeartbeats 8000000
set_option maxRecDepth 100000
namespace Go.Proofs.YtggjconbgpfomaaGreat
namespace GenT
open Go.ChangeShapes Go.WideShapes Go.ChangeAt Go.RowKit
open Tab Gath GenG Clone PlaceM CodeAt
open RefS (num num_range from_any)
theorem loop_cf {Q : Exit → Act → World → Prop} (a : Option Addr) (cap : Nat) (L : List Int) (w W0 : World) (hd : Hd) (T : Tab) (n : Nat) (hn : n ≤ 8) (sm : Few T) {f1 f5 f7 f8 f9 f10 f11 f12 f13 f14 f15 f16 f17 f18 f19 f20 f21 f22 f23 f24 f25 f26 f27 f28 f29 f30 f31 f32 f33 f34 f35 f36 f37 f38 f39 f40 f41 f42 f43 f44 f45 f46 f47 f48 f49 f50 f51 f52 f53 f54 f55 f56 f57 f58 f59 f60 f61 f62 f63 f64 f65 f66 f67 f68 f69 f70 f71 f72 f73 f74 f75 f76 f77 f78 f79 f80 f81 f82 f83 f84 f85 f86 f87 f88 f89 f90 f91 f92 f93 f94 f95 f96 f97 f98 f99 f100 f101 f102 f103 f104 f105 f106 f107 f108 f109 f110 f111 f112 f113 f114 f115 f116 f117 f118 f119 f120 f121 f122 f123 f124 f125 f126 f127 f128 f129 f130 f131 f132 f133 f134 f135 f136 f137 f138 f139 f140 f141 f142 f143 f144 f145 f146 f147 f148 f149 f150 f151 f152 f153 f154 f155 f156 f157 f158 f159 f160 f161 f162 f163 f164 f165 f166 f167 f168 f169 f170 f171 f172 f173 f174 f175 f176 f177 f178 f179 f180 f181 f182 f183 f184 f185 : Value}
    (HL : Hid (∀ W, Below w.heap.size w W → IntRow W ⟨a, cap⟩ L)) (BX : Hid (Bx w hd T W0))
    (HP : ∀ c a d v w, Q (.panic c) (a.put d v) w → Q (.panic c) a w) (HQ : Hid (∀ (x6 x7 x31 x32 x33 x34 x35 x36 x37 x38 x39 x40 x41 x42 x43 x44 x45 x46 x47 x48 x49 x50 x51 x52 x53 x54 x55 x56 x57 x58 x59 x60 x61 x62 x63 x64 x65 x66 x67 x68 x69 x70 x71 x72 x73 : Value) (W' : World), Bx w hd { T with conflict := call L T T.conflict n } W' → Q (.exit 2) ⟨#[Value.slice a L.length cap, f1, Value.pointer (some ⟨w.heap.size, 0, none⟩), Value.pointer (some ⟨w.heap.size + 1, 0, none⟩), Value.int .i64 (n : Nat), f5, x6, x7, f8, f9, f10, f11, f12, f13, f14, f15, f16, f17, f18, f19, f20, f21, f22, f23, f24, f25, f26, f27, f28, f29, f30, x31, x32, x33, x34, x35, x36, x37, x38, x39, x40, x41, x42, x43, x44, x45, x46, x47, x48, x49, x50, x51, x52, x53, x54, x55, x56, x57, x58, x59, x60, x61, x62, x63, x64, x65, x66, x67, x68, x69, x70, x71, x72, x73, f74, f75, f76, f77, f78, f79, f80, f81, f82, f83, f84, f85, f86, f87, f88, f89, f90, f91, f92, f93, f94, f95, f96, f97, f98, f99, f100, f101, f102, f103, f104, f105, f106, f107, f108, f109, f110, f111, f112, f113, f114, f115, f116, f117, f118, f119, f120, f121, f122, f123, f124, f125, f126, f127, f128, f129, f130, f131, f132, f133, f134, f135, f136, f137, f138, f139, f140, f141, f142, f143, f144, f145, f146, f147, f148, f149, f150, f151, f152, f153, f154, f155, f156, f157, f158, f159, f160, f161, f162, f163, f164, f165, f166, f167, f168, f169, f170, f171, f172, f173, f174, f175, f176, f177, f178, f179, f180, f181, f182, f183, f184, f185], []⟩ W')) :
    (lp 9 Tryz.f18).wp Tryz.prog Q ⟨#[Value.slice a L.length cap, f1, Value.pointer (some ⟨w.heap.size, 0, none⟩), Value.pointer (some ⟨w.heap.size + 1, 0, none⟩), Value.int .i64 (n : Nat), f5, Value.int .i64 0, f7, f8, f9, f10, f11, f12, f13, f14, f15, f16, f17, f18, f19, f20, f21, f22, f23, f24, f25, f26, f27, f28, f29, f30, f31, f32, f33, f34, f35, f36, f37, f38, f39, f40, f41, f42, f43, f44, f45, f46, f47, f48, f49, f50, f51, f52, f53, f54, f55, f56, f57, f58, f59, f60, f61, f62, f63, f64, f65, f66, f67, f68, f69, f70, f71, f72, f73, f74, f75, f76, f77, f78, f79, f80, f81, f82, f83, f84, f85, f86, f87, f88, f89, f90, f91, f92, f93, f94, f95, f96, f97, f98, f99, f100, f101, f102, f103, f104, f105, f106, f107, f108, f109, f110, f111, f112, f113, f114, f115, f116, f117, f118, f119, f120, f121, f122, f123, f124, f125, f126, f127, f128, f129, f130, f131, f132, f133, f134, f135, f136, f137, f138, f139, f140, f141, f142, f143, f144, f145, f146, f147, f148, f149, f150, f151, f152, f153, f154, f155, f156, f157, f158, f159, f160, f161, f162, f163, f164, f165, f166, f167, f168, f169, f170, f171, f172, f173, f174, f175, f176, f177, f178, f179, f180, f181, f182, f183, f184, f185], []⟩ W0 := by
  conv => arg 2; whnf
  dsimp only
  have BS : Hid (∀ (C : List Int) p q, PlaceM.beside { T with conflict := C } p q = PlaceM.beside T p q) := Lib.hid (fun C p q => beside_same rfl p q)
  have CL : Hid (∀ C p, (call L T C p).length = C.length) := Lib.hid (call_len L T)
  have RL : Hid (∀ C p q, (crow L T p C q).length = C.length) := Lib.hid (fun C p q => crow_len L T p C q)
  have SMC : Hid (∀ C : List Int, Few { T with conflict := C }) := Lib.hid (fun C => ⟨sm.groups, sm.rows⟩)
  have C8 := Lib.hid BX.out.cf
  generalize hC0 : T.conflict = C0 at *
  have BX0 : Hid (Bx w hd { T with conflict := call L T C0 0 } W0) := Lib.hid (by have := BX.out; rw [← hC0]; exact this)
  clear BX hC0
  go_loopw [6] (fun i wr => ∃ p : Nat, p ≤ n ∧ i = .int .i64 p ∧ Bx w hd { T with conflict := call L T C0 p } wr) (fun i _ => n - (intOf i).toNat)
  case atStart => exact ⟨0, by omega, rfl, BX0.out⟩
  case round =>
    obtain ⟨p, hp, rfl, hbx⟩ := hrel
    have HB := Lib.hid hbx
    clear hbx BX0
    by_cases hlt : p < n
    · have HB2 : Hid (Bx w hd { T with conflict := crow L T p (call L T C0 p) 0 } wr) := HB
      have L8 : Hid ((call L T C0 p).length = 8) := Lib.hid (by rw [CL.out, C8.out])
      have NX : Hid (call L T C0 (p + 1) = crow L T p (call L T C0 p) p) := Lib.hid rfl
      generalize call L T C0 p = C1 at *
      clear HB
      go_wp2_with fail
      go_loopw [7] (fun i wr => ∃ q : Nat, q ≤ p ∧ i = .int .i64 q ∧ Bx w hd { T with conflict := crow L T p C1 q } wr) (fun i _ => p - (intOf i).toNat)
      case atStart => exact ⟨0, by omega, rfl, HB2.out⟩
      case round =>
        obtain ⟨q, hq, rfl, hbx⟩ := hrel
        have HB := Lib.hid hbx
        clear hbx HB2
        by_cases hlt2 : q < p
        · have LC : Hid ((crow L T p C1 q).length = 8) := Lib.hid (by rw [RL.out, L8.out])
          have NC : Hid (crow L T p C1 (q + 1) = cset L T p q (crow L T p C1 q)) := Lib.hid rfl
          generalize crow L T p C1 q = C at *
          have CSet : Hid (cset L T p q C = if PlaceM.beside T p q = false ∧ num L (110 + 8 * p + q) 9 ≠ 1 then (C.set p (SetM.withN (C.getD p 0) q : Nat)).set q (SetM.withN ((C.set p (SetM.withN (C.getD p 0) q : Nat)).getD q 0) p : Nat) else C) := Lib.hid rfl
          generalize cset L T p q C = CN at *
          have BC : Hid (∀ W, Below wr.heap.size wr W → Calls Tryz.prog 43 #[.agg ({ T with conflict := C }.cells hd).toArray, .int .i64 p, .int .i64 q] W fun e w' => e = .returned (.bool (PlaceM.beside T p q)) ∧ Below W.heap.size W w') := Lib.hid (fun W hb => by
            have := Where.beside_any { T with conflict := C } hd p q W (HB.out.step hb).tab (SMC.out C)
            rw [BS.out] at this; exact this)
          have FC : Hid (∀ i W, i = 110 + 8 * (p : Int) + q → Below w.heap.size w W → Calls Tryz.prog 44 #[.slice a L.length cap, .int .i64 i, .int .i64 9] W fun e w' => e = .returned (.int .i64 (num L (110 + 8 * p + q) 9)) ∧ W = w') := Lib.hid (fun i W hi hb => from_at a cap L i _ 9 hi W (HL.out W hb) (by omega) (by omega) (by omega))
          have LT : Hid (Lies wr ⟨w.heap.size + 1, 0, none⟩ ({ T with conflict := C }.cells hd)) := Lib.hid (by have := Row.lies_of_block HB.out.blk; simpa using this)
          have IA : Hid ((Tryz.prog.info? 31).map (·.size) = some ({ T with conflict := C }.cells hd).length) := Lib.hid (by rw [cells_cut hd HB.out.ph HB.out.cf HB.out.fl]; exact May.infoT)
          generalize hcs : ({ T with conflict := C } : Tab).cells hd = cs at LT IA BC
          go_upto_region 14 with fail
          go_wp2_with (refine Row.wpList_load_g 31 _ rfl (by first | rfl | go_simp) ⟨w.heap.size + 1, 0, none⟩ rfl cs _ LT.out Tryz.underlying31 rfl IA.out ?_)
          refine (BC.out _ (Below.refl _ _)).mono ?_
          rintro e w2 ⟨rfl, hb⟩
          have HB2 := Lib.hid (HB.out.step hb)
          clear hb LT IA BC hcs HB
          generalize PlaceM.beside T p q = bb at *
          cases bb with
          | true =>
            have HE : Hid (CN = C) := Lib.hid (by rw [CSet.out]; simp)
            go_wp2
            go_roundw
            case rel => exact ⟨q + 1, by omega, by go_num, by rw [NC.out, HE.out]; exact HB2.out⟩
            case measure => simp [intOf]; omega
          | false =>
            go_wp2_with fail
            refine (FC.out _ _ (by go_num) HB2.out.bel).mono ?_
            rintro e w' ⟨rfl, rfl⟩
            generalize num L (110 + 8 * p + q) 9 = x at *
            by_cases hx : x = 1
            · have HE : Hid (CN = C) := Lib.hid (by rw [CSet.out]; simp [hx])
              subst hx
              go_wp2
              go_roundw
              case rel => exact ⟨q + 1, by omega, by go_num, by rw [NC.out, HE.out]; exact HB2.out⟩
              case measure => simp [intOf]; omega
            · have HE : Hid (CN = (C.set p (SetM.withN (C.getD p 0) q : Nat)).set q (SetM.withN ((C.set p (SetM.withN (C.getD p 0) q : Nat)).getD q 0) p : Nat)) := Lib.hid (by rw [CSet.out]; simp [hx])
              have hxb : (x != 1) = true := by simpa using hx
              clear CSet FC
              have CC : Hid (∀ (D : List Int) j v W, v = D.getD j 0 → j < 8 → D.length = 8 → Bx w hd { T with conflict := D } W → W.cell? ⟨w.heap.size + 1, 105 + j, none⟩ = some (I v) ∧ W.frozen? ⟨w.heap.size + 1, 105 + j, none⟩ = false) := Lib.hid (fun D j v W hv hj h8 hb => ⟨hv ▸ (range_of hb.blk 105 8 _ (cells_ok hb.tab).conflict) j _ (by rw [List.getElem?_map, List.getD_eq_getElem?_getD, List.getElem?_eq_getElem (show j < D.length by omega)]; rfl), hb.frozen _⟩)
              have ST : Hid (∀ (D : List Int) j x W, j < 8 → D.length = 8 → Bx w hd { T with conflict := D } W → Bx w hd { T with conflict := D.set j x } (W.setCell ⟨w.heap.size + 1, 105 + j, none⟩ (I x))) := Lib.hid (fun D j x W hj h8 hb => hb.set (105 + j) (I x) (cells_conflict hd hb.ph hb.cf j hj x) hb.ph (by simp [h8]) hb.fl rfl rfl rfl rfl)
              generalize hv1 : C.getD p 0 = v1 at HE
              have HV1 := Lib.hid hv1.symm
              clear hv1
              obtain ⟨c1, f1'⟩ := CC.out C p v1 _ HV1.out (by omega) LC.out HB2.out
              go_upto_region 15 with fail
              clear hxb hx
              go_wp2_with fail
              refine (RefS.rwith_any _ _ _).mono ?_
              rintro e w3 ⟨rfl, hb⟩
              have HB3 := Lib.hid (HB2.out.step hb)
              clear hb HB2 c1 f1'
              obtain ⟨c1, f1'⟩ := CC.out C p v1 _ HV1.out (by omega) LC.out HB3.out
              generalize hX1 : ((SetM.withN v1 q : Nat) : Int) = X1 at *
              clear hX1
              have HB4 := Lib.hid (ST.out C p X1 _ (by omega) LC.out HB3.out)
              have LC2 : Hid ((C.set p X1).length = 8) := Lib.hid (by rw [List.length_set, LC.out])
              clear HB3
              go_upto_region 16 with fail
              generalize C.set p X1 = C2 at *
              generalize hv2 : C2.getD q 0 = v2 at HE
              have HV2 := Lib.hid hv2.symm
              clear hv2
              generalize w3.setCell ⟨w.heap.size + 1, 105 + p, none⟩ (I X1) = w4 at HB4 ⊢
              clear c1 f1'
              obtain ⟨c1, f1'⟩ := CC.out C2 q v2 _ HV2.out (by omega) LC2.out HB4.out
              go_wp2_with fail
              refine (RefS.rwith_any _ _ _).mono ?_
              rintro e w5 ⟨rfl, hb⟩
              have HB5 := Lib.hid (HB4.out.step hb)
              clear hb HB4 c1 f1'
              obtain ⟨c1, f1'⟩ := CC.out C2 q v2 _ HV2.out (by omega) LC2.out HB5.out
              generalize hX2 : ((SetM.withN v2 p : Nat) : Int) = X2 at *
              clear hX2
              have HB6 := Lib.hid (ST.out C2 q X2 _ (by omega) LC2.out HB5.out)
              clear HB5 CC ST
              go_wp2
              go_roundw
              case rel => exact ⟨q + 1, by omega, by go_num, by rw [NC.out, HE.out]; exact HB6.out⟩
              case measure => simp [intOf]; omega
        · have hqe : q = p := by omega
          subst hqe
          go_wp2
          go_roundw
          case rel => exact ⟨q + 1, by omega, by go_num, by rw [NX.out]; exact HB.out⟩
          case measure => simp [intOf]; omega
    · have hpe : p = n := by omega
      subst hpe
      go_wp2
      exact HQ.out _ _ _ _ _ _ _ _ _ _ _ _ _ _ _ _ _ _ _ _ _ _ _ _ _ _ _ _ _ _ _ _ _ _ _ _ _ _ _ _ _ _ _ _ _ _ HB.out
end GenT
namespace GenT
open Go.ChangeShapes Go.WideShapes Go.ChangeAt Go.RowKit
open Tab Gath GenG Clone PlaceM CodeAt
open RefS (num num_range from_any)
theorem infoDz3 : (Tryz.prog.info? 80).map (fun i => (i.zero, i.size, i.bytes)) = some (some (.agg #[I 0, F 0, F 0, F 0, F 0, I 0, I 0]), 7, 56) := by kernel_rfl
theorem loop_dets {Q : Exit → Act → World → Prop} (a : Option Addr) (cap : Nat) (L : List Int) (w W0 : World) (hd : Hd) (T : Tab) (n : Nat) (hn : n ≤ 8) (n0 : 0 < n) (k : Nat) (hk : k ≤ 20) {f1 f5 f6 f7 f8 f10 f11 f12 f13 f14 f15 f16 f17 f18 f19 f20 f21 f22 f23 f24 f25 f26 f27 f28 f29 f30 f31 f32 f33 f34 f35 f36 f37 f38 f39 f40 f41 f42 f43 f44 f45 f46 f47 f48 f49 f50 f51 f52 f53 f54 f55 f56 f57 f58 f59 f60 f61 f62 f63 f64 f65 f66 f67 f68 f69 f70 f71 f72 f73 f74 f75 f76 f77 f78 f79 f80 f81 f82 f83 f84 f85 f86 f87 f88 f89 f90 f91 f92 f93 f94 f95 f96 f97 f98 f99 f100 f101 f102 f103 f104 f105 f106 f107 f108 f109 f110 f111 f112 f113 f114 f115 f116 f117 f118 f119 f120 f121 f122 f123 f124 f125 f126 f127 f128 f129 f130 f131 f132 f133 f134 f135 f136 f137 f138 f139 f140 f141 f142 f143 f144 f145 f146 f147 f148 f149 f150 f151 f152 f153 f154 f155 f156 f157 f158 f159 f160 f161 f162 f163 f164 f165 f166 f167 f168 f169 f170 f171 f172 f173 f174 f175 f176 f177 f178 f179 f180 f181 f182 f183 f184 f185 : Value}
    (HL : Hid (∀ W, Below w.heap.size w W → IntRow W ⟨a, cap⟩ L)) (s0 : Sl) (BX : Hid (Bx w ⟨hd.g, s0, hd.r, hd.b⟩ { T with dets := [] } W0))
    (HP : ∀ c a d v w, Q (.panic c) (a.put d v) w → Q (.panic c) a w) (HQ : Hid (∀ (x9 x86 x87 x88 x89 x90 x91 x92 x93 x94 x95 x96 x97 x98 x99 x100 : Value) (W' : World) (s1 : Sl), Bx w ⟨hd.g, s1, hd.r, hd.b⟩ { T with dets := down (fun i : Nat => GenD.genDet L (180 + 8 * i) n) k k } W' → Q (.exit 6) ⟨#[Value.slice a L.length cap, f1, Value.pointer (some ⟨w.heap.size, 0, none⟩), Value.pointer (some ⟨w.heap.size + 1, 0, none⟩), Value.int .i64 (n : Nat), f5, f6, f7, f8, x9, f10, f11, f12, f13, f14, f15, f16, f17, f18, f19, f20, f21, f22, f23, f24, f25, f26, f27, f28, f29, f30, f31, f32, f33, f34, f35, f36, f37, f38, f39, f40, f41, f42, f43, f44, f45, f46, f47, f48, f49, f50, f51, f52, f53, f54, f55, f56, f57, f58, f59, f60, f61, f62, f63, f64, f65, f66, f67, f68, f69, f70, f71, f72, f73, f74, f75, f76, f77, f78, f79, f80, f81, f82, f83, f84, f85, x86, x87, x88, x89, x90, x91, x92, x93, x94, x95, x96, x97, x98, x99, x100, f101, f102, f103, f104, f105, f106, f107, f108, f109, f110, f111, f112, f113, f114, f115, f116, f117, f118, f119, f120, f121, f122, f123, f124, f125, f126, f127, f128, f129, f130, f131, f132, f133, f134, f135, f136, f137, f138, f139, f140, f141, f142, f143, f144, f145, f146, f147, f148, f149, f150, f151, f152, f153, f154, f155, f156, f157, f158, f159, f160, f161, f162, f163, f164, f165, f166, f167, f168, f169, f170, f171, f172, f173, f174, f175, f176, f177, f178, f179, f180, f181, f182, f183, f184, f185], []⟩ W')) :
    (lp 21 Tryz.f18).wp Tryz.prog Q ⟨#[Value.slice a L.length cap, f1, Value.pointer (some ⟨w.heap.size, 0, none⟩), Value.pointer (some ⟨w.heap.size + 1, 0, none⟩), Value.int .i64 (n : Nat), f5, f6, f7, f8, Value.int .i64 (k : Nat), f10, f11, f12, f13, f14, f15, f16, f17, f18, f19, f20, f21, f22, f23, f24, f25, f26, f27, f28, f29, f30, f31, f32, f33, f34, f35, f36, f37, f38, f39, f40, f41, f42, f43, f44, f45, f46, f47, f48, f49, f50, f51, f52, f53, f54, f55, f56, f57, f58, f59, f60, f61, f62, f63, f64, f65, f66, f67, f68, f69, f70, f71, f72, f73, f74, f75, f76, f77, f78, f79, f80, f81, f82, f83, f84, f85, f86, f87, f88, f89, f90, f91, f92, f93, f94, f95, f96, f97, f98, f99, f100, f101, f102, f103, f104, f105, f106, f107, f108, f109, f110, f111, f112, f113, f114, f115, f116, f117, f118, f119, f120, f121, f122, f123, f124, f125, f126, f127, f128, f129, f130, f131, f132, f133, f134, f135, f136, f137, f138, f139, f140, f141, f142, f143, f144, f145, f146, f147, f148, f149, f150, f151, f152, f153, f154, f155, f156, f157, f158, f159, f160, f161, f162, f163, f164, f165, f166, f167, f168, f169, f170, f171, f172, f173, f174, f175, f176, f177, f178, f179, f180, f181, f182, f183, f184, f185], []⟩ W0 := by
  conv => arg 2; whnf
  dsimp only
  obtain ⟨j0, hj, hy0, hy1, hy2⟩ := info_parts infoDz3
  go_loopw [9] (fun i wr => ∃ j : Nat, j ≤ k ∧ i = .int .i64 (k - j : Nat) ∧ ∃ s, Bx w ⟨hd.g, s, hd.r, hd.b⟩ { T with dets := down (fun i : Nat => GenD.genDet L (180 + 8 * i) n) k j } wr) (fun i _ => (intOf i).toNat)
  case atStart => exact ⟨0, by omega, by go_num, s0, BX.out⟩
  case round =>
    obtain ⟨j, hjk, rfl, ⟨da, dc⟩, hbx⟩ := hrel
    have HB := Lib.hid hbx
    clear hbx BX
    by_cases hlt : j < k
    · obtain ⟨i, hi⟩ : ∃ i : Nat, i = k - j := ⟨_, rfl⟩
      have NX : Hid (down (fun i : Nat => GenD.genDet L (180 + 8 * i) n) k (j + 1) = down (fun i : Nat => GenD.genDet L (180 + 8 * i) n) k j ++ [(GenD.genDet L (180 + 8 * i) n)]) := Lib.hid (by rw [down, ← hi])
      have DL : Hid ((down (fun i : Nat => GenD.genDet L (180 + 8 * i) n) k j).length = j) := Lib.hid (down_len _ _ _)
      generalize down (fun i : Nat => GenD.genDet L (180 + 8 * i) n) k j = D at *
      have HI := Lib.hid hi
      have hi0 : 0 < i := by omega
      have hi9 : i ≤ 20 := by omega
      rw [← hi]
      clear hi
      have e1 : IntKind.i64.wrap (8 * (i : Int)) = 8 * i := by rw [IntKind.wrap_i64]; omega
      have e2 : IntKind.i64.wrap (180 + 8 * (i : Int)) = 180 + 8 * i := by rw [IntKind.wrap_i64]; omega
      go_upto_region 23 with fail
      refine wp_region_held (S := fun _ => True) (by kernel_rfl) ?_
      have hS : True := trivial
      have hb : Bx w ⟨hd.g, ⟨da, dc⟩, hd.r, hd.b⟩ { T with dets := D } { wr with drawn := wr.drawn + 1 } := HB.out.step (Below.refl _ _).drew
      generalize ({ wr with drawn := wr.drawn + 1 } : World) = v at hb ⊢
      clear HB
      refine Held.take (i := 0) (some 90) rfl (v := ?_) rfl (by kernel_rfl) (by kernel_rfl) (by kernel_rfl) (fun _ _ _ h => HP _ _ _ _ _ h) (Or.inl ⟨by rfl, ?_⟩) hS ?_
      rotate_left
      · intro w' hw'
        go_simp
        try with_reducible rfl
      (try dsimp only [Act.put]); (try simp only [List.setIfInBounds_toArray, List.set_cons_zero, List.set_cons_succ])
      refine Held.take (i := 2) (some 92) rfl (v := ?_) rfl (by kernel_rfl) (by kernel_rfl) (by kernel_rfl) (fun _ _ _ h => HP _ _ _ _ _ h) (Or.inl ⟨by rfl, ?_⟩) hS ?_
      rotate_left
      · intro w' hw'
        go_simp
        try with_reducible rfl
      (try dsimp only [Act.put]); (try simp only [List.setIfInBounds_toArray, List.set_cons_zero, List.set_cons_succ])
      refine Held.take (i := 3) (some 93) rfl (v := ?_) rfl (by kernel_rfl) (by kernel_rfl) (by kernel_rfl) (fun _ _ _ h => HP _ _ _ _ _ h) (Or.inl ⟨by rfl, ?_⟩) hS ?_
      rotate_left
      · intro w' hw'
        go_simp
        try with_reducible rfl
      (try dsimp only [Act.put]); (try simp only [List.setIfInBounds_toArray, List.set_cons_zero, List.set_cons_succ])
      refine Held.take (i := 4) (some 94) rfl (v := ?_) rfl (by kernel_rfl) (by kernel_rfl) (by kernel_rfl) (fun _ _ _ h => HP _ _ _ _ _ h) (Or.inl ⟨by rfl, ?_⟩) hS ?_
      rotate_left
      · intro w' hw'
        go_simp
        try with_reducible rfl
      (try dsimp only [Act.put]); (try simp only [List.setIfInBounds_toArray, List.set_cons_zero, List.set_cons_succ])
      refine Held.take (i := 5) (some 95) rfl (v := ?_) rfl (by kernel_rfl) (by kernel_rfl) (by kernel_rfl) (fun _ _ _ h => HP _ _ _ _ _ h) (Or.inl ⟨by rfl, ?_⟩) hS ?_
      rotate_left
      · intro w' hw'
        go_simp
        try with_reducible rfl
      (try dsimp only [Act.put]); (try simp only [List.setIfInBounds_toArray, List.set_cons_zero, List.set_cons_succ])
      refine Held.take (i := 6) (some 96) rfl (v := ?_) rfl (by kernel_rfl) (by kernel_rfl) (by kernel_rfl) (fun _ _ _ h => HP _ _ _ _ _ h) (Or.inl ⟨by rfl, ?_⟩) hS ?_
      rotate_left
      · intro w' hw'
        go_simp
        try with_reducible rfl
      (try dsimp only [Act.put]); (try simp only [List.setIfInBounds_toArray, List.set_cons_zero, List.set_cons_succ])
      refine wpAnyH_ready (rs := [1, 7]) (by kernel_rfl) (by simp) (AllReadyH.cons rfl (fun K hK => ?_) (AllReadyH.cons rfl (fun K hK => ?_) AllReadyH.nil))
      · have c4 : v.cell? ⟨w.heap.size + 1, 113, none⟩ = some (.slice da D.length dc) := by rw [hb.cell, ← List.getElem?_toArray]; exact (cells_ok hb.tab).d
        go_simp
        refine hK.out _ _ trivial (fun _ => ?_)
        clear hK K
        clear c4
        refine wpAnyH_ready (rs := [7]) (by kernel_rfl) (by simp) (AllReadyH.cons rfl (fun K hK => ?_) AllReadyH.nil)
        go_simp
        refine (GenD.detector_any a cap L _ _ _ (HL.out _ hb.bel) (by omega) (by omega) (by omega) (by omega)).mono ?_
        rintro e v2 ⟨rfl, hbb⟩
        replace hb := hb.step hbb
        clear hbb
        rename World => v
        generalize hX : (GenD.genDet L (180 + 8 * i) n) = X at NX ⊢
        clear hX
        rw [show X.cells.toArray = #[I X.phase, F X.on, F X.off, F X.delay, F X.extend, I X.maxOn, I X.maxOff] from rfl]
        go_simp
        refine hK.out _ _ trivial (fun _ => ?_)
        clear hK K
        refine wpAnyH_ready (rs := [8]) (by kernel_rfl) (by simp) (AllReadyH.cons rfl (fun K hK => ?_) AllReadyH.nil)
        go_simp
        have hbw : Below v.heap.size v (v.alloc (.cells #[I X.phase, F X.on, F X.off, F X.delay, F X.extend, I X.maxOn, I X.maxOff] 80)) := (Below.refl _ _).alloc (Nat.le_refl _) _
        have hN := heap_alloc_new v (.cells #[I X.phase, F X.on, F X.off, F X.delay, F X.extend, I X.maxOn, I X.maxOff] 80)
        replace hb := hb.step hbw
        clear hbw
        generalize hbn : v.heap.size = bn at hN ⊢
        clear hbn
        generalize World.alloc v (.cells #[I X.phase, F X.on, F X.off, F X.delay, F X.extend, I X.maxOn, I X.maxOff] 80) = v at hb hN ⊢
        refine hK.out _ _ trivial (fun _ => ?_)
        clear hK K
        refine wpAnyH_ready (rs := [9]) (by kernel_rfl) (by simp) (AllReadyH.cons rfl (fun K hK => ?_) AllReadyH.nil)
        rw [if_pos (by rfl)]
        have hown2 : v.ownsRow w.heap.size 80 7 (.slice da D.length dc) D.length (D.flatMap Det.cells) := hb.dets
        refine wp_append_own _ _ _ _ rfl w.heap.size 80 j0 (.agg #[I 0, F 0, F 0, F 0, F 0, I 0, I 0]) 7 56 Tryz.underlying27 hj hy0 hy1 hy2 rfl (by decide) (.slice da D.length dc) D.length _ rfl hown2 ⟨bn, 0, none⟩ 1 1 X.cells rfl rfl ?c1 ?c2 ?c3 ?c4 hb.bel.size ?_
        case c1 =>
          intro j e hj
          exact Row.lies_of_block hN j e hj
        case c2 => intro e he; have h1 := Det.one X; exact (Array.all_eq_true_iff_forall_mem.1 h1) e (by simpa using he)
        case c3 => unfold maxLen; have := DL.out; omega
        case c4 => have := DL.out; omega
        intro v' w5 hown' hgrow hnil'
        obtain ⟨hbk, a', c', rfl, hG⟩ := hb.put_dets X hgrow hown'
        have c5 : w5.cell? ⟨w.heap.size + 1, 113, none⟩ = some (.slice da D.length dc) := by rw [cell_of_row _ _ _ _ _ _ hbk]; exact (cells_ok hb.tab).d
        have f5 : w5.frozen? ⟨w.heap.size + 1, 113, none⟩ = false := frozen_of_row _ _ _ _ _ hbk
        have HG := Lib.hid hG
        clear hown' hgrow hown2 hnil' hbk hG hb hN
        refine hK.out _ _ trivial (fun _ => ?_)
        clear hK K
        refine Held.take (i := 10) (some 100) rfl (v := ?_) rfl (by kernel_rfl) (by kernel_rfl) (by kernel_rfl) (fun _ _ _ h => HP _ _ _ _ _ h) (Or.inl ⟨by rfl, ?_⟩) hS ?_
        rotate_left
        · intro w' hw'
          go_simp
          try with_reducible rfl
        (try dsimp only [Act.put]); (try simp only [List.setIfInBounds_toArray, List.set_cons_zero, List.set_cons_succ])
        refine wpAnyH_ready (rs := [11]) (by kernel_rfl) (by simp) (AllReadyH.cons rfl (fun K hK => ?_) AllReadyH.nil)
        go_simp
        refine hK.out _ _ trivial (fun _ => ?_)
        clear hK K
        refine wpAnyH_done (by kernel_rfl) ?_ _
        clear hS c5 f5
        go_wp2
        go_roundw
        case rel => exact ⟨j + 1, by omega, by have := HI.out; go_num, _, by rw [NX.out]; exact HG.out⟩
        case measure => simp [intOf]; have := HI.out; omega
      · go_simp
        refine (GenD.detector_any a cap L _ _ _ (HL.out _ hb.bel) (by omega) (by omega) (by omega) (by omega)).mono ?_
        rintro e v2 ⟨rfl, hbb⟩
        replace hb := hb.step hbb
        clear hbb
        rename World => v
        generalize hX : (GenD.genDet L (180 + 8 * i) n) = X at NX ⊢
        clear hX
        rw [show X.cells.toArray = #[I X.phase, F X.on, F X.off, F X.delay, F X.extend, I X.maxOn, I X.maxOff] from rfl]
        go_simp
        refine hK.out _ _ trivial (fun _ => ?_)
        clear hK K
        refine wpAnyH_ready (rs := [1, 8]) (by kernel_rfl) (by simp) (AllReadyH.cons rfl (fun K hK => ?_) (AllReadyH.cons rfl (fun K hK => ?_) AllReadyH.nil))
        · have c4 : v.cell? ⟨w.heap.size + 1, 113, none⟩ = some (.slice da D.length dc) := by rw [hb.cell, ← List.getElem?_toArray]; exact (cells_ok hb.tab).d
          go_simp
          refine hK.out _ _ trivial (fun _ => ?_)
          clear hK K
          clear c4
          refine wpAnyH_ready (rs := [8]) (by kernel_rfl) (by simp) (AllReadyH.cons rfl (fun K hK => ?_) AllReadyH.nil)
          go_simp
          have hbw : Below v.heap.size v (v.alloc (.cells #[I X.phase, F X.on, F X.off, F X.delay, F X.extend, I X.maxOn, I X.maxOff] 80)) := (Below.refl _ _).alloc (Nat.le_refl _) _
          have hN := heap_alloc_new v (.cells #[I X.phase, F X.on, F X.off, F X.delay, F X.extend, I X.maxOn, I X.maxOff] 80)
          replace hb := hb.step hbw
          clear hbw
          generalize hbn : v.heap.size = bn at hN ⊢
          clear hbn
          generalize World.alloc v (.cells #[I X.phase, F X.on, F X.off, F X.delay, F X.extend, I X.maxOn, I X.maxOff] 80) = v at hb hN ⊢
          refine hK.out _ _ trivial (fun _ => ?_)
          clear hK K
          refine wpAnyH_ready (rs := [9]) (by kernel_rfl) (by simp) (AllReadyH.cons rfl (fun K hK => ?_) AllReadyH.nil)
          rw [if_pos (by rfl)]
          have hown2 : v.ownsRow w.heap.size 80 7 (.slice da D.length dc) D.length (D.flatMap Det.cells) := hb.dets
          refine wp_append_own _ _ _ _ rfl w.heap.size 80 j0 (.agg #[I 0, F 0, F 0, F 0, F 0, I 0, I 0]) 7 56 Tryz.underlying27 hj hy0 hy1 hy2 rfl (by decide) (.slice da D.length dc) D.length _ rfl hown2 ⟨bn, 0, none⟩ 1 1 X.cells rfl rfl ?c1 ?c2 ?c3 ?c4 hb.bel.size ?_
          case c1 =>
            intro j e hj
            exact Row.lies_of_block hN j e hj
          case c2 => intro e he; have h1 := Det.one X; exact (Array.all_eq_true_iff_forall_mem.1 h1) e (by simpa using he)
          case c3 => unfold maxLen; have := DL.out; omega
          case c4 => have := DL.out; omega
          intro v' w5 hown' hgrow hnil'
          obtain ⟨hbk, a', c', rfl, hG⟩ := hb.put_dets X hgrow hown'
          have c5 : w5.cell? ⟨w.heap.size + 1, 113, none⟩ = some (.slice da D.length dc) := by rw [cell_of_row _ _ _ _ _ _ hbk]; exact (cells_ok hb.tab).d
          have f5 : w5.frozen? ⟨w.heap.size + 1, 113, none⟩ = false := frozen_of_row _ _ _ _ _ hbk
          have HG := Lib.hid hG
          clear hown' hgrow hown2 hnil' hbk hG hb hN
          refine hK.out _ _ trivial (fun _ => ?_)
          clear hK K
          refine Held.take (i := 10) (some 100) rfl (v := ?_) rfl (by kernel_rfl) (by kernel_rfl) (by kernel_rfl) (fun _ _ _ h => HP _ _ _ _ _ h) (Or.inl ⟨by rfl, ?_⟩) hS ?_
          rotate_left
          · intro w' hw'
            go_simp
            try with_reducible rfl
          (try dsimp only [Act.put]); (try simp only [List.setIfInBounds_toArray, List.set_cons_zero, List.set_cons_succ])
          refine wpAnyH_ready (rs := [11]) (by kernel_rfl) (by simp) (AllReadyH.cons rfl (fun K hK => ?_) AllReadyH.nil)
          go_simp
          refine hK.out _ _ trivial (fun _ => ?_)
          clear hK K
          refine wpAnyH_done (by kernel_rfl) ?_ _
          clear hS c5 f5
          go_wp2
          go_roundw
          case rel => exact ⟨j + 1, by omega, by have := HI.out; go_num, _, by rw [NX.out]; exact HG.out⟩
          case measure => simp [intOf]; have := HI.out; omega
        · go_simp
          have hbw : Below v.heap.size v (v.alloc (.cells #[I X.phase, F X.on, F X.off, F X.delay, F X.extend, I X.maxOn, I X.maxOff] 80)) := (Below.refl _ _).alloc (Nat.le_refl _) _
          have hN := heap_alloc_new v (.cells #[I X.phase, F X.on, F X.off, F X.delay, F X.extend, I X.maxOn, I X.maxOff] 80)
          replace hb := hb.step hbw
          clear hbw
          generalize hbn : v.heap.size = bn at hN ⊢
          clear hbn
          generalize World.alloc v (.cells #[I X.phase, F X.on, F X.off, F X.delay, F X.extend, I X.maxOn, I X.maxOff] 80) = v at hb hN ⊢
          refine hK.out _ _ trivial (fun _ => ?_)
          clear hK K
          refine wpAnyH_ready (rs := [1]) (by kernel_rfl) (by simp) (AllReadyH.cons rfl (fun K hK => ?_) AllReadyH.nil)
          have c4 : v.cell? ⟨w.heap.size + 1, 113, none⟩ = some (.slice da D.length dc) := by rw [hb.cell, ← List.getElem?_toArray]; exact (cells_ok hb.tab).d
          go_simp
          refine hK.out _ _ trivial (fun _ => ?_)
          clear hK K
          clear c4
          refine wpAnyH_ready (rs := [9]) (by kernel_rfl) (by simp) (AllReadyH.cons rfl (fun K hK => ?_) AllReadyH.nil)
          rw [if_pos (by rfl)]
          have hown2 : v.ownsRow w.heap.size 80 7 (.slice da D.length dc) D.length (D.flatMap Det.cells) := hb.dets
          refine wp_append_own _ _ _ _ rfl w.heap.size 80 j0 (.agg #[I 0, F 0, F 0, F 0, F 0, I 0, I 0]) 7 56 Tryz.underlying27 hj hy0 hy1 hy2 rfl (by decide) (.slice da D.length dc) D.length _ rfl hown2 ⟨bn, 0, none⟩ 1 1 X.cells rfl rfl ?c1 ?c2 ?c3 ?c4 hb.bel.size ?_
          case c1 =>
            intro j e hj
            exact Row.lies_of_block hN j e hj
          case c2 => intro e he; have h1 := Det.one X; exact (Array.all_eq_true_iff_forall_mem.1 h1) e (by simpa using he)
          case c3 => unfold maxLen; have := DL.out; omega
          case c4 => have := DL.out; omega
          intro v' w5 hown' hgrow hnil'
          obtain ⟨hbk, a', c', rfl, hG⟩ := hb.put_dets X hgrow hown'
          have c5 : w5.cell? ⟨w.heap.size + 1, 113, none⟩ = some (.slice da D.length dc) := by rw [cell_of_row _ _ _ _ _ _ hbk]; exact (cells_ok hb.tab).d
          have f5 : w5.frozen? ⟨w.heap.size + 1, 113, none⟩ = false := frozen_of_row _ _ _ _ _ hbk
          have HG := Lib.hid hG
          clear hown' hgrow hown2 hnil' hbk hG hb hN
          refine hK.out _ _ trivial (fun _ => ?_)
          clear hK K
          refine Held.take (i := 10) (some 100) rfl (v := ?_) rfl (by kernel_rfl) (by kernel_rfl) (by kernel_rfl) (fun _ _ _ h => HP _ _ _ _ _ h) (Or.inl ⟨by rfl, ?_⟩) hS ?_
          rotate_left
          · intro w' hw'
            go_simp
            try with_reducible rfl
          (try dsimp only [Act.put]); (try simp only [List.setIfInBounds_toArray, List.set_cons_zero, List.set_cons_succ])
          refine wpAnyH_ready (rs := [11]) (by kernel_rfl) (by simp) (AllReadyH.cons rfl (fun K hK => ?_) AllReadyH.nil)
          go_simp
          refine hK.out _ _ trivial (fun _ => ?_)
          clear hK K
          refine wpAnyH_done (by kernel_rfl) ?_ _
          clear hS c5 f5
          go_wp2
          go_roundw
          case rel => exact ⟨j + 1, by omega, by have := HI.out; go_num, _, by rw [NX.out]; exact HG.out⟩
          case measure => simp [intOf]; have := HI.out; omega
    · have hje : j = k := by omega
      subst hje
      rw [show ((j - j : Nat) : Int) = (0 : Int) by omega]
      go_wp2
      exact HQ.out _ _ _ _ _ _ _ _ _ _ _ _ _ _ _ _ _ _ HB.out
end GenT
namespace GenT
open Go.ChangeShapes Go.WideShapes Go.ChangeAt Go.RowKit
open Tab Gath GenG Clone PlaceM CodeAt
open RefS (num num_range from_any)
theorem infoRz3 : (Tryz.prog.info? 84).map (fun i => (i.zero, i.size, i.bytes)) = some (some (.agg #[I 0, I 0, I 0, I 0, I 0, I 0, I 0, I 0, I 0, I 0, I 0]), 11, 88) := by kernel_rfl
theorem genRl_same {T U : Tab} (h : T.groups = U.groups) (L : List Int) (i n : Int) : GenR.genRl T L i n = GenR.genRl U L i n := by
  unfold GenR.genRl GenW.withS; simp only [beside_same h]
theorem loop_rails {Q : Exit → Act → World → Prop} (a : Option Addr) (cap : Nat) (L : List Int) (w W0 : World) (hd : Hd) (T : Tab) (n : Nat) (hn : n ≤ 8) (n0 : 0 < n) (k : Nat) (hk : k ≤ 20) (sm : Few T) {f1 f5 f6 f7 f8 f9 f11 f12 f13 f14 f15 f16 f17 f18 f19 f20 f21 f22 f23 f24 f25 f26 f27 f28 f29 f30 f31 f32 f33 f34 f35 f36 f37 f38 f39 f40 f41 f42 f43 f44 f45 f46 f47 f48 f49 f50 f51 f52 f53 f54 f55 f56 f57 f58 f59 f60 f61 f62 f63 f64 f65 f66 f67 f68 f69 f70 f71 f72 f73 f74 f75 f76 f77 f78 f79 f80 f81 f82 f83 f84 f85 f86 f87 f88 f89 f90 f91 f92 f93 f94 f95 f96 f97 f98 f99 f100 f101 f102 f103 f104 f105 f106 f107 f108 f109 f110 f111 f112 f113 f114 f115 f116 f117 f118 f119 f120 f121 f122 f123 f124 f125 f126 f127 f128 f129 f130 f131 f132 f133 f134 f135 f136 f137 f138 f139 f140 f141 f142 f143 f144 f145 f146 f147 f148 f149 f150 f151 f152 f153 f154 f155 f156 f157 f158 f159 f160 f161 f162 f163 f164 f165 f166 f167 f168 f169 f170 f171 f172 f173 f174 f175 f176 f177 f178 f179 f180 f181 f182 f183 f184 f185 : Value}
    (HL : Hid (∀ W, Below w.heap.size w W → IntRow W ⟨a, cap⟩ L)) (s0 : Sl) (BX : Hid (Bx w ⟨hd.g, hd.d, s0, hd.b⟩ { T with rails := [] } W0))
    (HP : ∀ c a d v w, Q (.panic c) (a.put d v) w → Q (.panic c) a w) (HQ : Hid (∀ (x10 x104 x105 x106 x107 x108 x109 x110 x111 x112 x113 x114 x115 x116 x117 x118 x119 : Value) (W' : World) (s1 : Sl), Bx w ⟨hd.g, hd.d, s1, hd.b⟩ { T with rails := down (fun i : Nat => GenR.genRl T L (260 + 16 * i) n) k k } W' → Q (.exit 8) ⟨#[Value.slice a L.length cap, f1, Value.pointer (some ⟨w.heap.size, 0, none⟩), Value.pointer (some ⟨w.heap.size + 1, 0, none⟩), Value.int .i64 (n : Nat), f5, f6, f7, f8, f9, x10, f11, f12, f13, f14, f15, f16, f17, f18, f19, f20, f21, f22, f23, f24, f25, f26, f27, f28, f29, f30, f31, f32, f33, f34, f35, f36, f37, f38, f39, f40, f41, f42, f43, f44, f45, f46, f47, f48, f49, f50, f51, f52, f53, f54, f55, f56, f57, f58, f59, f60, f61, f62, f63, f64, f65, f66, f67, f68, f69, f70, f71, f72, f73, f74, f75, f76, f77, f78, f79, f80, f81, f82, f83, f84, f85, f86, f87, f88, f89, f90, f91, f92, f93, f94, f95, f96, f97, f98, f99, f100, f101, f102, f103, x104, x105, x106, x107, x108, x109, x110, x111, x112, x113, x114, x115, x116, x117, x118, x119, f120, f121, f122, f123, f124, f125, f126, f127, f128, f129, f130, f131, f132, f133, f134, f135, f136, f137, f138, f139, f140, f141, f142, f143, f144, f145, f146, f147, f148, f149, f150, f151, f152, f153, f154, f155, f156, f157, f158, f159, f160, f161, f162, f163, f164, f165, f166, f167, f168, f169, f170, f171, f172, f173, f174, f175, f176, f177, f178, f179, f180, f181, f182, f183, f184, f185], []⟩ W')) :
    (lp 25 Tryz.f18).wp Tryz.prog Q ⟨#[Value.slice a L.length cap, f1, Value.pointer (some ⟨w.heap.size, 0, none⟩), Value.pointer (some ⟨w.heap.size + 1, 0, none⟩), Value.int .i64 (n : Nat), f5, f6, f7, f8, f9, Value.int .i64 (k : Nat), f11, f12, f13, f14, f15, f16, f17, f18, f19, f20, f21, f22, f23, f24, f25, f26, f27, f28, f29, f30, f31, f32, f33, f34, f35, f36, f37, f38, f39, f40, f41, f42, f43, f44, f45, f46, f47, f48, f49, f50, f51, f52, f53, f54, f55, f56, f57, f58, f59, f60, f61, f62, f63, f64, f65, f66, f67, f68, f69, f70, f71, f72, f73, f74, f75, f76, f77, f78, f79, f80, f81, f82, f83, f84, f85, f86, f87, f88, f89, f90, f91, f92, f93, f94, f95, f96, f97, f98, f99, f100, f101, f102, f103, f104, f105, f106, f107, f108, f109, f110, f111, f112, f113, f114, f115, f116, f117, f118, f119, f120, f121, f122, f123, f124, f125, f126, f127, f128, f129, f130, f131, f132, f133, f134, f135, f136, f137, f138, f139, f140, f141, f142, f143, f144, f145, f146, f147, f148, f149, f150, f151, f152, f153, f154, f155, f156, f157, f158, f159, f160, f161, f162, f163, f164, f165, f166, f167, f168, f169, f170, f171, f172, f173, f174, f175, f176, f177, f178, f179, f180, f181, f182, f183, f184, f185], []⟩ W0 := by
  conv => arg 2; whnf
  dsimp only
  obtain ⟨j0, hj, hy0, hy1, hy2⟩ := info_parts infoRz3
  go_loopw [10] (fun i wr => ∃ j : Nat, j ≤ k ∧ i = .int .i64 (k - j : Nat) ∧ ∃ s, Bx w ⟨hd.g, hd.d, s, hd.b⟩ { T with rails := down (fun i : Nat => GenR.genRl T L (260 + 16 * i) n) k j } wr) (fun i _ => (intOf i).toNat)
  case atStart => exact ⟨0, by omega, by go_num, s0, BX.out⟩
  case round =>
    obtain ⟨j, hjk, rfl, ⟨da, dc⟩, hbx⟩ := hrel
    have HB := Lib.hid hbx
    clear hbx BX
    by_cases hlt : j < k
    · obtain ⟨i, hi⟩ : ∃ i : Nat, i = k - j := ⟨_, rfl⟩
      have NX : Hid (down (fun i : Nat => GenR.genRl T L (260 + 16 * i) n) k (j + 1) = down (fun i : Nat => GenR.genRl T L (260 + 16 * i) n) k j ++ [(GenR.genRl T L (260 + 16 * i) n)]) := Lib.hid (by rw [down, ← hi])
      have DL : Hid ((down (fun i : Nat => GenR.genRl T L (260 + 16 * i) n) k j).length = j) := Lib.hid (down_len _ _ _)
      generalize down (fun i : Nat => GenR.genRl T L (260 + 16 * i) n) k j = D at *
      have HI := Lib.hid hi
      have hi0 : 0 < i := by omega
      have hi9 : i ≤ 20 := by omega
      rw [← hi]
      clear hi
      have e1 : IntKind.i64.wrap (16 * (i : Int)) = 16 * i := by rw [IntKind.wrap_i64]; omega
      have e2 : IntKind.i64.wrap (260 + 16 * (i : Int)) = 260 + 16 * i := by rw [IntKind.wrap_i64]; omega
      have RC : Hid (∀ W, Bx w ⟨hd.g, hd.d, ⟨da, dc⟩, hd.b⟩ { T with rails := D } W → Calls Tryz.prog 47 #[.agg (({ T with rails := D } : Tab).cells ⟨hd.g, hd.d, ⟨da, dc⟩, hd.b⟩).toArray, .slice a L.length cap, .int .i64 (260 + 16 * i), .int .i64 n] W fun e w' => e = .returned (.agg (GenR.genRl T L (260 + 16 * i) n).cells.toArray) ∧ Below W.heap.size W w') := Lib.hid (fun W hb => by
        have := GenR.rail_any { T with rails := D } ⟨hd.g, hd.d, ⟨da, dc⟩, hd.b⟩ a cap L (260 + 16 * i) n W hb.tab ⟨sm.groups, sm.rows⟩ (HL.out _ hb.bel) (by omega) (by omega) (by omega) (by omega)
        rw [genRl_same (T := { T with rails := D }) (U := T) rfl] at this
        exact this)
      have IA : Hid ((Tryz.prog.info? 31).map (·.size) = some (({ T with rails := D } : Tab).cells ⟨hd.g, hd.d, ⟨da, dc⟩, hd.b⟩).length) := Lib.hid (by rw [cells_cut _ HB.out.ph HB.out.cf HB.out.fl]; exact May.infoT)
      generalize hX : (GenR.genRl T L (260 + 16 * i) n) = X at NX RC
      clear hX
      generalize hcs : ({ T with rails := D } : Tab).cells ⟨hd.g, hd.d, ⟨da, dc⟩, hd.b⟩ = cs at RC IA
      go_upto_region 27 with fail
      refine wp_region_held (S := fun _ => True) (by kernel_rfl) ?_
      have hS : True := trivial
      have hb : Bx w ⟨hd.g, hd.d, ⟨da, dc⟩, hd.b⟩ { T with rails := D } { wr with drawn := wr.drawn + 1 } := HB.out.step (Below.refl _ _).drew
      generalize ({ wr with drawn := wr.drawn + 1 } : World) = v at hb ⊢
      clear HB
      refine Held.take (i := 0) (some 108) rfl (v := ?_) rfl (by kernel_rfl) (by kernel_rfl) (by kernel_rfl) (fun _ _ _ h => HP _ _ _ _ _ h) (Or.inl ⟨by rfl, ?_⟩) hS ?_
      rotate_left
      · intro w' hw'
        go_simp
        try with_reducible rfl
      (try dsimp only [Act.put]); (try simp only [List.setIfInBounds_toArray, List.set_cons_zero, List.set_cons_succ])
      refine Held.take (i := 3) (some 111) rfl (v := ?_) rfl (by kernel_rfl) (by kernel_rfl) (by kernel_rfl) (fun _ _ _ h => HP _ _ _ _ _ h) (Or.inl ⟨by rfl, ?_⟩) hS ?_
      rotate_left
      · intro w' hw'
        go_simp
        try with_reducible rfl
      (try dsimp only [Act.put]); (try simp only [List.setIfInBounds_toArray, List.set_cons_zero, List.set_cons_succ])
      refine Held.take (i := 4) (some 112) rfl (v := ?_) rfl (by kernel_rfl) (by kernel_rfl) (by kernel_rfl) (fun _ _ _ h => HP _ _ _ _ _ h) (Or.inl ⟨by rfl, ?_⟩) hS ?_
      rotate_left
      · intro w' hw'
        go_simp
        try with_reducible rfl
      (try dsimp only [Act.put]); (try simp only [List.setIfInBounds_toArray, List.set_cons_zero, List.set_cons_succ])
      refine Held.take (i := 5) (some 113) rfl (v := ?_) rfl (by kernel_rfl) (by kernel_rfl) (by kernel_rfl) (fun _ _ _ h => HP _ _ _ _ _ h) (Or.inl ⟨by rfl, ?_⟩) hS ?_
      rotate_left
      · intro w' hw'
        go_simp
        try with_reducible rfl
      (try dsimp only [Act.put]); (try simp only [List.setIfInBounds_toArray, List.set_cons_zero, List.set_cons_succ])
      refine Held.take (i := 6) (some 114) rfl (v := ?_) rfl (by kernel_rfl) (by kernel_rfl) (by kernel_rfl) (fun _ _ _ h => HP _ _ _ _ _ h) (Or.inl ⟨by rfl, ?_⟩) hS ?_
      rotate_left
      · intro w' hw'
        go_simp
        try with_reducible rfl
      (try dsimp only [Act.put]); (try simp only [List.setIfInBounds_toArray, List.set_cons_zero, List.set_cons_succ])
      refine Held.take (i := 7) (some 115) rfl (v := ?_) rfl (by kernel_rfl) (by kernel_rfl) (by kernel_rfl) (fun _ _ _ h => HP _ _ _ _ _ h) (Or.inl ⟨by rfl, ?_⟩) hS ?_
      rotate_left
      · intro w' hw'
        go_simp
        try with_reducible rfl
      (try dsimp only [Act.put]); (try simp only [List.setIfInBounds_toArray, List.set_cons_zero, List.set_cons_succ])
      refine wpAnyH_ready (rs := [1, 2]) (by kernel_rfl) (by simp) (AllReadyH.cons rfl (fun K hK => ?_) (AllReadyH.cons rfl (fun K hK => ?_) AllReadyH.nil))
      · have c4 : v.cell? ⟨w.heap.size + 1, 114, none⟩ = some (.slice da D.length dc) := by rw [hb.cell, ← List.getElem?_toArray]; exact (cells_ok hb.tab).r
        go_simp
        refine hK.out _ _ trivial (fun _ => ?_)
        clear hK K
        clear c4
        refine wpAnyH_ready (rs := [2]) (by kernel_rfl) (by simp) (AllReadyH.cons rfl (fun K hK => ?_) AllReadyH.nil)
        rw [if_pos (by rfl)]
        have LT : Lies v ⟨w.heap.size + 1, 0, none⟩ cs := by have := Row.lies_of_block hb.blk; rw [hcs] at this; simpa using this
        refine Row.wp_load_lies 31 _ rfl ⟨w.heap.size + 1, 0, none⟩ rfl cs _ LT Tryz.underlying31 rfl IA.out ?_
        (try dsimp only [Act.put]); (try simp only [List.setIfInBounds_toArray, List.set_cons_zero, List.set_cons_succ])
        refine hK.out _ _ trivial (fun _ => ?_)
        clear hK K
        clear LT
        refine wpAnyH_ready (rs := [8]) (by kernel_rfl) (by simp) (AllReadyH.cons rfl (fun K hK => ?_) AllReadyH.nil)
        go_simp
        refine (RC.out _ hb).mono ?_
        rintro e v2 ⟨rfl, hbb⟩
        replace hb := hb.step hbb
        clear hbb
        rename World => v
        rw [show X.cells.toArray = #[I X.bars, I X.clear, I X.dwell, I X.exit, I X.delay, I X.green, I X.foot, I X.hold, I X.stay, I X.most, I X.limit] from rfl]
        go_simp
        refine hK.out _ _ trivial (fun _ => ?_)
        clear hK K
        refine wpAnyH_ready (rs := [9]) (by kernel_rfl) (by simp) (AllReadyH.cons rfl (fun K hK => ?_) AllReadyH.nil)
        go_simp
        have hbw : Below v.heap.size v (v.alloc (.cells #[I X.bars, I X.clear, I X.dwell, I X.exit, I X.delay, I X.green, I X.foot, I X.hold, I X.stay, I X.most, I X.limit] 84)) := (Below.refl _ _).alloc (Nat.le_refl _) _
        have hN := heap_alloc_new v (.cells #[I X.bars, I X.clear, I X.dwell, I X.exit, I X.delay, I X.green, I X.foot, I X.hold, I X.stay, I X.most, I X.limit] 84)
        replace hb := hb.step hbw
        clear hbw
        generalize hbn : v.heap.size = bn at hN ⊢
        clear hbn
        generalize World.alloc v (.cells #[I X.bars, I X.clear, I X.dwell, I X.exit, I X.delay, I X.green, I X.foot, I X.hold, I X.stay, I X.most, I X.limit] 84) = v at hb hN ⊢
        refine hK.out _ _ trivial (fun _ => ?_)
        clear hK K
        refine wpAnyH_ready (rs := [10]) (by kernel_rfl) (by simp) (AllReadyH.cons rfl (fun K hK => ?_) AllReadyH.nil)
        rw [if_pos (by rfl)]
        have hown2 : v.ownsRow w.heap.size 84 11 (.slice da D.length dc) D.length (D.flatMap Rl.cells) := hb.rails
        refine wp_append_own _ _ _ _ rfl w.heap.size 84 j0 (.agg #[I 0, I 0, I 0, I 0, I 0, I 0, I 0, I 0, I 0, I 0, I 0]) 11 88 Tryz.underlying28 hj hy0 hy1 hy2 rfl (by decide) (.slice da D.length dc) D.length _ rfl hown2 ⟨bn, 0, none⟩ 1 1 X.cells rfl rfl ?c1 ?c2 ?c3 ?c4 hb.bel.size ?_
        case c1 =>
          intro j e hj
          exact Row.lies_of_block hN j e hj
        case c2 => intro e he; have h1 := Rl.one X; exact (Array.all_eq_true_iff_forall_mem.1 h1) e (by simpa using he)
        case c3 => unfold maxLen; have := DL.out; omega
        case c4 => have := DL.out; omega
        intro v' w5 hown' hgrow hnil'
        obtain ⟨hbk, a', c', rfl, hG⟩ := hb.put_rails X hgrow hown'
        have c5 : w5.cell? ⟨w.heap.size + 1, 114, none⟩ = some (.slice da D.length dc) := by rw [cell_of_row _ _ _ _ _ _ hbk]; exact (cells_ok hb.tab).r
        have f5 : w5.frozen? ⟨w.heap.size + 1, 114, none⟩ = false := frozen_of_row _ _ _ _ _ hbk
        have HG := Lib.hid hG
        clear hown' hgrow hown2 hnil' hbk hG hb hN
        refine hK.out _ _ trivial (fun _ => ?_)
        clear hK K
        refine Held.take (i := 11) (some 119) rfl (v := ?_) rfl (by kernel_rfl) (by kernel_rfl) (by kernel_rfl) (fun _ _ _ h => HP _ _ _ _ _ h) (Or.inl ⟨by rfl, ?_⟩) hS ?_
        rotate_left
        · intro w' hw'
          go_simp
          try with_reducible rfl
        (try dsimp only [Act.put]); (try simp only [List.setIfInBounds_toArray, List.set_cons_zero, List.set_cons_succ])
        refine wpAnyH_ready (rs := [12]) (by kernel_rfl) (by simp) (AllReadyH.cons rfl (fun K hK => ?_) AllReadyH.nil)
        go_simp
        refine hK.out _ _ trivial (fun _ => ?_)
        clear hK K
        refine wpAnyH_done (by kernel_rfl) ?_ _
        clear hS c5 f5
        go_wp2
        go_roundw
        case rel => exact ⟨j + 1, by omega, by have := HI.out; go_num, _, by rw [NX.out]; exact HG.out⟩
        case measure => simp [intOf]; have := HI.out; omega
      · rw [if_pos (by rfl)]
        have LT : Lies v ⟨w.heap.size + 1, 0, none⟩ cs := by have := Row.lies_of_block hb.blk; rw [hcs] at this; simpa using this
        refine Row.wp_load_lies 31 _ rfl ⟨w.heap.size + 1, 0, none⟩ rfl cs _ LT Tryz.underlying31 rfl IA.out ?_
        (try dsimp only [Act.put]); (try simp only [List.setIfInBounds_toArray, List.set_cons_zero, List.set_cons_succ])
        refine hK.out _ _ trivial (fun _ => ?_)
        clear hK K
        clear LT
        refine wpAnyH_ready (rs := [1, 8]) (by kernel_rfl) (by simp) (AllReadyH.cons rfl (fun K hK => ?_) (AllReadyH.cons rfl (fun K hK => ?_) AllReadyH.nil))
        · have c4 : v.cell? ⟨w.heap.size + 1, 114, none⟩ = some (.slice da D.length dc) := by rw [hb.cell, ← List.getElem?_toArray]; exact (cells_ok hb.tab).r
          go_simp
          refine hK.out _ _ trivial (fun _ => ?_)
          clear hK K
          clear c4
          refine wpAnyH_ready (rs := [8]) (by kernel_rfl) (by simp) (AllReadyH.cons rfl (fun K hK => ?_) AllReadyH.nil)
          go_simp
          refine (RC.out _ hb).mono ?_
          rintro e v2 ⟨rfl, hbb⟩
          replace hb := hb.step hbb
          clear hbb
          rename World => v
          rw [show X.cells.toArray = #[I X.bars, I X.clear, I X.dwell, I X.exit, I X.delay, I X.green, I X.foot, I X.hold, I X.stay, I X.most, I X.limit] from rfl]
          go_simp
          refine hK.out _ _ trivial (fun _ => ?_)
          clear hK K
          refine wpAnyH_ready (rs := [9]) (by kernel_rfl) (by simp) (AllReadyH.cons rfl (fun K hK => ?_) AllReadyH.nil)
          go_simp
          have hbw : Below v.heap.size v (v.alloc (.cells #[I X.bars, I X.clear, I X.dwell, I X.exit, I X.delay, I X.green, I X.foot, I X.hold, I X.stay, I X.most, I X.limit] 84)) := (Below.refl _ _).alloc (Nat.le_refl _) _
          have hN := heap_alloc_new v (.cells #[I X.bars, I X.clear, I X.dwell, I X.exit, I X.delay, I X.green, I X.foot, I X.hold, I X.stay, I X.most, I X.limit] 84)
          replace hb := hb.step hbw
          clear hbw
          generalize hbn : v.heap.size = bn at hN ⊢
          clear hbn
          generalize World.alloc v (.cells #[I X.bars, I X.clear, I X.dwell, I X.exit, I X.delay, I X.green, I X.foot, I X.hold, I X.stay, I X.most, I X.limit] 84) = v at hb hN ⊢
          refine hK.out _ _ trivial (fun _ => ?_)
          clear hK K
          refine wpAnyH_ready (rs := [10]) (by kernel_rfl) (by simp) (AllReadyH.cons rfl (fun K hK => ?_) AllReadyH.nil)
          rw [if_pos (by rfl)]
          have hown2 : v.ownsRow w.heap.size 84 11 (.slice da D.length dc) D.length (D.flatMap Rl.cells) := hb.rails
          refine wp_append_own _ _ _ _ rfl w.heap.size 84 j0 (.agg #[I 0, I 0, I 0, I 0, I 0, I 0, I 0, I 0, I 0, I 0, I 0]) 11 88 Tryz.underlying28 hj hy0 hy1 hy2 rfl (by decide) (.slice da D.length dc) D.length _ rfl hown2 ⟨bn, 0, none⟩ 1 1 X.cells rfl rfl ?c1 ?c2 ?c3 ?c4 hb.bel.size ?_
          case c1 =>
            intro j e hj
            exact Row.lies_of_block hN j e hj
          case c2 => intro e he; have h1 := Rl.one X; exact (Array.all_eq_true_iff_forall_mem.1 h1) e (by simpa using he)
          case c3 => unfold maxLen; have := DL.out; omega
          case c4 => have := DL.out; omega
          intro v' w5 hown' hgrow hnil'
          obtain ⟨hbk, a', c', rfl, hG⟩ := hb.put_rails X hgrow hown'
          have c5 : w5.cell? ⟨w.heap.size + 1, 114, none⟩ = some (.slice da D.length dc) := by rw [cell_of_row _ _ _ _ _ _ hbk]; exact (cells_ok hb.tab).r
          have f5 : w5.frozen? ⟨w.heap.size + 1, 114, none⟩ = false := frozen_of_row _ _ _ _ _ hbk
          have HG := Lib.hid hG
          clear hown' hgrow hown2 hnil' hbk hG hb hN
          refine hK.out _ _ trivial (fun _ => ?_)
          clear hK K
          refine Held.take (i := 11) (some 119) rfl (v := ?_) rfl (by kernel_rfl) (by kernel_rfl) (by kernel_rfl) (fun _ _ _ h => HP _ _ _ _ _ h) (Or.inl ⟨by rfl, ?_⟩) hS ?_
          rotate_left
          · intro w' hw'
            go_simp
            try with_reducible rfl
          (try dsimp only [Act.put]); (try simp only [List.setIfInBounds_toArray, List.set_cons_zero, List.set_cons_succ])
          refine wpAnyH_ready (rs := [12]) (by kernel_rfl) (by simp) (AllReadyH.cons rfl (fun K hK => ?_) AllReadyH.nil)
          go_simp
          refine hK.out _ _ trivial (fun _ => ?_)
          clear hK K
          refine wpAnyH_done (by kernel_rfl) ?_ _
          clear hS c5 f5
          go_wp2
          go_roundw
          case rel => exact ⟨j + 1, by omega, by have := HI.out; go_num, _, by rw [NX.out]; exact HG.out⟩
          case measure => simp [intOf]; have := HI.out; omega
        · go_simp
          refine (RC.out _ hb).mono ?_
          rintro e v2 ⟨rfl, hbb⟩
          replace hb := hb.step hbb
          clear hbb
          rename World => v
          rw [show X.cells.toArray = #[I X.bars, I X.clear, I X.dwell, I X.exit, I X.delay, I X.green, I X.foot, I X.hold, I X.stay, I X.most, I X.limit] from rfl]
          go_simp
          refine hK.out _ _ trivial (fun _ => ?_)
          clear hK K
          refine wpAnyH_ready (rs := [1, 9]) (by kernel_rfl) (by simp) (AllReadyH.cons rfl (fun K hK => ?_) (AllReadyH.cons rfl (fun K hK => ?_) AllReadyH.nil))
          · have c4 : v.cell? ⟨w.heap.size + 1, 114, none⟩ = some (.slice da D.length dc) := by rw [hb.cell, ← List.getElem?_toArray]; exact (cells_ok hb.tab).r
            go_simp
            refine hK.out _ _ trivial (fun _ => ?_)
            clear hK K
            clear c4
            refine wpAnyH_ready (rs := [9]) (by kernel_rfl) (by simp) (AllReadyH.cons rfl (fun K hK => ?_) AllReadyH.nil)
            go_simp
            have hbw : Below v.heap.size v (v.alloc (.cells #[I X.bars, I X.clear, I X.dwell, I X.exit, I X.delay, I X.green, I X.foot, I X.hold, I X.stay, I X.most, I X.limit] 84)) := (Below.refl _ _).alloc (Nat.le_refl _) _
            have hN := heap_alloc_new v (.cells #[I X.bars, I X.clear, I X.dwell, I X.exit, I X.delay, I X.green, I X.foot, I X.hold, I X.stay, I X.most, I X.limit] 84)
            replace hb := hb.step hbw
            clear hbw
            generalize hbn : v.heap.size = bn at hN ⊢
            clear hbn
            generalize World.alloc v (.cells #[I X.bars, I X.clear, I X.dwell, I X.exit, I X.delay, I X.green, I X.foot, I X.hold, I X.stay, I X.most, I X.limit] 84) = v at hb hN ⊢
            refine hK.out _ _ trivial (fun _ => ?_)
            clear hK K
            refine wpAnyH_ready (rs := [10]) (by kernel_rfl) (by simp) (AllReadyH.cons rfl (fun K hK => ?_) AllReadyH.nil)
            rw [if_pos (by rfl)]
            have hown2 : v.ownsRow w.heap.size 84 11 (.slice da D.length dc) D.length (D.flatMap Rl.cells) := hb.rails
            refine wp_append_own _ _ _ _ rfl w.heap.size 84 j0 (.agg #[I 0, I 0, I 0, I 0, I 0, I 0, I 0, I 0, I 0, I 0, I 0]) 11 88 Tryz.underlying28 hj hy0 hy1 hy2 rfl (by decide) (.slice da D.length dc) D.length _ rfl hown2 ⟨bn, 0, none⟩ 1 1 X.cells rfl rfl ?c1 ?c2 ?c3 ?c4 hb.bel.size ?_
            case c1 =>
              intro j e hj
              exact Row.lies_of_block hN j e hj
            case c2 => intro e he; have h1 := Rl.one X; exact (Array.all_eq_true_iff_forall_mem.1 h1) e (by simpa using he)
            case c3 => unfold maxLen; have := DL.out; omega
            case c4 => have := DL.out; omega
            intro v' w5 hown' hgrow hnil'
            obtain ⟨hbk, a', c', rfl, hG⟩ := hb.put_rails X hgrow hown'
            have c5 : w5.cell? ⟨w.heap.size + 1, 114, none⟩ = some (.slice da D.length dc) := by rw [cell_of_row _ _ _ _ _ _ hbk]; exact (cells_ok hb.tab).r
            have f5 : w5.frozen? ⟨w.heap.size + 1, 114, none⟩ = false := frozen_of_row _ _ _ _ _ hbk
            have HG := Lib.hid hG
            clear hown' hgrow hown2 hnil' hbk hG hb hN
            refine hK.out _ _ trivial (fun _ => ?_)
            clear hK K
            refine Held.take (i := 11) (some 119) rfl (v := ?_) rfl (by kernel_rfl) (by kernel_rfl) (by kernel_rfl) (fun _ _ _ h => HP _ _ _ _ _ h) (Or.inl ⟨by rfl, ?_⟩) hS ?_
            rotate_left
            · intro w' hw'
              go_simp
              try with_reducible rfl
            (try dsimp only [Act.put]); (try simp only [List.setIfInBounds_toArray, List.set_cons_zero, List.set_cons_succ])
            refine wpAnyH_ready (rs := [12]) (by kernel_rfl) (by simp) (AllReadyH.cons rfl (fun K hK => ?_) AllReadyH.nil)
            go_simp
            refine hK.out _ _ trivial (fun _ => ?_)
            clear hK K
            refine wpAnyH_done (by kernel_rfl) ?_ _
            clear hS c5 f5
            go_wp2
            go_roundw
            case rel => exact ⟨j + 1, by omega, by have := HI.out; go_num, _, by rw [NX.out]; exact HG.out⟩
            case measure => simp [intOf]; have := HI.out; omega
          · go_simp
            have hbw : Below v.heap.size v (v.alloc (.cells #[I X.bars, I X.clear, I X.dwell, I X.exit, I X.delay, I X.green, I X.foot, I X.hold, I X.stay, I X.most, I X.limit] 84)) := (Below.refl _ _).alloc (Nat.le_refl _) _
            have hN := heap_alloc_new v (.cells #[I X.bars, I X.clear, I X.dwell, I X.exit, I X.delay, I X.green, I X.foot, I X.hold, I X.stay, I X.most, I X.limit] 84)
            replace hb := hb.step hbw
            clear hbw
            generalize hbn : v.heap.size = bn at hN ⊢
            clear hbn
            generalize World.alloc v (.cells #[I X.bars, I X.clear, I X.dwell, I X.exit, I X.delay, I X.green, I X.foot, I X.hold, I X.stay, I X.most, I X.limit] 84) = v at hb hN ⊢
            refine hK.out _ _ trivial (fun _ => ?_)
            clear hK K
            refine wpAnyH_ready (rs := [1]) (by kernel_rfl) (by simp) (AllReadyH.cons rfl (fun K hK => ?_) AllReadyH.nil)
            have c4 : v.cell? ⟨w.heap.size + 1, 114, none⟩ = some (.slice da D.length dc) := by rw [hb.cell, ← List.getElem?_toArray]; exact (cells_ok hb.tab).r
            go_simp
            refine hK.out _ _ trivial (fun _ => ?_)
            clear hK K
            clear c4
            refine wpAnyH_ready (rs := [10]) (by kernel_rfl) (by simp) (AllReadyH.cons rfl (fun K hK => ?_) AllReadyH.nil)
            rw [if_pos (by rfl)]
            have hown2 : v.ownsRow w.heap.size 84 11 (.slice da D.length dc) D.length (D.flatMap Rl.cells) := hb.rails
            refine wp_append_own _ _ _ _ rfl w.heap.size 84 j0 (.agg #[I 0, I 0, I 0, I 0, I 0, I 0, I 0, I 0, I 0, I 0, I 0]) 11 88 Tryz.underlying28 hj hy0 hy1 hy2 rfl (by decide) (.slice da D.length dc) D.length _ rfl hown2 ⟨bn, 0, none⟩ 1 1 X.cells rfl rfl ?c1 ?c2 ?c3 ?c4 hb.bel.size ?_
            case c1 =>
              intro j e hj
              exact Row.lies_of_block hN j e hj
            case c2 => intro e he; have h1 := Rl.one X; exact (Array.all_eq_true_iff_forall_mem.1 h1) e (by simpa using he)
            case c3 => unfold maxLen; have := DL.out; omega
            case c4 => have := DL.out; omega
            intro v' w5 hown' hgrow hnil'
            obtain ⟨hbk, a', c', rfl, hG⟩ := hb.put_rails X hgrow hown'
            have c5 : w5.cell? ⟨w.heap.size + 1, 114, none⟩ = some (.slice da D.length dc) := by rw [cell_of_row _ _ _ _ _ _ hbk]; exact (cells_ok hb.tab).r
            have f5 : w5.frozen? ⟨w.heap.size + 1, 114, none⟩ = false := frozen_of_row _ _ _ _ _ hbk
            have HG := Lib.hid hG
            clear hown' hgrow hown2 hnil' hbk hG hb hN
            refine hK.out _ _ trivial (fun _ => ?_)
            clear hK K
            refine Held.take (i := 11) (some 119) rfl (v := ?_) rfl (by kernel_rfl) (by kernel_rfl) (by kernel_rfl) (fun _ _ _ h => HP _ _ _ _ _ h) (Or.inl ⟨by rfl, ?_⟩) hS ?_
            rotate_left
            · intro w' hw'
              go_simp
              try with_reducible rfl
            (try dsimp only [Act.put]); (try simp only [List.setIfInBounds_toArray, List.set_cons_zero, List.set_cons_succ])
            refine wpAnyH_ready (rs := [12]) (by kernel_rfl) (by simp) (AllReadyH.cons rfl (fun K hK => ?_) AllReadyH.nil)
            go_simp
            refine hK.out _ _ trivial (fun _ => ?_)
            clear hK K
            refine wpAnyH_done (by kernel_rfl) ?_ _
            clear hS c5 f5
            go_wp2
            go_roundw
            case rel => exact ⟨j + 1, by omega, by have := HI.out; go_num, _, by rw [NX.out]; exact HG.out⟩
            case measure => simp [intOf]; have := HI.out; omega
    · have hje : j = k := by omega
      subst hje
      rw [show ((j - j : Nat) : Int) = (0 : Int) by omega]
      go_wp2
      exact HQ.out _ _ _ _ _ _ _ _ _ _ _ _ _ _ _ _ _ _ _ HB.out
end GenT
namespace GenT
open Go.ChangeShapes Go.WideShapes Go.ChangeAt Go.RowKit
open Tab Gath GenG Clone PlaceM CodeAt
open RefS (num num_range from_any)
theorem built_bus (x y : Int) : Tryz.prog.built 86 [(0, I x), (1, I y)] = some #[I x, I y] := by kernel_rfl
theorem infoBz3 : (Tryz.prog.info? 86).map (fun i => (i.zero, i.size, i.bytes)) = some (some (.agg #[I 0, I 0]), 2, 16) := by kernel_rfl
theorem loop_buses {Q : Exit → Act → World → Prop} (a : Option Addr) (cap : Nat) (L : List Int) (w W0 : World) (hd : Hd) (T : Tab) (n : Nat) (hn : n ≤ 8) (n0 : 0 < n) (k : Nat) (hk : k ≤ 20) {f1 f5 f6 f7 f8 f9 f10 f12 f13 f14 f15 f16 f17 f18 f19 f20 f21 f22 f23 f24 f25 f26 f27 f28 f29 f30 f31 f32 f33 f34 f35 f36 f37 f38 f39 f40 f41 f42 f43 f44 f45 f46 f47 f48 f49 f50 f51 f52 f53 f54 f55 f56 f57 f58 f59 f60 f61 f62 f63 f64 f65 f66 f67 f68 f69 f70 f71 f72 f73 f74 f75 f76 f77 f78 f79 f80 f81 f82 f83 f84 f85 f86 f87 f88 f89 f90 f91 f92 f93 f94 f95 f96 f97 f98 f99 f100 f101 f102 f103 f104 f105 f106 f107 f108 f109 f110 f111 f112 f113 f114 f115 f116 f117 f118 f119 f120 f121 f122 f123 f124 f125 f126 f127 f128 f129 f130 f131 f132 f133 f134 f135 f136 f137 f138 f139 f140 f141 f142 f143 f144 f145 f146 f147 f148 f149 f150 f151 f152 f153 f154 f155 f156 f157 f158 f159 f160 f161 f162 f163 f164 f165 f166 f167 f168 f169 f170 f171 f172 f173 f174 f175 f176 f177 f178 f179 f180 f181 f182 f183 f184 f185 : Value}
    (HL : Hid (∀ W, Below w.heap.size w W → IntRow W ⟨a, cap⟩ L)) (s0 : Sl) (BX : Hid (Bx w ⟨hd.g, hd.d, hd.r, s0⟩ { T with buses := [] } W0))
    (HP : ∀ c a d v w, Q (.panic c) (a.put d v) w → Q (.panic c) a w) (HQ : Hid (∀ (x11 x122 x123 x124 x125 x126 x127 x128 x129 x130 x131 x132 x133 x134 x135 x136 x137 x138 x139 x140 x141 x142 x143 x144 x145 x146 x147 x148 : Value) (W' : World) (s1 : Sl), Bx w ⟨hd.g, hd.d, hd.r, s1⟩ { T with buses := down (fun i : Nat => genBs L i n) k k } W' → Q (.exit 10) ⟨#[Value.slice a L.length cap, f1, Value.pointer (some ⟨w.heap.size, 0, none⟩), Value.pointer (some ⟨w.heap.size + 1, 0, none⟩), Value.int .i64 (n : Nat), f5, f6, f7, f8, f9, f10, x11, f12, f13, f14, f15, f16, f17, f18, f19, f20, f21, f22, f23, f24, f25, f26, f27, f28, f29, f30, f31, f32, f33, f34, f35, f36, f37, f38, f39, f40, f41, f42, f43, f44, f45, f46, f47, f48, f49, f50, f51, f52, f53, f54, f55, f56, f57, f58, f59, f60, f61, f62, f63, f64, f65, f66, f67, f68, f69, f70, f71, f72, f73, f74, f75, f76, f77, f78, f79, f80, f81, f82, f83, f84, f85, f86, f87, f88, f89, f90, f91, f92, f93, f94, f95, f96, f97, f98, f99, f100, f101, f102, f103, f104, f105, f106, f107, f108, f109, f110, f111, f112, f113, f114, f115, f116, f117, f118, f119, f120, f121, x122, x123, x124, x125, x126, x127, x128, x129, x130, x131, x132, x133, x134, x135, x136, x137, x138, x139, x140, x141, x142, x143, x144, x145, x146, x147, x148, f149, f150, f151, f152, f153, f154, f155, f156, f157, f158, f159, f160, f161, f162, f163, f164, f165, f166, f167, f168, f169, f170, f171, f172, f173, f174, f175, f176, f177, f178, f179, f180, f181, f182, f183, f184, f185], []⟩ W')) :
    (lp 29 Tryz.f18).wp Tryz.prog Q ⟨#[Value.slice a L.length cap, f1, Value.pointer (some ⟨w.heap.size, 0, none⟩), Value.pointer (some ⟨w.heap.size + 1, 0, none⟩), Value.int .i64 (n : Nat), f5, f6, f7, f8, f9, f10, Value.int .i64 (k : Nat), f12, f13, f14, f15, f16, f17, f18, f19, f20, f21, f22, f23, f24, f25, f26, f27, f28, f29, f30, f31, f32, f33, f34, f35, f36, f37, f38, f39, f40, f41, f42, f43, f44, f45, f46, f47, f48, f49, f50, f51, f52, f53, f54, f55, f56, f57, f58, f59, f60, f61, f62, f63, f64, f65, f66, f67, f68, f69, f70, f71, f72, f73, f74, f75, f76, f77, f78, f79, f80, f81, f82, f83, f84, f85, f86, f87, f88, f89, f90, f91, f92, f93, f94, f95, f96, f97, f98, f99, f100, f101, f102, f103, f104, f105, f106, f107, f108, f109, f110, f111, f112, f113, f114, f115, f116, f117, f118, f119, f120, f121, f122, f123, f124, f125, f126, f127, f128, f129, f130, f131, f132, f133, f134, f135, f136, f137, f138, f139, f140, f141, f142, f143, f144, f145, f146, f147, f148, f149, f150, f151, f152, f153, f154, f155, f156, f157, f158, f159, f160, f161, f162, f163, f164, f165, f166, f167, f168, f169, f170, f171, f172, f173, f174, f175, f176, f177, f178, f179, f180, f181, f182, f183, f184, f185], []⟩ W0 := by
  conv => arg 2; whnf
  dsimp only
  obtain ⟨j0, hj, hy0, hy1, hy2⟩ := info_parts infoBz3
  go_loopw [11] (fun i wr => ∃ j : Nat, j ≤ k ∧ i = .int .i64 (k - j : Nat) ∧ ∃ s, Bx w ⟨hd.g, hd.d, hd.r, s⟩ { T with buses := down (fun i : Nat => genBs L i n) k j } wr) (fun i _ => (intOf i).toNat)
  case atStart => exact ⟨0, by omega, by go_num, s0, BX.out⟩
  case round =>
    obtain ⟨j, hjk, rfl, ⟨da, dc⟩, hbx⟩ := hrel
    have HB := Lib.hid hbx
    clear hbx BX
    by_cases hlt : j < k
    · obtain ⟨i, hi⟩ : ∃ i : Nat, i = k - j := ⟨_, rfl⟩
      have NX : Hid (down (fun i : Nat => genBs L i n) k (j + 1) = down (fun i : Nat => genBs L i n) k j ++ [(genBs L i n)]) := Lib.hid (by rw [down, ← hi])
      have DL : Hid ((down (fun i : Nat => genBs L i n) k j).length = j) := Lib.hid (down_len _ _ _)
      generalize down (fun i : Nat => genBs L i n) k j = D at *
      have HI := Lib.hid hi
      have hi0 : 0 < i := by omega
      have hi9 : i ≤ 20 := by omega
      rw [← hi]
      clear hi
      have e1 : IntKind.i64.wrap (2 * (i : Int)) = 2 * i := by rw [IntKind.wrap_i64]; omega
      have e2 : IntKind.i64.wrap (330 + 2 * (i : Int)) = 330 + 2 * i := by rw [IntKind.wrap_i64]; omega
      have e3 : IntKind.i64.wrap (331 + 2 * (i : Int)) = 331 + 2 * i := by rw [IntKind.wrap_i64]; omega
      obtain ⟨x1, hx1, F1⟩ : ∃ x : Int, x = num L (330 + 2 * i) 256 ∧ Hid (∀ W, Below w.heap.size w W → Calls Tryz.prog 44 #[.slice a L.length cap, .int .i64 (330 + 2 * i), .int .i64 256] W fun e w' => e = .returned (.int .i64 x) ∧ w' = W) := ⟨_, rfl, Lib.hid (fun W hb => (from_any a cap L _ _ W (HL.out _ hb) (by omega) (by omega) (by omega)).mono fun _ _ ⟨e, q⟩ => ⟨e, q.symm⟩)⟩
      obtain ⟨x2, hx2, ⟨r2, s2⟩, F2⟩ : ∃ x : Int, x = num L (331 + 2 * i) 30 ∧ (0 ≤ x ∧ x < 30) ∧ Hid (∀ W, Below w.heap.size w W → Calls Tryz.prog 44 #[.slice a L.length cap, .int .i64 (331 + 2 * i), .int .i64 30] W fun e w' => e = .returned (.int .i64 x) ∧ w' = W) := ⟨_, rfl, num_range _ _ _ (by omega), Lib.hid (fun W hb => (from_any a cap L _ _ W (HL.out _ hb) (by omega) (by omega) (by omega)).mono fun _ _ ⟨e, q⟩ => ⟨e, q.symm⟩)⟩
      have HX : Hid ([I (max 1 (bits .and .i64 x1 (GenR.maskV n))), I (1 + x2)] = (genBs L i n).cells) := Lib.hid (by rw [hx1, hx2]; rfl)
      have e4 : IntKind.i64.wrap (1 + x2) = 1 + x2 := by rw [IntKind.wrap_i64]; omega
      clear hx1 hx2
      generalize genBs L i n = X at NX HX
      go_upto_region 31 with fail
      refine wp_region_held (S := fun _ => True) (by kernel_rfl) ?_
      have hS : True := trivial
      have hb : Bx w ⟨hd.g, hd.d, hd.r, ⟨da, dc⟩⟩ { T with buses := D } { wr with drawn := wr.drawn + 1 } := HB.out.step (Below.refl _ _).drew
      generalize ({ wr with drawn := wr.drawn + 1 } : World) = v at hb ⊢
      clear HB
      refine Held.take (i := 0) (some 126) rfl (v := ?_) rfl (by kernel_rfl) (by kernel_rfl) (by kernel_rfl) (fun _ _ _ h => HP _ _ _ _ _ h) (Or.inl ⟨by rfl, ?_⟩) hS ?_
      rotate_left
      · intro w' hw'
        go_simp
        try with_reducible rfl
      (try dsimp only [Act.put]); (try simp only [List.setIfInBounds_toArray, List.set_cons_zero, List.set_cons_succ])
      refine Held.take (i := 2) (some 128) rfl (v := ?_) rfl (by kernel_rfl) (by kernel_rfl) (by kernel_rfl) (fun _ _ _ h => HP _ _ _ _ _ h) (Or.inl ⟨by rfl, ?_⟩) hS ?_
      rotate_left
      · intro w' hw'
        go_simp
        try with_reducible rfl
      (try dsimp only [Act.put]); (try simp only [List.setIfInBounds_toArray, List.set_cons_zero, List.set_cons_succ])
      refine Held.take (i := 3) (some 129) rfl (v := ?_) rfl (by kernel_rfl) (by kernel_rfl) (by kernel_rfl) (fun _ _ _ h => HP _ _ _ _ _ h) (Or.inl ⟨by rfl, ?_⟩) hS ?_
      rotate_left
      · intro w' hw'
        go_simp
        try with_reducible rfl
      (try dsimp only [Act.put]); (try simp only [List.setIfInBounds_toArray, List.set_cons_zero, List.set_cons_succ])
      refine Held.take (i := 4) (some 130) rfl (v := ?_) rfl (by kernel_rfl) (by kernel_rfl) (by kernel_rfl) (fun _ _ _ h => HP _ _ _ _ _ h) (Or.inl ⟨by rfl, ?_⟩) hS ?_
      rotate_left
      · intro w' hw'
        go_simp
        try with_reducible rfl
      (try dsimp only [Act.put]); (try simp only [List.setIfInBounds_toArray, List.set_cons_zero, List.set_cons_succ])
      refine Held.take (i := 5) (some 131) rfl (v := ?_) rfl (by kernel_rfl) (by kernel_rfl) (by kernel_rfl) (fun _ _ _ h => HP _ _ _ _ _ h) (Or.inl ⟨by rfl, ?_⟩) hS ?_
      rotate_left
      · intro w' hw'
        go_simp
        try with_reducible rfl
      (try dsimp only [Act.put]); (try simp only [List.setIfInBounds_toArray, List.set_cons_zero, List.set_cons_succ])
      refine Held.take (i := 7) (some 133) rfl (v := ?_) rfl (by kernel_rfl) (by kernel_rfl) (by kernel_rfl) (fun _ _ _ h => HP _ _ _ _ _ h) (Or.inl ⟨by rfl, ?_⟩) hS ?_
      rotate_left
      · intro w' hw'
        go_simp
        try with_reducible rfl
      (try dsimp only [Act.put]); (try simp only [List.setIfInBounds_toArray, List.set_cons_zero, List.set_cons_succ])
      refine Held.take (i := 8) (some 134) rfl (v := ?_) rfl (by kernel_rfl) (by kernel_rfl) (by kernel_rfl) (fun _ _ _ h => HP _ _ _ _ _ h) (Or.inl ⟨by rfl, ?_⟩) hS ?_
      rotate_left
      · intro w' hw'
        go_simp
        try with_reducible rfl
      (try dsimp only [Act.put]); (try simp only [List.setIfInBounds_toArray, List.set_cons_zero, List.set_cons_succ])
      refine Held.take (i := 9) (some 135) rfl (v := ?_) rfl (by kernel_rfl) (by kernel_rfl) (by kernel_rfl) (fun _ _ _ h => HP _ _ _ _ _ h) (Or.inl ⟨by rfl, ?_⟩) hS ?_
      rotate_left
      · intro w' hw'
        go_simp
        try with_reducible rfl
      (try dsimp only [Act.put]); (try simp only [List.setIfInBounds_toArray, List.set_cons_zero, List.set_cons_succ])
      refine Held.take (i := 10) (some 136) rfl (v := .int .i64 (GenR.maskV n)) rfl (by kernel_rfl) (by kernel_rfl) (by kernel_rfl) (fun _ _ _ h => HP _ _ _ _ _ h) (Or.inl ⟨by rfl, ?_⟩) hS ?_
      · intro w' hw'
        go_simp
        try (first | rfl | (simp only [Int.max_def]; split <;> split <;> omega))
      (try dsimp only [Act.put]); (try simp only [List.setIfInBounds_toArray, List.set_cons_zero, List.set_cons_succ])
      refine Held.take (i := 13) (some 139) rfl (v := ?_) rfl (by kernel_rfl) (by kernel_rfl) (by kernel_rfl) (fun _ _ _ h => HP _ _ _ _ _ h) (Or.inl ⟨by rfl, ?_⟩) hS ?_
      rotate_left
      · intro w' hw'
        go_simp
        try with_reducible rfl
      (try dsimp only [Act.put]); (try simp only [List.setIfInBounds_toArray, List.set_cons_zero, List.set_cons_succ])
      refine Held.take (i := 14) (some 140) rfl (v := ?_) rfl (by kernel_rfl) (by kernel_rfl) (by kernel_rfl) (fun _ _ _ h => HP _ _ _ _ _ h) (Or.inl ⟨by rfl, ?_⟩) hS ?_
      rotate_left
      · intro w' hw'
        go_simp
        try with_reducible rfl
      (try dsimp only [Act.put]); (try simp only [List.setIfInBounds_toArray, List.set_cons_zero, List.set_cons_succ])
      refine Held.take (i := 15) (some 141) rfl (v := ?_) rfl (by kernel_rfl) (by kernel_rfl) (by kernel_rfl) (fun _ _ _ h => HP _ _ _ _ _ h) (Or.inl ⟨by rfl, ?_⟩) hS ?_
      rotate_left
      · intro w' hw'
        go_simp
        try with_reducible rfl
      (try dsimp only [Act.put]); (try simp only [List.setIfInBounds_toArray, List.set_cons_zero, List.set_cons_succ])
      refine Held.take (i := 16) (some 142) rfl (v := ?_) rfl (by kernel_rfl) (by kernel_rfl) (by kernel_rfl) (fun _ _ _ h => HP _ _ _ _ _ h) (Or.inl ⟨by rfl, ?_⟩) hS ?_
      rotate_left
      · intro w' hw'
        go_simp
        try with_reducible rfl
      (try dsimp only [Act.put]); (try simp only [List.setIfInBounds_toArray, List.set_cons_zero, List.set_cons_succ])
      refine wpAnyH_ready (rs := [1, 6]) (by kernel_rfl) (by simp) (AllReadyH.cons rfl (fun K hK => ?_) (AllReadyH.cons rfl (fun K hK => ?_) AllReadyH.nil))
      · have c4 : v.cell? ⟨w.heap.size + 1, 115, none⟩ = some (.slice da D.length dc) := by rw [hb.cell, ← List.getElem?_toArray]; exact (cells_ok hb.tab).b
        go_simp
        refine hK.out _ _ trivial (fun _ => ?_)
        clear hK K
        clear c4
        refine wpAnyH_ready (rs := [6]) (by kernel_rfl) (by simp) (AllReadyH.cons rfl (fun K hK => ?_) AllReadyH.nil)
        go_simp
        refine (F1.out _ hb.bel).mono ?_
        rintro e w' ⟨rfl, hq⟩
        subst w'
        go_simp
        refine hK.out _ _ trivial (fun _ => ?_)
        clear hK K
        refine Held.take (i := 11) (some 137) rfl (v := .int .i64 (bits .and .i64 x1 (GenR.maskV n))) rfl (by kernel_rfl) (by kernel_rfl) (by kernel_rfl) (fun _ _ _ h => HP _ _ _ _ _ h) (Or.inl ⟨by rfl, ?_⟩) hS ?_
        · intro w' hw'
          go_simp
          try (first | rfl | (simp only [Int.max_def]; split <;> split <;> omega))
        (try dsimp only [Act.put]); (try simp only [List.setIfInBounds_toArray, List.set_cons_zero, List.set_cons_succ])
        refine Held.take (i := 12) (some 138) rfl (v := .int .i64 (max 1 (bits .and .i64 x1 (GenR.maskV n)))) rfl (by kernel_rfl) (by kernel_rfl) (by kernel_rfl) (fun _ _ _ h => HP _ _ _ _ _ h) (Or.inl ⟨by rfl, ?_⟩) hS ?_
        · intro w' hw'
          go_simp
          try (first | rfl | (simp only [Int.max_def]; split <;> split <;> omega))
        (try dsimp only [Act.put]); (try simp only [List.setIfInBounds_toArray, List.set_cons_zero, List.set_cons_succ])
        refine wpAnyH_ready (rs := [17]) (by kernel_rfl) (by simp) (AllReadyH.cons rfl (fun K hK => ?_) AllReadyH.nil)
        go_simp
        refine (F2.out _ hb.bel).mono ?_
        rintro e w' ⟨rfl, hq⟩
        subst w'
        go_simp
        refine hK.out _ _ trivial (fun _ => ?_)
        clear hK K
        refine Held.take (i := 18) (some 144) rfl (v := .int .i64 (1 + x2)) rfl (by kernel_rfl) (by kernel_rfl) (by kernel_rfl) (fun _ _ _ h => HP _ _ _ _ _ h) (Or.inl ⟨by rfl, ?_⟩) hS ?_
        · intro w' hw'
          go_simp
          try (first | rfl | (simp only [Int.max_def]; split <;> split <;> omega))
        (try dsimp only [Act.put]); (try simp only [List.setIfInBounds_toArray, List.set_cons_zero, List.set_cons_succ])
        refine Held.take_build (i := 19) (some 145) rfl 86 _ #[I (max 1 (bits .and .i64 x1 (GenR.maskV n))), I (1 + x2)] rfl rfl (by kernel_rfl) (by kernel_rfl) (by kernel_rfl) (fun _ _ _ h => HP _ _ _ _ _ h) (by rfl) hS (by simp only [List.map_toArray, List.map_cons, List.map_nil]; exact built_bus _ _) ?_
        (try dsimp only [Act.put]); (try simp only [List.setIfInBounds_toArray, List.set_cons_zero, List.set_cons_succ])
        refine wpAnyH_ready (rs := [20]) (by kernel_rfl) (by simp) (AllReadyH.cons rfl (fun K hK => ?_) AllReadyH.nil)
        go_simp
        have hbw : Below v.heap.size v (v.alloc (.cells #[I (max 1 (bits .and .i64 x1 (GenR.maskV n))), I (1 + x2)] 86)) := (Below.refl _ _).alloc (Nat.le_refl _) _
        have hN := heap_alloc_new v (.cells #[I (max 1 (bits .and .i64 x1 (GenR.maskV n))), I (1 + x2)] 86)
        replace hb := hb.step hbw
        clear hbw
        generalize hbn : v.heap.size = bn at hN ⊢
        clear hbn
        generalize World.alloc v (.cells #[I (max 1 (bits .and .i64 x1 (GenR.maskV n))), I (1 + x2)] 86) = v at hb hN ⊢
        refine hK.out _ _ trivial (fun _ => ?_)
        clear hK K
        refine wpAnyH_ready (rs := [21]) (by kernel_rfl) (by simp) (AllReadyH.cons rfl (fun K hK => ?_) AllReadyH.nil)
        rw [if_pos (by rfl)]
        have hown2 : v.ownsRow w.heap.size 86 2 (.slice da D.length dc) D.length (D.flatMap Bs.cells) := hb.buses
        refine wp_append_own _ _ _ _ rfl w.heap.size 86 j0 (.agg #[I 0, I 0]) 2 16 Tryz.underlying29 hj hy0 hy1 hy2 rfl (by decide) (.slice da D.length dc) D.length _ rfl hown2 ⟨bn, 0, none⟩ 1 1 [I (max 1 (bits .and .i64 x1 (GenR.maskV n))), I (1 + x2)] rfl rfl ?c1 ?c2 ?c3 ?c4 hb.bel.size ?_
        case c1 =>
          intro j e hj
          exact Row.lies_of_block hN j e hj
        case c2 => intro e he; have h1 := (show (#[I (max 1 (bits .and .i64 x1 (GenR.maskV n))), I (1 + x2)] : Array Value).all (·.oneCell') = true from by simp [Value.oneCell']); exact (Array.all_eq_true_iff_forall_mem.1 h1) e (by simpa using he)
        case c3 => unfold maxLen; have := DL.out; omega
        case c4 => have := DL.out; omega
        intro v' w5 hown' hgrow hnil'
        rw [HX.out] at hown'
        obtain ⟨hbk, a', c', rfl, hG⟩ := hb.put_buses X hgrow hown'
        have c5 : w5.cell? ⟨w.heap.size + 1, 115, none⟩ = some (.slice da D.length dc) := by rw [cell_of_row _ _ _ _ _ _ hbk]; exact (cells_ok hb.tab).b
        have f5 : w5.frozen? ⟨w.heap.size + 1, 115, none⟩ = false := frozen_of_row _ _ _ _ _ hbk
        have HG := Lib.hid hG
        clear hown' hgrow hown2 hnil' hbk hG hb hN
        refine hK.out _ _ trivial (fun _ => ?_)
        clear hK K
        refine Held.take (i := 22) (some 148) rfl (v := ?_) rfl (by kernel_rfl) (by kernel_rfl) (by kernel_rfl) (fun _ _ _ h => HP _ _ _ _ _ h) (Or.inl ⟨by rfl, ?_⟩) hS ?_
        rotate_left
        · intro w' hw'
          go_simp
          try with_reducible rfl
        (try dsimp only [Act.put]); (try simp only [List.setIfInBounds_toArray, List.set_cons_zero, List.set_cons_succ])
        refine wpAnyH_ready (rs := [23]) (by kernel_rfl) (by simp) (AllReadyH.cons rfl (fun K hK => ?_) AllReadyH.nil)
        go_simp
        refine hK.out _ _ trivial (fun _ => ?_)
        clear hK K
        refine wpAnyH_done (by kernel_rfl) ?_ _
        clear hS c5 f5
        go_wp2
        go_roundw
        case rel => exact ⟨j + 1, by omega, by have := HI.out; go_num, _, by rw [NX.out]; exact HG.out⟩
        case measure => simp [intOf]; have := HI.out; omega
      · go_simp
        refine (F1.out _ hb.bel).mono ?_
        rintro e w' ⟨rfl, hq⟩
        subst w'
        go_simp
        refine hK.out _ _ trivial (fun _ => ?_)
        clear hK K
        refine Held.take (i := 11) (some 137) rfl (v := .int .i64 (bits .and .i64 x1 (GenR.maskV n))) rfl (by kernel_rfl) (by kernel_rfl) (by kernel_rfl) (fun _ _ _ h => HP _ _ _ _ _ h) (Or.inl ⟨by rfl, ?_⟩) hS ?_
        · intro w' hw'
          go_simp
          try (first | rfl | (simp only [Int.max_def]; split <;> split <;> omega))
        (try dsimp only [Act.put]); (try simp only [List.setIfInBounds_toArray, List.set_cons_zero, List.set_cons_succ])
        refine Held.take (i := 12) (some 138) rfl (v := .int .i64 (max 1 (bits .and .i64 x1 (GenR.maskV n)))) rfl (by kernel_rfl) (by kernel_rfl) (by kernel_rfl) (fun _ _ _ h => HP _ _ _ _ _ h) (Or.inl ⟨by rfl, ?_⟩) hS ?_
        · intro w' hw'
          go_simp
          try (first | rfl | (simp only [Int.max_def]; split <;> split <;> omega))
        (try dsimp only [Act.put]); (try simp only [List.setIfInBounds_toArray, List.set_cons_zero, List.set_cons_succ])
        refine wpAnyH_ready (rs := [1, 17]) (by kernel_rfl) (by simp) (AllReadyH.cons rfl (fun K hK => ?_) (AllReadyH.cons rfl (fun K hK => ?_) AllReadyH.nil))
        · have c4 : v.cell? ⟨w.heap.size + 1, 115, none⟩ = some (.slice da D.length dc) := by rw [hb.cell, ← List.getElem?_toArray]; exact (cells_ok hb.tab).b
          go_simp
          refine hK.out _ _ trivial (fun _ => ?_)
          clear hK K
          clear c4
          refine wpAnyH_ready (rs := [17]) (by kernel_rfl) (by simp) (AllReadyH.cons rfl (fun K hK => ?_) AllReadyH.nil)
          go_simp
          refine (F2.out _ hb.bel).mono ?_
          rintro e w' ⟨rfl, hq⟩
          subst w'
          go_simp
          refine hK.out _ _ trivial (fun _ => ?_)
          clear hK K
          refine Held.take (i := 18) (some 144) rfl (v := .int .i64 (1 + x2)) rfl (by kernel_rfl) (by kernel_rfl) (by kernel_rfl) (fun _ _ _ h => HP _ _ _ _ _ h) (Or.inl ⟨by rfl, ?_⟩) hS ?_
          · intro w' hw'
            go_simp
            try (first | rfl | (simp only [Int.max_def]; split <;> split <;> omega))
          (try dsimp only [Act.put]); (try simp only [List.setIfInBounds_toArray, List.set_cons_zero, List.set_cons_succ])
          refine Held.take_build (i := 19) (some 145) rfl 86 _ #[I (max 1 (bits .and .i64 x1 (GenR.maskV n))), I (1 + x2)] rfl rfl (by kernel_rfl) (by kernel_rfl) (by kernel_rfl) (fun _ _ _ h => HP _ _ _ _ _ h) (by rfl) hS (by simp only [List.map_toArray, List.map_cons, List.map_nil]; exact built_bus _ _) ?_
          (try dsimp only [Act.put]); (try simp only [List.setIfInBounds_toArray, List.set_cons_zero, List.set_cons_succ])
          refine wpAnyH_ready (rs := [20]) (by kernel_rfl) (by simp) (AllReadyH.cons rfl (fun K hK => ?_) AllReadyH.nil)
          go_simp
          have hbw : Below v.heap.size v (v.alloc (.cells #[I (max 1 (bits .and .i64 x1 (GenR.maskV n))), I (1 + x2)] 86)) := (Below.refl _ _).alloc (Nat.le_refl _) _
          have hN := heap_alloc_new v (.cells #[I (max 1 (bits .and .i64 x1 (GenR.maskV n))), I (1 + x2)] 86)
          replace hb := hb.step hbw
          clear hbw
          generalize hbn : v.heap.size = bn at hN ⊢
          clear hbn
          generalize World.alloc v (.cells #[I (max 1 (bits .and .i64 x1 (GenR.maskV n))), I (1 + x2)] 86) = v at hb hN ⊢
          refine hK.out _ _ trivial (fun _ => ?_)
          clear hK K
          refine wpAnyH_ready (rs := [21]) (by kernel_rfl) (by simp) (AllReadyH.cons rfl (fun K hK => ?_) AllReadyH.nil)
          rw [if_pos (by rfl)]
          have hown2 : v.ownsRow w.heap.size 86 2 (.slice da D.length dc) D.length (D.flatMap Bs.cells) := hb.buses
          refine wp_append_own _ _ _ _ rfl w.heap.size 86 j0 (.agg #[I 0, I 0]) 2 16 Tryz.underlying29 hj hy0 hy1 hy2 rfl (by decide) (.slice da D.length dc) D.length _ rfl hown2 ⟨bn, 0, none⟩ 1 1 [I (max 1 (bits .and .i64 x1 (GenR.maskV n))), I (1 + x2)] rfl rfl ?c1 ?c2 ?c3 ?c4 hb.bel.size ?_
          case c1 =>
            intro j e hj
            exact Row.lies_of_block hN j e hj
          case c2 => intro e he; have h1 := (show (#[I (max 1 (bits .and .i64 x1 (GenR.maskV n))), I (1 + x2)] : Array Value).all (·.oneCell') = true from by simp [Value.oneCell']); exact (Array.all_eq_true_iff_forall_mem.1 h1) e (by simpa using he)
          case c3 => unfold maxLen; have := DL.out; omega
          case c4 => have := DL.out; omega
          intro v' w5 hown' hgrow hnil'
          rw [HX.out] at hown'
          obtain ⟨hbk, a', c', rfl, hG⟩ := hb.put_buses X hgrow hown'
          have c5 : w5.cell? ⟨w.heap.size + 1, 115, none⟩ = some (.slice da D.length dc) := by rw [cell_of_row _ _ _ _ _ _ hbk]; exact (cells_ok hb.tab).b
          have f5 : w5.frozen? ⟨w.heap.size + 1, 115, none⟩ = false := frozen_of_row _ _ _ _ _ hbk
          have HG := Lib.hid hG
          clear hown' hgrow hown2 hnil' hbk hG hb hN
          refine hK.out _ _ trivial (fun _ => ?_)
          clear hK K
          refine Held.take (i := 22) (some 148) rfl (v := ?_) rfl (by kernel_rfl) (by kernel_rfl) (by kernel_rfl) (fun _ _ _ h => HP _ _ _ _ _ h) (Or.inl ⟨by rfl, ?_⟩) hS ?_
          rotate_left
          · intro w' hw'
            go_simp
            try with_reducible rfl
          (try dsimp only [Act.put]); (try simp only [List.setIfInBounds_toArray, List.set_cons_zero, List.set_cons_succ])
          refine wpAnyH_ready (rs := [23]) (by kernel_rfl) (by simp) (AllReadyH.cons rfl (fun K hK => ?_) AllReadyH.nil)
          go_simp
          refine hK.out _ _ trivial (fun _ => ?_)
          clear hK K
          refine wpAnyH_done (by kernel_rfl) ?_ _
          clear hS c5 f5
          go_wp2
          go_roundw
          case rel => exact ⟨j + 1, by omega, by have := HI.out; go_num, _, by rw [NX.out]; exact HG.out⟩
          case measure => simp [intOf]; have := HI.out; omega
        · go_simp
          refine (F2.out _ hb.bel).mono ?_
          rintro e w' ⟨rfl, hq⟩
          subst w'
          go_simp
          refine hK.out _ _ trivial (fun _ => ?_)
          clear hK K
          refine Held.take (i := 18) (some 144) rfl (v := .int .i64 (1 + x2)) rfl (by kernel_rfl) (by kernel_rfl) (by kernel_rfl) (fun _ _ _ h => HP _ _ _ _ _ h) (Or.inl ⟨by rfl, ?_⟩) hS ?_
          · intro w' hw'
            go_simp
            try (first | rfl | (simp only [Int.max_def]; split <;> split <;> omega))
          (try dsimp only [Act.put]); (try simp only [List.setIfInBounds_toArray, List.set_cons_zero, List.set_cons_succ])
          refine Held.take_build (i := 19) (some 145) rfl 86 _ #[I (max 1 (bits .and .i64 x1 (GenR.maskV n))), I (1 + x2)] rfl rfl (by kernel_rfl) (by kernel_rfl) (by kernel_rfl) (fun _ _ _ h => HP _ _ _ _ _ h) (by rfl) hS (by simp only [List.map_toArray, List.map_cons, List.map_nil]; exact built_bus _ _) ?_
          (try dsimp only [Act.put]); (try simp only [List.setIfInBounds_toArray, List.set_cons_zero, List.set_cons_succ])
          refine wpAnyH_ready (rs := [1, 20]) (by kernel_rfl) (by simp) (AllReadyH.cons rfl (fun K hK => ?_) (AllReadyH.cons rfl (fun K hK => ?_) AllReadyH.nil))
          · have c4 : v.cell? ⟨w.heap.size + 1, 115, none⟩ = some (.slice da D.length dc) := by rw [hb.cell, ← List.getElem?_toArray]; exact (cells_ok hb.tab).b
            go_simp
            refine hK.out _ _ trivial (fun _ => ?_)
            clear hK K
            clear c4
            refine wpAnyH_ready (rs := [20]) (by kernel_rfl) (by simp) (AllReadyH.cons rfl (fun K hK => ?_) AllReadyH.nil)
            go_simp
            have hbw : Below v.heap.size v (v.alloc (.cells #[I (max 1 (bits .and .i64 x1 (GenR.maskV n))), I (1 + x2)] 86)) := (Below.refl _ _).alloc (Nat.le_refl _) _
            have hN := heap_alloc_new v (.cells #[I (max 1 (bits .and .i64 x1 (GenR.maskV n))), I (1 + x2)] 86)
            replace hb := hb.step hbw
            clear hbw
            generalize hbn : v.heap.size = bn at hN ⊢
            clear hbn
            generalize World.alloc v (.cells #[I (max 1 (bits .and .i64 x1 (GenR.maskV n))), I (1 + x2)] 86) = v at hb hN ⊢
            refine hK.out _ _ trivial (fun _ => ?_)
            clear hK K
            refine wpAnyH_ready (rs := [21]) (by kernel_rfl) (by simp) (AllReadyH.cons rfl (fun K hK => ?_) AllReadyH.nil)
            rw [if_pos (by rfl)]
            have hown2 : v.ownsRow w.heap.size 86 2 (.slice da D.length dc) D.length (D.flatMap Bs.cells) := hb.buses
            refine wp_append_own _ _ _ _ rfl w.heap.size 86 j0 (.agg #[I 0, I 0]) 2 16 Tryz.underlying29 hj hy0 hy1 hy2 rfl (by decide) (.slice da D.length dc) D.length _ rfl hown2 ⟨bn, 0, none⟩ 1 1 [I (max 1 (bits .and .i64 x1 (GenR.maskV n))), I (1 + x2)] rfl rfl ?c1 ?c2 ?c3 ?c4 hb.bel.size ?_
            case c1 =>
              intro j e hj
              exact Row.lies_of_block hN j e hj
            case c2 => intro e he; have h1 := (show (#[I (max 1 (bits .and .i64 x1 (GenR.maskV n))), I (1 + x2)] : Array Value).all (·.oneCell') = true from by simp [Value.oneCell']); exact (Array.all_eq_true_iff_forall_mem.1 h1) e (by simpa using he)
            case c3 => unfold maxLen; have := DL.out; omega
            case c4 => have := DL.out; omega
            intro v' w5 hown' hgrow hnil'
            rw [HX.out] at hown'
            obtain ⟨hbk, a', c', rfl, hG⟩ := hb.put_buses X hgrow hown'
            have c5 : w5.cell? ⟨w.heap.size + 1, 115, none⟩ = some (.slice da D.length dc) := by rw [cell_of_row _ _ _ _ _ _ hbk]; exact (cells_ok hb.tab).b
            have f5 : w5.frozen? ⟨w.heap.size + 1, 115, none⟩ = false := frozen_of_row _ _ _ _ _ hbk
            have HG := Lib.hid hG
            clear hown' hgrow hown2 hnil' hbk hG hb hN
            refine hK.out _ _ trivial (fun _ => ?_)
            clear hK K
            refine Held.take (i := 22) (some 148) rfl (v := ?_) rfl (by kernel_rfl) (by kernel_rfl) (by kernel_rfl) (fun _ _ _ h => HP _ _ _ _ _ h) (Or.inl ⟨by rfl, ?_⟩) hS ?_
            rotate_left
            · intro w' hw'
              go_simp
              try with_reducible rfl
            (try dsimp only [Act.put]); (try simp only [List.setIfInBounds_toArray, List.set_cons_zero, List.set_cons_succ])
            refine wpAnyH_ready (rs := [23]) (by kernel_rfl) (by simp) (AllReadyH.cons rfl (fun K hK => ?_) AllReadyH.nil)
            go_simp
            refine hK.out _ _ trivial (fun _ => ?_)
            clear hK K
            refine wpAnyH_done (by kernel_rfl) ?_ _
            clear hS c5 f5
            go_wp2
            go_roundw
            case rel => exact ⟨j + 1, by omega, by have := HI.out; go_num, _, by rw [NX.out]; exact HG.out⟩
            case measure => simp [intOf]; have := HI.out; omega
          · go_simp
            have hbw : Below v.heap.size v (v.alloc (.cells #[I (max 1 (bits .and .i64 x1 (GenR.maskV n))), I (1 + x2)] 86)) := (Below.refl _ _).alloc (Nat.le_refl _) _
            have hN := heap_alloc_new v (.cells #[I (max 1 (bits .and .i64 x1 (GenR.maskV n))), I (1 + x2)] 86)
            replace hb := hb.step hbw
            clear hbw
            generalize hbn : v.heap.size = bn at hN ⊢
            clear hbn
            generalize World.alloc v (.cells #[I (max 1 (bits .and .i64 x1 (GenR.maskV n))), I (1 + x2)] 86) = v at hb hN ⊢
            refine hK.out _ _ trivial (fun _ => ?_)
            clear hK K
            refine wpAnyH_ready (rs := [1]) (by kernel_rfl) (by simp) (AllReadyH.cons rfl (fun K hK => ?_) AllReadyH.nil)
            have c4 : v.cell? ⟨w.heap.size + 1, 115, none⟩ = some (.slice da D.length dc) := by rw [hb.cell, ← List.getElem?_toArray]; exact (cells_ok hb.tab).b
            go_simp
            refine hK.out _ _ trivial (fun _ => ?_)
            clear hK K
            clear c4
            refine wpAnyH_ready (rs := [21]) (by kernel_rfl) (by simp) (AllReadyH.cons rfl (fun K hK => ?_) AllReadyH.nil)
            rw [if_pos (by rfl)]
            have hown2 : v.ownsRow w.heap.size 86 2 (.slice da D.length dc) D.length (D.flatMap Bs.cells) := hb.buses
            refine wp_append_own _ _ _ _ rfl w.heap.size 86 j0 (.agg #[I 0, I 0]) 2 16 Tryz.underlying29 hj hy0 hy1 hy2 rfl (by decide) (.slice da D.length dc) D.length _ rfl hown2 ⟨bn, 0, none⟩ 1 1 [I (max 1 (bits .and .i64 x1 (GenR.maskV n))), I (1 + x2)] rfl rfl ?c1 ?c2 ?c3 ?c4 hb.bel.size ?_
            case c1 =>
              intro j e hj
              exact Row.lies_of_block hN j e hj
            case c2 => intro e he; have h1 := (show (#[I (max 1 (bits .and .i64 x1 (GenR.maskV n))), I (1 + x2)] : Array Value).all (·.oneCell') = true from by simp [Value.oneCell']); exact (Array.all_eq_true_iff_forall_mem.1 h1) e (by simpa using he)
            case c3 => unfold maxLen; have := DL.out; omega
            case c4 => have := DL.out; omega
            intro v' w5 hown' hgrow hnil'
            rw [HX.out] at hown'
            obtain ⟨hbk, a', c', rfl, hG⟩ := hb.put_buses X hgrow hown'
            have c5 : w5.cell? ⟨w.heap.size + 1, 115, none⟩ = some (.slice da D.length dc) := by rw [cell_of_row _ _ _ _ _ _ hbk]; exact (cells_ok hb.tab).b
            have f5 : w5.frozen? ⟨w.heap.size + 1, 115, none⟩ = false := frozen_of_row _ _ _ _ _ hbk
            have HG := Lib.hid hG
            clear hown' hgrow hown2 hnil' hbk hG hb hN
            refine hK.out _ _ trivial (fun _ => ?_)
            clear hK K
            refine Held.take (i := 22) (some 148) rfl (v := ?_) rfl (by kernel_rfl) (by kernel_rfl) (by kernel_rfl) (fun _ _ _ h => HP _ _ _ _ _ h) (Or.inl ⟨by rfl, ?_⟩) hS ?_
            rotate_left
            · intro w' hw'
              go_simp
              try with_reducible rfl
            (try dsimp only [Act.put]); (try simp only [List.setIfInBounds_toArray, List.set_cons_zero, List.set_cons_succ])
            refine wpAnyH_ready (rs := [23]) (by kernel_rfl) (by simp) (AllReadyH.cons rfl (fun K hK => ?_) AllReadyH.nil)
            go_simp
            refine hK.out _ _ trivial (fun _ => ?_)
            clear hK K
            refine wpAnyH_done (by kernel_rfl) ?_ _
            clear hS c5 f5
            go_wp2
            go_roundw
            case rel => exact ⟨j + 1, by omega, by have := HI.out; go_num, _, by rw [NX.out]; exact HG.out⟩
            case measure => simp [intOf]; have := HI.out; omega
    · have hje : j = k := by omega
      subst hje
      rw [show ((j - j : Nat) : Int) = (0 : Int) by omega]
      go_wp2
      exact HQ.out _ _ _ _ _ _ _ _ _ _ _ _ _ _ _ _ _ _ _ _ _ _ _ _ _ _ _ _ _ _ HB.out
end GenT
namespace GenT
open Go.ChangeShapes Go.WideShapes Go.ChangeAt Go.RowKit
open Tab Gath GenG Clone PlaceM CodeAt
open RefS (num num_range from_any)
theorem wait_win (T : Tab) (x p : Int) : WaitS.waitS { T with window := x } p = WaitS.waitS T p := rfl
theorem loop_win {Q : Exit → Act → World → Prop} (a : Option Addr) (cap : Nat) (L : List Int) (w W0 : World) (hd : Hd) (T : Tab) (n : Nat) (hn : n ≤ 8) (sm : Few T) (few : T.rails.length ≤ 1000) {f1 f5 f6 f7 f8 f9 f10 f11 f13 f14 f15 f16 f17 f18 f19 f20 f21 f22 f23 f24 f25 f26 f27 f28 f29 f30 f31 f32 f33 f34 f35 f36 f37 f38 f39 f40 f41 f42 f43 f44 f45 f46 f47 f48 f49 f50 f51 f52 f53 f54 f55 f56 f57 f58 f59 f60 f61 f62 f63 f64 f65 f66 f67 f68 f69 f70 f71 f72 f73 f74 f75 f76 f77 f78 f79 f80 f81 f82 f83 f84 f85 f86 f87 f88 f89 f90 f91 f92 f93 f94 f95 f96 f97 f98 f99 f100 f101 f102 f103 f104 f105 f106 f107 f108 f109 f110 f111 f112 f113 f114 f115 f116 f117 f118 f119 f120 f121 f122 f123 f124 f125 f126 f127 f128 f129 f130 f131 f132 f133 f134 f135 f136 f137 f138 f139 f140 f141 f142 f143 f144 f145 f146 f147 f148 f149 f150 f151 f152 f153 f154 f155 f156 f157 f158 f159 f160 f161 f162 f163 f164 f165 f166 f167 f168 f169 f170 f171 f172 f173 f174 f175 f176 f177 f178 f179 f180 f181 f182 f183 f184 f185 : Value}
    (HL : Hid (∀ W, Below w.heap.size w W → IntRow W ⟨a, cap⟩ L)) (BX : Hid (Bx w hd { T with window := 0 } W0))
    (HP : ∀ c a d v w, Q (.panic c) (a.put d v) w → Q (.panic c) a w) (HQ : Hid (∀ (x12 x167 x168 x169 x170 x171 x172 x173 x174 x175 x176 x177 x178 x179 x180 x181 x182 x183 x184 : Value) (W' : World), Bx w hd { T with window := if T.rails.length = 0 then 0 else maxW T n } W' → Q (.exit 12) ⟨#[Value.slice a L.length cap, f1, Value.pointer (some ⟨w.heap.size, 0, none⟩), Value.pointer (some ⟨w.heap.size + 1, 0, none⟩), Value.int .i64 (n : Nat), f5, f6, f7, f8, f9, f10, f11, x12, f13, f14, f15, f16, f17, f18, f19, f20, f21, f22, f23, f24, f25, f26, f27, f28, f29, f30, f31, f32, f33, f34, f35, f36, f37, f38, f39, f40, f41, f42, f43, f44, f45, f46, f47, f48, f49, f50, f51, f52, f53, f54, f55, f56, f57, f58, f59, f60, f61, f62, f63, f64, f65, f66, f67, f68, f69, f70, f71, f72, f73, f74, f75, f76, f77, f78, f79, f80, f81, f82, f83, f84, f85, f86, f87, f88, f89, f90, f91, f92, f93, f94, f95, f96, f97, f98, f99, f100, f101, f102, f103, f104, f105, f106, f107, f108, f109, f110, f111, f112, f113, f114, f115, f116, f117, f118, f119, f120, f121, f122, f123, f124, f125, f126, f127, f128, f129, f130, f131, f132, f133, f134, f135, f136, f137, f138, f139, f140, f141, f142, f143, f144, f145, f146, f147, f148, f149, f150, f151, f152, f153, f154, f155, f156, f157, f158, f159, f160, f161, f162, f163, f164, f165, f166, x167, x168, x169, x170, x171, x172, x173, x174, x175, x176, x177, x178, x179, x180, x181, x182, x183, x184, f185], []⟩ W')) :
    (lp 39 Tryz.f18).wp Tryz.prog Q ⟨#[Value.slice a L.length cap, f1, Value.pointer (some ⟨w.heap.size, 0, none⟩), Value.pointer (some ⟨w.heap.size + 1, 0, none⟩), Value.int .i64 (n : Nat), f5, f6, f7, f8, f9, f10, f11, Value.int .i64 0, f13, f14, f15, f16, f17, f18, f19, f20, f21, f22, f23, f24, f25, f26, f27, f28, f29, f30, f31, f32, f33, f34, f35, f36, f37, f38, f39, f40, f41, f42, f43, f44, f45, f46, f47, f48, f49, f50, f51, f52, f53, f54, f55, f56, f57, f58, f59, f60, f61, f62, f63, f64, f65, f66, f67, f68, f69, f70, f71, f72, f73, f74, f75, f76, f77, f78, f79, f80, f81, f82, f83, f84, f85, f86, f87, f88, f89, f90, f91, f92, f93, f94, f95, f96, f97, f98, f99, f100, f101, f102, f103, f104, f105, f106, f107, f108, f109, f110, f111, f112, f113, f114, f115, f116, f117, f118, f119, f120, f121, f122, f123, f124, f125, f126, f127, f128, f129, f130, f131, f132, f133, f134, f135, f136, f137, f138, f139, f140, f141, f142, f143, f144, f145, f146, f147, f148, f149, f150, f151, f152, f153, f154, f155, f156, f157, f158, f159, f160, f161, f162, f163, f164, f165, f166, f167, f168, f169, f170, f171, f172, f173, f174, f175, f176, f177, f178, f179, f180, f181, f182, f183, f184, f185], []⟩ W0 := by
  conv => arg 2; whnf
  dsimp only
  have SMC : Hid (∀ x : Int, Few { T with window := x }) := Lib.hid (fun x => ⟨sm.groups, sm.rows⟩)
  go_loopw [12] (fun i wr => ∃ q : Nat, q ≤ n ∧ i = .int .i64 q ∧ (T.rails.length = 0 → q = 0) ∧ Bx w hd { T with window := maxW T q } wr) (fun i _ => n - (intOf i).toNat)
  case atStart => exact ⟨0, by omega, rfl, fun _ => rfl, BX.out⟩
  case round =>
    obtain ⟨q, hq, rfl, hq0, hbx⟩ := hrel
    have HB := Lib.hid hbx
    clear hbx BX
    have NX : Hid (maxW T (q + 1) = max (maxW T q) (WaitS.waitS T q)) := Lib.hid rfl
    obtain ⟨sg, sd, ⟨ra, rc⟩, sb⟩ := hd
    have c114 : wr.cell? ⟨w.heap.size + 1, 114, none⟩ = some (.slice ra T.rails.length rc) := by rw [HB.out.cell, ← List.getElem?_toArray]; exact (cells_ok HB.out.tab).r
    by_cases hlt : q < n
    · by_cases hr : T.rails.length = 0
      · have hq1 := hq0 hr
        have HQ2 : Hid ((if T.rails.length = 0 then 0 else maxW T n) = maxW T q) := Lib.hid (by rw [if_pos hr, hq1]; rfl)
        have HB2 : Hid (Bx w ⟨sg, sd, ⟨ra, rc⟩, sb⟩ { T with window := if T.rails.length = 0 then 0 else maxW T n } wr) := Lib.hid (by rw [HQ2.out]; exact HB.out)
        clear HQ2 HB NX hq0
        go_wp2
        exact HQ.out _ _ _ _ _ _ _ _ _ _ _ _ _ _ _ _ _ _ _ _ HB2.out
      · generalize maxW T q = m at *
        have WC : Hid (∀ W, Bx w ⟨sg, sd, ⟨ra, rc⟩, sb⟩ { T with window := m } W → Calls Tryz.prog 48 #[.agg (({ T with window := m } : Tab).cells ⟨sg, sd, ⟨ra, rc⟩, sb⟩).toArray, .int .i64 q] W fun e w' => e = .returned (.int .i64 (WaitS.waitS T q)) ∧ Below W.heap.size W w') := Lib.hid (fun W hb => by
          have := WaitS.wait_any { T with window := m } ⟨sg, sd, ⟨ra, rc⟩, sb⟩ q W hb.tab (SMC.out m) few
          rw [wait_win] at this
          exact this)
        have IA : Hid ((Tryz.prog.info? 31).map (·.size) = some (({ T with window := m } : Tab).cells ⟨sg, sd, ⟨ra, rc⟩, sb⟩).length) := Lib.hid (by rw [cells_cut _ HB.out.ph HB.out.cf HB.out.fl]; exact May.infoT)
        generalize WaitS.waitS T q = z at NX WC
        generalize hcs : ({ T with window := m } : Tab).cells ⟨sg, sd, ⟨ra, rc⟩, sb⟩ = cs at WC IA
        go_upto_region 41 with fail
        clear c114
        refine wp_region_held (S := fun _ => True) (by kernel_rfl) ?_
        have hS : True := trivial
        have hb : Bx w ⟨sg, sd, ⟨ra, rc⟩, sb⟩ { T with window := m } { wr with drawn := wr.drawn + 1 } := HB.out.step (Below.refl _ _).drew
        generalize ({ wr with drawn := wr.drawn + 1 } : World) = v at hb ⊢
        clear HB
        refine Held.take (i := 0) (some 178) rfl (v := ?_) rfl (by kernel_rfl) (by kernel_rfl) (by kernel_rfl) (fun _ _ _ h => HP _ _ _ _ _ h) (Or.inl ⟨by rfl, ?_⟩) hS ?_
        rotate_left
        · intro w' hw'
          go_simp
          try with_reducible rfl
        (try dsimp only [Act.put]); (try simp only [List.setIfInBounds_toArray, List.set_cons_zero, List.set_cons_succ])
        refine Held.take (i := 3) (some 181) rfl (v := ?_) rfl (by kernel_rfl) (by kernel_rfl) (by kernel_rfl) (fun _ _ _ h => HP _ _ _ _ _ h) (Or.inl ⟨by rfl, ?_⟩) hS ?_
        rotate_left
        · intro w' hw'
          go_simp
          try with_reducible rfl
        (try dsimp only [Act.put]); (try simp only [List.setIfInBounds_toArray, List.set_cons_zero, List.set_cons_succ])
        refine wpAnyH_ready (rs := [1, 2]) (by kernel_rfl) (by simp) (AllReadyH.cons rfl (fun K hK => ?_) (AllReadyH.cons rfl (fun K hK => ?_) AllReadyH.nil))
        · have c4 : v.cell? ⟨w.heap.size + 1, 129, none⟩ = some (.int .i64 m) := by rw [hb.cell, ← List.getElem?_toArray]; exact (cells_ok hb.tab).window
          go_simp
          refine hK.out _ _ trivial (fun _ => ?_)
          clear hK K
          clear c4
          refine wpAnyH_ready (rs := [2]) (by kernel_rfl) (by simp) (AllReadyH.cons rfl (fun K hK => ?_) AllReadyH.nil)
          rw [if_pos (by rfl)]
          have LT : Lies v ⟨w.heap.size + 1, 0, none⟩ cs := by have := Row.lies_of_block hb.blk; rw [hcs] at this; simpa using this
          refine Row.wp_load_lies 31 _ rfl ⟨w.heap.size + 1, 0, none⟩ rfl cs _ LT Tryz.underlying31 rfl IA.out ?_
          (try dsimp only [Act.put]); (try simp only [List.setIfInBounds_toArray, List.set_cons_zero, List.set_cons_succ])
          refine hK.out _ _ trivial (fun _ => ?_)
          clear hK K
          clear LT
          refine wpAnyH_ready (rs := [4]) (by kernel_rfl) (by simp) (AllReadyH.cons rfl (fun K hK => ?_) AllReadyH.nil)
          go_simp
          refine (WC.out _ hb).mono ?_
          rintro e v2 ⟨rfl, hbb⟩
          replace hb := hb.step hbb
          clear hbb
          rename World => v
          go_simp
          refine hK.out _ _ trivial (fun _ => ?_)
          clear hK K
          refine Held.take (i := 5) (some 183) rfl (v := .int .i64 (max m z)) rfl (by kernel_rfl) (by kernel_rfl) (by kernel_rfl) (fun _ _ _ h => HP _ _ _ _ _ h) (Or.inl ⟨by rfl, ?_⟩) hS ?_
          · intro w' hw'
            go_simp
            try (first | rfl | (simp only [Int.max_def]; split <;> split <;> omega))
          (try dsimp only [Act.put]); (try simp only [List.setIfInBounds_toArray, List.set_cons_zero, List.set_cons_succ])
          refine Held.take (i := 6) (some 184) rfl (v := ?_) rfl (by kernel_rfl) (by kernel_rfl) (by kernel_rfl) (fun _ _ _ h => HP _ _ _ _ _ h) (Or.inl ⟨by rfl, ?_⟩) hS ?_
          rotate_left
          · intro w' hw'
            go_simp
            try with_reducible rfl
          (try dsimp only [Act.put]); (try simp only [List.setIfInBounds_toArray, List.set_cons_zero, List.set_cons_succ])
          refine wpAnyH_ready (rs := [7]) (by kernel_rfl) (by simp) (AllReadyH.cons rfl (fun K hK => ?_) AllReadyH.nil)
          have c5 : v.cell? ⟨w.heap.size + 1, 129, none⟩ = some (.int .i64 m) := by rw [hb.cell, ← List.getElem?_toArray]; exact (cells_ok hb.tab).window
          have f5 := hb.frozen 129
          have HG := Lib.hid (hb.set 129 (I (max m z)) (cells_window ⟨sg, sd, ⟨ra, rc⟩, sb⟩ hb.ph hb.cf hb.fl (max m z)) hb.ph hb.cf hb.fl rfl rfl rfl rfl)
          clear hb
          go_simp
          refine hK.out _ _ trivial (fun _ => ?_)
          clear hK K
          refine wpAnyH_done (by kernel_rfl) ?_ _
          clear hS c5 f5
          go_wp2
          go_roundw
          case rel => exact ⟨q + 1, by omega, by go_num, fun e => (hr e).elim, by rw [NX.out]; exact HG.out⟩
          case measure => simp [intOf]; omega
        · rw [if_pos (by rfl)]
          have LT : Lies v ⟨w.heap.size + 1, 0, none⟩ cs := by have := Row.lies_of_block hb.blk; rw [hcs] at this; simpa using this
          refine Row.wp_load_lies 31 _ rfl ⟨w.heap.size + 1, 0, none⟩ rfl cs _ LT Tryz.underlying31 rfl IA.out ?_
          (try dsimp only [Act.put]); (try simp only [List.setIfInBounds_toArray, List.set_cons_zero, List.set_cons_succ])
          refine hK.out _ _ trivial (fun _ => ?_)
          clear hK K
          clear LT
          refine wpAnyH_ready (rs := [1, 4]) (by kernel_rfl) (by simp) (AllReadyH.cons rfl (fun K hK => ?_) (AllReadyH.cons rfl (fun K hK => ?_) AllReadyH.nil))
          · have c4 : v.cell? ⟨w.heap.size + 1, 129, none⟩ = some (.int .i64 m) := by rw [hb.cell, ← List.getElem?_toArray]; exact (cells_ok hb.tab).window
            go_simp
            refine hK.out _ _ trivial (fun _ => ?_)
            clear hK K
            clear c4
            refine wpAnyH_ready (rs := [4]) (by kernel_rfl) (by simp) (AllReadyH.cons rfl (fun K hK => ?_) AllReadyH.nil)
            go_simp
            refine (WC.out _ hb).mono ?_
            rintro e v2 ⟨rfl, hbb⟩
            replace hb := hb.step hbb
            clear hbb
            rename World => v
            go_simp
            refine hK.out _ _ trivial (fun _ => ?_)
            clear hK K
            refine Held.take (i := 5) (some 183) rfl (v := .int .i64 (max m z)) rfl (by kernel_rfl) (by kernel_rfl) (by kernel_rfl) (fun _ _ _ h => HP _ _ _ _ _ h) (Or.inl ⟨by rfl, ?_⟩) hS ?_
            · intro w' hw'
              go_simp
              try (first | rfl | (simp only [Int.max_def]; split <;> split <;> omega))
            (try dsimp only [Act.put]); (try simp only [List.setIfInBounds_toArray, List.set_cons_zero, List.set_cons_succ])
            refine Held.take (i := 6) (some 184) rfl (v := ?_) rfl (by kernel_rfl) (by kernel_rfl) (by kernel_rfl) (fun _ _ _ h => HP _ _ _ _ _ h) (Or.inl ⟨by rfl, ?_⟩) hS ?_
            rotate_left
            · intro w' hw'
              go_simp
              try with_reducible rfl
            (try dsimp only [Act.put]); (try simp only [List.setIfInBounds_toArray, List.set_cons_zero, List.set_cons_succ])
            refine wpAnyH_ready (rs := [7]) (by kernel_rfl) (by simp) (AllReadyH.cons rfl (fun K hK => ?_) AllReadyH.nil)
            have c5 : v.cell? ⟨w.heap.size + 1, 129, none⟩ = some (.int .i64 m) := by rw [hb.cell, ← List.getElem?_toArray]; exact (cells_ok hb.tab).window
            have f5 := hb.frozen 129
            have HG := Lib.hid (hb.set 129 (I (max m z)) (cells_window ⟨sg, sd, ⟨ra, rc⟩, sb⟩ hb.ph hb.cf hb.fl (max m z)) hb.ph hb.cf hb.fl rfl rfl rfl rfl)
            clear hb
            go_simp
            refine hK.out _ _ trivial (fun _ => ?_)
            clear hK K
            refine wpAnyH_done (by kernel_rfl) ?_ _
            clear hS c5 f5
            go_wp2
            go_roundw
            case rel => exact ⟨q + 1, by omega, by go_num, fun e => (hr e).elim, by rw [NX.out]; exact HG.out⟩
            case measure => simp [intOf]; omega
          · go_simp
            refine (WC.out _ hb).mono ?_
            rintro e v2 ⟨rfl, hbb⟩
            replace hb := hb.step hbb
            clear hbb
            rename World => v
            go_simp
            refine hK.out _ _ trivial (fun _ => ?_)
            clear hK K
            refine wpAnyH_ready (rs := [1]) (by kernel_rfl) (by simp) (AllReadyH.cons rfl (fun K hK => ?_) AllReadyH.nil)
            have c4 : v.cell? ⟨w.heap.size + 1, 129, none⟩ = some (.int .i64 m) := by rw [hb.cell, ← List.getElem?_toArray]; exact (cells_ok hb.tab).window
            go_simp
            refine hK.out _ _ trivial (fun _ => ?_)
            clear hK K
            clear c4
            refine Held.take (i := 5) (some 183) rfl (v := .int .i64 (max m z)) rfl (by kernel_rfl) (by kernel_rfl) (by kernel_rfl) (fun _ _ _ h => HP _ _ _ _ _ h) (Or.inl ⟨by rfl, ?_⟩) hS ?_
            · intro w' hw'
              go_simp
              try (first | rfl | (simp only [Int.max_def]; split <;> split <;> omega))
            (try dsimp only [Act.put]); (try simp only [List.setIfInBounds_toArray, List.set_cons_zero, List.set_cons_succ])
            refine Held.take (i := 6) (some 184) rfl (v := ?_) rfl (by kernel_rfl) (by kernel_rfl) (by kernel_rfl) (fun _ _ _ h => HP _ _ _ _ _ h) (Or.inl ⟨by rfl, ?_⟩) hS ?_
            rotate_left
            · intro w' hw'
              go_simp
              try with_reducible rfl
            (try dsimp only [Act.put]); (try simp only [List.setIfInBounds_toArray, List.set_cons_zero, List.set_cons_succ])
            refine wpAnyH_ready (rs := [7]) (by kernel_rfl) (by simp) (AllReadyH.cons rfl (fun K hK => ?_) AllReadyH.nil)
            have c5 : v.cell? ⟨w.heap.size + 1, 129, none⟩ = some (.int .i64 m) := by rw [hb.cell, ← List.getElem?_toArray]; exact (cells_ok hb.tab).window
            have f5 := hb.frozen 129
            have HG := Lib.hid (hb.set 129 (I (max m z)) (cells_window ⟨sg, sd, ⟨ra, rc⟩, sb⟩ hb.ph hb.cf hb.fl (max m z)) hb.ph hb.cf hb.fl rfl rfl rfl rfl)
            clear hb
            go_simp
            refine hK.out _ _ trivial (fun _ => ?_)
            clear hK K
            refine wpAnyH_done (by kernel_rfl) ?_ _
            clear hS c5 f5
            go_wp2
            go_roundw
            case rel => exact ⟨q + 1, by omega, by go_num, fun e => (hr e).elim, by rw [NX.out]; exact HG.out⟩
            case measure => simp [intOf]; omega
    · have hqe : q = n := by omega
      by_cases hr : T.rails.length = 0
      · have hq1 := hq0 hr
        have HB2 : Hid (Bx w ⟨sg, sd, ⟨ra, rc⟩, sb⟩ { T with window := if T.rails.length = 0 then 0 else maxW T n } wr) := Lib.hid (by rw [if_pos hr]; have := HB.out; rw [hq1] at this; exact this)
        clear HB NX hq0 hq1
        subst hqe
        go_wp2
        exact HQ.out _ _ _ _ _ _ _ _ _ _ _ _ _ _ _ _ _ _ _ _ HB2.out
      · have HB2 : Hid (Bx w ⟨sg, sd, ⟨ra, rc⟩, sb⟩ { T with window := if T.rails.length = 0 then 0 else maxW T n } wr) := Lib.hid (by rw [if_neg hr]; have := HB.out; rw [hqe] at this; exact this)
        clear HB NX hq0
        subst hqe
        go_wp2
        exact HQ.out _ _ _ _ _ _ _ _ _ _ _ _ _ _ _ _ _ _ _ _ HB2.out
end GenT
end Go.Proofs.YtggjconbgpfomaaGreat
