/- 4 texts in one file, in build order. -/
import Derived.Test.YtkccepdifgldeaaDoorRows
import Derived.Test.YtkccepdifgldeaaDoorPart07
import Derived.Deep.Cut
import Derived.LoopTactic
import Derived.Great.BuildSlice
import Derived.Test.YtkccepdifgldeaaDoorPart08
set_option linter.unusedVariables false
set_option linter.unusedSimpArgs false
set_option linter.unusedSectionVars false
set_option maxHeartbeats 8000000
set_option maxRecDepth 100000
namespace Go.Proofs.YtkccepdifgldeaaDoor
namespace GenT
open Go.ChangeShapes Go.WideShapes Go.ChangeAt Go.RowKit
open Tab Gath GenG Clone PlaceM CodeAt
open RefS (num num_range from_any)
theorem built_bus (x y : Int) : Tryd.prog.built 53 [(0, I x), (1, I y)] = some #[I x, I y] := by kernel_rfl
theorem infoBz3 : (Tryd.prog.info? 53).map (fun i => (i.zero, i.size, i.bytes)) = some (some (.agg #[I 0, I 0]), 2, 16) := by kernel_rfl
theorem loop_buses {Q : Exit → Act → World → Prop} (a : Option Addr) (cap : Nat) (L : List Int) (w W0 : World) (hd : Hd) (T : Tab) (n : Nat) (hn : n ≤ 8) (n0 : 0 < n) (k : Nat) (hk : k ≤ 20) {f1 f5 f6 f7 f8 f9 f10 f12 f13 f14 f15 f16 f17 f18 f19 f20 f21 f22 f23 f24 f25 f26 f27 f28 f29 f30 f31 f32 f33 f34 f35 f36 f37 f38 f39 f40 f41 f42 f43 f44 f45 f46 f47 f48 f49 f50 f51 f52 f53 f54 f55 f56 f57 f58 f59 f60 f61 f62 f63 f64 f65 f66 f67 f68 f69 f70 f71 f72 f73 f74 f75 f76 f77 f78 f79 f80 f81 f82 f83 f84 f85 f86 f87 f88 f89 f90 f91 f92 f93 f94 f95 f96 f97 f98 f99 f100 f101 f102 f103 f104 f105 f106 f107 f108 f109 f110 f111 f112 f113 f114 f115 f116 f117 f118 f119 f120 f121 f122 f123 f124 f125 f126 f127 f128 f129 f130 f131 f132 f133 f134 f135 f136 f137 f138 f139 f140 f141 f142 f143 f144 f145 f146 f147 f148 f149 f150 f151 f152 f153 f154 f155 f156 f157 f158 f159 f160 f161 f162 f163 f164 f165 f166 f167 f168 f169 f170 f171 f172 f173 f174 f175 f176 f177 f178 f179 f180 f181 f182 f183 f184 f185 : Value}
    (HL : Hid (∀ W, Below w.heap.size w W → IntRow W ⟨a, cap⟩ L)) (s0 : Sl) (BX : Hid (Bx w ⟨hd.g, hd.d, hd.r, s0⟩ { T with buses := [] } W0))
    (HP : ∀ c a d v w, Q (.panic c) (a.put d v) w → Q (.panic c) a w) (HQ : Hid (∀ (x11 x122 x123 x124 x125 x126 x127 x128 x129 x130 x131 x132 x133 x134 x135 x136 x137 x138 x139 x140 x141 x142 x143 x144 x145 x146 x147 x148 : Value) (W' : World) (s1 : Sl), Bx w ⟨hd.g, hd.d, hd.r, s1⟩ { T with buses := down (fun i : Nat => genBs L i n) k k } W' → Q (.exit 10) ⟨#[Value.slice a L.length cap, f1, Value.pointer (some ⟨w.heap.size, 0, none⟩), Value.pointer (some ⟨w.heap.size + 1, 0, none⟩), Value.int .i64 (n : Nat), f5, f6, f7, f8, f9, f10, x11, f12, f13, f14, f15, f16, f17, f18, f19, f20, f21, f22, f23, f24, f25, f26, f27, f28, f29, f30, f31, f32, f33, f34, f35, f36, f37, f38, f39, f40, f41, f42, f43, f44, f45, f46, f47, f48, f49, f50, f51, f52, f53, f54, f55, f56, f57, f58, f59, f60, f61, f62, f63, f64, f65, f66, f67, f68, f69, f70, f71, f72, f73, f74, f75, f76, f77, f78, f79, f80, f81, f82, f83, f84, f85, f86, f87, f88, f89, f90, f91, f92, f93, f94, f95, f96, f97, f98, f99, f100, f101, f102, f103, f104, f105, f106, f107, f108, f109, f110, f111, f112, f113, f114, f115, f116, f117, f118, f119, f120, f121, x122, x123, x124, x125, x126, x127, x128, x129, x130, x131, x132, x133, x134, x135, x136, x137, x138, x139, x140, x141, x142, x143, x144, x145, x146, x147, x148, f149, f150, f151, f152, f153, f154, f155, f156, f157, f158, f159, f160, f161, f162, f163, f164, f165, f166, f167, f168, f169, f170, f171, f172, f173, f174, f175, f176, f177, f178, f179, f180, f181, f182, f183, f184, f185], []⟩ W')) :
    (lp 29 Tryd.f18).wp Tryd.prog Q ⟨#[Value.slice a L.length cap, f1, Value.pointer (some ⟨w.heap.size, 0, none⟩), Value.pointer (some ⟨w.heap.size + 1, 0, none⟩), Value.int .i64 (n : Nat), f5, f6, f7, f8, f9, f10, Value.int .i64 (k : Nat), f12, f13, f14, f15, f16, f17, f18, f19, f20, f21, f22, f23, f24, f25, f26, f27, f28, f29, f30, f31, f32, f33, f34, f35, f36, f37, f38, f39, f40, f41, f42, f43, f44, f45, f46, f47, f48, f49, f50, f51, f52, f53, f54, f55, f56, f57, f58, f59, f60, f61, f62, f63, f64, f65, f66, f67, f68, f69, f70, f71, f72, f73, f74, f75, f76, f77, f78, f79, f80, f81, f82, f83, f84, f85, f86, f87, f88, f89, f90, f91, f92, f93, f94, f95, f96, f97, f98, f99, f100, f101, f102, f103, f104, f105, f106, f107, f108, f109, f110, f111, f112, f113, f114, f115, f116, f117, f118, f119, f120, f121, f122, f123, f124, f125, f126, f127, f128, f129, f130, f131, f132, f133, f134, f135, f136, f137, f138, f139, f140, f141, f142, f143, f144, f145, f146, f147, f148, f149, f150, f151, f152, f153, f154, f155, f156, f157, f158, f159, f160, f161, f162, f163, f164, f165, f166, f167, f168, f169, f170, f171, f172, f173, f174, f175, f176, f177, f178, f179, f180, f181, f182, f183, f184, f185], []⟩ W0 := by
  conv => arg 2; whnf
  dsimp only
  obtain ⟨j0, hj, hy0, hy1, hy2⟩ := info_parts infoBz3
  go_loopw [11] (fun i wr => ∃ j : Nat, j ≤ k ∧ i = .int .i64 (k - j : Nat) ∧ ∃ s, Bx w ⟨hd.g, hd.d, hd.r, s⟩ { T with buses := down (fun i : Nat => genBs L i n) k j } wr) (fun i _ => (intOf i).toNat)
  case atStart => exact ⟨0, by omega, by go_num, s0, BX.out⟩
  case round =>
    obtain ⟨j, hjk, rfl, ⟨da, dc⟩, hbx⟩ := hrel
    have HB := Lib.hid hbx
    clear hbx BX
    by_cases hlt : j < k
    · obtain ⟨i, hi⟩ : ∃ i : Nat, i = k - j := ⟨_, rfl⟩
      have NX : Hid (down (fun i : Nat => genBs L i n) k (j + 1) = down (fun i : Nat => genBs L i n) k j ++ [(genBs L i n)]) := Lib.hid (by rw [down, ← hi])
      have DL : Hid ((down (fun i : Nat => genBs L i n) k j).length = j) := Lib.hid (down_len _ _ _)
      generalize down (fun i : Nat => genBs L i n) k j = D at *
      have HI := Lib.hid hi
      have hi0 : 0 < i := by omega
      have hi9 : i ≤ 20 := by omega
      rw [← hi]
      clear hi
      have e1 : IntKind.i64.wrap (2 * (i : Int)) = 2 * i := by rw [IntKind.wrap_i64]; omega
      have e2 : IntKind.i64.wrap (330 + 2 * (i : Int)) = 330 + 2 * i := by rw [IntKind.wrap_i64]; omega
      have e3 : IntKind.i64.wrap (331 + 2 * (i : Int)) = 331 + 2 * i := by rw [IntKind.wrap_i64]; omega
      obtain ⟨x1, hx1, F1⟩ : ∃ x : Int, x = num L (330 + 2 * i) 256 ∧ Hid (∀ W, Below w.heap.size w W → Calls Tryd.prog 33 #[.slice a L.length cap, .int .i64 (330 + 2 * i), .int .i64 256] W fun e w' => e = .returned (.int .i64 x) ∧ w' = W) := ⟨_, rfl, Lib.hid (fun W hb => (from_any a cap L _ _ W (HL.out _ hb) (by omega) (by omega) (by omega)).mono fun _ _ ⟨e, q⟩ => ⟨e, q.symm⟩)⟩
      obtain ⟨x2, hx2, ⟨r2, s2⟩, F2⟩ : ∃ x : Int, x = num L (331 + 2 * i) 30 ∧ (0 ≤ x ∧ x < 30) ∧ Hid (∀ W, Below w.heap.size w W → Calls Tryd.prog 33 #[.slice a L.length cap, .int .i64 (331 + 2 * i), .int .i64 30] W fun e w' => e = .returned (.int .i64 x) ∧ w' = W) := ⟨_, rfl, num_range _ _ _ (by omega), Lib.hid (fun W hb => (from_any a cap L _ _ W (HL.out _ hb) (by omega) (by omega) (by omega)).mono fun _ _ ⟨e, q⟩ => ⟨e, q.symm⟩)⟩
      have HX : Hid ([I (max 1 (bits .and .i64 x1 (GenR.maskV n))), I (1 + x2)] = (genBs L i n).cells) := Lib.hid (by rw [hx1, hx2]; rfl)
      have e4 : IntKind.i64.wrap (1 + x2) = 1 + x2 := by rw [IntKind.wrap_i64]; omega
      clear hx1 hx2
      generalize genBs L i n = X at NX HX
      go_upto_region 31 with fail
      refine wp_region_held (S := fun _ => True) (by kernel_rfl) ?_
      have hS : True := trivial
      have hb : Bx w ⟨hd.g, hd.d, hd.r, ⟨da, dc⟩⟩ { T with buses := D } { wr with drawn := wr.drawn + 1 } := HB.out.step (Below.refl _ _).drew
      generalize ({ wr with drawn := wr.drawn + 1 } : World) = v at hb ⊢
      clear HB
      refine Held.take (i := 0) (some 126) rfl (v := ?_) rfl (by kernel_rfl) (by kernel_rfl) (by kernel_rfl) (fun _ _ _ h => HP _ _ _ _ _ h) (Or.inl ⟨by rfl, ?_⟩) hS ?_
      rotate_left
      · intro w' hw'
        go_simp
        try with_reducible rfl
      (try dsimp only [Act.put]); (try simp only [List.setIfInBounds_toArray, List.set_cons_zero, List.set_cons_succ])
      refine Held.take (i := 2) (some 128) rfl (v := ?_) rfl (by kernel_rfl) (by kernel_rfl) (by kernel_rfl) (fun _ _ _ h => HP _ _ _ _ _ h) (Or.inl ⟨by rfl, ?_⟩) hS ?_
      rotate_left
      · intro w' hw'
        go_simp
        try with_reducible rfl
      (try dsimp only [Act.put]); (try simp only [List.setIfInBounds_toArray, List.set_cons_zero, List.set_cons_succ])
      refine Held.take (i := 3) (some 129) rfl (v := ?_) rfl (by kernel_rfl) (by kernel_rfl) (by kernel_rfl) (fun _ _ _ h => HP _ _ _ _ _ h) (Or.inl ⟨by rfl, ?_⟩) hS ?_
      rotate_left
      · intro w' hw'
        go_simp
        try with_reducible rfl
      (try dsimp only [Act.put]); (try simp only [List.setIfInBounds_toArray, List.set_cons_zero, List.set_cons_succ])
      refine Held.take (i := 4) (some 130) rfl (v := ?_) rfl (by kernel_rfl) (by kernel_rfl) (by kernel_rfl) (fun _ _ _ h => HP _ _ _ _ _ h) (Or.inl ⟨by rfl, ?_⟩) hS ?_
      rotate_left
      · intro w' hw'
        go_simp
        try with_reducible rfl
      (try dsimp only [Act.put]); (try simp only [List.setIfInBounds_toArray, List.set_cons_zero, List.set_cons_succ])
      refine Held.take (i := 5) (some 131) rfl (v := ?_) rfl (by kernel_rfl) (by kernel_rfl) (by kernel_rfl) (fun _ _ _ h => HP _ _ _ _ _ h) (Or.inl ⟨by rfl, ?_⟩) hS ?_
      rotate_left
      · intro w' hw'
        go_simp
        try with_reducible rfl
      (try dsimp only [Act.put]); (try simp only [List.setIfInBounds_toArray, List.set_cons_zero, List.set_cons_succ])
      refine Held.take (i := 7) (some 133) rfl (v := ?_) rfl (by kernel_rfl) (by kernel_rfl) (by kernel_rfl) (fun _ _ _ h => HP _ _ _ _ _ h) (Or.inl ⟨by rfl, ?_⟩) hS ?_
      rotate_left
      · intro w' hw'
        go_simp
        try with_reducible rfl
      (try dsimp only [Act.put]); (try simp only [List.setIfInBounds_toArray, List.set_cons_zero, List.set_cons_succ])
      refine Held.take (i := 8) (some 134) rfl (v := ?_) rfl (by kernel_rfl) (by kernel_rfl) (by kernel_rfl) (fun _ _ _ h => HP _ _ _ _ _ h) (Or.inl ⟨by rfl, ?_⟩) hS ?_
      rotate_left
      · intro w' hw'
        go_simp
        try with_reducible rfl
      (try dsimp only [Act.put]); (try simp only [List.setIfInBounds_toArray, List.set_cons_zero, List.set_cons_succ])
      refine Held.take (i := 9) (some 135) rfl (v := ?_) rfl (by kernel_rfl) (by kernel_rfl) (by kernel_rfl) (fun _ _ _ h => HP _ _ _ _ _ h) (Or.inl ⟨by rfl, ?_⟩) hS ?_
      rotate_left
      · intro w' hw'
        go_simp
        try with_reducible rfl
      (try dsimp only [Act.put]); (try simp only [List.setIfInBounds_toArray, List.set_cons_zero, List.set_cons_succ])
      refine Held.take (i := 10) (some 136) rfl (v := .int .i64 (GenR.maskV n)) rfl (by kernel_rfl) (by kernel_rfl) (by kernel_rfl) (fun _ _ _ h => HP _ _ _ _ _ h) (Or.inl ⟨by rfl, ?_⟩) hS ?_
      · intro w' hw'
        go_simp
        try (first | rfl | (simp only [Int.max_def]; split <;> split <;> omega))
      (try dsimp only [Act.put]); (try simp only [List.setIfInBounds_toArray, List.set_cons_zero, List.set_cons_succ])
      refine Held.take (i := 13) (some 139) rfl (v := ?_) rfl (by kernel_rfl) (by kernel_rfl) (by kernel_rfl) (fun _ _ _ h => HP _ _ _ _ _ h) (Or.inl ⟨by rfl, ?_⟩) hS ?_
      rotate_left
      · intro w' hw'
        go_simp
        try with_reducible rfl
      (try dsimp only [Act.put]); (try simp only [List.setIfInBounds_toArray, List.set_cons_zero, List.set_cons_succ])
      refine Held.take (i := 14) (some 140) rfl (v := ?_) rfl (by kernel_rfl) (by kernel_rfl) (by kernel_rfl) (fun _ _ _ h => HP _ _ _ _ _ h) (Or.inl ⟨by rfl, ?_⟩) hS ?_
      rotate_left
      · intro w' hw'
        go_simp
        try with_reducible rfl
      (try dsimp only [Act.put]); (try simp only [List.setIfInBounds_toArray, List.set_cons_zero, List.set_cons_succ])
      refine Held.take (i := 15) (some 141) rfl (v := ?_) rfl (by kernel_rfl) (by kernel_rfl) (by kernel_rfl) (fun _ _ _ h => HP _ _ _ _ _ h) (Or.inl ⟨by rfl, ?_⟩) hS ?_
      rotate_left
      · intro w' hw'
        go_simp
        try with_reducible rfl
      (try dsimp only [Act.put]); (try simp only [List.setIfInBounds_toArray, List.set_cons_zero, List.set_cons_succ])
      refine Held.take (i := 16) (some 142) rfl (v := ?_) rfl (by kernel_rfl) (by kernel_rfl) (by kernel_rfl) (fun _ _ _ h => HP _ _ _ _ _ h) (Or.inl ⟨by rfl, ?_⟩) hS ?_
      rotate_left
      · intro w' hw'
        go_simp
        try with_reducible rfl
      (try dsimp only [Act.put]); (try simp only [List.setIfInBounds_toArray, List.set_cons_zero, List.set_cons_succ])
      refine wpAnyH_ready (rs := [1, 6]) (by kernel_rfl) (by simp) (AllReadyH.cons rfl (fun K hK => ?_) (AllReadyH.cons rfl (fun K hK => ?_) AllReadyH.nil))
      · have c4 : v.cell? ⟨w.heap.size + 1, 115, none⟩ = some (.slice da D.length dc) := by rw [hb.cell, ← List.getElem?_toArray]; exact (cells_ok hb.tab).b
        go_simp
        refine hK.out _ _ trivial (fun _ => ?_)
        clear hK K
        clear c4
        refine wpAnyH_ready (rs := [6]) (by kernel_rfl) (by simp) (AllReadyH.cons rfl (fun K hK => ?_) AllReadyH.nil)
        go_simp
        refine (F1.out _ hb.bel).mono ?_
        rintro e w' ⟨rfl, hq⟩
        subst w'
        go_simp
        refine hK.out _ _ trivial (fun _ => ?_)
        clear hK K
        refine Held.take (i := 11) (some 137) rfl (v := .int .i64 (bits .and .i64 x1 (GenR.maskV n))) rfl (by kernel_rfl) (by kernel_rfl) (by kernel_rfl) (fun _ _ _ h => HP _ _ _ _ _ h) (Or.inl ⟨by rfl, ?_⟩) hS ?_
        · intro w' hw'
          go_simp
          try (first | rfl | (simp only [Int.max_def]; split <;> split <;> omega))
        (try dsimp only [Act.put]); (try simp only [List.setIfInBounds_toArray, List.set_cons_zero, List.set_cons_succ])
        refine Held.take (i := 12) (some 138) rfl (v := .int .i64 (max 1 (bits .and .i64 x1 (GenR.maskV n)))) rfl (by kernel_rfl) (by kernel_rfl) (by kernel_rfl) (fun _ _ _ h => HP _ _ _ _ _ h) (Or.inl ⟨by rfl, ?_⟩) hS ?_
        · intro w' hw'
          go_simp
          try (first | rfl | (simp only [Int.max_def]; split <;> split <;> omega))
        (try dsimp only [Act.put]); (try simp only [List.setIfInBounds_toArray, List.set_cons_zero, List.set_cons_succ])
        refine wpAnyH_ready (rs := [17]) (by kernel_rfl) (by simp) (AllReadyH.cons rfl (fun K hK => ?_) AllReadyH.nil)
        go_simp
        refine (F2.out _ hb.bel).mono ?_
        rintro e w' ⟨rfl, hq⟩
        subst w'
        go_simp
        refine hK.out _ _ trivial (fun _ => ?_)
        clear hK K
        refine Held.take (i := 18) (some 144) rfl (v := .int .i64 (1 + x2)) rfl (by kernel_rfl) (by kernel_rfl) (by kernel_rfl) (fun _ _ _ h => HP _ _ _ _ _ h) (Or.inl ⟨by rfl, ?_⟩) hS ?_
        · intro w' hw'
          go_simp
          try (first | rfl | (simp only [Int.max_def]; split <;> split <;> omega))
        (try dsimp only [Act.put]); (try simp only [List.setIfInBounds_toArray, List.set_cons_zero, List.set_cons_succ])
        refine Held.take_build (i := 19) (some 145) rfl 53 _ #[I (max 1 (bits .and .i64 x1 (GenR.maskV n))), I (1 + x2)] rfl rfl (by kernel_rfl) (by kernel_rfl) (by kernel_rfl) (fun _ _ _ h => HP _ _ _ _ _ h) (by rfl) hS (by simp only [List.map_toArray, List.map_cons, List.map_nil]; exact built_bus _ _) ?_
        (try dsimp only [Act.put]); (try simp only [List.setIfInBounds_toArray, List.set_cons_zero, List.set_cons_succ])
        refine wpAnyH_ready (rs := [20]) (by kernel_rfl) (by simp) (AllReadyH.cons rfl (fun K hK => ?_) AllReadyH.nil)
        go_simp
        have hbw : Below v.heap.size v (v.alloc (.cells #[I (max 1 (bits .and .i64 x1 (GenR.maskV n))), I (1 + x2)] 53)) := (Below.refl _ _).alloc (Nat.le_refl _) _
        have hN := heap_alloc_new v (.cells #[I (max 1 (bits .and .i64 x1 (GenR.maskV n))), I (1 + x2)] 53)
        replace hb := hb.step hbw
        clear hbw
        generalize hbn : v.heap.size = bn at hN ⊢
        clear hbn
        generalize World.alloc v (.cells #[I (max 1 (bits .and .i64 x1 (GenR.maskV n))), I (1 + x2)] 53) = v at hb hN ⊢
        refine hK.out _ _ trivial (fun _ => ?_)
        clear hK K
        refine wpAnyH_ready (rs := [21]) (by kernel_rfl) (by simp) (AllReadyH.cons rfl (fun K hK => ?_) AllReadyH.nil)
        rw [if_pos (by rfl)]
        have hown2 : v.ownsRow w.heap.size 53 2 (.slice da D.length dc) D.length (D.flatMap Bs.cells) := hb.buses
        refine wp_append_own _ _ _ _ rfl w.heap.size 53 j0 (.agg #[I 0, I 0]) 2 16 Tryd.underlying29 hj hy0 hy1 hy2 rfl (by decide) (.slice da D.length dc) D.length _ rfl hown2 ⟨bn, 0, none⟩ 1 1 [I (max 1 (bits .and .i64 x1 (GenR.maskV n))), I (1 + x2)] rfl rfl ?c1 ?c2 ?c3 ?c4 hb.bel.size ?_
        case c1 =>
          intro j e hj
          exact Row.lies_of_block hN j e hj
        case c2 => intro e he; have h1 := (show (#[I (max 1 (bits .and .i64 x1 (GenR.maskV n))), I (1 + x2)] : Array Value).all (·.oneCell') = true from by simp [Value.oneCell']); exact (Array.all_eq_true_iff_forall_mem.1 h1) e (by simpa using he)
        case c3 => unfold maxLen; have := DL.out; omega
        case c4 => have := DL.out; omega
        intro v' w5 hown' hgrow hnil'
        rw [HX.out] at hown'
        obtain ⟨hbk, a', c', rfl, hG⟩ := hb.put_buses X hgrow hown'
        have c5 : w5.cell? ⟨w.heap.size + 1, 115, none⟩ = some (.slice da D.length dc) := by rw [cell_of_row _ _ _ _ _ _ hbk]; exact (cells_ok hb.tab).b
        have f5 : w5.frozen? ⟨w.heap.size + 1, 115, none⟩ = false := frozen_of_row _ _ _ _ _ hbk
        have HG := Lib.hid hG
        clear hown' hgrow hown2 hnil' hbk hG hb hN
        refine hK.out _ _ trivial (fun _ => ?_)
        clear hK K
        refine Held.take (i := 22) (some 148) rfl (v := ?_) rfl (by kernel_rfl) (by kernel_rfl) (by kernel_rfl) (fun _ _ _ h => HP _ _ _ _ _ h) (Or.inl ⟨by rfl, ?_⟩) hS ?_
        rotate_left
        · intro w' hw'
          go_simp
          try with_reducible rfl
        (try dsimp only [Act.put]); (try simp only [List.setIfInBounds_toArray, List.set_cons_zero, List.set_cons_succ])
        refine wpAnyH_ready (rs := [23]) (by kernel_rfl) (by simp) (AllReadyH.cons rfl (fun K hK => ?_) AllReadyH.nil)
        go_simp
        refine hK.out _ _ trivial (fun _ => ?_)
        clear hK K
        refine wpAnyH_done (by kernel_rfl) ?_ _
        clear hS c5 f5
        go_wp2
        go_roundw
        case rel => exact ⟨j + 1, by omega, by have := HI.out; go_num, _, by rw [NX.out]; exact HG.out⟩
        case measure => simp [intOf]; have := HI.out; omega
      · go_simp
        refine (F1.out _ hb.bel).mono ?_
        rintro e w' ⟨rfl, hq⟩
        subst w'
        go_simp
        refine hK.out _ _ trivial (fun _ => ?_)
        clear hK K
        refine Held.take (i := 11) (some 137) rfl (v := .int .i64 (bits .and .i64 x1 (GenR.maskV n))) rfl (by kernel_rfl) (by kernel_rfl) (by kernel_rfl) (fun _ _ _ h => HP _ _ _ _ _ h) (Or.inl ⟨by rfl, ?_⟩) hS ?_
        · intro w' hw'
          go_simp
          try (first | rfl | (simp only [Int.max_def]; split <;> split <;> omega))
        (try dsimp only [Act.put]); (try simp only [List.setIfInBounds_toArray, List.set_cons_zero, List.set_cons_succ])
        refine Held.take (i := 12) (some 138) rfl (v := .int .i64 (max 1 (bits .and .i64 x1 (GenR.maskV n)))) rfl (by kernel_rfl) (by kernel_rfl) (by kernel_rfl) (fun _ _ _ h => HP _ _ _ _ _ h) (Or.inl ⟨by rfl, ?_⟩) hS ?_
        · intro w' hw'
          go_simp
          try (first | rfl | (simp only [Int.max_def]; split <;> split <;> omega))
        (try dsimp only [Act.put]); (try simp only [List.setIfInBounds_toArray, List.set_cons_zero, List.set_cons_succ])
        refine wpAnyH_ready (rs := [1, 17]) (by kernel_rfl) (by simp) (AllReadyH.cons rfl (fun K hK => ?_) (AllReadyH.cons rfl (fun K hK => ?_) AllReadyH.nil))
        · have c4 : v.cell? ⟨w.heap.size + 1, 115, none⟩ = some (.slice da D.length dc) := by rw [hb.cell, ← List.getElem?_toArray]; exact (cells_ok hb.tab).b
          go_simp
          refine hK.out _ _ trivial (fun _ => ?_)
          clear hK K
          clear c4
          refine wpAnyH_ready (rs := [17]) (by kernel_rfl) (by simp) (AllReadyH.cons rfl (fun K hK => ?_) AllReadyH.nil)
          go_simp
          refine (F2.out _ hb.bel).mono ?_
          rintro e w' ⟨rfl, hq⟩
          subst w'
          go_simp
          refine hK.out _ _ trivial (fun _ => ?_)
          clear hK K
          refine Held.take (i := 18) (some 144) rfl (v := .int .i64 (1 + x2)) rfl (by kernel_rfl) (by kernel_rfl) (by kernel_rfl) (fun _ _ _ h => HP _ _ _ _ _ h) (Or.inl ⟨by rfl, ?_⟩) hS ?_
          · intro w' hw'
            go_simp
            try (first | rfl | (simp only [Int.max_def]; split <;> split <;> omega))
          (try dsimp only [Act.put]); (try simp only [List.setIfInBounds_toArray, List.set_cons_zero, List.set_cons_succ])
          refine Held.take_build (i := 19) (some 145) rfl 53 _ #[I (max 1 (bits .and .i64 x1 (GenR.maskV n))), I (1 + x2)] rfl rfl (by kernel_rfl) (by kernel_rfl) (by kernel_rfl) (fun _ _ _ h => HP _ _ _ _ _ h) (by rfl) hS (by simp only [List.map_toArray, List.map_cons, List.map_nil]; exact built_bus _ _) ?_
          (try dsimp only [Act.put]); (try simp only [List.setIfInBounds_toArray, List.set_cons_zero, List.set_cons_succ])
          refine wpAnyH_ready (rs := [20]) (by kernel_rfl) (by simp) (AllReadyH.cons rfl (fun K hK => ?_) AllReadyH.nil)
          go_simp
          have hbw : Below v.heap.size v (v.alloc (.cells #[I (max 1 (bits .and .i64 x1 (GenR.maskV n))), I (1 + x2)] 53)) := (Below.refl _ _).alloc (Nat.le_refl _) _
          have hN := heap_alloc_new v (.cells #[I (max 1 (bits .and .i64 x1 (GenR.maskV n))), I (1 + x2)] 53)
          replace hb := hb.step hbw
          clear hbw
          generalize hbn : v.heap.size = bn at hN ⊢
          clear hbn
          generalize World.alloc v (.cells #[I (max 1 (bits .and .i64 x1 (GenR.maskV n))), I (1 + x2)] 53) = v at hb hN ⊢
          refine hK.out _ _ trivial (fun _ => ?_)
          clear hK K
          refine wpAnyH_ready (rs := [21]) (by kernel_rfl) (by simp) (AllReadyH.cons rfl (fun K hK => ?_) AllReadyH.nil)
          rw [if_pos (by rfl)]
          have hown2 : v.ownsRow w.heap.size 53 2 (.slice da D.length dc) D.length (D.flatMap Bs.cells) := hb.buses
          refine wp_append_own _ _ _ _ rfl w.heap.size 53 j0 (.agg #[I 0, I 0]) 2 16 Tryd.underlying29 hj hy0 hy1 hy2 rfl (by decide) (.slice da D.length dc) D.length _ rfl hown2 ⟨bn, 0, none⟩ 1 1 [I (max 1 (bits .and .i64 x1 (GenR.maskV n))), I (1 + x2)] rfl rfl ?c1 ?c2 ?c3 ?c4 hb.bel.size ?_
          case c1 =>
            intro j e hj
            exact Row.lies_of_block hN j e hj
          case c2 => intro e he; have h1 := (show (#[I (max 1 (bits .and .i64 x1 (GenR.maskV n))), I (1 + x2)] : Array Value).all (·.oneCell') = true from by simp [Value.oneCell']); exact (Array.all_eq_true_iff_forall_mem.1 h1) e (by simpa using he)
          case c3 => unfold maxLen; have := DL.out; omega
          case c4 => have := DL.out; omega
          intro v' w5 hown' hgrow hnil'
          rw [HX.out] at hown'
          obtain ⟨hbk, a', c', rfl, hG⟩ := hb.put_buses X hgrow hown'
          have c5 : w5.cell? ⟨w.heap.size + 1, 115, none⟩ = some (.slice da D.length dc) := by rw [cell_of_row _ _ _ _ _ _ hbk]; exact (cells_ok hb.tab).b
          have f5 : w5.frozen? ⟨w.heap.size + 1, 115, none⟩ = false := frozen_of_row _ _ _ _ _ hbk
          have HG := Lib.hid hG
          clear hown' hgrow hown2 hnil' hbk hG hb hN
          refine hK.out _ _ trivial (fun _ => ?_)
          clear hK K
          refine Held.take (i := 22) (some 148) rfl (v := ?_) rfl (by kernel_rfl) (by kernel_rfl) (by kernel_rfl) (fun _ _ _ h => HP _ _ _ _ _ h) (Or.inl ⟨by rfl, ?_⟩) hS ?_
          rotate_left
          · intro w' hw'
            go_simp
            try with_reducible rfl
          (try dsimp only [Act.put]); (try simp only [List.setIfInBounds_toArray, List.set_cons_zero, List.set_cons_succ])
          refine wpAnyH_ready (rs := [23]) (by kernel_rfl) (by simp) (AllReadyH.cons rfl (fun K hK => ?_) AllReadyH.nil)
          go_simp
          refine hK.out _ _ trivial (fun _ => ?_)
          clear hK K
          refine wpAnyH_done (by kernel_rfl) ?_ _
          clear hS c5 f5
          go_wp2
          go_roundw
          case rel => exact ⟨j + 1, by omega, by have := HI.out; go_num, _, by rw [NX.out]; exact HG.out⟩
          case measure => simp [intOf]; have := HI.out; omega
        · go_simp
          refine (F2.out _ hb.bel).mono ?_
          rintro e w' ⟨rfl, hq⟩
          subst w'
          go_simp
          refine hK.out _ _ trivial (fun _ => ?_)
          clear hK K
          refine Held.take (i := 18) (some 144) rfl (v := .int .i64 (1 + x2)) rfl (by kernel_rfl) (by kernel_rfl) (by kernel_rfl) (fun _ _ _ h => HP _ _ _ _ _ h) (Or.inl ⟨by rfl, ?_⟩) hS ?_
          · intro w' hw'
            go_simp
            try (first | rfl | (simp only [Int.max_def]; split <;> split <;> omega))
          (try dsimp only [Act.put]); (try simp only [List.setIfInBounds_toArray, List.set_cons_zero, List.set_cons_succ])
          refine Held.take_build (i := 19) (some 145) rfl 53 _ #[I (max 1 (bits .and .i64 x1 (GenR.maskV n))), I (1 + x2)] rfl rfl (by kernel_rfl) (by kernel_rfl) (by kernel_rfl) (fun _ _ _ h => HP _ _ _ _ _ h) (by rfl) hS (by simp only [List.map_toArray, List.map_cons, List.map_nil]; exact built_bus _ _) ?_
          (try dsimp only [Act.put]); (try simp only [List.setIfInBounds_toArray, List.set_cons_zero, List.set_cons_succ])
          refine wpAnyH_ready (rs := [1, 20]) (by kernel_rfl) (by simp) (AllReadyH.cons rfl (fun K hK => ?_) (AllReadyH.cons rfl (fun K hK => ?_) AllReadyH.nil))
          · have c4 : v.cell? ⟨w.heap.size + 1, 115, none⟩ = some (.slice da D.length dc) := by rw [hb.cell, ← List.getElem?_toArray]; exact (cells_ok hb.tab).b
            go_simp
            refine hK.out _ _ trivial (fun _ => ?_)
            clear hK K
            clear c4
            refine wpAnyH_ready (rs := [20]) (by kernel_rfl) (by simp) (AllReadyH.cons rfl (fun K hK => ?_) AllReadyH.nil)
            go_simp
            have hbw : Below v.heap.size v (v.alloc (.cells #[I (max 1 (bits .and .i64 x1 (GenR.maskV n))), I (1 + x2)] 53)) := (Below.refl _ _).alloc (Nat.le_refl _) _
            have hN := heap_alloc_new v (.cells #[I (max 1 (bits .and .i64 x1 (GenR.maskV n))), I (1 + x2)] 53)
            replace hb := hb.step hbw
            clear hbw
            generalize hbn : v.heap.size = bn at hN ⊢
            clear hbn
            generalize World.alloc v (.cells #[I (max 1 (bits .and .i64 x1 (GenR.maskV n))), I (1 + x2)] 53) = v at hb hN ⊢
            refine hK.out _ _ trivial (fun _ => ?_)
            clear hK K
            refine wpAnyH_ready (rs := [21]) (by kernel_rfl) (by simp) (AllReadyH.cons rfl (fun K hK => ?_) AllReadyH.nil)
            rw [if_pos (by rfl)]
            have hown2 : v.ownsRow w.heap.size 53 2 (.slice da D.length dc) D.length (D.flatMap Bs.cells) := hb.buses
            refine wp_append_own _ _ _ _ rfl w.heap.size 53 j0 (.agg #[I 0, I 0]) 2 16 Tryd.underlying29 hj hy0 hy1 hy2 rfl (by decide) (.slice da D.length dc) D.length _ rfl hown2 ⟨bn, 0, none⟩ 1 1 [I (max 1 (bits .and .i64 x1 (GenR.maskV n))), I (1 + x2)] rfl rfl ?c1 ?c2 ?c3 ?c4 hb.bel.size ?_
            case c1 =>
              intro j e hj
              exact Row.lies_of_block hN j e hj
            case c2 => intro e he; have h1 := (show (#[I (max 1 (bits .and .i64 x1 (GenR.maskV n))), I (1 + x2)] : Array Value).all (·.oneCell') = true from by simp [Value.oneCell']); exact (Array.all_eq_true_iff_forall_mem.1 h1) e (by simpa using he)
            case c3 => unfold maxLen; have := DL.out; omega
            case c4 => have := DL.out; omega
            intro v' w5 hown' hgrow hnil'
            rw [HX.out] at hown'
            obtain ⟨hbk, a', c', rfl, hG⟩ := hb.put_buses X hgrow hown'
            have c5 : w5.cell? ⟨w.heap.size + 1, 115, none⟩ = some (.slice da D.length dc) := by rw [cell_of_row _ _ _ _ _ _ hbk]; exact (cells_ok hb.tab).b
            have f5 : w5.frozen? ⟨w.heap.size + 1, 115, none⟩ = false := frozen_of_row _ _ _ _ _ hbk
            have HG := Lib.hid hG
            clear hown' hgrow hown2 hnil' hbk hG hb hN
            refine hK.out _ _ trivial (fun _ => ?_)
            clear hK K
            refine Held.take (i := 22) (some 148) rfl (v := ?_) rfl (by kernel_rfl) (by kernel_rfl) (by kernel_rfl) (fun _ _ _ h => HP _ _ _ _ _ h) (Or.inl ⟨by rfl, ?_⟩) hS ?_
            rotate_left
            · intro w' hw'
              go_simp
              try with_reducible rfl
            (try dsimp only [Act.put]); (try simp only [List.setIfInBounds_toArray, List.set_cons_zero, List.set_cons_succ])
            refine wpAnyH_ready (rs := [23]) (by kernel_rfl) (by simp) (AllReadyH.cons rfl (fun K hK => ?_) AllReadyH.nil)
            go_simp
            refine hK.out _ _ trivial (fun _ => ?_)
            clear hK K
            refine wpAnyH_done (by kernel_rfl) ?_ _
            clear hS c5 f5
            go_wp2
            go_roundw
            case rel => exact ⟨j + 1, by omega, by have := HI.out; go_num, _, by rw [NX.out]; exact HG.out⟩
            case measure => simp [intOf]; have := HI.out; omega
          · go_simp
            have hbw : Below v.heap.size v (v.alloc (.cells #[I (max 1 (bits .and .i64 x1 (GenR.maskV n))), I (1 + x2)] 53)) := (Below.refl _ _).alloc (Nat.le_refl _) _
            have hN := heap_alloc_new v (.cells #[I (max 1 (bits .and .i64 x1 (GenR.maskV n))), I (1 + x2)] 53)
            replace hb := hb.step hbw
            clear hbw
            generalize hbn : v.heap.size = bn at hN ⊢
            clear hbn
            generalize World.alloc v (.cells #[I (max 1 (bits .and .i64 x1 (GenR.maskV n))), I (1 + x2)] 53) = v at hb hN ⊢
            refine hK.out _ _ trivial (fun _ => ?_)
            clear hK K
            refine wpAnyH_ready (rs := [1]) (by kernel_rfl) (by simp) (AllReadyH.cons rfl (fun K hK => ?_) AllReadyH.nil)
            have c4 : v.cell? ⟨w.heap.size + 1, 115, none⟩ = some (.slice da D.length dc) := by rw [hb.cell, ← List.getElem?_toArray]; exact (cells_ok hb.tab).b
            go_simp
            refine hK.out _ _ trivial (fun _ => ?_)
            clear hK K
            clear c4
            refine wpAnyH_ready (rs := [21]) (by kernel_rfl) (by simp) (AllReadyH.cons rfl (fun K hK => ?_) AllReadyH.nil)
            rw [if_pos (by rfl)]
            have hown2 : v.ownsRow w.heap.size 53 2 (.slice da D.length dc) D.length (D.flatMap Bs.cells) := hb.buses
            refine wp_append_own _ _ _ _ rfl w.heap.size 53 j0 (.agg #[I 0, I 0]) 2 16 Tryd.underlying29 hj hy0 hy1 hy2 rfl (by decide) (.slice da D.length dc) D.length _ rfl hown2 ⟨bn, 0, none⟩ 1 1 [I (max 1 (bits .and .i64 x1 (GenR.maskV n))), I (1 + x2)] rfl rfl ?c1 ?c2 ?c3 ?c4 hb.bel.size ?_
            case c1 =>
              intro j e hj
              exact Row.lies_of_block hN j e hj
            case c2 => intro e he; have h1 := (show (#[I (max 1 (bits .and .i64 x1 (GenR.maskV n))), I (1 + x2)] : Array Value).all (·.oneCell') = true from by simp [Value.oneCell']); exact (Array.all_eq_true_iff_forall_mem.1 h1) e (by simpa using he)
            case c3 => unfold maxLen; have := DL.out; omega
            case c4 => have := DL.out; omega
            intro v' w5 hown' hgrow hnil'
            rw [HX.out] at hown'
            obtain ⟨hbk, a', c', rfl, hG⟩ := hb.put_buses X hgrow hown'
            have c5 : w5.cell? ⟨w.heap.size + 1, 115, none⟩ = some (.slice da D.length dc) := by rw [cell_of_row _ _ _ _ _ _ hbk]; exact (cells_ok hb.tab).b
            have f5 : w5.frozen? ⟨w.heap.size + 1, 115, none⟩ = false := frozen_of_row _ _ _ _ _ hbk
            have HG := Lib.hid hG
            clear hown' hgrow hown2 hnil' hbk hG hb hN
            refine hK.out _ _ trivial (fun _ => ?_)
            clear hK K
            refine Held.take (i := 22) (some 148) rfl (v := ?_) rfl (by kernel_rfl) (by kernel_rfl) (by kernel_rfl) (fun _ _ _ h => HP _ _ _ _ _ h) (Or.inl ⟨by rfl, ?_⟩) hS ?_
            rotate_left
            · intro w' hw'
              go_simp
              try with_reducible rfl
            (try dsimp only [Act.put]); (try simp only [List.setIfInBounds_toArray, List.set_cons_zero, List.set_cons_succ])
            refine wpAnyH_ready (rs := [23]) (by kernel_rfl) (by simp) (AllReadyH.cons rfl (fun K hK => ?_) AllReadyH.nil)
            go_simp
            refine hK.out _ _ trivial (fun _ => ?_)
            clear hK K
            refine wpAnyH_done (by kernel_rfl) ?_ _
            clear hS c5 f5
            go_wp2
            go_roundw
            case rel => exact ⟨j + 1, by omega, by have := HI.out; go_num, _, by rw [NX.out]; exact HG.out⟩
            case measure => simp [intOf]; have := HI.out; omega
    · have hje : j = k := by omega
      subst hje
      rw [show ((j - j : Nat) : Int) = (0 : Int) by omega]
      go_wp2
      exact HQ.out _ _ _ _ _ _ _ _ _ _ _ _ _ _ _ _ _ _ _ _ _ _ _ _ _ _ _ _ _ _ HB.out
end GenT
namespace GenT
open Go.ChangeShapes Go.WideShapes Go.ChangeAt Go.RowKit
open Tab Gath GenG Clone PlaceM CodeAt
open RefS (num num_range from_any)
theorem wait_win (T : Tab) (x p : Int) : WaitS.waitS { T with window := x } p = WaitS.waitS T p := rfl
theorem loop_win {Q : Exit → Act → World → Prop} (a : Option Addr) (cap : Nat) (L : List Int) (w W0 : World) (hd : Hd) (T : Tab) (n : Nat) (hn : n ≤ 8) (sm : Few T) (few : T.rails.length ≤ 1000) {f1 f5 f6 f7 f8 f9 f10 f11 f13 f14 f15 f16 f17 f18 f19 f20 f21 f22 f23 f24 f25 f26 f27 f28 f29 f30 f31 f32 f33 f34 f35 f36 f37 f38 f39 f40 f41 f42 f43 f44 f45 f46 f47 f48 f49 f50 f51 f52 f53 f54 f55 f56 f57 f58 f59 f60 f61 f62 f63 f64 f65 f66 f67 f68 f69 f70 f71 f72 f73 f74 f75 f76 f77 f78 f79 f80 f81 f82 f83 f84 f85 f86 f87 f88 f89 f90 f91 f92 f93 f94 f95 f96 f97 f98 f99 f100 f101 f102 f103 f104 f105 f106 f107 f108 f109 f110 f111 f112 f113 f114 f115 f116 f117 f118 f119 f120 f121 f122 f123 f124 f125 f126 f127 f128 f129 f130 f131 f132 f133 f134 f135 f136 f137 f138 f139 f140 f141 f142 f143 f144 f145 f146 f147 f148 f149 f150 f151 f152 f153 f154 f155 f156 f157 f158 f159 f160 f161 f162 f163 f164 f165 f166 f167 f168 f169 f170 f171 f172 f173 f174 f175 f176 f177 f178 f179 f180 f181 f182 f183 f184 f185 : Value}
    (HL : Hid (∀ W, Below w.heap.size w W → IntRow W ⟨a, cap⟩ L)) (BX : Hid (Bx w hd { T with window := 0 } W0))
    (HP : ∀ c a d v w, Q (.panic c) (a.put d v) w → Q (.panic c) a w) (HQ : Hid (∀ (x12 x167 x168 x169 x170 x171 x172 x173 x174 x175 x176 x177 x178 x179 x180 x181 x182 x183 x184 : Value) (W' : World), Bx w hd { T with window := if T.rails.length = 0 then 0 else maxW T n } W' → Q (.exit 12) ⟨#[Value.slice a L.length cap, f1, Value.pointer (some ⟨w.heap.size, 0, none⟩), Value.pointer (some ⟨w.heap.size + 1, 0, none⟩), Value.int .i64 (n : Nat), f5, f6, f7, f8, f9, f10, f11, x12, f13, f14, f15, f16, f17, f18, f19, f20, f21, f22, f23, f24, f25, f26, f27, f28, f29, f30, f31, f32, f33, f34, f35, f36, f37, f38, f39, f40, f41, f42, f43, f44, f45, f46, f47, f48, f49, f50, f51, f52, f53, f54, f55, f56, f57, f58, f59, f60, f61, f62, f63, f64, f65, f66, f67, f68, f69, f70, f71, f72, f73, f74, f75, f76, f77, f78, f79, f80, f81, f82, f83, f84, f85, f86, f87, f88, f89, f90, f91, f92, f93, f94, f95, f96, f97, f98, f99, f100, f101, f102, f103, f104, f105, f106, f107, f108, f109, f110, f111, f112, f113, f114, f115, f116, f117, f118, f119, f120, f121, f122, f123, f124, f125, f126, f127, f128, f129, f130, f131, f132, f133, f134, f135, f136, f137, f138, f139, f140, f141, f142, f143, f144, f145, f146, f147, f148, f149, f150, f151, f152, f153, f154, f155, f156, f157, f158, f159, f160, f161, f162, f163, f164, f165, f166, x167, x168, x169, x170, x171, x172, x173, x174, x175, x176, x177, x178, x179, x180, x181, x182, x183, x184, f185], []⟩ W')) :
    (lp 39 Tryd.f18).wp Tryd.prog Q ⟨#[Value.slice a L.length cap, f1, Value.pointer (some ⟨w.heap.size, 0, none⟩), Value.pointer (some ⟨w.heap.size + 1, 0, none⟩), Value.int .i64 (n : Nat), f5, f6, f7, f8, f9, f10, f11, Value.int .i64 0, f13, f14, f15, f16, f17, f18, f19, f20, f21, f22, f23, f24, f25, f26, f27, f28, f29, f30, f31, f32, f33, f34, f35, f36, f37, f38, f39, f40, f41, f42, f43, f44, f45, f46, f47, f48, f49, f50, f51, f52, f53, f54, f55, f56, f57, f58, f59, f60, f61, f62, f63, f64, f65, f66, f67, f68, f69, f70, f71, f72, f73, f74, f75, f76, f77, f78, f79, f80, f81, f82, f83, f84, f85, f86, f87, f88, f89, f90, f91, f92, f93, f94, f95, f96, f97, f98, f99, f100, f101, f102, f103, f104, f105, f106, f107, f108, f109, f110, f111, f112, f113, f114, f115, f116, f117, f118, f119, f120, f121, f122, f123, f124, f125, f126, f127, f128, f129, f130, f131, f132, f133, f134, f135, f136, f137, f138, f139, f140, f141, f142, f143, f144, f145, f146, f147, f148, f149, f150, f151, f152, f153, f154, f155, f156, f157, f158, f159, f160, f161, f162, f163, f164, f165, f166, f167, f168, f169, f170, f171, f172, f173, f174, f175, f176, f177, f178, f179, f180, f181, f182, f183, f184, f185], []⟩ W0 := by
  conv => arg 2; whnf
  dsimp only
  have SMC : Hid (∀ x : Int, Few { T with window := x }) := Lib.hid (fun x => ⟨sm.groups, sm.rows⟩)
  go_loopw [12] (fun i wr => ∃ q : Nat, q ≤ n ∧ i = .int .i64 q ∧ (T.rails.length = 0 → q = 0) ∧ Bx w hd { T with window := maxW T q } wr) (fun i _ => n - (intOf i).toNat)
  case atStart => exact ⟨0, by omega, rfl, fun _ => rfl, BX.out⟩
  case round =>
    obtain ⟨q, hq, rfl, hq0, hbx⟩ := hrel
    have HB := Lib.hid hbx
    clear hbx BX
    have NX : Hid (maxW T (q + 1) = max (maxW T q) (WaitS.waitS T q)) := Lib.hid rfl
    obtain ⟨sg, sd, ⟨ra, rc⟩, sb⟩ := hd
    have c114 : wr.cell? ⟨w.heap.size + 1, 114, none⟩ = some (.slice ra T.rails.length rc) := by rw [HB.out.cell, ← List.getElem?_toArray]; exact (cells_ok HB.out.tab).r
    by_cases hlt : q < n
    · by_cases hr : T.rails.length = 0
      · have hq1 := hq0 hr
        have HQ2 : Hid ((if T.rails.length = 0 then 0 else maxW T n) = maxW T q) := Lib.hid (by rw [if_pos hr, hq1]; rfl)
        have HB2 : Hid (Bx w ⟨sg, sd, ⟨ra, rc⟩, sb⟩ { T with window := if T.rails.length = 0 then 0 else maxW T n } wr) := Lib.hid (by rw [HQ2.out]; exact HB.out)
        clear HQ2 HB NX hq0
        go_wp2
        exact HQ.out _ _ _ _ _ _ _ _ _ _ _ _ _ _ _ _ _ _ _ _ HB2.out
      · generalize maxW T q = m at *
        have WC : Hid (∀ W, Bx w ⟨sg, sd, ⟨ra, rc⟩, sb⟩ { T with window := m } W → Calls Tryd.prog 36 #[.agg (({ T with window := m } : Tab).cells ⟨sg, sd, ⟨ra, rc⟩, sb⟩).toArray, .int .i64 q] W fun e w' => e = .returned (.int .i64 (WaitS.waitS T q)) ∧ Below W.heap.size W w') := Lib.hid (fun W hb => by
          have := WaitS.wait_any { T with window := m } ⟨sg, sd, ⟨ra, rc⟩, sb⟩ q W hb.tab (SMC.out m) few
          rw [wait_win] at this
          exact this)
        have IA : Hid ((Tryd.prog.info? 31).map (·.size) = some (({ T with window := m } : Tab).cells ⟨sg, sd, ⟨ra, rc⟩, sb⟩).length) := Lib.hid (by rw [cells_cut _ HB.out.ph HB.out.cf HB.out.fl]; exact May.infoT)
        generalize WaitS.waitS T q = z at NX WC
        generalize hcs : ({ T with window := m } : Tab).cells ⟨sg, sd, ⟨ra, rc⟩, sb⟩ = cs at WC IA
        go_upto_region 41 with fail
        clear c114
        refine wp_region_held (S := fun _ => True) (by kernel_rfl) ?_
        have hS : True := trivial
        have hb : Bx w ⟨sg, sd, ⟨ra, rc⟩, sb⟩ { T with window := m } { wr with drawn := wr.drawn + 1 } := HB.out.step (Below.refl _ _).drew
        generalize ({ wr with drawn := wr.drawn + 1 } : World) = v at hb ⊢
        clear HB
        refine Held.take (i := 0) (some 178) rfl (v := ?_) rfl (by kernel_rfl) (by kernel_rfl) (by kernel_rfl) (fun _ _ _ h => HP _ _ _ _ _ h) (Or.inl ⟨by rfl, ?_⟩) hS ?_
        rotate_left
        · intro w' hw'
          go_simp
          try with_reducible rfl
        (try dsimp only [Act.put]); (try simp only [List.setIfInBounds_toArray, List.set_cons_zero, List.set_cons_succ])
        refine Held.take (i := 3) (some 181) rfl (v := ?_) rfl (by kernel_rfl) (by kernel_rfl) (by kernel_rfl) (fun _ _ _ h => HP _ _ _ _ _ h) (Or.inl ⟨by rfl, ?_⟩) hS ?_
        rotate_left
        · intro w' hw'
          go_simp
          try with_reducible rfl
        (try dsimp only [Act.put]); (try simp only [List.setIfInBounds_toArray, List.set_cons_zero, List.set_cons_succ])
        refine wpAnyH_ready (rs := [1, 2]) (by kernel_rfl) (by simp) (AllReadyH.cons rfl (fun K hK => ?_) (AllReadyH.cons rfl (fun K hK => ?_) AllReadyH.nil))
        · have c4 : v.cell? ⟨w.heap.size + 1, 129, none⟩ = some (.int .i64 m) := by rw [hb.cell, ← List.getElem?_toArray]; exact (cells_ok hb.tab).window
          go_simp
          refine hK.out _ _ trivial (fun _ => ?_)
          clear hK K
          clear c4
          refine wpAnyH_ready (rs := [2]) (by kernel_rfl) (by simp) (AllReadyH.cons rfl (fun K hK => ?_) AllReadyH.nil)
          rw [if_pos (by rfl)]
          have LT : Lies v ⟨w.heap.size + 1, 0, none⟩ cs := by have := Row.lies_of_block hb.blk; rw [hcs] at this; simpa using this
          refine Row.wp_load_lies 31 _ rfl ⟨w.heap.size + 1, 0, none⟩ rfl cs _ LT Tryd.underlying31 rfl IA.out ?_
          (try dsimp only [Act.put]); (try simp only [List.setIfInBounds_toArray, List.set_cons_zero, List.set_cons_succ])
          refine hK.out _ _ trivial (fun _ => ?_)
          clear hK K
          clear LT
          refine wpAnyH_ready (rs := [4]) (by kernel_rfl) (by simp) (AllReadyH.cons rfl (fun K hK => ?_) AllReadyH.nil)
          go_simp
          refine (WC.out _ hb).mono ?_
          rintro e v2 ⟨rfl, hbb⟩
          replace hb := hb.step hbb
          clear hbb
          rename World => v
          go_simp
          refine hK.out _ _ trivial (fun _ => ?_)
          clear hK K
          refine Held.take (i := 5) (some 183) rfl (v := .int .i64 (max m z)) rfl (by kernel_rfl) (by kernel_rfl) (by kernel_rfl) (fun _ _ _ h => HP _ _ _ _ _ h) (Or.inl ⟨by rfl, ?_⟩) hS ?_
          · intro w' hw'
            go_simp
            try (first | rfl | (simp only [Int.max_def]; split <;> split <;> omega))
          (try dsimp only [Act.put]); (try simp only [List.setIfInBounds_toArray, List.set_cons_zero, List.set_cons_succ])
          refine Held.take (i := 6) (some 184) rfl (v := ?_) rfl (by kernel_rfl) (by kernel_rfl) (by kernel_rfl) (fun _ _ _ h => HP _ _ _ _ _ h) (Or.inl ⟨by rfl, ?_⟩) hS ?_
          rotate_left
          · intro w' hw'
            go_simp
            try with_reducible rfl
          (try dsimp only [Act.put]); (try simp only [List.setIfInBounds_toArray, List.set_cons_zero, List.set_cons_succ])
          refine wpAnyH_ready (rs := [7]) (by kernel_rfl) (by simp) (AllReadyH.cons rfl (fun K hK => ?_) AllReadyH.nil)
          have c5 : v.cell? ⟨w.heap.size + 1, 129, none⟩ = some (.int .i64 m) := by rw [hb.cell, ← List.getElem?_toArray]; exact (cells_ok hb.tab).window
          have f5 := hb.frozen 129
          have HG := Lib.hid (hb.set 129 (I (max m z)) (cells_window ⟨sg, sd, ⟨ra, rc⟩, sb⟩ hb.ph hb.cf hb.fl (max m z)) hb.ph hb.cf hb.fl rfl rfl rfl rfl)
          clear hb
          go_simp
          refine hK.out _ _ trivial (fun _ => ?_)
          clear hK K
          refine wpAnyH_done (by kernel_rfl) ?_ _
          clear hS c5 f5
          go_wp2
          go_roundw
          case rel => exact ⟨q + 1, by omega, by go_num, fun e => (hr e).elim, by rw [NX.out]; exact HG.out⟩
          case measure => simp [intOf]; omega
        · rw [if_pos (by rfl)]
          have LT : Lies v ⟨w.heap.size + 1, 0, none⟩ cs := by have := Row.lies_of_block hb.blk; rw [hcs] at this; simpa using this
          refine Row.wp_load_lies 31 _ rfl ⟨w.heap.size + 1, 0, none⟩ rfl cs _ LT Tryd.underlying31 rfl IA.out ?_
          (try dsimp only [Act.put]); (try simp only [List.setIfInBounds_toArray, List.set_cons_zero, List.set_cons_succ])
          refine hK.out _ _ trivial (fun _ => ?_)
          clear hK K
          clear LT
          refine wpAnyH_ready (rs := [1, 4]) (by kernel_rfl) (by simp) (AllReadyH.cons rfl (fun K hK => ?_) (AllReadyH.cons rfl (fun K hK => ?_) AllReadyH.nil))
          · have c4 : v.cell? ⟨w.heap.size + 1, 129, none⟩ = some (.int .i64 m) := by rw [hb.cell, ← List.getElem?_toArray]; exact (cells_ok hb.tab).window
            go_simp
            refine hK.out _ _ trivial (fun _ => ?_)
            clear hK K
            clear c4
            refine wpAnyH_ready (rs := [4]) (by kernel_rfl) (by simp) (AllReadyH.cons rfl (fun K hK => ?_) AllReadyH.nil)
            go_simp
            refine (WC.out _ hb).mono ?_
            rintro e v2 ⟨rfl, hbb⟩
            replace hb := hb.step hbb
            clear hbb
            rename World => v
            go_simp
            refine hK.out _ _ trivial (fun _ => ?_)
            clear hK K
            refine Held.take (i := 5) (some 183) rfl (v := .int .i64 (max m z)) rfl (by kernel_rfl) (by kernel_rfl) (by kernel_rfl) (fun _ _ _ h => HP _ _ _ _ _ h) (Or.inl ⟨by rfl, ?_⟩) hS ?_
            · intro w' hw'
              go_simp
              try (first | rfl | (simp only [Int.max_def]; split <;> split <;> omega))
            (try dsimp only [Act.put]); (try simp only [List.setIfInBounds_toArray, List.set_cons_zero, List.set_cons_succ])
            refine Held.take (i := 6) (some 184) rfl (v := ?_) rfl (by kernel_rfl) (by kernel_rfl) (by kernel_rfl) (fun _ _ _ h => HP _ _ _ _ _ h) (Or.inl ⟨by rfl, ?_⟩) hS ?_
            rotate_left
            · intro w' hw'
              go_simp
              try with_reducible rfl
            (try dsimp only [Act.put]); (try simp only [List.setIfInBounds_toArray, List.set_cons_zero, List.set_cons_succ])
            refine wpAnyH_ready (rs := [7]) (by kernel_rfl) (by simp) (AllReadyH.cons rfl (fun K hK => ?_) AllReadyH.nil)
            have c5 : v.cell? ⟨w.heap.size + 1, 129, none⟩ = some (.int .i64 m) := by rw [hb.cell, ← List.getElem?_toArray]; exact (cells_ok hb.tab).window
            have f5 := hb.frozen 129
            have HG := Lib.hid (hb.set 129 (I (max m z)) (cells_window ⟨sg, sd, ⟨ra, rc⟩, sb⟩ hb.ph hb.cf hb.fl (max m z)) hb.ph hb.cf hb.fl rfl rfl rfl rfl)
            clear hb
            go_simp
            refine hK.out _ _ trivial (fun _ => ?_)
            clear hK K
            refine wpAnyH_done (by kernel_rfl) ?_ _
            clear hS c5 f5
            go_wp2
            go_roundw
            case rel => exact ⟨q + 1, by omega, by go_num, fun e => (hr e).elim, by rw [NX.out]; exact HG.out⟩
            case measure => simp [intOf]; omega
          · go_simp
            refine (WC.out _ hb).mono ?_
            rintro e v2 ⟨rfl, hbb⟩
            replace hb := hb.step hbb
            clear hbb
            rename World => v
            go_simp
            refine hK.out _ _ trivial (fun _ => ?_)
            clear hK K
            refine wpAnyH_ready (rs := [1]) (by kernel_rfl) (by simp) (AllReadyH.cons rfl (fun K hK => ?_) AllReadyH.nil)
            have c4 : v.cell? ⟨w.heap.size + 1, 129, none⟩ = some (.int .i64 m) := by rw [hb.cell, ← List.getElem?_toArray]; exact (cells_ok hb.tab).window
            go_simp
            refine hK.out _ _ trivial (fun _ => ?_)
            clear hK K
            clear c4
            refine Held.take (i := 5) (some 183) rfl (v := .int .i64 (max m z)) rfl (by kernel_rfl) (by kernel_rfl) (by kernel_rfl) (fun _ _ _ h => HP _ _ _ _ _ h) (Or.inl ⟨by rfl, ?_⟩) hS ?_
            · intro w' hw'
              go_simp
              try (first | rfl | (simp only [Int.max_def]; split <;> split <;> omega))
            (try dsimp only [Act.put]); (try simp only [List.setIfInBounds_toArray, List.set_cons_zero, List.set_cons_succ])
            refine Held.take (i := 6) (some 184) rfl (v := ?_) rfl (by kernel_rfl) (by kernel_rfl) (by kernel_rfl) (fun _ _ _ h => HP _ _ _ _ _ h) (Or.inl ⟨by rfl, ?_⟩) hS ?_
            rotate_left
            · intro w' hw'
              go_simp
              try with_reducible rfl
            (try dsimp only [Act.put]); (try simp only [List.setIfInBounds_toArray, List.set_cons_zero, List.set_cons_succ])
            refine wpAnyH_ready (rs := [7]) (by kernel_rfl) (by simp) (AllReadyH.cons rfl (fun K hK => ?_) AllReadyH.nil)
            have c5 : v.cell? ⟨w.heap.size + 1, 129, none⟩ = some (.int .i64 m) := by rw [hb.cell, ← List.getElem?_toArray]; exact (cells_ok hb.tab).window
            have f5 := hb.frozen 129
            have HG := Lib.hid (hb.set 129 (I (max m z)) (cells_window ⟨sg, sd, ⟨ra, rc⟩, sb⟩ hb.ph hb.cf hb.fl (max m z)) hb.ph hb.cf hb.fl rfl rfl rfl rfl)
            clear hb
            go_simp
            refine hK.out _ _ trivial (fun _ => ?_)
            clear hK K
            refine wpAnyH_done (by kernel_rfl) ?_ _
            clear hS c5 f5
            go_wp2
            go_roundw
            case rel => exact ⟨q + 1, by omega, by go_num, fun e => (hr e).elim, by rw [NX.out]; exact HG.out⟩
            case measure => simp [intOf]; omega
    · have hqe : q = n := by omega
      by_cases hr : T.rails.length = 0
      · have hq1 := hq0 hr
        have HB2 : Hid (Bx w ⟨sg, sd, ⟨ra, rc⟩, sb⟩ { T with window := if T.rails.length = 0 then 0 else maxW T n } wr) := Lib.hid (by rw [if_pos hr]; have := HB.out; rw [hq1] at this; exact this)
        clear HB NX hq0 hq1
        subst hqe
        go_wp2
        exact HQ.out _ _ _ _ _ _ _ _ _ _ _ _ _ _ _ _ _ _ _ _ HB2.out
      · have HB2 : Hid (Bx w ⟨sg, sd, ⟨ra, rc⟩, sb⟩ { T with window := if T.rails.length = 0 then 0 else maxW T n } wr) := Lib.hid (by rw [if_neg hr]; have := HB.out; rw [hqe] at this; exact this)
        clear HB NX hq0
        subst hqe
        go_wp2
        exact HQ.out _ _ _ _ _ _ _ _ _ _ _ _ _ _ _ _ _ _ _ _ HB2.out
end GenT
namespace GenT
open Go.ChangeShapes Go.WideShapes Go.ChangeAt Go.RowKit
open Tab Gath GenG Clone PlaceM CodeAt
open RefS (num num_range from_any)
theorem tail_any (a : Option Addr) (cap : Nat) (L : List Int) (w W0 : World) (hd0 : Hd) (T0 : Tab) (n8 : genN L ≤ 8) (HL : Hid (∀ W, Below w.heap.size w W → IntRow W ⟨a, cap⟩ L)) (BX : Hid (Bx w hd0 T0 W0))
    (TS : { T0 with extend := num L 178 12, budget := num L 179 40, start := num L 180 8, revert := num L 181 8, least := num L 182 12, share := num L 183 4 } = tabS L) (kR : Nat) (lR : kR ≤ 20) (LR : Hid ((tabS L).rails.length = kR)) (GT2 : Hid (genTab L = if kR = 0 then tabS L else { tabS L with window := maxW (tabS L) (genN L) })) {f1 f5 f6 f7 f8 f9 f10 f11 f12 f13 f14 f15 f16 f17 f18 f19 f20 f21 f22 f23 f24 f25 f26 f27 f28 f29 f30 f31 f32 f33 f34 f35 f36 f37 f38 f39 f40 f41 f42 f43 f44 f45 f46 f47 f48 f49 f50 f51 f52 f53 f54 f55 f56 f57 f58 f59 f60 f61 f62 f63 f64 f65 f66 f67 f68 f69 f70 f71 f72 f73 f74 f75 f76 f77 f78 f79 f80 f81 f82 f83 f84 f85 f86 f87 f88 f89 f90 f91 f92 f93 f94 f95 f96 f97 f98 f99 f100 f101 f102 f103 f104 f105 f106 f107 f108 f109 f110 f111 f112 f113 f114 f115 f116 f117 f118 f119 f120 f121 f122 f123 f124 f125 f126 f127 f128 f129 f130 f131 f132 f133 f134 f135 f136 f137 f138 f139 f140 f141 f142 f143 f144 f145 f146 f147 f148 f149 f150 f151 f152 f153 f154 f155 f156 f157 f158 f159 f160 f161 f162 f163 f164 f165 f166 f167 f168 f169 f170 f171 f172 f173 f174 f175 f176 f177 f178 f179 f180 f181 f182 f183 f184 f185 : Value} :
    (sq 32 Tryd.f18).wp Tryd.prog (bodyPost Tryd.prog Tryd.f18 fun e w' => ∃ hd, e = .returned (.agg ((genTab L).cells hd).toArray) ∧ IsTab w' hd (genTab L) ∧ Own3 w.heap.size w' hd (genTab L) ∧ Below w.heap.size w w') ⟨#[Value.slice a L.length cap, f1, Value.pointer (some ⟨w.heap.size, 0, none⟩), Value.pointer (some ⟨w.heap.size + 1, 0, none⟩), Value.int .i64 (genN L : Nat), f5, f6, f7, f8, f9, f10, f11, f12, f13, f14, f15, f16, f17, f18, f19, f20, f21, f22, f23, f24, f25, f26, f27, f28, f29, f30, f31, f32, f33, f34, f35, f36, f37, f38, f39, f40, f41, f42, f43, f44, f45, f46, f47, f48, f49, f50, f51, f52, f53, f54, f55, f56, f57, f58, f59, f60, f61, f62, f63, f64, f65, f66, f67, f68, f69, f70, f71, f72, f73, f74, f75, f76, f77, f78, f79, f80, f81, f82, f83, f84, f85, f86, f87, f88, f89, f90, f91, f92, f93, f94, f95, f96, f97, f98, f99, f100, f101, f102, f103, f104, f105, f106, f107, f108, f109, f110, f111, f112, f113, f114, f115, f116, f117, f118, f119, f120, f121, f122, f123, f124, f125, f126, f127, f128, f129, f130, f131, f132, f133, f134, f135, f136, f137, f138, f139, f140, f141, f142, f143, f144, f145, f146, f147, f148, f149, f150, f151, f152, f153, f154, f155, f156, f157, f158, f159, f160, f161, f162, f163, f164, f165, f166, f167, f168, f169, f170, f171, f172, f173, f174, f175, f176, f177, f178, f179, f180, f181, f182, f183, f184, f185], []⟩ W0 := by
  conv => arg 2; whnf
  dsimp only
  obtain ⟨n0, hn0, F0⟩ : ∃ x : Int, x = num L 178 12 ∧ Hid (∀ W, Below w.heap.size w W → Calls Tryd.prog 33 #[.slice a L.length cap, .int .i64 178, .int .i64 12] W fun e w' => e = .returned (.int .i64 x) ∧ w' = W) := ⟨_, rfl, Lib.hid (fun W hb => (from_any a cap L _ _ W (HL.out _ hb) (by omega) (by omega) (by omega)).mono fun _ _ ⟨e, q⟩ => ⟨e, q.symm⟩)⟩
  obtain ⟨n1, hn1, F1⟩ : ∃ x : Int, x = num L 179 40 ∧ Hid (∀ W, Below w.heap.size w W → Calls Tryd.prog 33 #[.slice a L.length cap, .int .i64 179, .int .i64 40] W fun e w' => e = .returned (.int .i64 x) ∧ w' = W) := ⟨_, rfl, Lib.hid (fun W hb => (from_any a cap L _ _ W (HL.out _ hb) (by omega) (by omega) (by omega)).mono fun _ _ ⟨e, q⟩ => ⟨e, q.symm⟩)⟩
  obtain ⟨n2, hn2, F2⟩ : ∃ x : Int, x = num L 180 8 ∧ Hid (∀ W, Below w.heap.size w W → Calls Tryd.prog 33 #[.slice a L.length cap, .int .i64 180, .int .i64 8] W fun e w' => e = .returned (.int .i64 x) ∧ w' = W) := ⟨_, rfl, Lib.hid (fun W hb => (from_any a cap L _ _ W (HL.out _ hb) (by omega) (by omega) (by omega)).mono fun _ _ ⟨e, q⟩ => ⟨e, q.symm⟩)⟩
  obtain ⟨n3, hn3, F3⟩ : ∃ x : Int, x = num L 181 8 ∧ Hid (∀ W, Below w.heap.size w W → Calls Tryd.prog 33 #[.slice a L.length cap, .int .i64 181, .int .i64 8] W fun e w' => e = .returned (.int .i64 x) ∧ w' = W) := ⟨_, rfl, Lib.hid (fun W hb => (from_any a cap L _ _ W (HL.out _ hb) (by omega) (by omega) (by omega)).mono fun _ _ ⟨e, q⟩ => ⟨e, q.symm⟩)⟩
  obtain ⟨n4, hn4, F4⟩ : ∃ x : Int, x = num L 182 12 ∧ Hid (∀ W, Below w.heap.size w W → Calls Tryd.prog 33 #[.slice a L.length cap, .int .i64 182, .int .i64 12] W fun e w' => e = .returned (.int .i64 x) ∧ w' = W) := ⟨_, rfl, Lib.hid (fun W hb => (from_any a cap L _ _ W (HL.out _ hb) (by omega) (by omega) (by omega)).mono fun _ _ ⟨e, q⟩ => ⟨e, q.symm⟩)⟩
  obtain ⟨n5, hn5, F5⟩ : ∃ x : Int, x = num L 183 4 ∧ Hid (∀ W, Below w.heap.size w W → Calls Tryd.prog 33 #[.slice a L.length cap, .int .i64 183, .int .i64 4] W fun e w' => e = .returned (.int .i64 x) ∧ w' = W) := ⟨_, rfl, Lib.hid (fun W hb => (from_any a cap L _ _ W (HL.out _ hb) (by omega) (by omega) (by omega)).mono fun _ _ ⟨e, q⟩ => ⟨e, q.symm⟩)⟩
  have TS2 : Hid (scal T0 [n0, n1, n2, n3, n4, n5] = tabS L) := Lib.hid (by rw [hn0, hn1, hn2, hn3, hn4, hn5, ← TS]; rfl)
  have BY0 : Hid (Bx w hd0 (scal T0 []) W0) := BX
  clear hn0 hn1 hn2 hn3 hn4 hn5 TS BX
  go_wp2_with fail
  refine (F0.out _ BY0.out.bel).mono ?_
  rintro e w' ⟨rfl, hq⟩
  subst w'
  obtain ⟨⟨old, c0⟩, f0, hs⟩ := scal_set BY0.out n0 116 0 rfl (by omega)
  have BY1 : Hid (Bx w hd0 (scal T0 [n0]) _) := Lib.hid hs
  clear hs BY0 F0
  go_upto_region 33 with fail
  clear c0 f0
  go_wp2_with fail
  refine (F1.out _ BY1.out.bel).mono ?_
  rintro e w' ⟨rfl, hq⟩
  subst w'
  obtain ⟨⟨old, c0⟩, f0, hs⟩ := scal_set BY1.out n1 117 1 rfl (by omega)
  have BY2 : Hid (Bx w hd0 (scal T0 [n0, n1]) _) := Lib.hid hs
  clear hs BY1 F1
  go_upto_region 34 with fail
  clear c0 f0
  go_wp2_with fail
  refine (F2.out _ BY2.out.bel).mono ?_
  rintro e w' ⟨rfl, hq⟩
  subst w'
  obtain ⟨⟨old, c0⟩, f0, hs⟩ := scal_set BY2.out n2 118 2 rfl (by omega)
  have BY3 : Hid (Bx w hd0 (scal T0 [n0, n1, n2]) _) := Lib.hid hs
  clear hs BY2 F2
  go_upto_region 35 with fail
  clear c0 f0
  go_wp2_with fail
  refine (F3.out _ BY3.out.bel).mono ?_
  rintro e w' ⟨rfl, hq⟩
  subst w'
  obtain ⟨⟨old, c0⟩, f0, hs⟩ := scal_set BY3.out n3 119 3 rfl (by omega)
  have BY4 : Hid (Bx w hd0 (scal T0 [n0, n1, n2, n3]) _) := Lib.hid hs
  clear hs BY3 F3
  go_upto_region 36 with fail
  clear c0 f0
  go_wp2_with fail
  refine (F4.out _ BY4.out.bel).mono ?_
  rintro e w' ⟨rfl, hq⟩
  subst w'
  obtain ⟨⟨old, c0⟩, f0, hs⟩ := scal_set BY4.out n4 120 4 rfl (by omega)
  have BY5 : Hid (Bx w hd0 (scal T0 [n0, n1, n2, n3, n4]) _) := Lib.hid hs
  clear hs BY4 F4
  go_upto_region 37 with fail
  clear c0 f0
  go_wp2_with fail
  refine (F5.out _ BY5.out.bel).mono ?_
  rintro e w' ⟨rfl, hq⟩
  subst w'
  obtain ⟨⟨old, c0⟩, f0, hs⟩ := scal_set BY5.out n5 130 5 rfl (by omega)
  have BY6 : Hid (Bx w hd0 (scal T0 [n0, n1, n2, n3, n4, n5]) _) := Lib.hid hs
  clear hs BY5 F5
  go_upto_region 38 with fail
  clear c0 f0
  have BZ : Hid (Bx w hd0 (tabS L) _) := Lib.hid (by rw [← TS2.out]; exact BY6.out)
  clear TS2 BY6
  go_wp2_with fail
  refine loop_win a cap L w _ hd0 (tabS L) (genN L) n8 (tabS_few L) (by rw [LR.out]; omega) HL (Lib.hid (by rw [tabS_window]; exact BZ.out)) (fun _ _ d _ _ h => by cases d <;> exact h) (Lib.hid ?_)
  intro v6_12 v6_167 v6_168 v6_169 v6_170 v6_171 v6_172 v6_173 v6_174 v6_175 v6_176 v6_177 v6_178 v6_179 v6_180 v6_181 v6_182 v6_183 v6_184 w7 hb7
  have BE : Hid (Bx w hd0 (genTab L) w7) := Lib.hid (by
    rw [GT2.out]
    rw [LR.out] at hb7
    by_cases e : kR = 0
    · rw [if_pos e] at hb7 ⊢
      rw [tabS_window] at hb7
      exact hb7
    · rw [if_neg e] at hb7 ⊢
      exact hb7)
  clear hb7 BZ LR GT2
  dsimp only
  obtain ⟨w8, hst, hbk, htab, hown, hbel⟩ := BE.out.store_own
  have IA : Hid ((Tryd.prog.info? 31).map (·.size) = some ((genTab L).cells hd0).length) := Lib.hid (by rw [cells_cut _ BE.out.ph BE.out.cf BE.out.fl]; exact May.infoT)
  have LT : Hid (Lies w7 ⟨w.heap.size + 1, 0, none⟩ ((genTab L).cells hd0)) := Lib.hid (by have := Row.lies_of_block BE.out.blk; simpa using this)
  have FIN : Hid (∃ hd, Ending.returned (.agg ((genTab L).cells hd0).toArray) = .returned (.agg ((genTab L).cells hd).toArray) ∧ IsTab w8 hd (genTab L) ∧ Own3 w.heap.size w8 hd (genTab L) ∧ Below w.heap.size w w8) := Lib.hid ⟨hd0, rfl, htab, hown, hbel⟩
  have HK := Lib.hid hbk
  have csl := cells_cut hd0 BE.out.ph BE.out.cf BE.out.fl
  clear hbk htab hown hbel BE
  generalize (genTab L).cells hd0 = cs at *
  go_wp2_with (refine Row.wpList_load_g 31 _ rfl (by first | rfl | go_simp) ⟨w.heap.size + 1, 0, none⟩ rfl cs _ LT.out Tryd.underlying31 rfl IA.out ?_)
  (try simp only [Exit.inBlock, Exit.then])
  refine bodyPost_ret (v := .agg cs.toArray) ?_ rfl FIN.out
  exact results_cell_row rfl _ _ w.heap.size 31 _ (0, 0) _ rfl HK.out Tryd.underlying31 rfl (by have := IA.out; simpa using this)
end GenT
namespace GenT
open Go.ChangeShapes Go.WideShapes Go.ChangeAt Go.RowKit
open Tab Gath GenG Clone PlaceM CodeAt
open RefS (num num_range from_any)
theorem table_own (a : Option Addr) (cap : Nat) (L : List Int) (w : World) (h : IntRow w ⟨a, cap⟩ L) :
    Calls Tryd.prog 18 #[.slice a L.length cap] w fun e w' => ∃ hd, e = .returned (.agg ((genTab L).cells hd).toArray) ∧ IsTab w' hd (genTab L) ∧ Own3 w.heap.size w' hd (genTab L) ∧ Below w.heap.size w w' := by
  have HL : Hid (∀ W, Below w.heap.size w W → IntRow W ⟨a, cap⟩ L) := Lib.hid (fun W hb => h.below hb)
  have SM1 := Lib.hid (tab1_few L)
  have GT : Hid (genTab L = if (num L 176 4 % 3).toNat = 0 then tabS L else { tabS L with window := maxW (tabS L) (genN L) }) := Lib.hid rfl
  have TF : Hid (tabF L = if num L 174 ((genN L : Int) + 1) < genN L then { tabC L with flash := (tabC L).flash.set (num L 174 ((genN L : Int) + 1)).toNat 2 } else tabC L) := Lib.hid rfl
  have TC0 : Hid ({ tabP L (genN L) with conflict := call L (tabP L (genN L)) (tabP L (genN L)).conflict (genN L) } = tabC L) := Lib.hid (by rw [call_same (T := tabP L (genN L)) (U := tab1 L) rfl]; rfl)
  have n8 := genN_range L
  have n1 := genN_pos L
  have hz := (zero_of_info infoTz).1
  have Z104 : (zTab.cells zHd)[104]? = some (.slice none 0 0) := rfl
  have ZL : (zTab.cells zHd).length = 131 := rfl
  have B0 : Hid (Below w.heap.size w ((w.alloc (.cells (zTab.cells zHd).toArray 31)).alloc (.cells (zTab.cells zHd).toArray 31))) := Lib.hid (((Below.refl _ _).alloc (Nat.le_refl _) _).alloc (by simp) _)
  have S0 : Hid (((w.alloc (.cells (zTab.cells zHd).toArray 31)).alloc (.cells (zTab.cells zHd).toArray 31)).heap.size = w.heap.size + 2) := Lib.hid (by simp)
  have R0 : Hid (((w.alloc (.cells (zTab.cells zHd).toArray 31)).alloc (.cells (zTab.cells zHd).toArray 31)).heap[w.heap.size]? = some (.cells (zTab.cells zHd).toArray 31 (0, 0))) := Lib.hid (heap_alloc2_old w _ _)
  have R1 : Hid (((w.alloc (.cells (zTab.cells zHd).toArray 31)).alloc (.cells (zTab.cells zHd).toArray 31)).heap[w.heap.size + 1]? = some (.cells (zTab.cells zHd).toArray 31 (0, 0))) := Lib.hid (heap_alloc2_new w _ _)
  have FST : Hid (∀ (W0 W : World) (ga : Option Addr) (gc : Nat) (gs : List Gr), Below w.heap.size w W0 → W0.heap.size = w.heap.size + 2 → W0.heap[w.heap.size]? = some (.cells (zTab.cells zHd).toArray 31 (0, 0)) → gs.map Gr.data = genGs L → GS W0 (w.heap.size + 1) (zTab.cells zHd) ga gc (genG L) gs W → Bx w ⟨⟨ga, gc⟩, ⟨none, 0⟩, ⟨none, 0⟩, ⟨none, 0⟩⟩ (tab1 L) W) := Lib.hid (fun W0 W ga gc gs => Bx.first)
  generalize hZ : zTab.cells zHd = Z at *
  clear hZ
  go_enter Tryd.func18, Tryd.ntmps18
  go_upto_region 2 with fail
  generalize (w.alloc (.cells Z.toArray 31)).alloc (.cells Z.toArray 31) = W0 at B0 S0 R0 R1 ⊢
  go_wp2_with fail
  refine (rows_any (w.heap.size + 1) a cap L Z W0 R1.out ZL Z104 (Lib.hid (fun W hg => HL.out W ⟨hg.os.trans B0.out.os, hg.tape.trans B0.out.tape, hg.output.trans B0.out.output, by have := hg.size; have := S0.out; omega, fun j hj => (hg.block j (by have := S0.out; omega) (fun e => by simp at e; omega)).trans (B0.out.block j hj)⟩))).mono ?_
  rintro e w1 ⟨ga, gc, gs, rfl, hdt, hgs⟩
  have BX := Lib.hid (FST.out W0 w1 ga gc gs B0.out S0.out R0.out hdt hgs)
  clear hdt hgs hz Z104 ZL B0 S0 R0 R1 FST h
  go_wp2_with fail
  refine loop_ph a cap L w w1 _ (tab1 L) (genN L) n8 HL BX (fun _ _ d _ _ h => by cases d <;> exact h) (Lib.hid ?_)
  intro y5 y15 y16 y17 y18 y19 y20 y21 y22 y23 y24 y25 y26 y27 y28 y29 y30 w2 hb2
  have BX2 : Hid (Bx w _ (tabP L (genN L)) w2) := Lib.hid hb2
  clear hb2 BX
  dsimp only
  go_wp2_with fail
  refine loop_cf a cap L w w2 _ (tabP L (genN L)) (genN L) n8 ⟨SM1.out.groups, SM1.out.rows⟩ HL BX2 (fun _ _ d _ _ h => by cases d <;> exact h) (Lib.hid ?_)
  intro z6 z7 z31 z32 z33 z34 z35 z36 z37 z38 z39 z40 z41 z42 z43 z44 z45 z46 z47 z48 z49 z50 z51 z52 z53 z54 z55 z56 z57 z58 z59 z60 z61 z62 z63 z64 z65 z66 z67 z68 z69 z70 z71 z72 z73 w3 hb3
  have BX3 : Hid (Bx w _ (tabC L) w3) := Lib.hid (by rw [TC0.out] at hb3; exact hb3)
  clear hb3 BX2 TC0
  dsimp only
  have hp := num_range L 174 ((genN L : Int) + 1) (by omega)
  go_upto_region 17 with fail
  go_wp2_with fail
  refine (from_any a cap L _ _ w3 (HL.out _ BX3.out.bel) (by omega) (by omega) (by omega)).mono ?_
  rintro e w' ⟨rfl, rfl⟩
  go_upto_if 80 with fail
  go_cut [8] from 74 (fun t8 wx => Bx w ⟨⟨ga, gc⟩, ⟨none, 0⟩, ⟨none, 0⟩, ⟨none, 0⟩⟩ (tabF L) wx)
  case first =>
    generalize num L 174 ((genN L : Int) + 1) = p at *
    by_cases hlt : p < (genN L : Int)
    · obtain ⟨k, rfl⟩ := Int.eq_ofNat_of_zero_le hp.1
      have TE : Hid (tabF L = { tabC L with flash := (tabC L).flash.set k 2 }) := Lib.hid (by rw [TF.out, if_pos hlt]; rfl)
      have hs := BX3.out.set (121 + k) (I 2) (cells_flash _ BX3.out.ph BX3.out.cf BX3.out.fl k (by omega) 2) BX3.out.ph BX3.out.cf (by simp [BX3.out.fl]) rfl rfl rfl rfl
      have c7 : w3.cell? ⟨w.heap.size + 1, 121 + k, none⟩ = some (I ((tabC L).flash.getD k 0)) := (range_of BX3.out.blk 121 8 _ (cells_ok BX3.out.tab).flash) k _ (by rw [List.getElem?_map, List.getD_eq_getElem?_getD, List.getElem?_eq_getElem (show k < (tabC L).flash.length by rw [BX3.out.fl]; omega)]; rfl)
      have f7 := BX3.out.frozen (121 + k)
      rw [← TE.out] at hs
      have HS := Lib.hid hs
      generalize (tabC L).flash.getD k 0 = old at c7
      clear hs BX3 TE TF
      go_wp2_with fail
      go_meet
      exact HS.out
    · have HS : Hid (Bx w ⟨⟨ga, gc⟩, ⟨none, 0⟩, ⟨none, 0⟩, ⟨none, 0⟩⟩ (tabF L) w3) := Lib.hid (by rw [TF.out, if_neg hlt]; exact BX3.out)
      clear BX3 TF
      go_wp2_with fail
      go_meet
      exact HS.out
  case rest =>
    have BX4 := Lib.hid hcut
    clear hcut BX3 TF hp
    obtain ⟨kd0, kd1⟩ := num_range L 175 9 (by omega)
    obtain ⟨kr0, kr1⟩ := num_range L 176 4 (by omega)
    obtain ⟨kb0, kb1⟩ := num_range L 177 3 (by omega)
    obtain ⟨kD, hkD⟩ : ∃ k, k = (num L 175 9).toNat := ⟨_, rfl⟩
    obtain ⟨kR, hkR⟩ : ∃ k, k = (num L 176 4 % 3).toNat := ⟨_, rfl⟩
    obtain ⟨kB, hkB⟩ : ∃ k, k = (num L 177 3).toNat := ⟨_, rfl⟩
    have ED : Hid (num L 175 9 = (kD : Int)) := Lib.hid (by omega)
    have ER : Hid ((num L 176 4).tmod 3 = (kR : Int)) := Lib.hid (by rw [Int.tmod_eq_emod_of_nonneg kr0]; omega)
    have EB : Hid (num L 177 3 = (kB : Int)) := Lib.hid (by omega)
    have lD : kD ≤ 20 := by omega
    have lR : kR ≤ 20 := by omega
    have lB : kB ≤ 20 := by omega
    have TD : Hid ({ tabF L with dets := down (fun i : Nat => GenD.genDet L (180 + 8 * i) (genN L)) kD kD } = tabD L kD) := Lib.hid (by rw [hkD]; rfl)
    have TR : Hid ({ tabD L kD with rails := down (fun i : Nat => GenR.genRl (tabD L kD) L (260 + 16 * i) (genN L)) kR kR } = tabR L kR) := Lib.hid (by
      rw [down_same (g := fun i : Nat => GenR.genRl (tab1 L) L (260 + 16 * i) (genN L)) (fun i => genRl_same (T := tabD L kD) (U := tab1 L) (tabF_groups L) L _ _), hkR, hkD]; rfl)
    have TB : Hid ({ tabR L kR with buses := down (fun i : Nat => genBs L i (genN L)) kB kB } = tabB L kB) := Lib.hid (by rw [hkB, hkR]; rfl)
    have TS : Hid ({ tabB L kB with extend := num L 178 12, budget := num L 179 40, start := num L 180 8, revert := num L 181 8, least := num L 182 12, share := num L 183 4 } = tabS L) := Lib.hid (by rw [hkB]; rfl)
    have LR : Hid ((tabS L).rails.length = kR) := Lib.hid (by rw [tabS_rails, hkR])
    have GT2 : Hid (genTab L = if kR = 0 then tabS L else { tabS L with window := maxW (tabS L) (genN L) }) := Lib.hid (by rw [GT.out, hkR])
    clear hkD hkR hkB GT kd0 kd1 kr0 kr1 kb0 kb1
    go_wp2_with fail
    refine (from_any a cap L _ _ _ (HL.out _ BX4.out.bel) (by omega) (by omega) (by omega)).mono ?_
    rintro e w' ⟨rfl, rfl⟩
    rw [ED.out]
    go_wp2_with fail
    refine loop_dets a cap L w _ ⟨⟨ga, gc⟩, ⟨none, 0⟩, ⟨none, 0⟩, ⟨none, 0⟩⟩ (tabF L) (genN L) n8 n1 kD lD HL ⟨none, 0⟩ (Lib.hid (by rw [tabF_dets]; exact BX4.out)) (fun _ _ d _ _ h => by cases d <;> exact h) (Lib.hid ?_)
    intro v3_9 v3_86 v3_87 v3_88 v3_89 v3_90 v3_91 v3_92 v3_93 v3_94 v3_95 v3_96 v3_97 v3_98 v3_99 v3_100 w4 s1 hb4
    have BX5 : Hid (Bx w _ (tabD L kD) w4) := Lib.hid (by rw [TD.out] at hb4; exact hb4)
    clear hb4 BX4
    dsimp only
    go_wp2_with fail
    refine (from_any a cap L _ _ _ (HL.out _ BX5.out.bel) (by omega) (by omega) (by omega)).mono ?_
    rintro e w' ⟨rfl, rfl⟩
    go_upto_region 25 with fail
    rw [ER.out]
    go_wp2_with fail
    refine loop_rails a cap L w _ ⟨⟨ga, gc⟩, s1, ⟨none, 0⟩, ⟨none, 0⟩⟩ (tabD L kD) (genN L) n8 n1 kR lR ⟨by rw [show (tabD L kD).groups = genGs L from tabF_groups L]; exact SM1.out.groups, by rw [show (tabD L kD).groups = genGs L from tabF_groups L]; exact SM1.out.rows⟩ HL ⟨none, 0⟩ (Lib.hid (by rw [tabD_rails]; exact BX5.out)) (fun _ _ d _ _ h => by cases d <;> exact h) (Lib.hid ?_)
    intro v4_10 v4_104 v4_105 v4_106 v4_107 v4_108 v4_109 v4_110 v4_111 v4_112 v4_113 v4_114 v4_115 v4_116 v4_117 v4_118 v4_119 w5 s2 hb5
    have BX6 : Hid (Bx w _ (tabR L kR) w5) := Lib.hid (by rw [TR.out] at hb5; exact hb5)
    clear hb5 BX5 TR
    dsimp only
    go_wp2_with fail
    refine (from_any a cap L _ _ _ (HL.out _ BX6.out.bel) (by omega) (by omega) (by omega)).mono ?_
    rintro e w' ⟨rfl, rfl⟩
    rw [EB.out]
    go_wp2_with fail
    refine loop_buses a cap L w _ ⟨⟨ga, gc⟩, s1, s2, ⟨none, 0⟩⟩ (tabR L kR) (genN L) n8 n1 kB lB HL ⟨none, 0⟩ (Lib.hid (by rw [tabR_buses]; exact BX6.out)) (fun _ _ d _ _ h => by cases d <;> exact h) (Lib.hid ?_)
    intro v5_11 v5_122 v5_123 v5_124 v5_125 v5_126 v5_127 v5_128 v5_129 v5_130 v5_131 v5_132 v5_133 v5_134 v5_135 v5_136 v5_137 v5_138 v5_139 v5_140 v5_141 v5_142 v5_143 v5_144 v5_145 v5_146 v5_147 v5_148 w6 s3 hb6
    have BX7 : Hid (Bx w _ (tabB L kB) w6) := Lib.hid (by rw [TB.out] at hb6; exact hb6)
    clear hb6 BX6 TB
    dsimp only
    simp only [Exit.inBlock, Exit.then, if_true]
    apply_assumption
    exact tail_any a cap L w _ _ (tabB L kB) n8 HL BX7 TS.out kR lR LR GT2
theorem table_any (a : Option Addr) (cap : Nat) (L : List Int) (w : World) (h : IntRow w ⟨a, cap⟩ L) :
    Calls Tryd.prog 18 #[.slice a L.length cap] w fun e w' => ∃ hd, e = .returned (.agg ((genTab L).cells hd).toArray) ∧ IsTab w' hd (genTab L) ∧ Below w.heap.size w w' :=
  (table_own a cap L w h).mono (by
    rintro e w' ⟨hd, rfl, ht, _, hb⟩
    exact ⟨hd, rfl, ht, hb⟩)
end GenT
end Go.Proofs.YtkccepdifgldeaaDoor
