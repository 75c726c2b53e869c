/- 8 texts in one file, in build order. -/
import Derived.Test.YtfekngnfjemgeaaRows
import Derived.Test.YtfekngnfjemgeaaPart12
import Derived.Deep.Cut
import Derived.LoopTactic
import Derived.Great.BuildSlice
import Derived.Test.YtfekngnfjemgeaaPart13
import Derived.Test.YtfekngnfjemgeaaPart01
import Derived.Test.YtfekngnfjemgeaaPart03
set_option linter.unusedVariables false
set_option linter.unusedSimpArgs false
set_option linter.unusedSectionVars false
/- The generator's table: the loop over its buses. -/
namespace Go.Proofs.Ytfekngnfjemgeaa.GenT
open Go.ChangeShapes Go.WideShapes Go.ChangeAt Go.RowKit
open Tab Gath GenG Clone PlaceM CodeAt
open RefS (num num_range from_any)
set_option linter.unusedVariables false
set_option linter.unusedSimpArgs false
theorem built_bus (x y : Int) : Try.prog.built 43 [(0, I x), (1, I y)] = some #[I x, I y] := by kernel_rfl
theorem infoBz3 : (Try.prog.info? 43).map (fun i => (i.zero, i.size, i.bytes)) = some (some (.agg #[I 0, I 0]), 2, 16) := by kernel_rfl
set_option maxRecDepth 100000 in
set_option maxHeartbeats 8000000 in
theorem loop_buses {Q : Exit → Act → World → Prop} (a : Option Addr) (cap : Nat) (L : List Int) (w W0 : World) (hd : Hd) (T : Tab) (n : Nat) (hn : n ≤ 8) (n0 : 0 < n) (k : Nat) (hk : k ≤ 20) {f1 f5 f6 f7 f8 f9 f10 f12 f13 f14 f15 f16 f17 f18 f19 f20 f21 f22 f23 f24 f25 f26 f27 f28 f29 f30 f31 f32 f33 f34 f35 f36 f37 f38 f39 f40 f41 f42 f43 f44 f45 f46 f47 f48 f49 f50 f51 f52 f53 f54 f55 f56 f57 f58 f59 f60 f61 f62 f63 f64 f65 f66 f67 f68 f69 f70 f71 f72 f73 f74 f75 f76 f77 f78 f79 f80 f81 f82 f83 f84 f85 f86 f87 f88 f89 f90 f91 f92 f93 f94 f95 f96 f97 f98 f99 f100 f101 f102 f103 f104 f105 f106 f107 f108 f109 f110 f111 f112 f113 f114 f115 f116 f117 f118 f119 f120 f121 f122 f123 f124 f125 f126 f127 f128 f129 f130 f131 f132 f133 f134 f135 f136 f137 f138 f139 f140 f141 f142 f143 f144 f145 f146 f147 f148 f149 f150 f151 f152 f153 f154 f155 f156 f157 f158 f159 f160 f161 f162 f163 f164 f165 f166 f167 f168 f169 f170 f171 f172 f173 f174 f175 f176 f177 f178 f179 f180 f181 f182 f183 f184 f185 : Value}
    (HL : Hid (∀ W, Below w.heap.size w W → IntRow W ⟨a, cap⟩ L)) (s0 : Sl) (BX : Hid (Bx w ⟨hd.g, hd.d, hd.r, s0⟩ { T with buses := [] } W0))
    (HP : ∀ c a d v w, Q (.panic c) (a.put d v) w → Q (.panic c) a w) (HQ : Hid (∀ (x11 x122 x123 x124 x125 x126 x127 x128 x129 x130 x131 x132 x133 x134 x135 x136 x137 x138 x139 x140 x141 x142 x143 x144 x145 x146 x147 x148 : Value) (W' : World) (s1 : Sl), Bx w ⟨hd.g, hd.d, hd.r, s1⟩ { T with buses := down (fun i : Nat => genBs L i n) k k } W' → Q (.exit 10) ⟨#[Value.slice a L.length cap, f1, Value.pointer (some ⟨w.heap.size, 0, none⟩), Value.pointer (some ⟨w.heap.size + 1, 0, none⟩), Value.int .i64 (n : Nat), f5, f6, f7, f8, f9, f10, x11, f12, f13, f14, f15, f16, f17, f18, f19, f20, f21, f22, f23, f24, f25, f26, f27, f28, f29, f30, f31, f32, f33, f34, f35, f36, f37, f38, f39, f40, f41, f42, f43, f44, f45, f46, f47, f48, f49, f50, f51, f52, f53, f54, f55, f56, f57, f58, f59, f60, f61, f62, f63, f64, f65, f66, f67, f68, f69, f70, f71, f72, f73, f74, f75, f76, f77, f78, f79, f80, f81, f82, f83, f84, f85, f86, f87, f88, f89, f90, f91, f92, f93, f94, f95, f96, f97, f98, f99, f100, f101, f102, f103, f104, f105, f106, f107, f108, f109, f110, f111, f112, f113, f114, f115, f116, f117, f118, f119, f120, f121, x122, x123, x124, x125, x126, x127, x128, x129, x130, x131, x132, x133, x134, x135, x136, x137, x138, x139, x140, x141, x142, x143, x144, x145, x146, x147, x148, f149, f150, f151, f152, f153, f154, f155, f156, f157, f158, f159, f160, f161, f162, f163, f164, f165, f166, f167, f168, f169, f170, f171, f172, f173, f174, f175, f176, f177, f178, f179, f180, f181, f182, f183, f184, f185], []⟩ W')) :
    (lp 29 Try.f6).wp Try.prog Q ⟨#[Value.slice a L.length cap, f1, Value.pointer (some ⟨w.heap.size, 0, none⟩), Value.pointer (some ⟨w.heap.size + 1, 0, none⟩), Value.int .i64 (n : Nat), f5, f6, f7, f8, f9, f10, Value.int .i64 (k : Nat), f12, f13, f14, f15, f16, f17, f18, f19, f20, f21, f22, f23, f24, f25, f26, f27, f28, f29, f30, f31, f32, f33, f34, f35, f36, f37, f38, f39, f40, f41, f42, f43, f44, f45, f46, f47, f48, f49, f50, f51, f52, f53, f54, f55, f56, f57, f58, f59, f60, f61, f62, f63, f64, f65, f66, f67, f68, f69, f70, f71, f72, f73, f74, f75, f76, f77, f78, f79, f80, f81, f82, f83, f84, f85, f86, f87, f88, f89, f90, f91, f92, f93, f94, f95, f96, f97, f98, f99, f100, f101, f102, f103, f104, f105, f106, f107, f108, f109, f110, f111, f112, f113, f114, f115, f116, f117, f118, f119, f120, f121, f122, f123, f124, f125, f126, f127, f128, f129, f130, f131, f132, f133, f134, f135, f136, f137, f138, f139, f140, f141, f142, f143, f144, f145, f146, f147, f148, f149, f150, f151, f152, f153, f154, f155, f156, f157, f158, f159, f160, f161, f162, f163, f164, f165, f166, f167, f168, f169, f170, f171, f172, f173, f174, f175, f176, f177, f178, f179, f180, f181, f182, f183, f184, f185], []⟩ W0 := by
  conv => arg 2; whnf
  dsimp only
  obtain ⟨j0, hj, hy0, hy1, hy2⟩ := info_parts infoBz3
  go_loopw [11] (fun i wr => ∃ j : Nat, j ≤ k ∧ i = .int .i64 (k - j : Nat) ∧ ∃ s, Bx w ⟨hd.g, hd.d, hd.r, s⟩ { T with buses := down (fun i : Nat => genBs L i n) k j } wr) (fun i _ => (intOf i).toNat)
  case atStart => exact ⟨0, by omega, by go_num, s0, BX.out⟩
  case round =>
    obtain ⟨j, hjk, rfl, ⟨da, dc⟩, hbx⟩ := hrel
    have HB := Lib.hid hbx
    clear hbx BX
    by_cases hlt : j < k
    · obtain ⟨i, hi⟩ : ∃ i : Nat, i = k - j := ⟨_, rfl⟩
      have NX : Hid (down (fun i : Nat => genBs L i n) k (j + 1) = down (fun i : Nat => genBs L i n) k j ++ [(genBs L i n)]) := Lib.hid (by rw [down, ← hi])
      have DL : Hid ((down (fun i : Nat => genBs L i n) k j).length = j) := Lib.hid (down_len _ _ _)
      generalize down (fun i : Nat => genBs L i n) k j = D at *
      have HI := Lib.hid hi
      have hi0 : 0 < i := by omega
      have hi9 : i ≤ 20 := by omega
      rw [← hi]
      clear hi
      have e1 : IntKind.i64.wrap (2 * (i : Int)) = 2 * i := by rw [IntKind.wrap_i64]; omega
      have e2 : IntKind.i64.wrap (330 + 2 * (i : Int)) = 330 + 2 * i := by rw [IntKind.wrap_i64]; omega
      have e3 : IntKind.i64.wrap (331 + 2 * (i : Int)) = 331 + 2 * i := by rw [IntKind.wrap_i64]; omega
      obtain ⟨x1, hx1, F1⟩ : ∃ x : Int, x = num L (330 + 2 * i) 256 ∧ Hid (∀ W, Below w.heap.size w W → Calls Try.prog 19 #[.slice a L.length cap, .int .i64 (330 + 2 * i), .int .i64 256] W fun e w' => e = .returned (.int .i64 x) ∧ w' = W) := ⟨_, rfl, Lib.hid (fun W hb => (from_any a cap L _ _ W (HL.out _ hb) (by omega) (by omega) (by omega)).mono fun _ _ ⟨e, q⟩ => ⟨e, q.symm⟩)⟩
      obtain ⟨x2, hx2, ⟨r2, s2⟩, F2⟩ : ∃ x : Int, x = num L (331 + 2 * i) 30 ∧ (0 ≤ x ∧ x < 30) ∧ Hid (∀ W, Below w.heap.size w W → Calls Try.prog 19 #[.slice a L.length cap, .int .i64 (331 + 2 * i), .int .i64 30] W fun e w' => e = .returned (.int .i64 x) ∧ w' = W) := ⟨_, rfl, num_range _ _ _ (by omega), Lib.hid (fun W hb => (from_any a cap L _ _ W (HL.out _ hb) (by omega) (by omega) (by omega)).mono fun _ _ ⟨e, q⟩ => ⟨e, q.symm⟩)⟩
      have HX : Hid ([I (max 1 (bits .and .i64 x1 (GenR.maskV n))), I (1 + x2)] = (genBs L i n).cells) := Lib.hid (by rw [hx1, hx2]; rfl)
      have e4 : IntKind.i64.wrap (1 + x2) = 1 + x2 := by rw [IntKind.wrap_i64]; omega
      clear hx1 hx2
      generalize genBs L i n = X at NX HX
      go_upto_region 31 with fail
      refine wp_region_held (S := fun _ => True) (by kernel_rfl) ?_
      have hS : True := trivial
      have hb : Bx w ⟨hd.g, hd.d, hd.r, ⟨da, dc⟩⟩ { T with buses := D } { wr with drawn := wr.drawn + 1 } := HB.out.step (Below.refl _ _).drew
      generalize ({ wr with drawn := wr.drawn + 1 } : World) = v at hb ⊢
      clear HB
      refine Held.take (i := 0) (some 126) rfl (v := ?_) rfl (by kernel_rfl) (by kernel_rfl) (by kernel_rfl) (fun _ _ _ h => HP _ _ _ _ _ h) (Or.inl ⟨by rfl, ?_⟩) hS ?_
      rotate_left
      · intro w' hw'
        go_simp
        try with_reducible rfl
      (try dsimp only [Act.put]); (try simp only [List.setIfInBounds_toArray, List.set_cons_zero, List.set_cons_succ])
      refine Held.take (i := 2) (some 128) rfl (v := ?_) rfl (by kernel_rfl) (by kernel_rfl) (by kernel_rfl) (fun _ _ _ h => HP _ _ _ _ _ h) (Or.inl ⟨by rfl, ?_⟩) hS ?_
      rotate_left
      · intro w' hw'
        go_simp
        try with_reducible rfl
      (try dsimp only [Act.put]); (try simp only [List.setIfInBounds_toArray, List.set_cons_zero, List.set_cons_succ])
      refine Held.take (i := 3) (some 129) rfl (v := ?_) rfl (by kernel_rfl) (by kernel_rfl) (by kernel_rfl) (fun _ _ _ h => HP _ _ _ _ _ h) (Or.inl ⟨by rfl, ?_⟩) hS ?_
      rotate_left
      · intro w' hw'
        go_simp
        try with_reducible rfl
      (try dsimp only [Act.put]); (try simp only [List.setIfInBounds_toArray, List.set_cons_zero, List.set_cons_succ])
      refine Held.take (i := 4) (some 130) rfl (v := ?_) rfl (by kernel_rfl) (by kernel_rfl) (by kernel_rfl) (fun _ _ _ h => HP _ _ _ _ _ h) (Or.inl ⟨by rfl, ?_⟩) hS ?_
      rotate_left
      · intro w' hw'
        go_simp
        try with_reducible rfl
      (try dsimp only [Act.put]); (try simp only [List.setIfInBounds_toArray, List.set_cons_zero, List.set_cons_succ])
      refine Held.take (i := 5) (some 131) rfl (v := ?_) rfl (by kernel_rfl) (by kernel_rfl) (by kernel_rfl) (fun _ _ _ h => HP _ _ _ _ _ h) (Or.inl ⟨by rfl, ?_⟩) hS ?_
      rotate_left
      · intro w' hw'
        go_simp
        try with_reducible rfl
      (try dsimp only [Act.put]); (try simp only [List.setIfInBounds_toArray, List.set_cons_zero, List.set_cons_succ])
      refine Held.take (i := 7) (some 133) rfl (v := ?_) rfl (by kernel_rfl) (by kernel_rfl) (by kernel_rfl) (fun _ _ _ h => HP _ _ _ _ _ h) (Or.inl ⟨by rfl, ?_⟩) hS ?_
      rotate_left
      · intro w' hw'
        go_simp
        try with_reducible rfl
      (try dsimp only [Act.put]); (try simp only [List.setIfInBounds_toArray, List.set_cons_zero, List.set_cons_succ])
      refine Held.take (i := 8) (some 134) rfl (v := ?_) rfl (by kernel_rfl) (by kernel_rfl) (by kernel_rfl) (fun _ _ _ h => HP _ _ _ _ _ h) (Or.inl ⟨by rfl, ?_⟩) hS ?_
      rotate_left
      · intro w' hw'
        go_simp
        try with_reducible rfl
      (try dsimp only [Act.put]); (try simp only [List.setIfInBounds_toArray, List.set_cons_zero, List.set_cons_succ])
      refine Held.take (i := 9) (some 135) rfl (v := ?_) rfl (by kernel_rfl) (by kernel_rfl) (by kernel_rfl) (fun _ _ _ h => HP _ _ _ _ _ h) (Or.inl ⟨by rfl, ?_⟩) hS ?_
      rotate_left
      · intro w' hw'
        go_simp
        try with_reducible rfl
      (try dsimp only [Act.put]); (try simp only [List.setIfInBounds_toArray, List.set_cons_zero, List.set_cons_succ])
      refine Held.take (i := 10) (some 136) rfl (v := .int .i64 (GenR.maskV n)) rfl (by kernel_rfl) (by kernel_rfl) (by kernel_rfl) (fun _ _ _ h => HP _ _ _ _ _ h) (Or.inl ⟨by rfl, ?_⟩) hS ?_
      · intro w' hw'
        go_simp
        try (first | rfl | (simp only [Int.max_def]; split <;> split <;> omega))
      (try dsimp only [Act.put]); (try simp only [List.setIfInBounds_toArray, List.set_cons_zero, List.set_cons_succ])
      refine Held.take (i := 13) (some 139) rfl (v := ?_) rfl (by kernel_rfl) (by kernel_rfl) (by kernel_rfl) (fun _ _ _ h => HP _ _ _ _ _ h) (Or.inl ⟨by rfl, ?_⟩) hS ?_
      rotate_left
      · intro w' hw'
        go_simp
        try with_reducible rfl
      (try dsimp only [Act.put]); (try simp only [List.setIfInBounds_toArray, List.set_cons_zero, List.set_cons_succ])
      refine Held.take (i := 14) (some 140) rfl (v := ?_) rfl (by kernel_rfl) (by kernel_rfl) (by kernel_rfl) (fun _ _ _ h => HP _ _ _ _ _ h) (Or.inl ⟨by rfl, ?_⟩) hS ?_
      rotate_left
      · intro w' hw'
        go_simp
        try with_reducible rfl
      (try dsimp only [Act.put]); (try simp only [List.setIfInBounds_toArray, List.set_cons_zero, List.set_cons_succ])
      refine Held.take (i := 15) (some 141) rfl (v := ?_) rfl (by kernel_rfl) (by kernel_rfl) (by kernel_rfl) (fun _ _ _ h => HP _ _ _ _ _ h) (Or.inl ⟨by rfl, ?_⟩) hS ?_
      rotate_left
      · intro w' hw'
        go_simp
        try with_reducible rfl
      (try dsimp only [Act.put]); (try simp only [List.setIfInBounds_toArray, List.set_cons_zero, List.set_cons_succ])
      refine Held.take (i := 16) (some 142) rfl (v := ?_) rfl (by kernel_rfl) (by kernel_rfl) (by kernel_rfl) (fun _ _ _ h => HP _ _ _ _ _ h) (Or.inl ⟨by rfl, ?_⟩) hS ?_
      rotate_left
      · intro w' hw'
        go_simp
        try with_reducible rfl
      (try dsimp only [Act.put]); (try simp only [List.setIfInBounds_toArray, List.set_cons_zero, List.set_cons_succ])
      refine wpAnyH_ready (rs := [1, 6]) (by kernel_rfl) (by simp) (AllReadyH.cons rfl (fun K hK => ?_) (AllReadyH.cons rfl (fun K hK => ?_) AllReadyH.nil))
      · have c4 : v.cell? ⟨w.heap.size + 1, 115, none⟩ = some (.slice da D.length dc) := by rw [hb.cell, ← List.getElem?_toArray]; exact (cells_ok hb.tab).b
        go_simp
        refine hK.out _ _ trivial (fun _ => ?_)
        clear hK K
        clear c4
        refine wpAnyH_ready (rs := [6]) (by kernel_rfl) (by simp) (AllReadyH.cons rfl (fun K hK => ?_) AllReadyH.nil)
        go_simp
        refine (F1.out _ hb.bel).mono ?_
        rintro e w' ⟨rfl, hq⟩
        subst w'
        go_simp
        refine hK.out _ _ trivial (fun _ => ?_)
        clear hK K
        refine Held.take (i := 11) (some 137) rfl (v := .int .i64 (bits .and .i64 x1 (GenR.maskV n))) rfl (by kernel_rfl) (by kernel_rfl) (by kernel_rfl) (fun _ _ _ h => HP _ _ _ _ _ h) (Or.inl ⟨by rfl, ?_⟩) hS ?_
        · intro w' hw'
          go_simp
          try (first | rfl | (simp only [Int.max_def]; split <;> split <;> omega))
        (try dsimp only [Act.put]); (try simp only [List.setIfInBounds_toArray, List.set_cons_zero, List.set_cons_succ])
        refine Held.take (i := 12) (some 138) rfl (v := .int .i64 (max 1 (bits .and .i64 x1 (GenR.maskV n)))) rfl (by kernel_rfl) (by kernel_rfl) (by kernel_rfl) (fun _ _ _ h => HP _ _ _ _ _ h) (Or.inl ⟨by rfl, ?_⟩) hS ?_
        · intro w' hw'
          go_simp
          try (first | rfl | (simp only [Int.max_def]; split <;> split <;> omega))
        (try dsimp only [Act.put]); (try simp only [List.setIfInBounds_toArray, List.set_cons_zero, List.set_cons_succ])
        refine wpAnyH_ready (rs := [17]) (by kernel_rfl) (by simp) (AllReadyH.cons rfl (fun K hK => ?_) AllReadyH.nil)
        go_simp
        refine (F2.out _ hb.bel).mono ?_
        rintro e w' ⟨rfl, hq⟩
        subst w'
        go_simp
        refine hK.out _ _ trivial (fun _ => ?_)
        clear hK K
        refine Held.take (i := 18) (some 144) rfl (v := .int .i64 (1 + x2)) rfl (by kernel_rfl) (by kernel_rfl) (by kernel_rfl) (fun _ _ _ h => HP _ _ _ _ _ h) (Or.inl ⟨by rfl, ?_⟩) hS ?_
        · intro w' hw'
          go_simp
          try (first | rfl | (simp only [Int.max_def]; split <;> split <;> omega))
        (try dsimp only [Act.put]); (try simp only [List.setIfInBounds_toArray, List.set_cons_zero, List.set_cons_succ])
        refine Held.take_build (i := 19) (some 145) rfl 43 _ #[I (max 1 (bits .and .i64 x1 (GenR.maskV n))), I (1 + x2)] rfl rfl (by kernel_rfl) (by kernel_rfl) (by kernel_rfl) (fun _ _ _ h => HP _ _ _ _ _ h) (by rfl) hS (by simp only [List.map_toArray, List.map_cons, List.map_nil]; exact built_bus _ _) ?_
        (try dsimp only [Act.put]); (try simp only [List.setIfInBounds_toArray, List.set_cons_zero, List.set_cons_succ])
        refine wpAnyH_ready (rs := [20]) (by kernel_rfl) (by simp) (AllReadyH.cons rfl (fun K hK => ?_) AllReadyH.nil)
        go_simp
        have hbw : Below v.heap.size v (v.alloc (.cells #[I (max 1 (bits .and .i64 x1 (GenR.maskV n))), I (1 + x2)] 43)) := (Below.refl _ _).alloc (Nat.le_refl _) _
        have hN := heap_alloc_new v (.cells #[I (max 1 (bits .and .i64 x1 (GenR.maskV n))), I (1 + x2)] 43)
        replace hb := hb.step hbw
        clear hbw
        generalize hbn : v.heap.size = bn at hN ⊢
        clear hbn
        generalize World.alloc v (.cells #[I (max 1 (bits .and .i64 x1 (GenR.maskV n))), I (1 + x2)] 43) = v at hb hN ⊢
        refine hK.out _ _ trivial (fun _ => ?_)
        clear hK K
        refine wpAnyH_ready (rs := [21]) (by kernel_rfl) (by simp) (AllReadyH.cons rfl (fun K hK => ?_) AllReadyH.nil)
        rw [if_pos (by rfl)]
        have hown2 : v.ownsRow w.heap.size 43 2 (.slice da D.length dc) D.length (D.flatMap Bs.cells) := hb.buses
        refine wp_append_own _ _ _ _ rfl w.heap.size 43 j0 (.agg #[I 0, I 0]) 2 16 Try.underlying30 hj hy0 hy1 hy2 rfl (by decide) (.slice da D.length dc) D.length _ rfl hown2 ⟨bn, 0, none⟩ 1 1 [I (max 1 (bits .and .i64 x1 (GenR.maskV n))), I (1 + x2)] rfl rfl ?c1 ?c2 ?c3 ?c4 hb.bel.size ?_
        case c1 =>
          intro j e hj
          exact Row.lies_of_block hN j e hj
        case c2 => intro e he; have h1 := (show (#[I (max 1 (bits .and .i64 x1 (GenR.maskV n))), I (1 + x2)] : Array Value).all (·.oneCell') = true from by simp [Value.oneCell']); exact (Array.all_eq_true_iff_forall_mem.1 h1) e (by simpa using he)
        case c3 => unfold maxLen; have := DL.out; omega
        case c4 => have := DL.out; omega
        intro v' w5 hown' hgrow hnil'
        rw [HX.out] at hown'
        obtain ⟨hbk, a', c', rfl, hG⟩ := hb.put_buses X hgrow hown'
        have c5 : w5.cell? ⟨w.heap.size + 1, 115, none⟩ = some (.slice da D.length dc) := by rw [cell_of_row _ _ _ _ _ _ hbk]; exact (cells_ok hb.tab).b
        have f5 : w5.frozen? ⟨w.heap.size + 1, 115, none⟩ = false := frozen_of_row _ _ _ _ _ hbk
        have HG := Lib.hid hG
        clear hown' hgrow hown2 hnil' hbk hG hb hN
        refine hK.out _ _ trivial (fun _ => ?_)
        clear hK K
        refine Held.take (i := 22) (some 148) rfl (v := ?_) rfl (by kernel_rfl) (by kernel_rfl) (by kernel_rfl) (fun _ _ _ h => HP _ _ _ _ _ h) (Or.inl ⟨by rfl, ?_⟩) hS ?_
        rotate_left
        · intro w' hw'
          go_simp
          try with_reducible rfl
        (try dsimp only [Act.put]); (try simp only [List.setIfInBounds_toArray, List.set_cons_zero, List.set_cons_succ])
        refine wpAnyH_ready (rs := [23]) (by kernel_rfl) (by simp) (AllReadyH.cons rfl (fun K hK => ?_) AllReadyH.nil)
        go_simp
        refine hK.out _ _ trivial (fun _ => ?_)
        clear hK K
        refine wpAnyH_done (by kernel_rfl) ?_ _
        clear hS c5 f5
        go_wp2
        go_roundw
        case rel => exact ⟨j + 1, by omega, by have := HI.out; go_num, _, by rw [NX.out]; exact HG.out⟩
        case measure => simp [intOf]; have := HI.out; omega
      · go_simp
        refine (F1.out _ hb.bel).mono ?_
        rintro e w' ⟨rfl, hq⟩
        subst w'
        go_simp
        refine hK.out _ _ trivial (fun _ => ?_)
        clear hK K
        refine Held.take (i := 11) (some 137) rfl (v := .int .i64 (bits .and .i64 x1 (GenR.maskV n))) rfl (by kernel_rfl) (by kernel_rfl) (by kernel_rfl) (fun _ _ _ h => HP _ _ _ _ _ h) (Or.inl ⟨by rfl, ?_⟩) hS ?_
        · intro w' hw'
          go_simp
          try (first | rfl | (simp only [Int.max_def]; split <;> split <;> omega))
        (try dsimp only [Act.put]); (try simp only [List.setIfInBounds_toArray, List.set_cons_zero, List.set_cons_succ])
        refine Held.take (i := 12) (some 138) rfl (v := .int .i64 (max 1 (bits .and .i64 x1 (GenR.maskV n)))) rfl (by kernel_rfl) (by kernel_rfl) (by kernel_rfl) (fun _ _ _ h => HP _ _ _ _ _ h) (Or.inl ⟨by rfl, ?_⟩) hS ?_
        · intro w' hw'
          go_simp
          try (first | rfl | (simp only [Int.max_def]; split <;> split <;> omega))
        (try dsimp only [Act.put]); (try simp only [List.setIfInBounds_toArray, List.set_cons_zero, List.set_cons_succ])
        refine wpAnyH_ready (rs := [1, 17]) (by kernel_rfl) (by simp) (AllReadyH.cons rfl (fun K hK => ?_) (AllReadyH.cons rfl (fun K hK => ?_) AllReadyH.nil))
        · have c4 : v.cell? ⟨w.heap.size + 1, 115, none⟩ = some (.slice da D.length dc) := by rw [hb.cell, ← List.getElem?_toArray]; exact (cells_ok hb.tab).b
          go_simp
          refine hK.out _ _ trivial (fun _ => ?_)
          clear hK K
          clear c4
          refine wpAnyH_ready (rs := [17]) (by kernel_rfl) (by simp) (AllReadyH.cons rfl (fun K hK => ?_) AllReadyH.nil)
          go_simp
          refine (F2.out _ hb.bel).mono ?_
          rintro e w' ⟨rfl, hq⟩
          subst w'
          go_simp
          refine hK.out _ _ trivial (fun _ => ?_)
          clear hK K
          refine Held.take (i := 18) (some 144) rfl (v := .int .i64 (1 + x2)) rfl (by kernel_rfl) (by kernel_rfl) (by kernel_rfl) (fun _ _ _ h => HP _ _ _ _ _ h) (Or.inl ⟨by rfl, ?_⟩) hS ?_
          · intro w' hw'
            go_simp
            try (first | rfl | (simp only [Int.max_def]; split <;> split <;> omega))
          (try dsimp only [Act.put]); (try simp only [List.setIfInBounds_toArray, List.set_cons_zero, List.set_cons_succ])
          refine Held.take_build (i := 19) (some 145) rfl 43 _ #[I (max 1 (bits .and .i64 x1 (GenR.maskV n))), I (1 + x2)] rfl rfl (by kernel_rfl) (by kernel_rfl) (by kernel_rfl) (fun _ _ _ h => HP _ _ _ _ _ h) (by rfl) hS (by simp only [List.map_toArray, List.map_cons, List.map_nil]; exact built_bus _ _) ?_
          (try dsimp only [Act.put]); (try simp only [List.setIfInBounds_toArray, List.set_cons_zero, List.set_cons_succ])
          refine wpAnyH_ready (rs := [20]) (by kernel_rfl) (by simp) (AllReadyH.cons rfl (fun K hK => ?_) AllReadyH.nil)
          go_simp
          have hbw : Below v.heap.size v (v.alloc (.cells #[I (max 1 (bits .and .i64 x1 (GenR.maskV n))), I (1 + x2)] 43)) := (Below.refl _ _).alloc (Nat.le_refl _) _
          have hN := heap_alloc_new v (.cells #[I (max 1 (bits .and .i64 x1 (GenR.maskV n))), I (1 + x2)] 43)
          replace hb := hb.step hbw
          clear hbw
          generalize hbn : v.heap.size = bn at hN ⊢
          clear hbn
          generalize World.alloc v (.cells #[I (max 1 (bits .and .i64 x1 (GenR.maskV n))), I (1 + x2)] 43) = v at hb hN ⊢
          refine hK.out _ _ trivial (fun _ => ?_)
          clear hK K
          refine wpAnyH_ready (rs := [21]) (by kernel_rfl) (by simp) (AllReadyH.cons rfl (fun K hK => ?_) AllReadyH.nil)
          rw [if_pos (by rfl)]
          have hown2 : v.ownsRow w.heap.size 43 2 (.slice da D.length dc) D.length (D.flatMap Bs.cells) := hb.buses
          refine wp_append_own _ _ _ _ rfl w.heap.size 43 j0 (.agg #[I 0, I 0]) 2 16 Try.underlying30 hj hy0 hy1 hy2 rfl (by decide) (.slice da D.length dc) D.length _ rfl hown2 ⟨bn, 0, none⟩ 1 1 [I (max 1 (bits .and .i64 x1 (GenR.maskV n))), I (1 + x2)] rfl rfl ?c1 ?c2 ?c3 ?c4 hb.bel.size ?_
          case c1 =>
            intro j e hj
            exact Row.lies_of_block hN j e hj
          case c2 => intro e he; have h1 := (show (#[I (max 1 (bits .and .i64 x1 (GenR.maskV n))), I (1 + x2)] : Array Value).all (·.oneCell') = true from by simp [Value.oneCell']); exact (Array.all_eq_true_iff_forall_mem.1 h1) e (by simpa using he)
          case c3 => unfold maxLen; have := DL.out; omega
          case c4 => have := DL.out; omega
          intro v' w5 hown' hgrow hnil'
          rw [HX.out] at hown'
          obtain ⟨hbk, a', c', rfl, hG⟩ := hb.put_buses X hgrow hown'
          have c5 : w5.cell? ⟨w.heap.size + 1, 115, none⟩ = some (.slice da D.length dc) := by rw [cell_of_row _ _ _ _ _ _ hbk]; exact (cells_ok hb.tab).b
          have f5 : w5.frozen? ⟨w.heap.size + 1, 115, none⟩ = false := frozen_of_row _ _ _ _ _ hbk
          have HG := Lib.hid hG
          clear hown' hgrow hown2 hnil' hbk hG hb hN
          refine hK.out _ _ trivial (fun _ => ?_)
          clear hK K
          refine Held.take (i := 22) (some 148) rfl (v := ?_) rfl (by kernel_rfl) (by kernel_rfl) (by kernel_rfl) (fun _ _ _ h => HP _ _ _ _ _ h) (Or.inl ⟨by rfl, ?_⟩) hS ?_
          rotate_left
          · intro w' hw'
            go_simp
            try with_reducible rfl
          (try dsimp only [Act.put]); (try simp only [List.setIfInBounds_toArray, List.set_cons_zero, List.set_cons_succ])
          refine wpAnyH_ready (rs := [23]) (by kernel_rfl) (by simp) (AllReadyH.cons rfl (fun K hK => ?_) AllReadyH.nil)
          go_simp
          refine hK.out _ _ trivial (fun _ => ?_)
          clear hK K
          refine wpAnyH_done (by kernel_rfl) ?_ _
          clear hS c5 f5
          go_wp2
          go_roundw
          case rel => exact ⟨j + 1, by omega, by have := HI.out; go_num, _, by rw [NX.out]; exact HG.out⟩
          case measure => simp [intOf]; have := HI.out; omega
        · go_simp
          refine (F2.out _ hb.bel).mono ?_
          rintro e w' ⟨rfl, hq⟩
          subst w'
          go_simp
          refine hK.out _ _ trivial (fun _ => ?_)
          clear hK K
          refine Held.take (i := 18) (some 144) rfl (v := .int .i64 (1 + x2)) rfl (by kernel_rfl) (by kernel_rfl) (by kernel_rfl) (fun _ _ _ h => HP _ _ _ _ _ h) (Or.inl ⟨by rfl, ?_⟩) hS ?_
          · intro w' hw'
            go_simp
            try (first | rfl | (simp only [Int.max_def]; split <;> split <;> omega))
          (try dsimp only [Act.put]); (try simp only [List.setIfInBounds_toArray, List.set_cons_zero, List.set_cons_succ])
          refine Held.take_build (i := 19) (some 145) rfl 43 _ #[I (max 1 (bits .and .i64 x1 (GenR.maskV n))), I (1 + x2)] rfl rfl (by kernel_rfl) (by kernel_rfl) (by kernel_rfl) (fun _ _ _ h => HP _ _ _ _ _ h) (by rfl) hS (by simp only [List.map_toArray, List.map_cons, List.map_nil]; exact built_bus _ _) ?_
          (try dsimp only [Act.put]); (try simp only [List.setIfInBounds_toArray, List.set_cons_zero, List.set_cons_succ])
          refine wpAnyH_ready (rs := [1, 20]) (by kernel_rfl) (by simp) (AllReadyH.cons rfl (fun K hK => ?_) (AllReadyH.cons rfl (fun K hK => ?_) AllReadyH.nil))
          · have c4 : v.cell? ⟨w.heap.size + 1, 115, none⟩ = some (.slice da D.length dc) := by rw [hb.cell, ← List.getElem?_toArray]; exact (cells_ok hb.tab).b
            go_simp
            refine hK.out _ _ trivial (fun _ => ?_)
            clear hK K
            clear c4
            refine wpAnyH_ready (rs := [20]) (by kernel_rfl) (by simp) (AllReadyH.cons rfl (fun K hK => ?_) AllReadyH.nil)
            go_simp
            have hbw : Below v.heap.size v (v.alloc (.cells #[I (max 1 (bits .and .i64 x1 (GenR.maskV n))), I (1 + x2)] 43)) := (Below.refl _ _).alloc (Nat.le_refl _) _
            have hN := heap_alloc_new v (.cells #[I (max 1 (bits .and .i64 x1 (GenR.maskV n))), I (1 + x2)] 43)
            replace hb := hb.step hbw
            clear hbw
            generalize hbn : v.heap.size = bn at hN ⊢
            clear hbn
            generalize World.alloc v (.cells #[I (max 1 (bits .and .i64 x1 (GenR.maskV n))), I (1 + x2)] 43) = v at hb hN ⊢
            refine hK.out _ _ trivial (fun _ => ?_)
            clear hK K
            refine wpAnyH_ready (rs := [21]) (by kernel_rfl) (by simp) (AllReadyH.cons rfl (fun K hK => ?_) AllReadyH.nil)
            rw [if_pos (by rfl)]
            have hown2 : v.ownsRow w.heap.size 43 2 (.slice da D.length dc) D.length (D.flatMap Bs.cells) := hb.buses
            refine wp_append_own _ _ _ _ rfl w.heap.size 43 j0 (.agg #[I 0, I 0]) 2 16 Try.underlying30 hj hy0 hy1 hy2 rfl (by decide) (.slice da D.length dc) D.length _ rfl hown2 ⟨bn, 0, none⟩ 1 1 [I (max 1 (bits .and .i64 x1 (GenR.maskV n))), I (1 + x2)] rfl rfl ?c1 ?c2 ?c3 ?c4 hb.bel.size ?_
            case c1 =>
              intro j e hj
              exact Row.lies_of_block hN j e hj
            case c2 => intro e he; have h1 := (show (#[I (max 1 (bits .and .i64 x1 (GenR.maskV n))), I (1 + x2)] : Array Value).all (·.oneCell') = true from by simp [Value.oneCell']); exact (Array.all_eq_true_iff_forall_mem.1 h1) e (by simpa using he)
            case c3 => unfold maxLen; have := DL.out; omega
            case c4 => have := DL.out; omega
            intro v' w5 hown' hgrow hnil'
            rw [HX.out] at hown'
            obtain ⟨hbk, a', c', rfl, hG⟩ := hb.put_buses X hgrow hown'
            have c5 : w5.cell? ⟨w.heap.size + 1, 115, none⟩ = some (.slice da D.length dc) := by rw [cell_of_row _ _ _ _ _ _ hbk]; exact (cells_ok hb.tab).b
            have f5 : w5.frozen? ⟨w.heap.size + 1, 115, none⟩ = false := frozen_of_row _ _ _ _ _ hbk
            have HG := Lib.hid hG
            clear hown' hgrow hown2 hnil' hbk hG hb hN
            refine hK.out _ _ trivial (fun _ => ?_)
            clear hK K
            refine Held.take (i := 22) (some 148) rfl (v := ?_) rfl (by kernel_rfl) (by kernel_rfl) (by kernel_rfl) (fun _ _ _ h => HP _ _ _ _ _ h) (Or.inl ⟨by rfl, ?_⟩) hS ?_
            rotate_left
            · intro w' hw'
              go_simp
              try with_reducible rfl
            (try dsimp only [Act.put]); (try simp only [List.setIfInBounds_toArray, List.set_cons_zero, List.set_cons_succ])
            refine wpAnyH_ready (rs := [23]) (by kernel_rfl) (by simp) (AllReadyH.cons rfl (fun K hK => ?_) AllReadyH.nil)
            go_simp
            refine hK.out _ _ trivial (fun _ => ?_)
            clear hK K
            refine wpAnyH_done (by kernel_rfl) ?_ _
            clear hS c5 f5
            go_wp2
            go_roundw
            case rel => exact ⟨j + 1, by omega, by have := HI.out; go_num, _, by rw [NX.out]; exact HG.out⟩
            case measure => simp [intOf]; have := HI.out; omega
          · go_simp
            have hbw : Below v.heap.size v (v.alloc (.cells #[I (max 1 (bits .and .i64 x1 (GenR.maskV n))), I (1 + x2)] 43)) := (Below.refl _ _).alloc (Nat.le_refl _) _
            have hN := heap_alloc_new v (.cells #[I (max 1 (bits .and .i64 x1 (GenR.maskV n))), I (1 + x2)] 43)
            replace hb := hb.step hbw
            clear hbw
            generalize hbn : v.heap.size = bn at hN ⊢
            clear hbn
            generalize World.alloc v (.cells #[I (max 1 (bits .and .i64 x1 (GenR.maskV n))), I (1 + x2)] 43) = v at hb hN ⊢
            refine hK.out _ _ trivial (fun _ => ?_)
            clear hK K
            refine wpAnyH_ready (rs := [1]) (by kernel_rfl) (by simp) (AllReadyH.cons rfl (fun K hK => ?_) AllReadyH.nil)
            have c4 : v.cell? ⟨w.heap.size + 1, 115, none⟩ = some (.slice da D.length dc) := by rw [hb.cell, ← List.getElem?_toArray]; exact (cells_ok hb.tab).b
            go_simp
            refine hK.out _ _ trivial (fun _ => ?_)
            clear hK K
            clear c4
            refine wpAnyH_ready (rs := [21]) (by kernel_rfl) (by simp) (AllReadyH.cons rfl (fun K hK => ?_) AllReadyH.nil)
            rw [if_pos (by rfl)]
            have hown2 : v.ownsRow w.heap.size 43 2 (.slice da D.length dc) D.length (D.flatMap Bs.cells) := hb.buses
            refine wp_append_own _ _ _ _ rfl w.heap.size 43 j0 (.agg #[I 0, I 0]) 2 16 Try.underlying30 hj hy0 hy1 hy2 rfl (by decide) (.slice da D.length dc) D.length _ rfl hown2 ⟨bn, 0, none⟩ 1 1 [I (max 1 (bits .and .i64 x1 (GenR.maskV n))), I (1 + x2)] rfl rfl ?c1 ?c2 ?c3 ?c4 hb.bel.size ?_
            case c1 =>
              intro j e hj
              exact Row.lies_of_block hN j e hj
            case c2 => intro e he; have h1 := (show (#[I (max 1 (bits .and .i64 x1 (GenR.maskV n))), I (1 + x2)] : Array Value).all (·.oneCell') = true from by simp [Value.oneCell']); exact (Array.all_eq_true_iff_forall_mem.1 h1) e (by simpa using he)
            case c3 => unfold maxLen; have := DL.out; omega
            case c4 => have := DL.out; omega
            intro v' w5 hown' hgrow hnil'
            rw [HX.out] at hown'
            obtain ⟨hbk, a', c', rfl, hG⟩ := hb.put_buses X hgrow hown'
            have c5 : w5.cell? ⟨w.heap.size + 1, 115, none⟩ = some (.slice da D.length dc) := by rw [cell_of_row _ _ _ _ _ _ hbk]; exact (cells_ok hb.tab).b
            have f5 : w5.frozen? ⟨w.heap.size + 1, 115, none⟩ = false := frozen_of_row _ _ _ _ _ hbk
            have HG := Lib.hid hG
            clear hown' hgrow hown2 hnil' hbk hG hb hN
            refine hK.out _ _ trivial (fun _ => ?_)
            clear hK K
            refine Held.take (i := 22) (some 148) rfl (v := ?_) rfl (by kernel_rfl) (by kernel_rfl) (by kernel_rfl) (fun _ _ _ h => HP _ _ _ _ _ h) (Or.inl ⟨by rfl, ?_⟩) hS ?_
            rotate_left
            · intro w' hw'
              go_simp
              try with_reducible rfl
            (try dsimp only [Act.put]); (try simp only [List.setIfInBounds_toArray, List.set_cons_zero, List.set_cons_succ])
            refine wpAnyH_ready (rs := [23]) (by kernel_rfl) (by simp) (AllReadyH.cons rfl (fun K hK => ?_) AllReadyH.nil)
            go_simp
            refine hK.out _ _ trivial (fun _ => ?_)
            clear hK K
            refine wpAnyH_done (by kernel_rfl) ?_ _
            clear hS c5 f5
            go_wp2
            go_roundw
            case rel => exact ⟨j + 1, by omega, by have := HI.out; go_num, _, by rw [NX.out]; exact HG.out⟩
            case measure => simp [intOf]; have := HI.out; omega
    · have hje : j = k := by omega
      subst hje
      rw [show ((j - j : Nat) : Int) = (0 : Int) by omega]
      go_wp2
      exact HQ.out _ _ _ _ _ _ _ _ _ _ _ _ _ _ _ _ _ _ _ _ _ _ _ _ _ _ _ _ _ _ HB.out
end Go.Proofs.Ytfekngnfjemgeaa.GenT
/- The generator's table: the loop that finds its window. -/
namespace Go.Proofs.Ytfekngnfjemgeaa.GenT
open Go.ChangeShapes Go.WideShapes Go.ChangeAt Go.RowKit
open Tab Gath GenG Clone PlaceM CodeAt
open RefS (num num_range from_any)
set_option linter.unusedVariables false
set_option linter.unusedSimpArgs false
theorem wait_win (T : Tab) (x p : Int) : WaitS.waitS { T with window := x } p = WaitS.waitS T p := rfl
set_option maxRecDepth 100000 in
set_option maxHeartbeats 8000000 in
theorem loop_win {Q : Exit → Act → World → Prop} (a : Option Addr) (cap : Nat) (L : List Int) (w W0 : World) (hd : Hd) (T : Tab) (n : Nat) (hn : n ≤ 8) (sm : Few T) (few : T.rails.length ≤ 1000) {f1 f5 f6 f7 f8 f9 f10 f11 f13 f14 f15 f16 f17 f18 f19 f20 f21 f22 f23 f24 f25 f26 f27 f28 f29 f30 f31 f32 f33 f34 f35 f36 f37 f38 f39 f40 f41 f42 f43 f44 f45 f46 f47 f48 f49 f50 f51 f52 f53 f54 f55 f56 f57 f58 f59 f60 f61 f62 f63 f64 f65 f66 f67 f68 f69 f70 f71 f72 f73 f74 f75 f76 f77 f78 f79 f80 f81 f82 f83 f84 f85 f86 f87 f88 f89 f90 f91 f92 f93 f94 f95 f96 f97 f98 f99 f100 f101 f102 f103 f104 f105 f106 f107 f108 f109 f110 f111 f112 f113 f114 f115 f116 f117 f118 f119 f120 f121 f122 f123 f124 f125 f126 f127 f128 f129 f130 f131 f132 f133 f134 f135 f136 f137 f138 f139 f140 f141 f142 f143 f144 f145 f146 f147 f148 f149 f150 f151 f152 f153 f154 f155 f156 f157 f158 f159 f160 f161 f162 f163 f164 f165 f166 f167 f168 f169 f170 f171 f172 f173 f174 f175 f176 f177 f178 f179 f180 f181 f182 f183 f184 f185 : Value}
    (HL : Hid (∀ W, Below w.heap.size w W → IntRow W ⟨a, cap⟩ L)) (BX : Hid (Bx w hd { T with window := 0 } W0))
    (HP : ∀ c a d v w, Q (.panic c) (a.put d v) w → Q (.panic c) a w) (HQ : Hid (∀ (x12 x167 x168 x169 x170 x171 x172 x173 x174 x175 x176 x177 x178 x179 x180 x181 x182 x183 x184 : Value) (W' : World), Bx w hd { T with window := if T.rails.length = 0 then 0 else maxW T n } W' → Q (.exit 12) ⟨#[Value.slice a L.length cap, f1, Value.pointer (some ⟨w.heap.size, 0, none⟩), Value.pointer (some ⟨w.heap.size + 1, 0, none⟩), Value.int .i64 (n : Nat), f5, f6, f7, f8, f9, f10, f11, x12, f13, f14, f15, f16, f17, f18, f19, f20, f21, f22, f23, f24, f25, f26, f27, f28, f29, f30, f31, f32, f33, f34, f35, f36, f37, f38, f39, f40, f41, f42, f43, f44, f45, f46, f47, f48, f49, f50, f51, f52, f53, f54, f55, f56, f57, f58, f59, f60, f61, f62, f63, f64, f65, f66, f67, f68, f69, f70, f71, f72, f73, f74, f75, f76, f77, f78, f79, f80, f81, f82, f83, f84, f85, f86, f87, f88, f89, f90, f91, f92, f93, f94, f95, f96, f97, f98, f99, f100, f101, f102, f103, f104, f105, f106, f107, f108, f109, f110, f111, f112, f113, f114, f115, f116, f117, f118, f119, f120, f121, f122, f123, f124, f125, f126, f127, f128, f129, f130, f131, f132, f133, f134, f135, f136, f137, f138, f139, f140, f141, f142, f143, f144, f145, f146, f147, f148, f149, f150, f151, f152, f153, f154, f155, f156, f157, f158, f159, f160, f161, f162, f163, f164, f165, f166, x167, x168, x169, x170, x171, x172, x173, x174, x175, x176, x177, x178, x179, x180, x181, x182, x183, x184, f185], []⟩ W')) :
    (lp 39 Try.f6).wp Try.prog Q ⟨#[Value.slice a L.length cap, f1, Value.pointer (some ⟨w.heap.size, 0, none⟩), Value.pointer (some ⟨w.heap.size + 1, 0, none⟩), Value.int .i64 (n : Nat), f5, f6, f7, f8, f9, f10, f11, Value.int .i64 0, f13, f14, f15, f16, f17, f18, f19, f20, f21, f22, f23, f24, f25, f26, f27, f28, f29, f30, f31, f32, f33, f34, f35, f36, f37, f38, f39, f40, f41, f42, f43, f44, f45, f46, f47, f48, f49, f50, f51, f52, f53, f54, f55, f56, f57, f58, f59, f60, f61, f62, f63, f64, f65, f66, f67, f68, f69, f70, f71, f72, f73, f74, f75, f76, f77, f78, f79, f80, f81, f82, f83, f84, f85, f86, f87, f88, f89, f90, f91, f92, f93, f94, f95, f96, f97, f98, f99, f100, f101, f102, f103, f104, f105, f106, f107, f108, f109, f110, f111, f112, f113, f114, f115, f116, f117, f118, f119, f120, f121, f122, f123, f124, f125, f126, f127, f128, f129, f130, f131, f132, f133, f134, f135, f136, f137, f138, f139, f140, f141, f142, f143, f144, f145, f146, f147, f148, f149, f150, f151, f152, f153, f154, f155, f156, f157, f158, f159, f160, f161, f162, f163, f164, f165, f166, f167, f168, f169, f170, f171, f172, f173, f174, f175, f176, f177, f178, f179, f180, f181, f182, f183, f184, f185], []⟩ W0 := by
  conv => arg 2; whnf
  dsimp only
  have SMC : Hid (∀ x : Int, Few { T with window := x }) := Lib.hid (fun x => ⟨sm.groups, sm.rows⟩)
  go_loopw [12] (fun i wr => ∃ q : Nat, q ≤ n ∧ i = .int .i64 q ∧ (T.rails.length = 0 → q = 0) ∧ Bx w hd { T with window := maxW T q } wr) (fun i _ => n - (intOf i).toNat)
  case atStart => exact ⟨0, by omega, rfl, fun _ => rfl, BX.out⟩
  case round =>
    obtain ⟨q, hq, rfl, hq0, hbx⟩ := hrel
    have HB := Lib.hid hbx
    clear hbx BX
    have NX : Hid (maxW T (q + 1) = max (maxW T q) (WaitS.waitS T q)) := Lib.hid rfl
    obtain ⟨sg, sd, ⟨ra, rc⟩, sb⟩ := hd
    have c114 : wr.cell? ⟨w.heap.size + 1, 114, none⟩ = some (.slice ra T.rails.length rc) := by rw [HB.out.cell, ← List.getElem?_toArray]; exact (cells_ok HB.out.tab).r
    by_cases hlt : q < n
    · by_cases hr : T.rails.length = 0
      · have hq1 := hq0 hr
        have HQ2 : Hid ((if T.rails.length = 0 then 0 else maxW T n) = maxW T q) := Lib.hid (by rw [if_pos hr, hq1]; rfl)
        have HB2 : Hid (Bx w ⟨sg, sd, ⟨ra, rc⟩, sb⟩ { T with window := if T.rails.length = 0 then 0 else maxW T n } wr) := Lib.hid (by rw [HQ2.out]; exact HB.out)
        clear HQ2 HB NX hq0
        go_wp2
        exact HQ.out _ _ _ _ _ _ _ _ _ _ _ _ _ _ _ _ _ _ _ _ HB2.out
      · generalize maxW T q = m at *
        have WC : Hid (∀ W, Bx w ⟨sg, sd, ⟨ra, rc⟩, sb⟩ { T with window := m } W → Calls Try.prog 23 #[.agg (({ T with window := m } : Tab).cells ⟨sg, sd, ⟨ra, rc⟩, sb⟩).toArray, .int .i64 q] W fun e w' => e = .returned (.int .i64 (WaitS.waitS T q)) ∧ Below W.heap.size W w') := Lib.hid (fun W hb => by
          have := WaitS.wait_any { T with window := m } ⟨sg, sd, ⟨ra, rc⟩, sb⟩ q W hb.tab (SMC.out m) few
          rw [wait_win] at this
          exact this)
        have IA : Hid ((Try.prog.info? 32).map (·.size) = some (({ T with window := m } : Tab).cells ⟨sg, sd, ⟨ra, rc⟩, sb⟩).length) := Lib.hid (by rw [cells_cut _ HB.out.ph HB.out.cf HB.out.fl]; exact May.infoT)
        generalize WaitS.waitS T q = z at NX WC
        generalize hcs : ({ T with window := m } : Tab).cells ⟨sg, sd, ⟨ra, rc⟩, sb⟩ = cs at WC IA
        go_upto_region 41 with fail
        clear c114
        refine wp_region_held (S := fun _ => True) (by kernel_rfl) ?_
        have hS : True := trivial
        have hb : Bx w ⟨sg, sd, ⟨ra, rc⟩, sb⟩ { T with window := m } { wr with drawn := wr.drawn + 1 } := HB.out.step (Below.refl _ _).drew
        generalize ({ wr with drawn := wr.drawn + 1 } : World) = v at hb ⊢
        clear HB
        refine Held.take (i := 0) (some 178) rfl (v := ?_) rfl (by kernel_rfl) (by kernel_rfl) (by kernel_rfl) (fun _ _ _ h => HP _ _ _ _ _ h) (Or.inl ⟨by rfl, ?_⟩) hS ?_
        rotate_left
        · intro w' hw'
          go_simp
          try with_reducible rfl
        (try dsimp only [Act.put]); (try simp only [List.setIfInBounds_toArray, List.set_cons_zero, List.set_cons_succ])
        refine Held.take (i := 3) (some 181) rfl (v := ?_) rfl (by kernel_rfl) (by kernel_rfl) (by kernel_rfl) (fun _ _ _ h => HP _ _ _ _ _ h) (Or.inl ⟨by rfl, ?_⟩) hS ?_
        rotate_left
        · intro w' hw'
          go_simp
          try with_reducible rfl
        (try dsimp only [Act.put]); (try simp only [List.setIfInBounds_toArray, List.set_cons_zero, List.set_cons_succ])
        refine wpAnyH_ready (rs := [1, 2]) (by kernel_rfl) (by simp) (AllReadyH.cons rfl (fun K hK => ?_) (AllReadyH.cons rfl (fun K hK => ?_) AllReadyH.nil))
        · have c4 : v.cell? ⟨w.heap.size + 1, 129, none⟩ = some (.int .i64 m) := by rw [hb.cell, ← List.getElem?_toArray]; exact (cells_ok hb.tab).window
          go_simp
          refine hK.out _ _ trivial (fun _ => ?_)
          clear hK K
          clear c4
          refine wpAnyH_ready (rs := [2]) (by kernel_rfl) (by simp) (AllReadyH.cons rfl (fun K hK => ?_) AllReadyH.nil)
          rw [if_pos (by rfl)]
          have LT : Lies v ⟨w.heap.size + 1, 0, none⟩ cs := by have := Row.lies_of_block hb.blk; rw [hcs] at this; simpa using this
          refine Row.wp_load_lies 32 _ rfl ⟨w.heap.size + 1, 0, none⟩ rfl cs _ LT Try.underlying32 rfl IA.out ?_
          (try dsimp only [Act.put]); (try simp only [List.setIfInBounds_toArray, List.set_cons_zero, List.set_cons_succ])
          refine hK.out _ _ trivial (fun _ => ?_)
          clear hK K
          clear LT
          refine wpAnyH_ready (rs := [4]) (by kernel_rfl) (by simp) (AllReadyH.cons rfl (fun K hK => ?_) AllReadyH.nil)
          go_simp
          refine (WC.out _ hb).mono ?_
          rintro e v2 ⟨rfl, hbb⟩
          replace hb := hb.step hbb
          clear hbb
          rename World => v
          go_simp
          refine hK.out _ _ trivial (fun _ => ?_)
          clear hK K
          refine Held.take (i := 5) (some 183) rfl (v := .int .i64 (max m z)) rfl (by kernel_rfl) (by kernel_rfl) (by kernel_rfl) (fun _ _ _ h => HP _ _ _ _ _ h) (Or.inl ⟨by rfl, ?_⟩) hS ?_
          · intro w' hw'
            go_simp
            try (first | rfl | (simp only [Int.max_def]; split <;> split <;> omega))
          (try dsimp only [Act.put]); (try simp only [List.setIfInBounds_toArray, List.set_cons_zero, List.set_cons_succ])
          refine Held.take (i := 6) (some 184) rfl (v := ?_) rfl (by kernel_rfl) (by kernel_rfl) (by kernel_rfl) (fun _ _ _ h => HP _ _ _ _ _ h) (Or.inl ⟨by rfl, ?_⟩) hS ?_
          rotate_left
          · intro w' hw'
            go_simp
            try with_reducible rfl
          (try dsimp only [Act.put]); (try simp only [List.setIfInBounds_toArray, List.set_cons_zero, List.set_cons_succ])
          refine wpAnyH_ready (rs := [7]) (by kernel_rfl) (by simp) (AllReadyH.cons rfl (fun K hK => ?_) AllReadyH.nil)
          have c5 : v.cell? ⟨w.heap.size + 1, 129, none⟩ = some (.int .i64 m) := by rw [hb.cell, ← List.getElem?_toArray]; exact (cells_ok hb.tab).window
          have f5 := hb.frozen 129
          have HG := Lib.hid (hb.set 129 (I (max m z)) (cells_window ⟨sg, sd, ⟨ra, rc⟩, sb⟩ hb.ph hb.cf hb.fl (max m z)) hb.ph hb.cf hb.fl rfl rfl rfl rfl)
          clear hb
          go_simp
          refine hK.out _ _ trivial (fun _ => ?_)
          clear hK K
          refine wpAnyH_done (by kernel_rfl) ?_ _
          clear hS c5 f5
          go_wp2
          go_roundw
          case rel => exact ⟨q + 1, by omega, by go_num, fun e => (hr e).elim, by rw [NX.out]; exact HG.out⟩
          case measure => simp [intOf]; omega
        · rw [if_pos (by rfl)]
          have LT : Lies v ⟨w.heap.size + 1, 0, none⟩ cs := by have := Row.lies_of_block hb.blk; rw [hcs] at this; simpa using this
          refine Row.wp_load_lies 32 _ rfl ⟨w.heap.size + 1, 0, none⟩ rfl cs _ LT Try.underlying32 rfl IA.out ?_
          (try dsimp only [Act.put]); (try simp only [List.setIfInBounds_toArray, List.set_cons_zero, List.set_cons_succ])
          refine hK.out _ _ trivial (fun _ => ?_)
          clear hK K
          clear LT
          refine wpAnyH_ready (rs := [1, 4]) (by kernel_rfl) (by simp) (AllReadyH.cons rfl (fun K hK => ?_) (AllReadyH.cons rfl (fun K hK => ?_) AllReadyH.nil))
          · have c4 : v.cell? ⟨w.heap.size + 1, 129, none⟩ = some (.int .i64 m) := by rw [hb.cell, ← List.getElem?_toArray]; exact (cells_ok hb.tab).window
            go_simp
            refine hK.out _ _ trivial (fun _ => ?_)
            clear hK K
            clear c4
            refine wpAnyH_ready (rs := [4]) (by kernel_rfl) (by simp) (AllReadyH.cons rfl (fun K hK => ?_) AllReadyH.nil)
            go_simp
            refine (WC.out _ hb).mono ?_
            rintro e v2 ⟨rfl, hbb⟩
            replace hb := hb.step hbb
            clear hbb
            rename World => v
            go_simp
            refine hK.out _ _ trivial (fun _ => ?_)
            clear hK K
            refine Held.take (i := 5) (some 183) rfl (v := .int .i64 (max m z)) rfl (by kernel_rfl) (by kernel_rfl) (by kernel_rfl) (fun _ _ _ h => HP _ _ _ _ _ h) (Or.inl ⟨by rfl, ?_⟩) hS ?_
            · intro w' hw'
              go_simp
              try (first | rfl | (simp only [Int.max_def]; split <;> split <;> omega))
            (try dsimp only [Act.put]); (try simp only [List.setIfInBounds_toArray, List.set_cons_zero, List.set_cons_succ])
            refine Held.take (i := 6) (some 184) rfl (v := ?_) rfl (by kernel_rfl) (by kernel_rfl) (by kernel_rfl) (fun _ _ _ h => HP _ _ _ _ _ h) (Or.inl ⟨by rfl, ?_⟩) hS ?_
            rotate_left
            · intro w' hw'
              go_simp
              try with_reducible rfl
            (try dsimp only [Act.put]); (try simp only [List.setIfInBounds_toArray, List.set_cons_zero, List.set_cons_succ])
            refine wpAnyH_ready (rs := [7]) (by kernel_rfl) (by simp) (AllReadyH.cons rfl (fun K hK => ?_) AllReadyH.nil)
            have c5 : v.cell? ⟨w.heap.size + 1, 129, none⟩ = some (.int .i64 m) := by rw [hb.cell, ← List.getElem?_toArray]; exact (cells_ok hb.tab).window
            have f5 := hb.frozen 129
            have HG := Lib.hid (hb.set 129 (I (max m z)) (cells_window ⟨sg, sd, ⟨ra, rc⟩, sb⟩ hb.ph hb.cf hb.fl (max m z)) hb.ph hb.cf hb.fl rfl rfl rfl rfl)
            clear hb
            go_simp
            refine hK.out _ _ trivial (fun _ => ?_)
            clear hK K
            refine wpAnyH_done (by kernel_rfl) ?_ _
            clear hS c5 f5
            go_wp2
            go_roundw
            case rel => exact ⟨q + 1, by omega, by go_num, fun e => (hr e).elim, by rw [NX.out]; exact HG.out⟩
            case measure => simp [intOf]; omega
          · go_simp
            refine (WC.out _ hb).mono ?_
            rintro e v2 ⟨rfl, hbb⟩
            replace hb := hb.step hbb
            clear hbb
            rename World => v
            go_simp
            refine hK.out _ _ trivial (fun _ => ?_)
            clear hK K
            refine wpAnyH_ready (rs := [1]) (by kernel_rfl) (by simp) (AllReadyH.cons rfl (fun K hK => ?_) AllReadyH.nil)
            have c4 : v.cell? ⟨w.heap.size + 1, 129, none⟩ = some (.int .i64 m) := by rw [hb.cell, ← List.getElem?_toArray]; exact (cells_ok hb.tab).window
            go_simp
            refine hK.out _ _ trivial (fun _ => ?_)
            clear hK K
            clear c4
            refine Held.take (i := 5) (some 183) rfl (v := .int .i64 (max m z)) rfl (by kernel_rfl) (by kernel_rfl) (by kernel_rfl) (fun _ _ _ h => HP _ _ _ _ _ h) (Or.inl ⟨by rfl, ?_⟩) hS ?_
            · intro w' hw'
              go_simp
              try (first | rfl | (simp only [Int.max_def]; split <;> split <;> omega))
            (try dsimp only [Act.put]); (try simp only [List.setIfInBounds_toArray, List.set_cons_zero, List.set_cons_succ])
            refine Held.take (i := 6) (some 184) rfl (v := ?_) rfl (by kernel_rfl) (by kernel_rfl) (by kernel_rfl) (fun _ _ _ h => HP _ _ _ _ _ h) (Or.inl ⟨by rfl, ?_⟩) hS ?_
            rotate_left
            · intro w' hw'
              go_simp
              try with_reducible rfl
            (try dsimp only [Act.put]); (try simp only [List.setIfInBounds_toArray, List.set_cons_zero, List.set_cons_succ])
            refine wpAnyH_ready (rs := [7]) (by kernel_rfl) (by simp) (AllReadyH.cons rfl (fun K hK => ?_) AllReadyH.nil)
            have c5 : v.cell? ⟨w.heap.size + 1, 129, none⟩ = some (.int .i64 m) := by rw [hb.cell, ← List.getElem?_toArray]; exact (cells_ok hb.tab).window
            have f5 := hb.frozen 129
            have HG := Lib.hid (hb.set 129 (I (max m z)) (cells_window ⟨sg, sd, ⟨ra, rc⟩, sb⟩ hb.ph hb.cf hb.fl (max m z)) hb.ph hb.cf hb.fl rfl rfl rfl rfl)
            clear hb
            go_simp
            refine hK.out _ _ trivial (fun _ => ?_)
            clear hK K
            refine wpAnyH_done (by kernel_rfl) ?_ _
            clear hS c5 f5
            go_wp2
            go_roundw
            case rel => exact ⟨q + 1, by omega, by go_num, fun e => (hr e).elim, by rw [NX.out]; exact HG.out⟩
            case measure => simp [intOf]; omega
    · have hqe : q = n := by omega
      by_cases hr : T.rails.length = 0
      · have hq1 := hq0 hr
        have HB2 : Hid (Bx w ⟨sg, sd, ⟨ra, rc⟩, sb⟩ { T with window := if T.rails.length = 0 then 0 else maxW T n } wr) := Lib.hid (by rw [if_pos hr]; have := HB.out; rw [hq1] at this; exact this)
        clear HB NX hq0 hq1
        subst hqe
        go_wp2
        exact HQ.out _ _ _ _ _ _ _ _ _ _ _ _ _ _ _ _ _ _ _ _ HB2.out
      · have HB2 : Hid (Bx w ⟨sg, sd, ⟨ra, rc⟩, sb⟩ { T with window := if T.rails.length = 0 then 0 else maxW T n } wr) := Lib.hid (by rw [if_neg hr]; have := HB.out; rw [hqe] at this; exact this)
        clear HB NX hq0
        subst hqe
        go_wp2
        exact HQ.out _ _ _ _ _ _ _ _ _ _ _ _ _ _ _ _ _ _ _ _ HB2.out
end Go.Proofs.Ytfekngnfjemgeaa.GenT
/- The generator's Table: from its six numbers on. -/
namespace Go.Proofs.Ytfekngnfjemgeaa.GenT
open Go.ChangeShapes Go.WideShapes Go.ChangeAt Go.RowKit
open Tab Gath GenG Clone PlaceM CodeAt
open RefS (num num_range from_any)
set_option linter.unusedVariables false
set_option linter.unusedSimpArgs false
set_option maxRecDepth 100000 in
set_option maxHeartbeats 8000000 in
theorem tail_any (a : Option Addr) (cap : Nat) (L : List Int) (w W0 : World) (hd0 : Hd) (T0 : Tab) (n8 : genN L ≤ 8) (HL : Hid (∀ W, Below w.heap.size w W → IntRow W ⟨a, cap⟩ L)) (BX : Hid (Bx w hd0 T0 W0))
    (TS : { T0 with extend := num L 178 12, budget := num L 179 40, start := num L 180 8, revert := num L 181 8, least := num L 182 12, share := num L 183 4 } = tabS L) (kR : Nat) (lR : kR ≤ 20) (LR : Hid ((tabS L).rails.length = kR)) (GT2 : Hid (genTab L = if kR = 0 then tabS L else { tabS L with window := maxW (tabS L) (genN L) })) {f1 f5 f6 f7 f8 f9 f10 f11 f12 f13 f14 f15 f16 f17 f18 f19 f20 f21 f22 f23 f24 f25 f26 f27 f28 f29 f30 f31 f32 f33 f34 f35 f36 f37 f38 f39 f40 f41 f42 f43 f44 f45 f46 f47 f48 f49 f50 f51 f52 f53 f54 f55 f56 f57 f58 f59 f60 f61 f62 f63 f64 f65 f66 f67 f68 f69 f70 f71 f72 f73 f74 f75 f76 f77 f78 f79 f80 f81 f82 f83 f84 f85 f86 f87 f88 f89 f90 f91 f92 f93 f94 f95 f96 f97 f98 f99 f100 f101 f102 f103 f104 f105 f106 f107 f108 f109 f110 f111 f112 f113 f114 f115 f116 f117 f118 f119 f120 f121 f122 f123 f124 f125 f126 f127 f128 f129 f130 f131 f132 f133 f134 f135 f136 f137 f138 f139 f140 f141 f142 f143 f144 f145 f146 f147 f148 f149 f150 f151 f152 f153 f154 f155 f156 f157 f158 f159 f160 f161 f162 f163 f164 f165 f166 f167 f168 f169 f170 f171 f172 f173 f174 f175 f176 f177 f178 f179 f180 f181 f182 f183 f184 f185 : Value} :
    (sq 32 Try.f6).wp Try.prog (bodyPost Try.prog Try.f6 fun e w' => ∃ hd, e = .returned (.agg ((genTab L).cells hd).toArray) ∧ IsTab w' hd (genTab L) ∧ Below w.heap.size w w') ⟨#[Value.slice a L.length cap, f1, Value.pointer (some ⟨w.heap.size, 0, none⟩), Value.pointer (some ⟨w.heap.size + 1, 0, none⟩), Value.int .i64 (genN L : Nat), f5, f6, f7, f8, f9, f10, f11, f12, f13, f14, f15, f16, f17, f18, f19, f20, f21, f22, f23, f24, f25, f26, f27, f28, f29, f30, f31, f32, f33, f34, f35, f36, f37, f38, f39, f40, f41, f42, f43, f44, f45, f46, f47, f48, f49, f50, f51, f52, f53, f54, f55, f56, f57, f58, f59, f60, f61, f62, f63, f64, f65, f66, f67, f68, f69, f70, f71, f72, f73, f74, f75, f76, f77, f78, f79, f80, f81, f82, f83, f84, f85, f86, f87, f88, f89, f90, f91, f92, f93, f94, f95, f96, f97, f98, f99, f100, f101, f102, f103, f104, f105, f106, f107, f108, f109, f110, f111, f112, f113, f114, f115, f116, f117, f118, f119, f120, f121, f122, f123, f124, f125, f126, f127, f128, f129, f130, f131, f132, f133, f134, f135, f136, f137, f138, f139, f140, f141, f142, f143, f144, f145, f146, f147, f148, f149, f150, f151, f152, f153, f154, f155, f156, f157, f158, f159, f160, f161, f162, f163, f164, f165, f166, f167, f168, f169, f170, f171, f172, f173, f174, f175, f176, f177, f178, f179, f180, f181, f182, f183, f184, f185], []⟩ W0 := by
  conv => arg 2; whnf
  dsimp only
  obtain ⟨n0, hn0, F0⟩ : ∃ x : Int, x = num L 178 12 ∧ Hid (∀ W, Below w.heap.size w W → Calls Try.prog 19 #[.slice a L.length cap, .int .i64 178, .int .i64 12] W fun e w' => e = .returned (.int .i64 x) ∧ w' = W) := ⟨_, rfl, Lib.hid (fun W hb => (from_any a cap L _ _ W (HL.out _ hb) (by omega) (by omega) (by omega)).mono fun _ _ ⟨e, q⟩ => ⟨e, q.symm⟩)⟩
  obtain ⟨n1, hn1, F1⟩ : ∃ x : Int, x = num L 179 40 ∧ Hid (∀ W, Below w.heap.size w W → Calls Try.prog 19 #[.slice a L.length cap, .int .i64 179, .int .i64 40] W fun e w' => e = .returned (.int .i64 x) ∧ w' = W) := ⟨_, rfl, Lib.hid (fun W hb => (from_any a cap L _ _ W (HL.out _ hb) (by omega) (by omega) (by omega)).mono fun _ _ ⟨e, q⟩ => ⟨e, q.symm⟩)⟩
  obtain ⟨n2, hn2, F2⟩ : ∃ x : Int, x = num L 180 8 ∧ Hid (∀ W, Below w.heap.size w W → Calls Try.prog 19 #[.slice a L.length cap, .int .i64 180, .int .i64 8] W fun e w' => e = .returned (.int .i64 x) ∧ w' = W) := ⟨_, rfl, Lib.hid (fun W hb => (from_any a cap L _ _ W (HL.out _ hb) (by omega) (by omega) (by omega)).mono fun _ _ ⟨e, q⟩ => ⟨e, q.symm⟩)⟩
  obtain ⟨n3, hn3, F3⟩ : ∃ x : Int, x = num L 181 8 ∧ Hid (∀ W, Below w.heap.size w W → Calls Try.prog 19 #[.slice a L.length cap, .int .i64 181, .int .i64 8] W fun e w' => e = .returned (.int .i64 x) ∧ w' = W) := ⟨_, rfl, Lib.hid (fun W hb => (from_any a cap L _ _ W (HL.out _ hb) (by omega) (by omega) (by omega)).mono fun _ _ ⟨e, q⟩ => ⟨e, q.symm⟩)⟩
  obtain ⟨n4, hn4, F4⟩ : ∃ x : Int, x = num L 182 12 ∧ Hid (∀ W, Below w.heap.size w W → Calls Try.prog 19 #[.slice a L.length cap, .int .i64 182, .int .i64 12] W fun e w' => e = .returned (.int .i64 x) ∧ w' = W) := ⟨_, rfl, Lib.hid (fun W hb => (from_any a cap L _ _ W (HL.out _ hb) (by omega) (by omega) (by omega)).mono fun _ _ ⟨e, q⟩ => ⟨e, q.symm⟩)⟩
  obtain ⟨n5, hn5, F5⟩ : ∃ x : Int, x = num L 183 4 ∧ Hid (∀ W, Below w.heap.size w W → Calls Try.prog 19 #[.slice a L.length cap, .int .i64 183, .int .i64 4] W fun e w' => e = .returned (.int .i64 x) ∧ w' = W) := ⟨_, rfl, Lib.hid (fun W hb => (from_any a cap L _ _ W (HL.out _ hb) (by omega) (by omega) (by omega)).mono fun _ _ ⟨e, q⟩ => ⟨e, q.symm⟩)⟩
  have TS2 : Hid (scal T0 [n0, n1, n2, n3, n4, n5] = tabS L) := Lib.hid (by rw [hn0, hn1, hn2, hn3, hn4, hn5, ← TS]; rfl)
  have BY0 : Hid (Bx w hd0 (scal T0 []) W0) := BX
  clear hn0 hn1 hn2 hn3 hn4 hn5 TS BX
  go_wp2_with fail
  refine (F0.out _ BY0.out.bel).mono ?_
  rintro e w' ⟨rfl, hq⟩
  subst w'
  obtain ⟨⟨old, c0⟩, f0, hs⟩ := scal_set BY0.out n0 116 0 rfl (by omega)
  have BY1 : Hid (Bx w hd0 (scal T0 [n0]) _) := Lib.hid hs
  clear hs BY0 F0
  go_upto_region 33 with fail
  clear c0 f0
  go_wp2_with fail
  refine (F1.out _ BY1.out.bel).mono ?_
  rintro e w' ⟨rfl, hq⟩
  subst w'
  obtain ⟨⟨old, c0⟩, f0, hs⟩ := scal_set BY1.out n1 117 1 rfl (by omega)
  have BY2 : Hid (Bx w hd0 (scal T0 [n0, n1]) _) := Lib.hid hs
  clear hs BY1 F1
  go_upto_region 34 with fail
  clear c0 f0
  go_wp2_with fail
  refine (F2.out _ BY2.out.bel).mono ?_
  rintro e w' ⟨rfl, hq⟩
  subst w'
  obtain ⟨⟨old, c0⟩, f0, hs⟩ := scal_set BY2.out n2 118 2 rfl (by omega)
  have BY3 : Hid (Bx w hd0 (scal T0 [n0, n1, n2]) _) := Lib.hid hs
  clear hs BY2 F2
  go_upto_region 35 with fail
  clear c0 f0
  go_wp2_with fail
  refine (F3.out _ BY3.out.bel).mono ?_
  rintro e w' ⟨rfl, hq⟩
  subst w'
  obtain ⟨⟨old, c0⟩, f0, hs⟩ := scal_set BY3.out n3 119 3 rfl (by omega)
  have BY4 : Hid (Bx w hd0 (scal T0 [n0, n1, n2, n3]) _) := Lib.hid hs
  clear hs BY3 F3
  go_upto_region 36 with fail
  clear c0 f0
  go_wp2_with fail
  refine (F4.out _ BY4.out.bel).mono ?_
  rintro e w' ⟨rfl, hq⟩
  subst w'
  obtain ⟨⟨old, c0⟩, f0, hs⟩ := scal_set BY4.out n4 120 4 rfl (by omega)
  have BY5 : Hid (Bx w hd0 (scal T0 [n0, n1, n2, n3, n4]) _) := Lib.hid hs
  clear hs BY4 F4
  go_upto_region 37 with fail
  clear c0 f0
  go_wp2_with fail
  refine (F5.out _ BY5.out.bel).mono ?_
  rintro e w' ⟨rfl, hq⟩
  subst w'
  obtain ⟨⟨old, c0⟩, f0, hs⟩ := scal_set BY5.out n5 130 5 rfl (by omega)
  have BY6 : Hid (Bx w hd0 (scal T0 [n0, n1, n2, n3, n4, n5]) _) := Lib.hid hs
  clear hs BY5 F5
  go_upto_region 38 with fail
  clear c0 f0
  have BZ : Hid (Bx w hd0 (tabS L) _) := Lib.hid (by rw [← TS2.out]; exact BY6.out)
  clear TS2 BY6
  go_wp2_with fail
  refine loop_win a cap L w _ hd0 (tabS L) (genN L) n8 (tabS_few L) (by rw [LR.out]; omega) HL (Lib.hid (by rw [tabS_window]; exact BZ.out)) (fun _ _ d _ _ h => by cases d <;> exact h) (Lib.hid ?_)
  intro v6_12 v6_167 v6_168 v6_169 v6_170 v6_171 v6_172 v6_173 v6_174 v6_175 v6_176 v6_177 v6_178 v6_179 v6_180 v6_181 v6_182 v6_183 v6_184 w7 hb7
  have BE : Hid (Bx w hd0 (genTab L) w7) := Lib.hid (by
    rw [GT2.out]
    rw [LR.out] at hb7
    by_cases e : kR = 0
    · rw [if_pos e] at hb7 ⊢
      rw [tabS_window] at hb7
      exact hb7
    · rw [if_neg e] at hb7 ⊢
      exact hb7)
  clear hb7 BZ LR GT2
  dsimp only
  obtain ⟨w8, hst, hbk, htab, hbel⟩ := BE.out.store_res
  have IA : Hid ((Try.prog.info? 32).map (·.size) = some ((genTab L).cells hd0).length) := Lib.hid (by rw [cells_cut _ BE.out.ph BE.out.cf BE.out.fl]; exact May.infoT)
  have LT : Hid (Lies w7 ⟨w.heap.size + 1, 0, none⟩ ((genTab L).cells hd0)) := Lib.hid (by have := Row.lies_of_block BE.out.blk; simpa using this)
  have FIN : Hid (∃ hd, Ending.returned (.agg ((genTab L).cells hd0).toArray) = .returned (.agg ((genTab L).cells hd).toArray) ∧ IsTab w8 hd (genTab L) ∧ Below w.heap.size w w8) := Lib.hid ⟨hd0, rfl, htab, hbel⟩
  have HK := Lib.hid hbk
  have csl := cells_cut hd0 BE.out.ph BE.out.cf BE.out.fl
  clear hbk htab hbel BE
  generalize (genTab L).cells hd0 = cs at *
  go_wp2_with (refine Row.wpList_load_g 32 _ rfl (by first | rfl | go_simp) ⟨w.heap.size + 1, 0, none⟩ rfl cs _ LT.out Try.underlying32 rfl IA.out ?_)
  (try simp only [Exit.inBlock, Exit.then])
  refine bodyPost_ret (v := .agg cs.toArray) ?_ rfl FIN.out
  exact results_cell_row rfl _ _ w.heap.size 32 _ (0, 0) _ rfl HK.out Try.underlying32 rfl (by have := IA.out; simpa using this)
end Go.Proofs.Ytfekngnfjemgeaa.GenT
/- The generator's Table: by any numbers it hands back the table genTab. -/
namespace Go.Proofs.Ytfekngnfjemgeaa.GenT
open Go.ChangeShapes Go.WideShapes Go.ChangeAt Go.RowKit
open Tab Gath GenG Clone PlaceM CodeAt
open RefS (num num_range from_any)
set_option linter.unusedVariables false
set_option linter.unusedSimpArgs false
set_option maxRecDepth 100000 in
set_option maxHeartbeats 8000000 in
theorem table_any (a : Option Addr) (cap : Nat) (L : List Int) (w : World) (h : IntRow w ⟨a, cap⟩ L) :
    Calls Try.prog 6 #[.slice a L.length cap] w fun e w' => ∃ hd, e = .returned (.agg ((genTab L).cells hd).toArray) ∧ IsTab w' hd (genTab L) ∧ Below w.heap.size w w' := by
  have HL : Hid (∀ W, Below w.heap.size w W → IntRow W ⟨a, cap⟩ L) := Lib.hid (fun W hb => h.below hb)
  have SM1 := Lib.hid (tab1_few L)
  have GT : Hid (genTab L = if (num L 176 4 % 3).toNat = 0 then tabS L else { tabS L with window := maxW (tabS L) (genN L) }) := Lib.hid rfl
  have TF : Hid (tabF L = if num L 174 ((genN L : Int) + 1) < genN L then { tabC L with flash := (tabC L).flash.set (num L 174 ((genN L : Int) + 1)).toNat 2 } else tabC L) := Lib.hid rfl
  have TC0 : Hid ({ tabP L (genN L) with conflict := call L (tabP L (genN L)) (tabP L (genN L)).conflict (genN L) } = tabC L) := Lib.hid (by rw [call_same (T := tabP L (genN L)) (U := tab1 L) rfl]; rfl)
  have n8 := genN_range L
  have n1 := genN_pos L
  have hz := (zero_of_info infoTz).1
  have Z104 : (zTab.cells zHd)[104]? = some (.slice none 0 0) := rfl
  have ZL : (zTab.cells zHd).length = 131 := rfl
  have B0 : Hid (Below w.heap.size w ((w.alloc (.cells (zTab.cells zHd).toArray 32)).alloc (.cells (zTab.cells zHd).toArray 32))) := Lib.hid (((Below.refl _ _).alloc (Nat.le_refl _) _).alloc (by simp) _)
  have S0 : Hid (((w.alloc (.cells (zTab.cells zHd).toArray 32)).alloc (.cells (zTab.cells zHd).toArray 32)).heap.size = w.heap.size + 2) := Lib.hid (by simp)
  have R0 : Hid (((w.alloc (.cells (zTab.cells zHd).toArray 32)).alloc (.cells (zTab.cells zHd).toArray 32)).heap[w.heap.size]? = some (.cells (zTab.cells zHd).toArray 32 (0, 0))) := Lib.hid (heap_alloc2_old w _ _)
  have R1 : Hid (((w.alloc (.cells (zTab.cells zHd).toArray 32)).alloc (.cells (zTab.cells zHd).toArray 32)).heap[w.heap.size + 1]? = some (.cells (zTab.cells zHd).toArray 32 (0, 0))) := Lib.hid (heap_alloc2_new w _ _)
  have FST : Hid (∀ (W0 W : World) (ga : Option Addr) (gc : Nat) (gs : List Gr), Below w.heap.size w W0 → W0.heap.size = w.heap.size + 2 → W0.heap[w.heap.size]? = some (.cells (zTab.cells zHd).toArray 32 (0, 0)) → gs.map Gr.data = genGs L → GS W0 (w.heap.size + 1) (zTab.cells zHd) ga gc (genG L) gs W → Bx w ⟨⟨ga, gc⟩, ⟨none, 0⟩, ⟨none, 0⟩, ⟨none, 0⟩⟩ (tab1 L) W) := Lib.hid (fun W0 W ga gc gs => Bx.first)
  generalize hZ : zTab.cells zHd = Z at *
  clear hZ
  go_enter Try.func6, Try.ntmps6
  go_upto_region 2 with fail
  generalize (w.alloc (.cells Z.toArray 32)).alloc (.cells Z.toArray 32) = W0 at B0 S0 R0 R1 ⊢
  go_wp2_with fail
  refine (rows_any (w.heap.size + 1) a cap L Z W0 R1.out ZL Z104 (Lib.hid (fun W hg => HL.out W ⟨hg.os.trans B0.out.os, hg.tape.trans B0.out.tape, hg.output.trans B0.out.output, by have := hg.size; have := S0.out; omega, fun j hj => (hg.block j (by have := S0.out; omega) (fun e => by simp at e; omega)).trans (B0.out.block j hj)⟩))).mono ?_
  rintro e w1 ⟨ga, gc, gs, rfl, hdt, hgs⟩
  have BX := Lib.hid (FST.out W0 w1 ga gc gs B0.out S0.out R0.out hdt hgs)
  clear hdt hgs hz Z104 ZL B0 S0 R0 R1 FST h
  go_wp2_with fail
  refine loop_ph a cap L w w1 _ (tab1 L) (genN L) n8 HL BX (fun _ _ d _ _ h => by cases d <;> exact h) (Lib.hid ?_)
  intro y5 y15 y16 y17 y18 y19 y20 y21 y22 y23 y24 y25 y26 y27 y28 y29 y30 w2 hb2
  have BX2 : Hid (Bx w _ (tabP L (genN L)) w2) := Lib.hid hb2
  clear hb2 BX
  dsimp only
  go_wp2_with fail
  refine loop_cf a cap L w w2 _ (tabP L (genN L)) (genN L) n8 ⟨SM1.out.groups, SM1.out.rows⟩ HL BX2 (fun _ _ d _ _ h => by cases d <;> exact h) (Lib.hid ?_)
  intro z6 z7 z31 z32 z33 z34 z35 z36 z37 z38 z39 z40 z41 z42 z43 z44 z45 z46 z47 z48 z49 z50 z51 z52 z53 z54 z55 z56 z57 z58 z59 z60 z61 z62 z63 z64 z65 z66 z67 z68 z69 z70 z71 z72 z73 w3 hb3
  have BX3 : Hid (Bx w _ (tabC L) w3) := Lib.hid (by rw [TC0.out] at hb3; exact hb3)
  clear hb3 BX2 TC0
  dsimp only
  have hp := num_range L 174 ((genN L : Int) + 1) (by omega)
  go_upto_region 17 with fail
  go_wp2_with fail
  refine (from_any a cap L _ _ w3 (HL.out _ BX3.out.bel) (by omega) (by omega) (by omega)).mono ?_
  rintro e w' ⟨rfl, rfl⟩
  go_upto_if 80 with fail
  go_cut [8] from 74 (fun t8 wx => Bx w ⟨⟨ga, gc⟩, ⟨none, 0⟩, ⟨none, 0⟩, ⟨none, 0⟩⟩ (tabF L) wx)
  case first =>
    generalize num L 174 ((genN L : Int) + 1) = p at *
    by_cases hlt : p < (genN L : Int)
    · obtain ⟨k, rfl⟩ := Int.eq_ofNat_of_zero_le hp.1
      have TE : Hid (tabF L = { tabC L with flash := (tabC L).flash.set k 2 }) := Lib.hid (by rw [TF.out, if_pos hlt]; rfl)
      have hs := BX3.out.set (121 + k) (I 2) (cells_flash _ BX3.out.ph BX3.out.cf BX3.out.fl k (by omega) 2) BX3.out.ph BX3.out.cf (by simp [BX3.out.fl]) rfl rfl rfl rfl
      have c7 : w3.cell? ⟨w.heap.size + 1, 121 + k, none⟩ = some (I ((tabC L).flash.getD k 0)) := (range_of BX3.out.blk 121 8 _ (cells_ok BX3.out.tab).flash) k _ (by rw [List.getElem?_map, List.getD_eq_getElem?_getD, List.getElem?_eq_getElem (show k < (tabC L).flash.length by rw [BX3.out.fl]; omega)]; rfl)
      have f7 := BX3.out.frozen (121 + k)
      rw [← TE.out] at hs
      have HS := Lib.hid hs
      generalize (tabC L).flash.getD k 0 = old at c7
      clear hs BX3 TE TF
      go_wp2_with fail
      go_meet
      exact HS.out
    · have HS : Hid (Bx w ⟨⟨ga, gc⟩, ⟨none, 0⟩, ⟨none, 0⟩, ⟨none, 0⟩⟩ (tabF L) w3) := Lib.hid (by rw [TF.out, if_neg hlt]; exact BX3.out)
      clear BX3 TF
      go_wp2_with fail
      go_meet
      exact HS.out
  case rest =>
    have BX4 := Lib.hid hcut
    clear hcut BX3 TF hp
    obtain ⟨kd0, kd1⟩ := num_range L 175 9 (by omega)
    obtain ⟨kr0, kr1⟩ := num_range L 176 4 (by omega)
    obtain ⟨kb0, kb1⟩ := num_range L 177 3 (by omega)
    obtain ⟨kD, hkD⟩ : ∃ k, k = (num L 175 9).toNat := ⟨_, rfl⟩
    obtain ⟨kR, hkR⟩ : ∃ k, k = (num L 176 4 % 3).toNat := ⟨_, rfl⟩
    obtain ⟨kB, hkB⟩ : ∃ k, k = (num L 177 3).toNat := ⟨_, rfl⟩
    have ED : Hid (num L 175 9 = (kD : Int)) := Lib.hid (by omega)
    have ER : Hid ((num L 176 4).tmod 3 = (kR : Int)) := Lib.hid (by rw [Int.tmod_eq_emod_of_nonneg kr0]; omega)
    have EB : Hid (num L 177 3 = (kB : Int)) := Lib.hid (by omega)
    have lD : kD ≤ 20 := by omega
    have lR : kR ≤ 20 := by omega
    have lB : kB ≤ 20 := by omega
    have TD : Hid ({ tabF L with dets := down (fun i : Nat => GenD.genDet L (180 + 8 * i) (genN L)) kD kD } = tabD L kD) := Lib.hid (by rw [hkD]; rfl)
    have TR : Hid ({ tabD L kD with rails := down (fun i : Nat => GenR.genRl (tabD L kD) L (260 + 16 * i) (genN L)) kR kR } = tabR L kR) := Lib.hid (by
      rw [down_same (g := fun i : Nat => GenR.genRl (tab1 L) L (260 + 16 * i) (genN L)) (fun i => genRl_same (T := tabD L kD) (U := tab1 L) (tabF_groups L) L _ _), hkR, hkD]; rfl)
    have TB : Hid ({ tabR L kR with buses := down (fun i : Nat => genBs L i (genN L)) kB kB } = tabB L kB) := Lib.hid (by rw [hkB, hkR]; rfl)
    have TS : Hid ({ tabB L kB with extend := num L 178 12, budget := num L 179 40, start := num L 180 8, revert := num L 181 8, least := num L 182 12, share := num L 183 4 } = tabS L) := Lib.hid (by rw [hkB]; rfl)
    have LR : Hid ((tabS L).rails.length = kR) := Lib.hid (by rw [tabS_rails, hkR])
    have GT2 : Hid (genTab L = if kR = 0 then tabS L else { tabS L with window := maxW (tabS L) (genN L) }) := Lib.hid (by rw [GT.out, hkR])
    clear hkD hkR hkB GT kd0 kd1 kr0 kr1 kb0 kb1
    go_wp2_with fail
    refine (from_any a cap L _ _ _ (HL.out _ BX4.out.bel) (by omega) (by omega) (by omega)).mono ?_
    rintro e w' ⟨rfl, rfl⟩
    rw [ED.out]
    go_wp2_with fail
    refine loop_dets a cap L w _ ⟨⟨ga, gc⟩, ⟨none, 0⟩, ⟨none, 0⟩, ⟨none, 0⟩⟩ (tabF L) (genN L) n8 n1 kD lD HL ⟨none, 0⟩ (Lib.hid (by rw [tabF_dets]; exact BX4.out)) (fun _ _ d _ _ h => by cases d <;> exact h) (Lib.hid ?_)
    intro v3_9 v3_86 v3_87 v3_88 v3_89 v3_90 v3_91 v3_92 v3_93 v3_94 v3_95 v3_96 v3_97 v3_98 v3_99 v3_100 w4 s1 hb4
    have BX5 : Hid (Bx w _ (tabD L kD) w4) := Lib.hid (by rw [TD.out] at hb4; exact hb4)
    clear hb4 BX4
    dsimp only
    go_wp2_with fail
    refine (from_any a cap L _ _ _ (HL.out _ BX5.out.bel) (by omega) (by omega) (by omega)).mono ?_
    rintro e w' ⟨rfl, rfl⟩
    go_upto_region 25 with fail
    rw [ER.out]
    go_wp2_with fail
    refine loop_rails a cap L w _ ⟨⟨ga, gc⟩, s1, ⟨none, 0⟩, ⟨none, 0⟩⟩ (tabD L kD) (genN L) n8 n1 kR lR ⟨by rw [show (tabD L kD).groups = genGs L from tabF_groups L]; exact SM1.out.groups, by rw [show (tabD L kD).groups = genGs L from tabF_groups L]; exact SM1.out.rows⟩ HL ⟨none, 0⟩ (Lib.hid (by rw [tabD_rails]; exact BX5.out)) (fun _ _ d _ _ h => by cases d <;> exact h) (Lib.hid ?_)
    intro v4_10 v4_104 v4_105 v4_106 v4_107 v4_108 v4_109 v4_110 v4_111 v4_112 v4_113 v4_114 v4_115 v4_116 v4_117 v4_118 v4_119 w5 s2 hb5
    have BX6 : Hid (Bx w _ (tabR L kR) w5) := Lib.hid (by rw [TR.out] at hb5; exact hb5)
    clear hb5 BX5 TR
    dsimp only
    go_wp2_with fail
    refine (from_any a cap L _ _ _ (HL.out _ BX6.out.bel) (by omega) (by omega) (by omega)).mono ?_
    rintro e w' ⟨rfl, rfl⟩
    rw [EB.out]
    go_wp2_with fail
    refine loop_buses a cap L w _ ⟨⟨ga, gc⟩, s1, s2, ⟨none, 0⟩⟩ (tabR L kR) (genN L) n8 n1 kB lB HL ⟨none, 0⟩ (Lib.hid (by rw [tabR_buses]; exact BX6.out)) (fun _ _ d _ _ h => by cases d <;> exact h) (Lib.hid ?_)
    intro v5_11 v5_122 v5_123 v5_124 v5_125 v5_126 v5_127 v5_128 v5_129 v5_130 v5_131 v5_132 v5_133 v5_134 v5_135 v5_136 v5_137 v5_138 v5_139 v5_140 v5_141 v5_142 v5_143 v5_144 v5_145 v5_146 v5_147 v5_148 w6 s3 hb6
    have BX7 : Hid (Bx w _ (tabB L kB) w6) := Lib.hid (by rw [TB.out] at hb6; exact hb6)
    clear hb6 BX6 TB
    dsimp only
    simp only [Exit.inBlock, Exit.then, if_true]
    apply_assumption
    exact tail_any a cap L w _ _ (tabB L kB) n8 HL BX7 TS.out kR lR LR GT2
end Go.Proofs.Ytfekngnfjemgeaa.GenT
/- The table by numbers: its phases stand once each, in order, and just those are On. No program in it. -/
namespace Go.Proofs.Ytfekngnfjemgeaa.GenT
open Go Tab GenG PlaceM OnS Clone
open RefS (num num_range)
set_option linter.unusedVariables false
set_option linter.unusedSimpArgs false
theorem seg_append (p a b : Nat) : seg p a ++ seg (p + a) b = seg p (a + b) := by
  induction b with
  | zero => simp [seg]
  | succ b ih => rw [seg_succ, ← List.append_assoc, ih, ← Nat.add_assoc, seg_succ, Nat.add_assoc]
theorem mem_seg {p m : Nat} {x : Int} : x ∈ seg p m ↔ (p : Int) ≤ x ∧ x < p + m := by
  unfold seg
  rw [List.mem_map]
  constructor
  · rintro ⟨i, hi, rfl⟩
    have := List.mem_range.1 hi
    omega
  · rintro ⟨h1, h2⟩
    exact ⟨(x - p).toNat, List.mem_range.2 (by omega), by omega⟩
theorem seg_at {p m i : Nat} (h : i < m) : (seg p m)[i]? = some ((p + i : Nat) : Int) := by
  unfold seg; rw [List.getElem?_map, List.getElem?_range h]; rfl
theorem row_seg (g k : Nat) : ∀ (m i p : Nat), p + m ≤ 8 → (rowS g k i (seg p m)).map Spt.p = seg p m
  | 0, i, p, h => rfl
  | m + 1, i, p, h => by
    have e : seg p (m + 1) = (p : Int) :: seg (p + 1) m := by
      have := seg_append p 1 m
      rw [Nat.add_comm 1 m] at this
      rw [← this]
      simp [seg]
    rw [e, rowS, List.map_append, row_seg g k m (i + 1) (p + 1) (by omega), one, if_pos ⟨by omega, by omega⟩]
    rfl
theorem up_spots (L : List Int) (G : Nat) (hG : G ≤ 3) : ∀ g, g ≤ G → (allS 0 (upTo L G g).1).map Spt.p = seg 0 (upTo L G g).2
  | 0, _ => rfl
  | g + 1, h => by
    have h8 := up_le L G hG (g + 1) h
    have e2 : (upTo L G (g + 1)).2 = (upTo L G g).2 + n0 L G g (upTo L G g).2 + n1 L G g (upTo L G g).2 := rfl
    have e1 : (upTo L G (g + 1)).1 = (upTo L G g).1 ++ [grpD L G g (upTo L G g).2] := rfl
    rw [e1, allS_append, List.map_append, up_spots L G hG g (by omega)]
    rw [e2] at h8 ⊢
    simp only [allS, List.append_nil, grpS, grpD, List.map_append]
    rw [row_seg _ _ _ _ _ (by omega), row_seg _ _ _ _ _ (by omega), ← List.append_assoc]
    rw [show seg 0 (upTo L G g).2 ++ seg (upTo L G g).2 (n0 L G g (upTo L G g).2) = seg 0 ((upTo L G g).2 + n0 L G g (upTo L G g).2) from by have := seg_append 0 (upTo L G g).2 (n0 L G g (upTo L G g).2); rwa [Nat.zero_add] at this]
    have := seg_append 0 ((upTo L G g).2 + n0 L G g (upTo L G g).2) (n1 L G g (upTo L G g).2)
    rwa [Nat.zero_add] at this
theorem genTab_groups (L : List Int) : (genTab L).groups = genGs L := by
  unfold genTab; split <;> exact tabF_groups L
theorem genTab_phases (L : List Int) : (genTab L).phases = upd (fun p => GenP.genPh L (10 + 12 * p)) zPh (genN L) := by
  have h : (tabF L).phases = upd (fun p => GenP.genPh L (10 + 12 * p)) zPh (genN L) := by unfold tabF; split <;> rfl
  unfold genTab; split <;> exact h
theorem genTab_few (L : List Int) : Few (genTab L) := ⟨by rw [genTab_groups]; exact (tab1_few L).groups, by rw [genTab_groups]; exact (tab1_few L).rows⟩
theorem gen_spots (L : List Int) : (spots (genTab L)).map Spt.p = seg 0 (genN L) := by
  unfold spots; rw [genTab_groups]; exact up_spots L (genG L) (genG_range L).2 _ (Nat.le_refl _)
theorem gen_nodup (L : List Int) : ((spots (genTab L)).map Spt.p).Nodup := by
  rw [gen_spots]
  unfold seg
  unfold List.Nodup
  rw [List.pairwise_map]
  exact List.nodup_range.imp (fun h e => h (by omega))
theorem where_isSome (T : Tab) (p : Int) : (where_ T p).isSome = decide (p ∈ (spots T).map Spt.p) := by
  unfold where_ find
  cases h : List.find? (fun x => x.p == p) (spots T) with
  | none =>
    rw [List.find?_eq_none] at h
    symm; simp only [Option.isSome_none, decide_eq_false_iff_not, List.mem_map]
    rintro ⟨x, hx, rfl⟩
    simpa using h x hx
  | some x =>
    have hx := List.mem_of_find?_eq_some h
    have hp := List.find?_some h
    symm; simp only [Option.isSome_some, decide_eq_true_eq, List.mem_map]
    exact ⟨x, hx, by simpa using hp⟩
theorem gen_on (L : List Int) : onL (genTab L) = seg 0 (genN L) := by
  unfold onL
  rw [genTab_phases]
  have h8 := genN_range L
  generalize genN L = n at *
  match n, h8 with
  | 0, _ | 1, _ | 2, _ | 3, _ | 4, _ | 5, _ | 6, _ | 7, _ | 8, _ => rfl
theorem gen_has_on (L : List Int) (p : Int) : SetM.has (onS (genTab L) : Nat) p = (where_ (genTab L) p).isSome := by
  rw [where_isSome, gen_spots, OnS.onS, gen_on]
  have h8 := genN_range L
  rw [SetM.has_of _ (SetM.of_lt _)]
  by_cases h : 0 ≤ p
  · obtain ⟨k, rfl⟩ := Int.eq_ofNat_of_zero_le h
    rw [decide_eq_true h, Bool.true_and, Int.toNat_natCast, SetM.of_test]
    have : ((k : Int) ∈ seg 0 (genN L)) ↔ ((k : Int) ∈ seg 0 (genN L) ∧ k < 8) := ⟨fun h => ⟨h, by have := mem_seg.1 h; omega⟩, fun h => h.1⟩
    simp only [decide_eq_decide]
    exact this.symm
  · rw [decide_eq_false h, Bool.false_and]
    symm
    rw [decide_eq_false_iff_not, mem_seg]
    omega
theorem beside_symm (T : Tab) (p q : Int) : beside T p q = beside T q p := by
  unfold beside
  cases where_ T p with
  | none => cases where_ T q <;> rfl
  | some a =>
    cases where_ T q with
    | none => rfl
    | some b =>
      show (a.g == b.g && a.k != b.k) = (b.g == a.g && b.k != a.k)
      rw [Bool.beq_comm, bne_comm]
theorem beside_self (T : Tab) (p : Int) : beside T p p = false := by
  unfold beside
  cases where_ T p with
  | none => rfl
  | some a => simp
end Go.Proofs.Ytfekngnfjemgeaa.GenT
/- The table by numbers has no Fault (stage 9), in parts: phases, conflicts, lamps in flash, detectors, buses. No program in it. -/
namespace Go.Proofs.Ytfekngnfjemgeaa.Val
open Go Tab GenG GenT PlaceM PlanM OnS ChkM Clone
open RefS (num num_range)
set_option linter.unusedVariables false
set_option linter.unusedSimpArgs false
theorem onS_gen (L : List Int) : onS (genTab L) = SetM.of (seg 0 (genN L)) := by unfold onS; rw [gen_on]
theorem ons_gen (L : List Int) : ons (genTab L) = seg 0 (genN L) := by
  unfold ons; rw [onS_gen]
  have h8 := genN_range L
  generalize genN L = n at *
  match n, h8 with
  | 0, _ | 1, _ | 2, _ | 3, _ | 4, _ | 5, _ | 6, _ | 7, _ | 8, _ => decide +kernel
theorem mem_ons {L : List Int} {p : Int} : p ∈ ons (genTab L) ↔ 0 ≤ p ∧ p < (genN L : Int) := by
  rw [ons_gen, mem_seg]; omega
theorem phAt_gen (L : List Int) (k : Nat) (h : k < genN L) : phAt (genTab L) k = GenP.genPh L (10 + 12 * k) := by
  have h8 := genN_range L
  unfold phAt
  rw [genTab_phases, Int.toNat_natCast, List.getD_eq_getElem?_getD, upd_at _ _ _ _ (by omega), if_pos h]
  rfl
theorem recall_ok (x walk : Int) : ((GenP.recall x walk == 3) && walk == 0) = false := by
  unfold GenP.recall
  split <;> rename_i h
  · simp
  · by_cases e : x = 3
    · have : ¬ walk = 0 := fun e2 => h (.inr ⟨e, e2⟩)
      simp [this]
    · simp [e]
theorem phase_good (L : List Int) (i : Int) : phBad (GenP.genPh L i) = false := by
  have a0 := num_range L i 12 (by omega)
  have a1 := num_range L (i + 5) 25 (by omega)
  have a2 := num_range L (i + 6) 15 (by omega)
  have a3 := num_range L (i + 2) 6 (by omega)
  have a4 := num_range L (i + 3) 4 (by omega)
  have a5 := num_range L (i + 8) 10 (by omega)
  have a6 := num_range L (i + 8) 97 (by omega)
  have hr := recall_ok (num L (i + 9) 7) (if num L (i + 7) 2 = 1 then 1 + num L (i + 8) 10 else 0)
  unfold phBad GenP.genPh
  dsimp only
  rw [hr]
  by_cases hw : num L (i + 7) 2 = 1
  · simp only [if_pos hw]
    have e1 : ((1 + num L (i + 8) 10 : Int) == 0) = false := by simp; omega
    have e2 : ((1 + num L (i + 8) 97 / 10 : Int) == 0) = false := by simp; omega
    rw [e1, e2]
    simp
    omega
  · simp only [if_neg hw]
    simp
    omega
theorem no_phase (L : List Int) : (ons (genTab L)).find? (fun p => phBad (phAt (genTab L) p)) = none := by
  rw [List.find?_eq_none]
  intro p hp
  have hm := mem_ons.1 hp
  obtain ⟨k, rfl⟩ := Int.eq_ofNat_of_zero_le hm.1
  rw [phAt_gen L k (by omega), phase_good]
  simp
/-! ### detectors -/
theorem genTab_dets (L : List Int) : (genTab L).dets = down (fun i => GenD.genDet L (180 + 8 * i) (genN L)) (num L 175 9).toNat (num L 175 9).toNat := by
  unfold genTab; split <;> rfl
theorem mem_down {α : Type} {f : Nat → α} {k : Nat} {x : α} : ∀ j, x ∈ down f k j → ∃ i, x = f i
  | 0, h => by simp [down] at h
  | j + 1, h => by
    rw [down, List.mem_append, List.mem_singleton] at h
    rcases h with h | h
    · exact mem_down j h
    · exact ⟨_, h⟩
theorem idx_none {α : Type} {f : α → Bool} {l : List α} (h : ∀ x ∈ l, f x = false) : idx f l = none := by
  unfold idx
  rw [List.findIdx?_eq_none_iff.2 (fun x hx => h x hx)]
  rfl
theorem gt_tab : ∀ a : Fin 4, ∀ b : Fin 3, gtF (GenD.mulTab a.val b.val) (GenD.onTab a.val) = false := by decide +kernel
theorem on_of (L : List Int) (k : Nat) (h : k < genN L) : (phAt (genTab L) k).on = true := by rw [phAt_gen L k h]; rfl
theorem no_det (L : List Int) : idx (detBad (genTab L)) (genTab L).dets = none := by
  refine idx_none fun x hx => ?_
  rw [genTab_dets] at hx
  obtain ⟨i, rfl⟩ := mem_down _ hx
  have h8 := genN_range L
  have h1 := genN_pos L
  have r := num_range L (180 + 8 * i) (genN L) (by omega)
  have ra := num_range L (180 + 8 * i + 1) 4 (by omega)
  have rb := num_range L (180 + 8 * i + 2) 3 (by omega)
  unfold detBad GenD.genDet
  dsimp only
  generalize num L (180 + 8 * i) (genN L) = q at r ⊢
  generalize num L (180 + 8 * i + 1) 4 = a at ra ⊢
  generalize num L (180 + 8 * i + 2) 3 = b at rb ⊢
  obtain ⟨q, rfl⟩ := Int.eq_ofNat_of_zero_le r.1
  obtain ⟨a, rfl⟩ := Int.eq_ofNat_of_zero_le ra.1
  obtain ⟨b, rfl⟩ := Int.eq_ofNat_of_zero_le rb.1
  have := gt_tab ⟨a, by omega⟩ ⟨b, by omega⟩
  rw [this, on_of L q (by omega)]
  rfl
/-! ### buses -/
theorem genTab_buses (L : List Int) : (genTab L).buses = down (fun i => genBs L i (genN L)) (num L 177 3).toNat (num L 177 3).toNat := by
  unfold genTab; split <;> rfl
theorem bus_tab : ∀ n : Fin 9, 1 ≤ n.val → ∀ x : Fin 256, bits .andNot .i64 (max 1 (bits .and .i64 (x.val : Int) (GenR.maskV n.val))) (SetM.of (seg 0 n.val) : Nat) = 0 := by decide +kernel
theorem no_bus (L : List Int) : idx (busBad (genTab L)) (genTab L).buses = none := by
  refine idx_none fun x hx => ?_
  rw [genTab_buses] at hx
  obtain ⟨i, rfl⟩ := mem_down _ hx
  have h8 := genN_range L
  have h1 := genN_pos L
  have r := num_range L (330 + 2 * i) 256 (by omega)
  have r2 := num_range L (331 + 2 * i) 30 (by omega)
  unfold busBad genBs allOn
  rw [onS_gen]
  dsimp only
  generalize num L (330 + 2 * i) 256 = q at r ⊢
  obtain ⟨q, rfl⟩ := Int.eq_ofNat_of_zero_le r.1
  have := bus_tab ⟨genN L, by omega⟩ h1 ⟨q, by omega⟩
  rw [this]
  have e : (max 1 (bits .and .i64 (q : Int) (GenR.maskV (genN L))) == 0) = false := by simp; omega
  rw [e]
  simp
  omega
end Go.Proofs.Ytfekngnfjemgeaa.Val
/- The table by numbers has no Fault (stage 9): who conflicts, and the lamps in flash. No program in it. -/
namespace Go.Proofs.Ytfekngnfjemgeaa.Val
open Go Tab GenG GenT PlaceM PlanM OnS ChkM Clone
open RefS (num num_range)
set_option linter.unusedVariables false
set_option linter.unusedSimpArgs false
theorem bit_ne (k : Nat) (h : k < 8) : (SetM.bit (k : Int) != 0) = true := by
  rw [SetM.bit_in k h]
  have := Nat.two_pow_pos k
  simp
theorem cset_has {L : List Int} {T : Tab} {p q : Nat} {C : List Int} (hp : p < 8) (hq : q < p) (hl : C.length = 8) (hc : beside T p q = false ∧ num L (110 + 8 * p + q) 9 ≠ 1) (r x : Nat) (hr : r < 8) (hx : x < 8) :
    SetM.has ((cset L T p q C).getD r 0) x = (SetM.has (C.getD r 0) x || decide ((r = p ∧ x = q) ∨ (r = q ∧ x = p))) := by
  unfold cset
  rw [if_pos hc]
  by_cases h1 : r = q
  · subst h1
    have e1 : ((C.set p (SetM.withN (C.getD p 0) r : Nat)).set r (SetM.withN ((C.set p (SetM.withN (C.getD p 0) r : Nat)).getD r 0) p : Nat)).getD r 0 = (SetM.withN ((C.set p (SetM.withN (C.getD p 0) r : Nat)).getD r 0) p : Nat) := by
      rw [List.getD_eq_getElem?_getD, List.getElem?_set_self (by simp; omega)]; rfl
    have e2 : (C.set p (SetM.withN (C.getD p 0) r : Nat)).getD r 0 = C.getD r 0 := by
      rw [List.getD_eq_getElem?_getD, List.getElem?_set_ne (by omega), ← List.getD_eq_getElem?_getD]
    rw [e1, e2, SetM.has_with, bit_ne p hp, Bool.true_and]
    congr 1
    rw [Bool.eq_iff_iff, beq_iff_eq, decide_eq_true_eq]
    omega
  · have e1 : ((C.set p (SetM.withN (C.getD p 0) q : Nat)).set q (SetM.withN ((C.set p (SetM.withN (C.getD p 0) q : Nat)).getD q 0) p : Nat)).getD r 0 = (C.set p (SetM.withN (C.getD p 0) q : Nat)).getD r 0 := by
      rw [List.getD_eq_getElem?_getD, List.getElem?_set_ne (by omega), ← List.getD_eq_getElem?_getD]
    rw [e1]
    by_cases h2 : r = p
    · subst h2
      have e2 : (C.set r (SetM.withN (C.getD r 0) q : Nat)).getD r 0 = (SetM.withN (C.getD r 0) q : Nat) := by
        rw [List.getD_eq_getElem?_getD, List.getElem?_set_self (by omega)]; rfl
      rw [e2, SetM.has_with, bit_ne q (by omega), Bool.true_and]
      congr 1
      rw [Bool.eq_iff_iff, beq_iff_eq, decide_eq_true_eq]
      omega
    · have e2 : (C.set p (SetM.withN (C.getD p 0) q : Nat)).getD r 0 = C.getD r 0 := by
        rw [List.getD_eq_getElem?_getD, List.getElem?_set_ne (by omega), ← List.getD_eq_getElem?_getD]
      rw [e2, decide_eq_false (by omega), Bool.or_false]
/-- What holds of the sets of those who conflict, from the first on. -/
structure Cf (T : Tab) (C : List Int) : Prop where
  len : C.length = 8
  bd : ∀ x ∈ C, 0 ≤ x ∧ x < 256
  rel : ∀ p q : Nat, p < 8 → q < 8 → SetM.has (C.getD p 0) q = true → SetM.has (C.getD q 0) p = true ∧ p ≠ q ∧ beside T p q = false
theorem set_bd {C : List Int} {p : Nat} {m : Nat} (h : ∀ x ∈ C, 0 ≤ x ∧ x < 256) (hm : m < 256) : ∀ x ∈ C.set p (m : Int), 0 ≤ x ∧ x < 256 := by
  intro x hx
  rcases List.mem_or_eq_of_mem_set hx with h1 | rfl
  · exact h x h1
  · omega
theorem Cf.step {L : List Int} {T : Tab} {p q : Nat} {C : List Int} (h : Cf T C) (hp : p < 8) (hq : q < p) : Cf T (cset L T p q C) := by
  by_cases hc : beside T p q = false ∧ num L (110 + 8 * p + q) 9 ≠ 1
  · refine ⟨by rw [cset_len]; exact h.len, ?_, fun a b ha hb hab => ?_⟩
    · unfold cset
      rw [if_pos hc]
      exact set_bd (set_bd h.bd (SetM.with_lt _ _)) (SetM.with_lt _ _)
    · rw [cset_has hp hq h.len hc a b ha hb, Bool.or_eq_true, decide_eq_true_eq] at hab
      rw [cset_has hp hq h.len hc b a hb ha, Bool.or_eq_true, decide_eq_true_eq]
      rcases hab with hab | ⟨rfl, rfl⟩ | ⟨rfl, rfl⟩
      · obtain ⟨h1, h2, h3⟩ := h.rel a b ha hb hab
        exact ⟨.inl h1, h2, h3⟩
      · exact ⟨.inr (.inr ⟨rfl, rfl⟩), by omega, hc.1⟩
      · exact ⟨.inr (.inl ⟨rfl, rfl⟩), by omega, by rw [beside_symm]; exact hc.1⟩
  · have : cset L T p q C = C := by unfold cset; rw [if_neg hc]
    rw [this]; exact h
theorem Cf.row {L : List Int} {T : Tab} {p : Nat} {C : List Int} (h : Cf T C) (hp : p < 8) : ∀ q, q ≤ p → Cf T (crow L T p C q)
  | 0, _ => h
  | q + 1, hq => (Cf.row h hp q (by omega)).step hp (by omega)
theorem Cf.all {L : List Int} {T : Tab} {C : List Int} (h : Cf T C) : ∀ p, p ≤ 8 → Cf T (call L T C p)
  | 0, _ => h
  | p + 1, hp => (Cf.all h p (by omega)).row (by omega) p (Nat.le_refl _)
theorem has_zero (q : Int) : SetM.has 0 q = false := by
  unfold SetM.has SetM.low; simp
theorem Cf.start (T : Tab) : Cf T [0, 0, 0, 0, 0, 0, 0, 0] := by
  refine ⟨rfl, fun x hx => ?_, fun p q hp hq h => ?_⟩
  · simp at hx; omega
  · exfalso
    have e : ([0, 0, 0, 0, 0, 0, 0, 0] : List Int).getD p 0 = 0 := by
      match p, hp with
      | 0, _ | 1, _ | 2, _ | 3, _ | 4, _ | 5, _ | 6, _ | 7, _ => rfl
    rw [e, has_zero] at h
    simp at h
theorem genTab_conflict (L : List Int) : (genTab L).conflict = call L (tab1 L) [0, 0, 0, 0, 0, 0, 0, 0] (genN L) := by
  have h : (tabF L).conflict = call L (tab1 L) [0, 0, 0, 0, 0, 0, 0, 0] (genN L) := by unfold tabF; split <;> rfl
  unfold genTab; split <;> exact h
theorem cf_gen (L : List Int) : Cf (genTab L) (genTab L).conflict := by
  have h : Cf (tab1 L) (genTab L).conflict := by rw [genTab_conflict]; exact (Cf.start _).all _ (genN_range L)
  exact ⟨h.len, h.bd, fun p q hp hq hh => by
    obtain ⟨h1, h2, h3⟩ := h.rel p q hp hq hh
    exact ⟨h1, h2, by rw [beside_same (U := tab1 L) (genTab_groups L)]; exact h3⟩⟩
theorem cf_at (L : List Int) {p q : Int} (hp : 0 ≤ p ∧ p < 8) (h : SetM.has (cfAt (genTab L) p) q = true) : SetM.has (cfAt (genTab L) q) p = true ∧ p ≠ q ∧ beside (genTab L) p q = false := by
  obtain ⟨p, rfl⟩ := Int.eq_ofNat_of_zero_le hp.1
  have h0 : 0 ≤ q := by
    by_cases c : 0 ≤ q
    · exact c
    · rw [SetM.has_neg _ _ (by omega)] at h; simp at h
  have h8 : q < 8 := by
    by_cases c : q < 8
    · exact c
    · rw [SetM.has_big _ _ (by omega)] at h; simp at h
  obtain ⟨q, rfl⟩ := Int.eq_ofNat_of_zero_le h0
  obtain ⟨h1, h2, h3⟩ := (cf_gen L).rel p q (by omega) (by omega) h
  exact ⟨h1, by omega, h3⟩
theorem conf_ok (L : List Int) {p : Int} (hp : 0 ≤ p ∧ p < 8) : confBad (genTab L) p = false := by
  unfold confBad
  have h0 : SetM.has (cfAt (genTab L) p) p = false := by
    cases h : SetM.has (cfAt (genTab L) p) p with
    | false => rfl
    | true => exact absurd rfl (cf_at L hp h).2.1
  rw [h0, Bool.false_or, List.any_eq_false]
  intro q hq
  have hm := SetM.list_bd _ _ hq
  cases h1 : SetM.has (cfAt (genTab L) p) q with
  | true =>
    obtain ⟨a, _, b⟩ := cf_at L hp h1
    rw [a, b]; simp
  | false =>
    cases h2 : SetM.has (cfAt (genTab L) q) p with
    | true =>
      have := (cf_at L hm h2).1
      rw [h1] at this; simp at this
    | false => simp
theorem no_conf (L : List Int) : (ons (genTab L)).find? (confBad (genTab L)) = none := by
  rw [List.find?_eq_none]
  intro p hp
  rw [conf_ok L (SetM.list_bd _ _ hp)]
  simp
/-! ### flash -/
theorem genTab_flash (L : List Int) : (genTab L).flash = if num L 174 ((genN L : Int) + 1) < genN L then (upd (fun _ => (1 : Int)) 0 (genN L)).set (num L 174 ((genN L : Int) + 1)).toNat 2 else upd (fun _ => 1) 0 (genN L) := by
  have h : (tabF L).flash = if num L 174 ((genN L : Int) + 1) < genN L then (upd (fun _ => (1 : Int)) 0 (genN L)).set (num L 174 ((genN L : Int) + 1)).toNat 2 else upd (fun _ => 1) 0 (genN L) := by unfold tabF; split <;> rfl
  unfold genTab; split <;> exact h
theorem fl_gen (L : List Int) (k : Nat) (h : k < genN L) : flAt (genTab L) k = if (k : Int) = num L 174 ((genN L : Int) + 1) then 2 else 1 := by
  have h8 := genN_range L
  have r := num_range L 174 ((genN L : Int) + 1) (by omega)
  unfold flAt
  rw [genTab_flash, Int.toNat_natCast, List.getD_eq_getElem?_getD]
  have hu : (upd (fun _ => (1 : Int)) 0 (genN L))[k]? = some 1 := by rw [upd_at _ _ _ _ (by omega), if_pos h]
  split <;> rename_i hlt
  · by_cases e : (k : Int) = num L 174 ((genN L : Int) + 1)
    · rw [if_pos e, ← e, Int.toNat_natCast, List.getElem?_set_self (by rw [upd_len]; omega)]; rfl
    · rw [if_neg e, List.getElem?_set_ne (by omega), hu]; rfl
  · rw [if_neg (by omega), hu]; rfl
theorem flash_ok (L : List Int) {p : Int} (hp : 0 ≤ p ∧ p < (genN L : Int)) : flashBad (genTab L) p = false := by
  have h8 := genN_range L
  obtain ⟨k, rfl⟩ := Int.eq_ofNat_of_zero_le hp.1
  unfold flashBad
  rw [fl_gen L k (by omega)]
  by_cases e : (k : Int) = num L 174 ((genN L : Int) + 1)
  · rw [if_pos e]
    have hy : yellows (genTab L) = SetM.bit (k : Int) := by
      refine SetM.eq_of (SetM.of_lt _) (SetM.bit_lt _) (fun j hj => ?_)
      unfold yellows
      rw [SetM.of_test, SetM.test_bit, decide_eq_decide]
      constructor
      · rintro ⟨h1, h2⟩
        rw [List.mem_filter] at h1
        have hm := mem_ons.1 h1.1
        have h3 := h1.2
        unfold yel at h3
        rw [fl_gen L j (by omega)] at h3
        split at h3
        · rename_i e2; exact ⟨by omega, h2⟩
        · simp at h3
      · rintro ⟨h1, h2⟩
        refine ⟨List.mem_filter.2 ⟨mem_ons.2 (by omega), ?_⟩, h2⟩
        unfold yel
        rw [fl_gen L j (by omega), if_pos (by omega)]
        rfl
    have h0 : SetM.has (cfAt (genTab L) k) k = false := by
      cases h : SetM.has (cfAt (genTab L) k) k with
      | false => rfl
      | true => exact absurd rfl (cf_at L (by omega) h).2.1
    rw [hy, (SetM.has_and _ _).2 h0]
    rfl
  · rw [if_neg e]; rfl
theorem no_flash (L : List Int) : (ons (genTab L)).find? (flashBad (genTab L)) = none := by
  rw [List.find?_eq_none]
  intro p hp
  rw [flash_ok L (mem_ons.1 hp)]
  simp
end Go.Proofs.Ytfekngnfjemgeaa.Val
/- The table by numbers has no Fault (stage 9): all lies within the ranges. No program in it. -/
namespace Go.Proofs.Ytfekngnfjemgeaa.Val
open Go Tab GenG GenT PlaceM PlanM OnS ChkM Clone May
open RefS (num num_range)
open ChkX (allIn_iff in_ranges InR)
open MayF (level span)
set_option linter.unusedVariables false
set_option linter.unusedSimpArgs false
theorem list_may {α : Type} {m : Int} {f : α → Bool} {l : List α} (hl : (l.length : Int) ≤ m) (h : ∀ x ∈ l, f x = true) : listMay m f l = true := by
  unfold listMay
  rw [decide_eq_true hl, Bool.true_and, List.all_eq_true]
  exact h
theorem recall_range (x walk : Int) (h : 0 ≤ x) : 0 ≤ GenP.recall x walk ∧ GenP.recall x walk ≤ 3 := by
  unfold GenP.recall
  split <;> omega
theorem ph_may (L : List Int) (i : Int) : Ph.may (GenP.genPh L i) = true := by
  have a0 := num_range L i 12 (by omega)
  have a1 := num_range L (i + 5) 25 (by omega)
  have a2 := num_range L (i + 6) 15 (by omega)
  have a3 := num_range L (i + 2) 6 (by omega)
  have a4 := num_range L (i + 3) 4 (by omega)
  have a5 := num_range L (i + 8) 10 (by omega)
  have a6 := num_range L (i + 8) 97 (by omega)
  have a7 := num_range L (i + 1) 9 (by omega)
  have a8 := num_range L (i + 4) 5 (by omega)
  have a9 := num_range L (i + 9) 7 (by omega)
  unfold Ph.may
  rw [Bool.and_eq_true, allIn_iff, allIn_iff]
  unfold GenP.genPh
  dsimp only
  have hr := recall_range (num L (i + 9) 7) (if num L (i + 7) 2 = 1 then 1 + num L (i + 8) 10 else 0) a9.1
  simp only [List.mem_cons, List.not_mem_nil, or_false, forall_eq_or_imp, forall_eq]
  refine ⟨?_, hr⟩
  by_cases hw : num L (i + 7) 2 = 1
  · simp only [if_pos hw]; omega
  · simp only [if_neg hw]; omega
theorem phases_may (L : List Int) : listMay 8 Ph.may (genTab L).phases = true := by
  rw [genTab_phases]
  refine list_may (by rw [upd_len]; omega) (fun x hx => ?_)
  unfold upd at hx
  obtain ⟨i, _, rfl⟩ := List.mem_map.1 hx
  by_cases h : i < genN L
  · rw [if_pos h]; exact ph_may L _
  · rw [if_neg h]; decide
theorem row_may {p m : Nat} (h : p + m ≤ 8) : rowMay (seg p m) = true := by
  unfold rowMay
  rw [decide_eq_true (by rw [seg_len]; omega), Bool.true_and, allIn_iff]
  intro x hx
  have := mem_seg.1 hx
  omega
theorem groups_may (L : List Int) : ∀ g, g ≤ genG L → ∀ x ∈ (upTo L (genG L) g).1, groupMay x = true
  | 0, _, x, hx => by simp [upTo] at hx
  | g + 1, h, x, hx => by
    have h8 := up_le L (genG L) (genG_range L).2 (g + 1) h
    have e2 : (upTo L (genG L) (g + 1)).2 = (upTo L (genG L) g).2 + n0 L (genG L) g (upTo L (genG L) g).2 + n1 L (genG L) g (upTo L (genG L) g).2 := rfl
    have e1 : (upTo L (genG L) (g + 1)).1 = (upTo L (genG L) g).1 ++ [grpD L (genG L) g (upTo L (genG L) g).2] := rfl
    rw [e2] at h8
    rw [e1, List.mem_append, List.mem_singleton] at hx
    rcases hx with hx | rfl
    · exact groups_may L g (by omega) x hx
    · unfold groupMay grpD
      dsimp only
      rw [row_may (by omega), row_may (by omega)]
      rfl
theorem off_tab : ∀ a : Fin 4, ∀ b : Fin 3, (level (GenD.onTab a.val) && level (GenD.mulTab a.val b.val)) = true := by decide +kernel
theorem span_tab : ∀ a : Fin 6, span (Fl.ofB a.val) = true := by decide +kernel
theorem det_may (L : List Int) (i : Int) (n : Nat) (h0 : 0 < n) (h8 : n ≤ 8) : Det.may (GenD.genDet L i n) = true := by
  have r := num_range L i n (by omega)
  have ra := num_range L (i + 1) 4 (by omega)
  have rb := num_range L (i + 2) 3 (by omega)
  have rc := num_range L (i + 3) 4 (by omega)
  have rd := num_range L (i + 4) 6 (by omega)
  have re := num_range L (i + 6) 60 (by omega)
  have rf := num_range L (i + 7) 300 (by omega)
  unfold Det.may GenD.genDet
  dsimp only
  have hs1 := span_tab ⟨(num L (i + 3) 4).toNat, by omega⟩
  have hs2 := span_tab ⟨(num L (i + 4) 6).toNat, by omega⟩
  dsimp only at hs1 hs2
  generalize num L (i + 1) 4 = a at ra ⊢
  generalize num L (i + 2) 3 = b at rb ⊢
  obtain ⟨a, rfl⟩ := Int.eq_ofNat_of_zero_le ra.1
  obtain ⟨b, rfl⟩ := Int.eq_ofNat_of_zero_le rb.1
  have ht := off_tab ⟨a, by omega⟩ ⟨b, by omega⟩
  rw [Bool.and_eq_true] at ht
  rw [ht.1, ht.2, hs1, hs2]
  simp only [Bool.true_and, Bool.and_eq_true, allIn_iff, List.mem_cons, List.not_mem_nil, or_false, forall_eq_or_imp, forall_eq]
  refine ⟨by omega, ?_, ?_⟩
  · split <;> omega
  · split <;> omega
theorem mask_eq : ∀ n : Fin 9, GenR.maskV n.val = ((2 ^ n.val - 1 : Nat) : Int) := by decide +kernel
theorem and_mask (x : Int) {n : Nat} (h8 : n ≤ 8) : ∃ m : Nat, bits .and .i64 x (GenR.maskV n) = (m : Int) ∧ m < 256 := by
  have := mask_eq ⟨n, by omega⟩
  dsimp only at this
  rw [this]
  have hb : 2 ^ n - 1 < 256 := by
    have : 2 ^ n ≤ 2 ^ 8 := Nat.pow_le_pow_right (by omega) h8
    omega
  rw [SetM.and_low x _ hb]
  exact ⟨_, rfl, Nat.lt_of_le_of_lt Nat.and_le_right hb⟩
theorem withS_nat (T : Tab) (p q : Int) : ∃ m : Nat, GenW.withS T p q = (m : Int) ∧ m < 256 := by
  unfold GenW.withS
  split
  · exact ⟨_, rfl, SetM.with_lt _ _⟩
  · exact ⟨_, rfl, SetM.of_lt _⟩
theorem bars_range (x d : Int) {n : Nat} (h8 : n ≤ 8) (hd : ∃ m : Nat, d = (m : Int) ∧ m < 256) : 0 ≤ GenR.barsV x d n ∧ GenR.barsV x d n ≤ 255 := by
  obtain ⟨m, rfl, hm⟩ := hd
  obtain ⟨k, hk, hk2⟩ := and_mask x h8
  unfold GenR.barsV
  rw [hk, ChkX.andNot_eq (by omega) hm]
  have : SetM.low (k : Int) &&& (255 - m) < 256 := Nat.lt_of_le_of_lt Nat.and_le_left (SetM.low_lt _)
  omega
theorem rl_may (T : Tab) (L : List Int) (i : Int) {n : Nat} (h0 : 0 < n) (h8 : n ≤ 8) : Rl.may (GenR.genRl T L i n) = true := by
  have r8 := num_range L (i + 8) 4 (by omega)
  have r9 := num_range L (i + 9) 6 (by omega)
  have ra := num_range L (i + 10) 6 (by omega)
  have rb := num_range L (i + 6) 10 (by omega)
  have rc := num_range L (i + 11) 15 (by omega)
  have rd := num_range L (i + 13) 30 (by omega)
  have rl := GenR.lim_range (num L (i + 14) 3)
  have w1 := withS_nat T (num L i n) (num L (i + 1) n)
  obtain ⟨b0, b1⟩ := bars_range (num L (i + 7) 256) _ h8 w1
  obtain ⟨d, hd, hd2⟩ := w1
  obtain ⟨c, hc, hc2⟩ := withS_nat T (num L (i + 4) (n + 1)) (num L (i + 5) n)
  obtain ⟨x, hx, hx2⟩ := withS_nat T (num L (i + 2) n) (num L (i + 3) n)
  unfold Rl.may GenR.genRl
  dsimp only
  simp only [Bool.and_eq_true, allIn_iff, List.mem_cons, List.not_mem_nil, or_false, forall_eq_or_imp, forall_eq]
  rw [hc, hx, hd]
  rw [hd] at b0 b1
  refine ⟨⟨⟨b0, b1⟩, ?_, by omega, by omega⟩, ⟨by omega, by omega, by omega, ?_, by omega, ?_⟩, by omega⟩
  · split <;> omega
  · split <;> omega
  · split <;> omega
theorem bs_may (L : List Int) (i : Nat) {n : Nat} (h8 : n ≤ 8) : Bs.may (genBs L i n) = true := by
  have r := num_range L (331 + 2 * i) 30 (by omega)
  obtain ⟨m, hm, hm2⟩ := and_mask (num L (330 + 2 * i) 256) h8
  unfold Bs.may genBs
  dsimp only
  rw [hm]
  simp only [Bool.and_eq_true, allIn_iff, List.mem_cons, List.not_mem_nil, or_false, forall_eq_or_imp, forall_eq]
  omega
theorem genTab_rails (L : List Int) : (genTab L).rails = down (fun i => GenR.genRl (tab1 L) L (260 + 16 * i) (genN L)) (num L 176 4 % 3).toNat (num L 176 4 % 3).toNat := by
  unfold genTab; split <;> rfl
/-! ### sums stay within a tick's range -/
theorem cap_bd (n : Int) : 0 ≤ RefC.cap n ∧ RefC.cap n ≤ 2147483647 := ⟨RefC.cap_lo n, RefC.cap_hi n⟩
theorem fold_bd : ∀ (l : List Int) (x : Int), 0 ≤ x ∧ x ≤ 2147483647 → 0 ≤ l.foldl RefC.add x ∧ l.foldl RefC.add x ≤ 2147483647
  | [], x, h => h
  | y :: l, x, h => fold_bd l _ (cap_bd _)
theorem sums_bd (l : List Int) : 0 ≤ RefC.sums l ∧ RefC.sums l ≤ 2147483647 := fold_bd l 0 (by omega)
theorem free_bd (T : Tab) (p : Int) : 0 ≤ FreeS.freeS T p ∧ FreeS.freeS T p ≤ 2147483647 := by
  unfold FreeS.freeS
  split
  · split
    · exact sums_bd _
    · omega
  · omega
theorem wait_bd (T : Tab) (p : Int) : 0 ≤ WaitS.waitS T p ∧ WaitS.waitS T p ≤ 2147483647 := by
  unfold WaitS.waitS
  split
  · exact free_bd T p
  · exact sums_bd _
theorem maxW_bd (T : Tab) : ∀ n, 0 ≤ maxW T n ∧ maxW T n ≤ 2147483647
  | 0 => by simp [maxW]
  | n + 1 => by
    have h1 := maxW_bd T n
    have h2 := wait_bd T n
    rw [maxW]
    omega
theorem genTab_times (L : List Int) : (genTab L).extend = num L 178 12 ∧ (genTab L).budget = num L 179 40 ∧ (genTab L).start = num L 180 8 ∧ (genTab L).revert = num L 181 8 ∧ (genTab L).least = num L 182 12 ∧ (genTab L).share = num L 183 4 := by
  unfold genTab; split <;> exact ⟨rfl, rfl, rfl, rfl, rfl, rfl⟩
theorem tabS_win (L : List Int) : (tabS L).window = 0 := (congrArg Tab.window (tabS_window L)).symm
theorem genTab_window (L : List Int) : 0 ≤ (genTab L).window ∧ (genTab L).window ≤ 2147483647 := by
  unfold genTab
  split
  · rw [tabS_win]; omega
  · exact maxW_bd _ _
theorem flash_bd (L : List Int) : ∀ x ∈ (genTab L).flash, 0 ≤ x ∧ x ≤ 2 := by
  have hu : ∀ x ∈ upd (fun _ => (1 : Int)) 0 (genN L), 0 ≤ x ∧ x ≤ 2 := by
    intro x hx
    unfold upd at hx
    obtain ⟨i, _, rfl⟩ := List.mem_map.1 hx
    by_cases h : i < genN L
    · rw [if_pos h]; exact ⟨(show (0 : Int) ≤ 1 by decide), (show (1 : Int) ≤ 2 by decide)⟩
    · rw [if_neg h]; exact ⟨(show (0 : Int) ≤ 0 by decide), (show (0 : Int) ≤ 2 by decide)⟩
  intro x hx
  rw [genTab_flash] at hx
  split at hx
  · rcases List.mem_or_eq_of_mem_set hx with h1 | rfl
    · exact hu x h1
    · omega
  · exact hu x hx
theorem gen_may (L : List Int) : tabMay (genTab L) = true := by
  have h8 := genN_range L
  have h1 := genN_pos L
  obtain ⟨t1, t2, t3, t4, t5, t6⟩ := genTab_times L
  have a1 := num_range L 178 12 (by omega)
  have a2 := num_range L 179 40 (by omega)
  have a3 := num_range L 180 8 (by omega)
  have a4 := num_range L 181 8 (by omega)
  have a5 := num_range L 182 12 (by omega)
  have a6 := num_range L 183 4 (by omega)
  have a7 := num_range L 175 9 (by omega)
  have a8 := num_range L 176 4 (by omega)
  have a9 := num_range L 177 3 (by omega)
  have w := genTab_window L
  unfold tabMay
  rw [phases_may, t1, t2, t3, t4, t5, t6]
  simp only [Bool.true_and, Bool.and_eq_true, allIn_iff, List.mem_cons, List.not_mem_nil, or_false, forall_eq_or_imp, forall_eq]
  refine ⟨?_, fun x hx => by have := (cf_gen L).bd x hx; omega, ?_, ?_, ?_, by omega, flash_bd L, by omega⟩
  · rw [genTab_groups]
    refine list_may ?_ (groups_may L _ (Nat.le_refl _))
    have := genG_range L
    unfold genGs
    rw [up_len]
    omega
  · rw [genTab_dets]
    refine list_may (by rw [down_len]; omega) (fun x hx => ?_)
    obtain ⟨i, rfl⟩ := mem_down _ hx
    exact det_may L _ _ h1 h8
  · rw [genTab_rails]
    refine list_may (by rw [down_len]; omega) (fun x hx => ?_)
    obtain ⟨i, rfl⟩ := mem_down _ hx
    exact rl_may _ L _ h1 h8
  · rw [genTab_buses]
    refine list_may (by rw [down_len]; omega) (fun x hx => ?_)
    obtain ⟨i, rfl⟩ := mem_down _ hx
    exact bs_may L _ h8
end Go.Proofs.Ytfekngnfjemgeaa.Val
