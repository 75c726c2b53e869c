/- Region 13 of the document's Same: two detectors are boxed. -/
import Derived.Test.YtpofccenoobojaaRows
import Derived.Test.YtpofccenoobojaaSub
import Derived.Test.YtpofccenoobojaaSameF
import Derived.Test.YtpofccenoobojaaHeld
import Derived.Test.YtpofccenoobojaaPw
import Derived.Test.YtpofccenoobojaaOwned
import Derived.Deep.Cut
import Derived.Deep.CutRange
namespace Go.Proofs.Ytpofccenoobojaa.Same
open Go.ChangeShapes Go.WideShapes Go.ChangeAt Go.RowKit
open Tab Owned CodeAt
open May (ret_bool chain take_succ' infoP infoG infoD infoR infoB infoT row_new St)
set_option linter.unusedVariables false
set_option linter.unusedSimpArgs false
theorem own2_alloc {B : Nat} {v : World} {L : List Blk} (h : Own B v L) (hB : B ≤ v.heap.size) (cs : List Value) (t : TypeId) : Own B (v.alloc (.cells cs.toArray t)) (⟨v.heap.size, cs, t⟩ :: L) :=
  h.add ((Below.refl _ _).alloc (Nat.le_refl _) _) (heap_alloc_new v _) (Nat.le_refl _) hB
theorem wp_store_whole {P : Program} {o : Oper} {a : Act} {w : World} {K : Act → World → Prop} {Q : Exit → Act → World → Prop} (ty : TypeId) (x y : Operand) (ho : o.op = .store ty x y) (g : Nat) (cells : Array Value) (hx : a.eval x = .pointer (some ⟨g, 0, none⟩)) (hy : a.eval y = .agg cells)
    (t : TypeId) (old : Array Value) (hg : w.heap[g]? = some (.cells old t (0, 0))) (hi : (P.info? ty).map (·.size) = some cells.size) (hs : old.size = cells.size) (h1 : cells.all (·.oneCell') = true) (hd : o.dst = none) (h : K a (w.setRow g cells)) : o.wp P a w K Q := by
  have hr := Row.run_storeAt_at (P := P) w g 0 t ty old cells hg hi (by omega) h1
  have e : (old.toList.take 0 ++ cells.toList ++ old.toList.drop (0 + cells.size)).toArray = cells := by
    rw [List.drop_of_length_le (by simp; omega)]; simp
  rw [e] at hr
  unfold Oper.wp execOp
  simp only [ho, hx, hy, Sem.run_bind, hr, Result.andThen_ok, Sem.run_pure]
  show K (a.put o.dst undef) _
  rw [hd]
  exact h
set_option maxRecDepth 100000 in
set_option maxHeartbeats 20000000 in
theorem boxes_rg {Q : Exit → Act → World → Prop} (hP : ∀ c (a a' : Act) w, a.defers = a'.defers → Q (.panic c) a w → Q (.panic c) a' w) (w wr : World) (q n n' c c' : Nat) (x y : Addr) (v0 u0 : Det) (hlt : q < n) (hlu : q < n') (K1 : n ≤ c ∧ c ≤ 2 ^ 63 - 1) (K2 : n' ≤ c' ∧ c' ≤ 2 ^ 63 - 1)
    (qq113 : Hid (wr.cell? ⟨w.heap.size, 113, none⟩ = some (.slice (some x) n c))) (rr113 : Hid (wr.cell? ⟨w.heap.size + 1, 113, none⟩ = some (.slice (some y) n' c')))
    (HC : Hid (Lies wr (x.add (q * 7)) v0.cells)) (HC' : Hid (Lies wr (y.add (q * 7)) u0.cells)) (f0 f1 f4 f5 f7 f8 f9 f10 f11 f12 f13 f14 f15 f16 f17 f18 f19 f20 f21 f22 f23 f24 f25 f26 f27 f28 f29 f30 f31 f32 f33 f34 f35 f36 f37 f38 f39 f40 f41 f42 f43 f44 f45 f46 f47 f48 f49 f50 f51 f52 f53 f54 f55 f56 f57 f58 f59 f60 f61 f62 f63 f64 f65 f66 f67 f68 f69 f70 f71 f72 f73 f74 f75 f76 f77 f78 f79 f80 f81 f82 f83 f84 f85 f86 f87 f88 f89 f90 f91 f92 f93 f94 f95 f96 f97 f98 f99 f100 f101 f102 f103 f104 f105 f106 f107 f108 f109 f110 f111 f112 f113 f114 f115 f116 f117 f118 f119 f120 f121 f122 f123 f124 f125 f126 f127 f128 f129 f130 f131 f132 f133 f134 f135 f136 f137 f138 f139 f140 f141 f142 f143 f144 f145 f146 f147 f148 f149 f150 f151 f152 f153 f154 f155 f156 f157 f158 f159 f160 f161 f162 f163 f164 f165 f166 f167 f168 f169 f170 f171 f172 f173 f174 f175 f176 f177 f178 f179 f180 f181 f182 f183 f184 f185 f186 f187 f188 f189 f190 f191 f192 f193 f194 f195 f196 f197 f198 f199 f200 f201 f202 f203 f204 f205 f206 f207 f208 f209 f210 f211 f212 f213 f214 f215 f216 f217 f218 f219 f220 f221 f222 f223 f224 f225 f226 f227 f228 f229 f230 f231 f232 f233 f234 f235 f236 f237 f238 f239 f240 f241 f242 : Value)
    (HQ : Hid (∀ (x142 x143 x144 x145 x146 x147 x148 x149 x150 x151 : Value) (g7 g8 : Nat) (w' : World), w'.heap[g7]? = some (.cells v0.cells.toArray 44 (0, 0)) → w'.heap[g8]? = some (.cells u0.cells.toArray 44 (0, 0)) → Below wr.heap.size wr w' → Q .normal ⟨#[f0, f1, Value.pointer (some ⟨w.heap.size, 0, none⟩), Value.pointer (some ⟨w.heap.size + 1, 0, none⟩), f4, f5, Value.int .i64 (q : Int), Value.pointer (some ⟨g7, 0, none⟩), Value.pointer (some ⟨g8, 0, none⟩), f9, f10, f11, f12, f13, f14, f15, f16, f17, f18, f19, f20, f21, f22, f23, f24, f25, f26, f27, f28, f29, f30, f31, f32, f33, f34, f35, f36, f37, f38, f39, f40, f41, f42, f43, f44, f45, f46, f47, f48, f49, f50, f51, f52, f53, f54, f55, f56, f57, f58, f59, f60, f61, f62, f63, f64, f65, f66, f67, f68, f69, f70, f71, f72, f73, f74, f75, f76, f77, f78, f79, f80, f81, f82, f83, f84, f85, f86, f87, f88, f89, f90, f91, f92, f93, f94, f95, f96, f97, f98, f99, f100, f101, f102, f103, f104, f105, f106, f107, f108, f109, f110, f111, f112, f113, f114, f115, f116, f117, f118, f119, f120, f121, f122, f123, f124, f125, f126, f127, f128, f129, f130, f131, f132, f133, f134, f135, f136, f137, f138, f139, f140, f141, x142, x143, x144, x145, x146, x147, x148, x149, x150, x151, f152, f153, f154, f155, f156, f157, f158, f159, f160, f161, f162, f163, f164, f165, f166, f167, f168, f169, f170, f171, f172, f173, f174, f175, f176, f177, f178, f179, f180, f181, f182, f183, f184, f185, f186, f187, f188, f189, f190, f191, f192, f193, f194, f195, f196, f197, f198, f199, f200, f201, f202, f203, f204, f205, f206, f207, f208, f209, f210, f211, f212, f213, f214, f215, f216, f217, f218, f219, f220, f221, f222, f223, f224, f225, f226, f227, f228, f229, f230, f231, f232, f233, f234, f235, f236, f237, f238, f239, f240, f241, f242], []⟩ w')) :
    (rg 13 Try.f9).wp Try.prog Q ⟨#[f0, f1, Value.pointer (some ⟨w.heap.size, 0, none⟩), Value.pointer (some ⟨w.heap.size + 1, 0, none⟩), f4, f5, Value.int .i64 (q : Int), f7, f8, f9, f10, f11, f12, f13, f14, f15, f16, f17, f18, f19, f20, f21, f22, f23, f24, f25, f26, f27, f28, f29, f30, f31, f32, f33, f34, f35, f36, f37, f38, f39, f40, f41, f42, f43, f44, f45, f46, f47, f48, f49, f50, f51, f52, f53, f54, f55, f56, f57, f58, f59, f60, f61, f62, f63, f64, f65, f66, f67, f68, f69, f70, f71, f72, f73, f74, f75, f76, f77, f78, f79, f80, f81, f82, f83, f84, f85, f86, f87, f88, f89, f90, f91, f92, f93, f94, f95, f96, f97, f98, f99, f100, f101, f102, f103, f104, f105, f106, f107, f108, f109, f110, f111, f112, f113, f114, f115, f116, f117, f118, f119, f120, f121, f122, f123, f124, f125, f126, f127, f128, f129, f130, f131, f132, f133, f134, f135, f136, f137, f138, f139, f140, f141, f142, f143, f144, f145, f146, f147, f148, f149, f150, f151, f152, f153, f154, f155, f156, f157, f158, f159, f160, f161, f162, f163, f164, f165, f166, f167, f168, f169, f170, f171, f172, f173, f174, f175, f176, f177, f178, f179, f180, f181, f182, f183, f184, f185, f186, f187, f188, f189, f190, f191, f192, f193, f194, f195, f196, f197, f198, f199, f200, f201, f202, f203, f204, f205, f206, f207, f208, f209, f210, f211, f212, f213, f214, f215, f216, f217, f218, f219, f220, f221, f222, f223, f224, f225, f226, f227, f228, f229, f230, f231, f232, f233, f234, f235, f236, f237, f238, f239, f240, f241, f242], []⟩ wr := by
  conv => arg 2; whnf
  refine wp_region_held (S := fun w' => Below wr.heap.size wr w') (by kernel_rfl) ?_
  have hS : Below wr.heap.size wr { wr with drawn := wr.drawn + 1 } := (Below.refl _ _).drew
  have O : Hid (Own wr.heap.size { wr with drawn := wr.drawn + 1 } []) := Own.nil
  generalize ({ wr with drawn := wr.drawn + 1 } : World) = v at hS O ⊢
  refine Held.take (i := 0) (some 142) rfl (v := ?_) rfl (by kernel_rfl) (by kernel_rfl) (by kernel_rfl) (fun c a w h => hP c _ a w (by rfl) h) (Or.inl ⟨by rfl, ?_⟩) hS ?_
  rotate_left
  · intro w' hw'
    go_simp
    try with_reducible rfl
  (try dsimp only [Act.put]); (try simp only [List.setIfInBounds_toArray, List.set_cons_zero, List.set_cons_succ])
  refine Held.take (i := 1) (some 143) rfl (v := ?_) rfl (by kernel_rfl) (by kernel_rfl) (by kernel_rfl) (fun c a w h => hP c _ a w (by rfl) h) (Or.inl ⟨by rfl, ?_⟩) hS ?_
  rotate_left
  · intro w' hw'
    have e1 := (hw'.cell (World.block_lt_of_cell? wr _ qq113.out)).trans qq113.out
    go_simp
    try with_reducible rfl
  (try dsimp only [Act.put]); (try simp only [List.setIfInBounds_toArray, List.set_cons_zero, List.set_cons_succ])
  refine Held.take (i := 2) (some 144) rfl (v := ?_) rfl (by kernel_rfl) (by kernel_rfl) (by kernel_rfl) (fun c a w h => hP c _ a w (by rfl) h) (Or.inl ⟨by rfl, ?_⟩) hS ?_
  rotate_left
  · intro w' hw'
    go_simp
    try with_reducible rfl
  (try dsimp only [Act.put]); (try simp only [List.setIfInBounds_toArray, List.set_cons_zero, List.set_cons_succ])
  refine Held.take (i := 3) (some 145) rfl (v := ?_) rfl (by kernel_rfl) (by kernel_rfl) (by kernel_rfl) (fun c a w h => hP c _ a w (by rfl) h) (Or.inl ⟨by rfl, ?_⟩) hS ?_
  rotate_left
  · intro w' hw'
    go_simp
    try with_reducible rfl
  (try dsimp only [Act.put]); (try simp only [List.setIfInBounds_toArray, List.set_cons_zero, List.set_cons_succ])
  refine Held.take_load (i := 4) (some 146) rfl 44 _ (x.add (q * 7)) v0.cells _ rfl rfl (by kernel_rfl) (by kernel_rfl) (by kernel_rfl) (fun c a w h => hP c _ a w (by rfl) h) (by rfl) hS rfl (fun w' hw' => HC.out.below hw') Try.underlying44 rfl infoD ?_
  (try dsimp only [Act.put]); (try simp only [List.setIfInBounds_toArray, List.set_cons_zero, List.set_cons_succ])
  refine Held.take (i := 5) (some 147) rfl (v := ?_) rfl (by kernel_rfl) (by kernel_rfl) (by kernel_rfl) (fun c a w h => hP c _ a w (by rfl) h) (Or.inl ⟨by rfl, ?_⟩) hS ?_
  rotate_left
  · intro w' hw'
    go_simp
    try with_reducible rfl
  (try dsimp only [Act.put]); (try simp only [List.setIfInBounds_toArray, List.set_cons_zero, List.set_cons_succ])
  refine Held.take (i := 6) (some 148) rfl (v := ?_) rfl (by kernel_rfl) (by kernel_rfl) (by kernel_rfl) (fun c a w h => hP c _ a w (by rfl) h) (Or.inl ⟨by rfl, ?_⟩) hS ?_
  rotate_left
  · intro w' hw'
    have e1 := (hw'.cell (World.block_lt_of_cell? wr _ rr113.out)).trans rr113.out
    go_simp
    try with_reducible rfl
  (try dsimp only [Act.put]); (try simp only [List.setIfInBounds_toArray, List.set_cons_zero, List.set_cons_succ])
  refine Held.take (i := 7) (some 149) rfl (v := ?_) rfl (by kernel_rfl) (by kernel_rfl) (by kernel_rfl) (fun c a w h => hP c _ a w (by rfl) h) (Or.inl ⟨by rfl, ?_⟩) hS ?_
  rotate_left
  · intro w' hw'
    go_simp
    try with_reducible rfl
  (try dsimp only [Act.put]); (try simp only [List.setIfInBounds_toArray, List.set_cons_zero, List.set_cons_succ])
  refine Held.take (i := 8) (some 150) rfl (v := ?_) rfl (by kernel_rfl) (by kernel_rfl) (by kernel_rfl) (fun c a w h => hP c _ a w (by rfl) h) (Or.inl ⟨by rfl, ?_⟩) hS ?_
  rotate_left
  · intro w' hw'
    go_simp
    try with_reducible rfl
  (try dsimp only [Act.put]); (try simp only [List.setIfInBounds_toArray, List.set_cons_zero, List.set_cons_succ])
  refine Held.take_load (i := 9) (some 151) rfl 44 _ (y.add (q * 7)) u0.cells _ rfl rfl (by kernel_rfl) (by kernel_rfl) (by kernel_rfl) (fun c a w h => hP c _ a w (by rfl) h) (by rfl) hS rfl (fun w' hw' => HC'.out.below hw') Try.underlying44 rfl infoD ?_
  (try dsimp only [Act.put]); (try simp only [List.setIfInBounds_toArray, List.set_cons_zero, List.set_cons_succ])
  refine wpAnyH_ready (rs := [10, 11]) (by kernel_rfl) (by simp) (AllReadyH.cons rfl (fun K hK => ?_) (AllReadyH.cons rfl (fun K hK => ?_) AllReadyH.nil))
  · go_simp
    have O2 := Lib.hid (own2_alloc O.out hS.size [.int .i64 0, .float .f64 0, .float .f64 0, .float .f64 0, .float .f64 0, .int .i64 0, .int .i64 0] 44)
    refine hK.out _ _ (hS.alloc (by exact hS.size) _) (fun hS => ?_)
    clear hK K O
    generalize v.heap.size = g10 at O2 ⊢
    generalize v.alloc _ = v at hS O2 ⊢
    have O := O2
    clear O2
    refine wpAnyH_ready (rs := [11]) (by kernel_rfl) (by simp) (AllReadyH.cons rfl (fun K hK => ?_) AllReadyH.nil)
    · go_simp
      have O2 := Lib.hid (own2_alloc O.out hS.size [.int .i64 0, .float .f64 0, .float .f64 0, .float .f64 0, .float .f64 0, .int .i64 0, .int .i64 0] 44)
      refine hK.out _ _ (hS.alloc (by exact hS.size) _) (fun hS => ?_)
      clear hK K O
      generalize v.heap.size = g11 at O2 ⊢
      generalize v.alloc _ = v at hS O2 ⊢
      have O := O2
      clear O2
      refine wpAnyH_ready (rs := [12]) (by kernel_rfl) (by simp) (AllReadyH.cons rfl (fun K hK => ?_) AllReadyH.nil)
      · rw [if_pos (by rfl)]
        refine wp_store_whole 44 _ _ rfl g10 v0.cells.toArray rfl rfl 44 _ (O.out.get (x := ⟨g10, [.int .i64 0, .float .f64 0, .float .f64 0, .float .f64 0, .float .f64 0, .int .i64 0, .int .i64 0], _⟩) (by simp only [List.mem_cons, true_or, or_true])) infoD rfl (Det.one _) rfl ?_
        have O2 := O.out.row_at (i := 1) rfl v0.cells
        dsimp only [List.set_cons_succ, List.set_cons_zero] at O2
        have hS2 := below_setRow hS (g := g10) (O.out.base (x := ⟨g10, [.int .i64 0, .float .f64 0, .float .f64 0, .float .f64 0, .float .f64 0, .int .i64 0, .int .i64 0], 44⟩) (by simp only [List.mem_cons, true_or, or_true])) v0.cells.toArray
        clear O hS
        generalize v.setRow _ _ = v at hS2 O2 ⊢
        refine hK.out _ _ hS2 (fun hS => ?_)
        clear hK K hS2
        have O := Lib.hid O2
        clear O2
        refine wpAnyH_ready (rs := [13]) (by kernel_rfl) (by simp) (AllReadyH.cons rfl (fun K hK => ?_) AllReadyH.nil)
        · rw [if_pos (by rfl)]
          refine wp_store_whole 44 _ _ rfl g11 u0.cells.toArray rfl rfl 44 _ (O.out.get (x := ⟨g11, [.int .i64 0, .float .f64 0, .float .f64 0, .float .f64 0, .float .f64 0, .int .i64 0, .int .i64 0], _⟩) (by simp only [List.mem_cons, true_or, or_true])) infoD rfl (Det.one _) rfl ?_
          have O2 := O.out.row_at (i := 0) rfl u0.cells
          dsimp only [List.set_cons_succ, List.set_cons_zero] at O2
          have hS2 := below_setRow hS (g := g11) (O.out.base (x := ⟨g11, [.int .i64 0, .float .f64 0, .float .f64 0, .float .f64 0, .float .f64 0, .int .i64 0, .int .i64 0], 44⟩) (by simp only [List.mem_cons, true_or, or_true])) u0.cells.toArray
          clear O hS
          generalize v.setRow _ _ = v at hS2 O2 ⊢
          refine hK.out _ _ hS2 (fun hS => ?_)
          clear hK K hS2
          have O := Lib.hid O2
          clear O2
          refine wpAnyH_done (by kernel_rfl) ?_ _
          exact HQ.out _ _ _ _ _ _ _ _ _ _ g10 g11 _ (O.out.get (x := ⟨g10, v0.cells, _⟩) (by simp only [List.mem_cons, true_or, or_true])) (O.out.get (x := ⟨g11, u0.cells, _⟩) (by simp only [List.mem_cons, true_or, or_true])) hS
  · go_simp
    have O2 := Lib.hid (own2_alloc O.out hS.size [.int .i64 0, .float .f64 0, .float .f64 0, .float .f64 0, .float .f64 0, .int .i64 0, .int .i64 0] 44)
    refine hK.out _ _ (hS.alloc (by exact hS.size) _) (fun hS => ?_)
    clear hK K O
    generalize v.heap.size = g11 at O2 ⊢
    generalize v.alloc _ = v at hS O2 ⊢
    have O := O2
    clear O2
    refine wpAnyH_ready (rs := [10]) (by kernel_rfl) (by simp) (AllReadyH.cons rfl (fun K hK => ?_) AllReadyH.nil)
    · go_simp
      have O2 := Lib.hid (own2_alloc O.out hS.size [.int .i64 0, .float .f64 0, .float .f64 0, .float .f64 0, .float .f64 0, .int .i64 0, .int .i64 0] 44)
      refine hK.out _ _ (hS.alloc (by exact hS.size) _) (fun hS => ?_)
      clear hK K O
      generalize v.heap.size = g10 at O2 ⊢
      generalize v.alloc _ = v at hS O2 ⊢
      have O := O2
      clear O2
      refine wpAnyH_ready (rs := [12]) (by kernel_rfl) (by simp) (AllReadyH.cons rfl (fun K hK => ?_) AllReadyH.nil)
      · rw [if_pos (by rfl)]
        refine wp_store_whole 44 _ _ rfl g10 v0.cells.toArray rfl rfl 44 _ (O.out.get (x := ⟨g10, [.int .i64 0, .float .f64 0, .float .f64 0, .float .f64 0, .float .f64 0, .int .i64 0, .int .i64 0], _⟩) (by simp only [List.mem_cons, true_or, or_true])) infoD rfl (Det.one _) rfl ?_
        have O2 := O.out.row_at (i := 0) rfl v0.cells
        dsimp only [List.set_cons_succ, List.set_cons_zero] at O2
        have hS2 := below_setRow hS (g := g10) (O.out.base (x := ⟨g10, [.int .i64 0, .float .f64 0, .float .f64 0, .float .f64 0, .float .f64 0, .int .i64 0, .int .i64 0], 44⟩) (by simp only [List.mem_cons, true_or, or_true])) v0.cells.toArray
        clear O hS
        generalize v.setRow _ _ = v at hS2 O2 ⊢
        refine hK.out _ _ hS2 (fun hS => ?_)
        clear hK K hS2
        have O := Lib.hid O2
        clear O2
        refine wpAnyH_ready (rs := [13]) (by kernel_rfl) (by simp) (AllReadyH.cons rfl (fun K hK => ?_) AllReadyH.nil)
        · rw [if_pos (by rfl)]
          refine wp_store_whole 44 _ _ rfl g11 u0.cells.toArray rfl rfl 44 _ (O.out.get (x := ⟨g11, [.int .i64 0, .float .f64 0, .float .f64 0, .float .f64 0, .float .f64 0, .int .i64 0, .int .i64 0], _⟩) (by simp only [List.mem_cons, true_or, or_true])) infoD rfl (Det.one _) rfl ?_
          have O2 := O.out.row_at (i := 1) rfl u0.cells
          dsimp only [List.set_cons_succ, List.set_cons_zero] at O2
          have hS2 := below_setRow hS (g := g11) (O.out.base (x := ⟨g11, [.int .i64 0, .float .f64 0, .float .f64 0, .float .f64 0, .float .f64 0, .int .i64 0, .int .i64 0], 44⟩) (by simp only [List.mem_cons, true_or, or_true])) u0.cells.toArray
          clear O hS
          generalize v.setRow _ _ = v at hS2 O2 ⊢
          refine hK.out _ _ hS2 (fun hS => ?_)
          clear hK K hS2
          have O := Lib.hid O2
          clear O2
          refine wpAnyH_done (by kernel_rfl) ?_ _
          exact HQ.out _ _ _ _ _ _ _ _ _ _ g10 g11 _ (O.out.get (x := ⟨g10, v0.cells, _⟩) (by simp only [List.mem_cons, true_or, or_true])) (O.out.get (x := ⟨g11, u0.cells, _⟩) (by simp only [List.mem_cons, true_or, or_true])) hS
end Go.Proofs.Ytpofccenoobojaa.Same
