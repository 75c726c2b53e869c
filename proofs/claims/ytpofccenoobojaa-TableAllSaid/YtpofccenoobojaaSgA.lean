/- Region 1 of the document's Same: what is compared ahead of the lists' elements. -/
import Derived.Test.YtpofccenoobojaaRows
import Derived.Test.YtpofccenoobojaaSub
import Derived.Test.YtpofccenoobojaaSameF
import Derived.Test.YtpofccenoobojaaHeld
import Derived.Test.YtpofccenoobojaaPw
import Derived.Test.YtpofccenoobojaaOwned
import Derived.Deep.Cut
import Derived.Deep.CutRange
namespace Go.Proofs.Ytpofccenoobojaa.Same
open Go.ChangeShapes Go.WideShapes Go.ChangeAt Go.RowKit
open Tab Owned CodeAt
open May (ret_bool chain take_succ' infoP infoG infoD infoR infoB infoT row_new St)
set_option linter.unusedVariables false
set_option linter.unusedSimpArgs false
/-- Two boxed tables that a walk holds on to. -/
structure Two (w : World) (cs ds : Array Value) (h k : Hd) (T U : Tab) (W : World) : Prop where
  t : St w w.heap.size cs h T W
  u : St w (w.heap.size + 1) ds k U W
theorem Two.step {w W W' : World} {cs ds : Array Value} {h k : Hd} {T U : Tab} (p : Two w cs ds h k T U W) (hb : Below W.heap.size W W') : Two w cs ds h k T U W' := ⟨p.t.step hb, p.u.step hb⟩
theorem data_step {l m : List Gr} {k : Nat} {v u : Gr} (h : l[k]? = some v) (h' : m[k]? = some u) (e : (l.take k).map Gr.data = (m.take k).map Gr.data) (hv : v.data = u.data) : (l.take (k + 1)).map Gr.data = (m.take (k + 1)).map Gr.data := by
  rw [take_succ' l k v h, take_succ' m k u h', List.map_append, List.map_append, e]; simp [hv]
theorem data_break {l m : List Gr} {k : Nat} {v u : Gr} (h : l[k]? = some v) (h' : m[k]? = some u) (hv : ¬ v.data = u.data) : ¬ l.map Gr.data = m.map Gr.data := fun e => hv (by
  have h3 := congrArg (·[k]?) e
  simp only [List.getElem?_map, h, h', Option.map_some] at h3
  exact Option.some.inj h3)
theorem own2_alloc {B : Nat} {v : World} {L : List Blk} (h : Own B v L) (hB : B ≤ v.heap.size) (cs : List Value) (t : TypeId) : Own B (v.alloc (.cells cs.toArray t)) (⟨v.heap.size, cs, t⟩ :: L) :=
  h.add ((Below.refl _ _).alloc (Nat.le_refl _) _) (heap_alloc_new v _) (Nat.le_refl _) hB
theorem wp_store_whole {P : Program} {o : Oper} {a : Act} {w : World} {K : Act → World → Prop} {Q : Exit → Act → World → Prop} (ty : TypeId) (x y : Operand) (ho : o.op = .store ty x y) (g : Nat) (cells : Array Value) (hx : a.eval x = .pointer (some ⟨g, 0, none⟩)) (hy : a.eval y = .agg cells)
    (t : TypeId) (old : Array Value) (hg : w.heap[g]? = some (.cells old t (0, 0))) (hi : (P.info? ty).map (·.size) = some cells.size) (hs : old.size = cells.size) (h1 : cells.all (·.oneCell') = true) (hd : o.dst = none) (h : K a (w.setRow g cells)) : o.wp P a w K Q := by
  have hr := Row.run_storeAt_at (P := P) w g 0 t ty old cells hg hi (by omega) h1
  have e : (old.toList.take 0 ++ cells.toList ++ old.toList.drop (0 + cells.size)).toArray = cells := by
    rw [List.drop_of_length_le (by simp; omega)]; simp
  rw [e] at hr
  unfold Oper.wp execOp
  simp only [ho, hx, hy, Sem.run_bind, hr, Result.andThen_ok, Sem.run_pure]
  show K (a.put o.dst undef) _
  rw [hd]
  exact h
/-- What is compared ahead of the lists' elements. -/
structure Heads (T U : Tab) : Prop where
  h1 : T.phases = U.phases
  h2 : T.conflict = U.conflict
  h3 : T.flash = U.flash
  h4 : T.groups.length = U.groups.length
  h5 : T.dets.length = U.dets.length
  h6 : T.rails.length = U.rails.length
  h7 : T.buses.length = U.buses.length
set_option maxRecDepth 100000 in
set_option maxHeartbeats 20000000 in
theorem heads_rg {Q : Exit → Act → World → Prop} (T U : Tab) (h k : Hd) (w w1 : World) (cs ds : Array Value) (L1 : Hid (IsTab w h T)) (L2 : Hid (IsTab w k U)) (C : Hid (CellsOk T h cs)) (D : Hid (CellsOk U k ds)) (SS : Hid (Two w cs ds h k T U w1)) (f0 f1 f4 f5 f6 f7 f8 f9 f10 f11 f12 f13 f14 f15 f16 f17 f18 f19 f20 f21 f22 f23 f24 f25 f26 f27 f28 f29 f30 f31 f32 f33 f34 f35 f36 f37 f38 f39 f40 f41 f42 f43 f44 f45 f46 f47 f48 f49 f50 f51 f52 f53 f54 f55 f56 f57 f58 f59 f60 f61 f62 f63 f64 f65 f66 f67 f68 f69 f70 f71 f72 f73 f74 f75 f76 f77 f78 f79 f80 f81 f82 f83 f84 f85 f86 f87 f88 f89 f90 f91 f92 f93 f94 f95 f96 f97 f98 f99 f100 f101 f102 f103 f104 f105 f106 f107 f108 f109 f110 f111 f112 f113 f114 f115 f116 f117 f118 f119 f120 f121 f122 f123 f124 f125 f126 f127 f128 f129 f130 f131 f132 f133 f134 f135 f136 f137 f138 f139 f140 f141 f142 f143 f144 f145 f146 f147 f148 f149 f150 f151 f152 f153 f154 f155 f156 f157 f158 f159 f160 f161 f162 f163 f164 f165 f166 f167 f168 f169 f170 f171 f172 f173 f174 f175 f176 f177 f178 f179 f180 f181 f182 f183 f184 f185 f186 f187 f188 f189 f190 f191 f192 f193 f194 f195 f196 f197 f198 f199 f200 f201 f202 f203 f204 f205 f206 f207 f208 f209 f210 f211 f212 f213 f214 f215 f216 f217 f218 f219 f220 f221 f222 f223 f224 f225 f226 f227 f228 f229 f230 f231 f232 f233 f234 f235 f236 f237 f238 f239 f240 f241 f242 : Value)
    (HQ : Hid (∀ (x11 x12 x13 x14 x15 x16 x17 x18 x19 x20 x21 x22 x23 x24 x25 x26 x27 x28 x29 x30 x31 x32 x33 x34 x35 x36 x37 x38 x39 x40 x41 x42 x43 x44 x45 x46 x47 x48 x49 x50 x51 x52 x53 x54 x55 x56 x57 x58 x59 x60 x61 x62 x63 x64 : Value) (b : Bool), (b = false ↔ Heads T U) → Q .normal ⟨#[f0, f1, Value.pointer (some ⟨w.heap.size, 0, none⟩), Value.pointer (some ⟨w.heap.size + 1, 0, none⟩), f4, f5, f6, f7, f8, f9, f10, x11, x12, x13, x14, x15, x16, x17, x18, x19, x20, x21, x22, x23, x24, x25, x26, x27, x28, x29, x30, x31, x32, x33, x34, x35, x36, x37, x38, x39, x40, x41, x42, x43, x44, x45, x46, x47, x48, x49, x50, x51, x52, x53, x54, x55, x56, x57, x58, x59, x60, x61, x62, x63, x64, Value.bool b, f66, f67, f68, f69, f70, f71, f72, f73, f74, f75, f76, f77, f78, f79, f80, f81, f82, f83, f84, f85, f86, f87, f88, f89, f90, f91, f92, f93, f94, f95, f96, f97, f98, f99, f100, f101, f102, f103, f104, f105, f106, f107, f108, f109, f110, f111, f112, f113, f114, f115, f116, f117, f118, f119, f120, f121, f122, f123, f124, f125, f126, f127, f128, f129, f130, f131, f132, f133, f134, f135, f136, f137, f138, f139, f140, f141, f142, f143, f144, f145, f146, f147, f148, f149, f150, f151, f152, f153, f154, f155, f156, f157, f158, f159, f160, f161, f162, f163, f164, f165, f166, f167, f168, f169, f170, f171, f172, f173, f174, f175, f176, f177, f178, f179, f180, f181, f182, f183, f184, f185, f186, f187, f188, f189, f190, f191, f192, f193, f194, f195, f196, f197, f198, f199, f200, f201, f202, f203, f204, f205, f206, f207, f208, f209, f210, f211, f212, f213, f214, f215, f216, f217, f218, f219, f220, f221, f222, f223, f224, f225, f226, f227, f228, f229, f230, f231, f232, f233, f234, f235, f236, f237, f238, f239, f240, f241, f242], []⟩ w1)) :
    (rg 1 Try.f9).wp Try.prog Q ⟨#[f0, f1, Value.pointer (some ⟨w.heap.size, 0, none⟩), Value.pointer (some ⟨w.heap.size + 1, 0, none⟩), f4, f5, f6, f7, f8, f9, f10, f11, f12, f13, f14, f15, f16, f17, f18, f19, f20, f21, f22, f23, f24, f25, f26, f27, f28, f29, f30, f31, f32, f33, f34, f35, f36, f37, f38, f39, f40, f41, f42, f43, f44, f45, f46, f47, f48, f49, f50, f51, f52, f53, f54, f55, f56, f57, f58, f59, f60, f61, f62, f63, f64, f65, f66, f67, f68, f69, f70, f71, f72, f73, f74, f75, f76, f77, f78, f79, f80, f81, f82, f83, f84, f85, f86, f87, f88, f89, f90, f91, f92, f93, f94, f95, f96, f97, f98, f99, f100, f101, f102, f103, f104, f105, f106, f107, f108, f109, f110, f111, f112, f113, f114, f115, f116, f117, f118, f119, f120, f121, f122, f123, f124, f125, f126, f127, f128, f129, f130, f131, f132, f133, f134, f135, f136, f137, f138, f139, f140, f141, f142, f143, f144, f145, f146, f147, f148, f149, f150, f151, f152, f153, f154, f155, f156, f157, f158, f159, f160, f161, f162, f163, f164, f165, f166, f167, f168, f169, f170, f171, f172, f173, f174, f175, f176, f177, f178, f179, f180, f181, f182, f183, f184, f185, f186, f187, f188, f189, f190, f191, f192, f193, f194, f195, f196, f197, f198, f199, f200, f201, f202, f203, f204, f205, f206, f207, f208, f209, f210, f211, f212, f213, f214, f215, f216, f217, f218, f219, f220, f221, f222, f223, f224, f225, f226, f227, f228, f229, f230, f231, f232, f233, f234, f235, f236, f237, f238, f239, f240, f241, f242], []⟩ w1 := by
  conv => arg 2; whnf
  have E1 := Lib.hid (phases_eqs T.phases U.phases L1.out.ph L2.out.ph)
  have E3 := Lib.hid (eight_eqs T.conflict U.conflict L1.out.cf L2.out.cf)
  have E7 := Lib.hid (eight_eqs T.flash U.flash L1.out.fl L2.out.fl)
  have q104 := SS.out.t.cell C.out.g
  have q113 := SS.out.t.cell C.out.d
  have q114 := SS.out.t.cell C.out.r
  have q115 := SS.out.t.cell C.out.b
  have r104 := SS.out.u.cell D.out.g
  have r113 := SS.out.u.cell D.out.d
  have r114 := SS.out.u.cell D.out.r
  have r115 := SS.out.u.cell D.out.b
  have PA : Hid (Lies w1 ⟨w.heap.size, 0, none⟩ (T.phases.flatMap Ph.cells)) := Lib.hid (lies_at SS.out.t.blk 0 104 _ (by rw [List.drop_zero]; exact C.out.phases))
  have PB : Hid (Lies w1 ⟨w.heap.size + 1, 0, none⟩ (U.phases.flatMap Ph.cells)) := Lib.hid (lies_at SS.out.u.blk 0 104 _ (by rw [List.drop_zero]; exact D.out.phases))
  have IA : Hid ((Try.prog.info? 24).map (·.size) = some (T.phases.flatMap Ph.cells).length) := Lib.hid (infoPs.trans (by rw [phases_len, L1.out.ph]))
  have IB : Hid ((Try.prog.info? 24).map (·.size) = some (U.phases.flatMap Ph.cells).length) := Lib.hid (infoPs.trans (by rw [phases_len, L2.out.ph]))
  generalize T.phases.flatMap Ph.cells = pa at PA IA E1
  generalize U.phases.flatMap Ph.cells = pb at PB IB E1
  have CA : Hid (Lies w1 ⟨w.heap.size, 105, none⟩ (T.conflict.map I)) := Lib.hid (lies_at SS.out.t.blk 105 8 _ C.out.conflict)
  have CB : Hid (Lies w1 ⟨w.heap.size + 1, 105, none⟩ (U.conflict.map I)) := Lib.hid (lies_at SS.out.u.blk 105 8 _ D.out.conflict)
  have JA : Hid ((Try.prog.info? 26).map (·.size) = some (T.conflict.map I).length) := Lib.hid (by rw [List.length_map, L1.out.cf]; exact info8)
  have JB : Hid ((Try.prog.info? 26).map (·.size) = some (U.conflict.map I).length) := Lib.hid (by rw [List.length_map, L2.out.cf]; exact info8)
  generalize T.conflict.map I = ca at CA JA E3
  generalize U.conflict.map I = cb at CB JB E3
  have FA : Hid (Lies w1 ⟨w.heap.size, 121, none⟩ (T.flash.map I)) := Lib.hid (lies_at SS.out.t.blk 121 8 _ C.out.flash)
  have FB : Hid (Lies w1 ⟨w.heap.size + 1, 121, none⟩ (U.flash.map I)) := Lib.hid (lies_at SS.out.u.blk 121 8 _ D.out.flash)
  have KA : Hid ((Try.prog.info? 26).map (·.size) = some (T.flash.map I).length) := Lib.hid (by rw [List.length_map, L1.out.fl]; exact info8)
  have KB : Hid ((Try.prog.info? 26).map (·.size) = some (U.flash.map I).length) := Lib.hid (by rw [List.length_map, L2.out.fl]; exact info8)
  generalize T.flash.map I = fa at FA KA E7
  generalize U.flash.map I = fb at FB KB E7
  go_step
  by_cases h1 : T.phases = U.phases
  rotate_left
  · rw [decide_eq_false h1] at E1
    have NE : Hid (¬ Heads T U) := fun e => h1 e.h1
    clear h1
    refine wpList_plain rfl (fun K hK => ?_)
    go_simp
    refine hK _ _ ?_
    clear hK K
    (try dsimp only [Act.put]); (try simp only [List.setIfInBounds_toArray, List.set_cons_zero, List.set_cons_succ])
    refine Row.wpList_load_g 24 _ rfl (by rfl) ⟨w.heap.size, 0, none⟩ rfl pa _ PA.out Try.underlying24 rfl IA.out ?_
    (try dsimp only [Act.put]); (try simp only [List.setIfInBounds_toArray, List.set_cons_zero, List.set_cons_succ])
    refine wpList_plain rfl (fun K hK => ?_)
    go_simp
    refine hK _ _ ?_
    clear hK K
    (try dsimp only [Act.put]); (try simp only [List.setIfInBounds_toArray, List.set_cons_zero, List.set_cons_succ])
    refine Row.wpList_load_g 24 _ rfl (by rfl) ⟨w.heap.size + 1, 0, none⟩ rfl pb _ PB.out Try.underlying24 rfl IB.out ?_
    (try dsimp only [Act.put]); (try simp only [List.setIfInBounds_toArray, List.set_cons_zero, List.set_cons_succ])
    refine Row.wpList_neq 24 _ _ _ rfl (by rfl) pa.toArray pb.toArray rfl rfl guardP false E1.out ?_
    simp only [Bool.not_false, Bool.not_true]
    (try dsimp only [Act.put]); (try simp only [List.setIfInBounds_toArray, List.set_cons_zero, List.set_cons_succ])
    go_wp2
    exact HQ.out _ _ _ _ _ _ _ _ _ _ _ _ _ _ _ _ _ _ _ _ _ _ _ _ _ _ _ _ _ _ _ _ _ _ _ _ _ _ _ _ _ _ _ _ _ _ _ _ _ _ _ _ _ _ true (by simp only [Bool.true_eq_false, false_iff]; exact NE.out)
  rw [decide_eq_true h1] at E1
  have H1 := Lib.hid h1
  clear h1
  refine wpList_plain rfl (fun K hK => ?_)
  go_simp
  refine hK _ _ ?_
  clear hK K
  (try dsimp only [Act.put]); (try simp only [List.setIfInBounds_toArray, List.set_cons_zero, List.set_cons_succ])
  refine Row.wpList_load_g 24 _ rfl (by rfl) ⟨w.heap.size, 0, none⟩ rfl pa _ PA.out Try.underlying24 rfl IA.out ?_
  (try dsimp only [Act.put]); (try simp only [List.setIfInBounds_toArray, List.set_cons_zero, List.set_cons_succ])
  refine wpList_plain rfl (fun K hK => ?_)
  go_simp
  refine hK _ _ ?_
  clear hK K
  (try dsimp only [Act.put]); (try simp only [List.setIfInBounds_toArray, List.set_cons_zero, List.set_cons_succ])
  refine Row.wpList_load_g 24 _ rfl (by rfl) ⟨w.heap.size + 1, 0, none⟩ rfl pb _ PB.out Try.underlying24 rfl IB.out ?_
  (try dsimp only [Act.put]); (try simp only [List.setIfInBounds_toArray, List.set_cons_zero, List.set_cons_succ])
  refine Row.wpList_neq 24 _ _ _ rfl (by rfl) pa.toArray pb.toArray rfl rfl guardP true E1.out ?_
  simp only [Bool.not_false, Bool.not_true]
  (try dsimp only [Act.put]); (try simp only [List.setIfInBounds_toArray, List.set_cons_zero, List.set_cons_succ])
  clear PA PB IA IB E1
  refine wpList_plain rfl (fun K hK => ?_)
  go_simp
  refine hK _ _ ?_
  clear hK K
  (try dsimp only [Act.put]); (try simp only [List.setIfInBounds_toArray, List.set_cons_zero, List.set_cons_succ])
  by_cases h2 : T.conflict = U.conflict
  rotate_left
  · rw [decide_eq_false h2] at E3
    have NE : Hid (¬ Heads T U) := fun e => h2 e.h2
    clear h2
    refine BigFrame.wpList_want (by rfl) (fun K hK => ?_)
    go_simp
    refine hK _ _ ?_
    clear hK K
    (try dsimp only [Act.put]); (try simp only [List.setIfInBounds_toArray, List.set_cons_zero, List.set_cons_succ])
    refine Row.wpList_load_g 26 _ rfl (by rfl) ⟨w.heap.size, 105, none⟩ rfl ca _ CA.out Try.underlying26 rfl JA.out ?_
    (try dsimp only [Act.put]); (try simp only [List.setIfInBounds_toArray, List.set_cons_zero, List.set_cons_succ])
    refine BigFrame.wpList_want (by rfl) (fun K hK => ?_)
    go_simp
    refine hK _ _ ?_
    clear hK K
    (try dsimp only [Act.put]); (try simp only [List.setIfInBounds_toArray, List.set_cons_zero, List.set_cons_succ])
    refine Row.wpList_load_g 26 _ rfl (by rfl) ⟨w.heap.size + 1, 105, none⟩ rfl cb _ CB.out Try.underlying26 rfl JB.out ?_
    (try dsimp only [Act.put]); (try simp only [List.setIfInBounds_toArray, List.set_cons_zero, List.set_cons_succ])
    refine Row.wpList_neq 26 _ _ _ rfl (by rfl) ca.toArray cb.toArray rfl rfl guard8 false E3.out ?_
    simp only [Bool.not_false, Bool.not_true]
    (try dsimp only [Act.put]); (try simp only [List.setIfInBounds_toArray, List.set_cons_zero, List.set_cons_succ])
    go_wp2
    exact HQ.out _ _ _ _ _ _ _ _ _ _ _ _ _ _ _ _ _ _ _ _ _ _ _ _ _ _ _ _ _ _ _ _ _ _ _ _ _ _ _ _ _ _ _ _ _ _ _ _ _ _ _ _ _ _ true (by simp only [Bool.true_eq_false, false_iff]; exact NE.out)
  rw [decide_eq_true h2] at E3
  have H2 := Lib.hid h2
  clear h2
  refine BigFrame.wpList_want (by rfl) (fun K hK => ?_)
  go_simp
  refine hK _ _ ?_
  clear hK K
  (try dsimp only [Act.put]); (try simp only [List.setIfInBounds_toArray, List.set_cons_zero, List.set_cons_succ])
  refine Row.wpList_load_g 26 _ rfl (by rfl) ⟨w.heap.size, 105, none⟩ rfl ca _ CA.out Try.underlying26 rfl JA.out ?_
  (try dsimp only [Act.put]); (try simp only [List.setIfInBounds_toArray, List.set_cons_zero, List.set_cons_succ])
  refine BigFrame.wpList_want (by rfl) (fun K hK => ?_)
  go_simp
  refine hK _ _ ?_
  clear hK K
  (try dsimp only [Act.put]); (try simp only [List.setIfInBounds_toArray, List.set_cons_zero, List.set_cons_succ])
  refine Row.wpList_load_g 26 _ rfl (by rfl) ⟨w.heap.size + 1, 105, none⟩ rfl cb _ CB.out Try.underlying26 rfl JB.out ?_
  (try dsimp only [Act.put]); (try simp only [List.setIfInBounds_toArray, List.set_cons_zero, List.set_cons_succ])
  refine Row.wpList_neq 26 _ _ _ rfl (by rfl) ca.toArray cb.toArray rfl rfl guard8 true E3.out ?_
  simp only [Bool.not_false, Bool.not_true]
  (try dsimp only [Act.put]); (try simp only [List.setIfInBounds_toArray, List.set_cons_zero, List.set_cons_succ])
  clear CA CB JA JB E3
  refine wpList_plain rfl (fun K hK => ?_)
  go_simp
  refine hK _ _ ?_
  clear hK K
  (try dsimp only [Act.put]); (try simp only [List.setIfInBounds_toArray, List.set_cons_zero, List.set_cons_succ])
  refine wpList_plain rfl (fun K hK => ?_)
  go_simp
  refine hK _ _ ?_
  clear hK K
  (try dsimp only [Act.put]); (try simp only [List.setIfInBounds_toArray, List.set_cons_zero, List.set_cons_succ])
  by_cases h3 : T.flash = U.flash
  rotate_left
  · rw [decide_eq_false h3] at E7
    have NE : Hid (¬ Heads T U) := fun e => h3 e.h3
    clear h3
    refine BigFrame.wpList_want (by rfl) (fun K hK => ?_)
    go_simp
    refine hK _ _ ?_
    clear hK K
    (try dsimp only [Act.put]); (try simp only [List.setIfInBounds_toArray, List.set_cons_zero, List.set_cons_succ])
    refine Row.wpList_load_g 26 _ rfl (by rfl) ⟨w.heap.size, 121, none⟩ rfl fa _ FA.out Try.underlying26 rfl KA.out ?_
    (try dsimp only [Act.put]); (try simp only [List.setIfInBounds_toArray, List.set_cons_zero, List.set_cons_succ])
    refine BigFrame.wpList_want (by rfl) (fun K hK => ?_)
    go_simp
    refine hK _ _ ?_
    clear hK K
    (try dsimp only [Act.put]); (try simp only [List.setIfInBounds_toArray, List.set_cons_zero, List.set_cons_succ])
    refine Row.wpList_load_g 26 _ rfl (by rfl) ⟨w.heap.size + 1, 121, none⟩ rfl fb _ FB.out Try.underlying26 rfl KB.out ?_
    (try dsimp only [Act.put]); (try simp only [List.setIfInBounds_toArray, List.set_cons_zero, List.set_cons_succ])
    refine Row.wpList_neq 26 _ _ _ rfl (by rfl) fa.toArray fb.toArray rfl rfl guard8 false E7.out ?_
    simp only [Bool.not_false, Bool.not_true]
    (try dsimp only [Act.put]); (try simp only [List.setIfInBounds_toArray, List.set_cons_zero, List.set_cons_succ])
    go_wp2
    exact HQ.out _ _ _ _ _ _ _ _ _ _ _ _ _ _ _ _ _ _ _ _ _ _ _ _ _ _ _ _ _ _ _ _ _ _ _ _ _ _ _ _ _ _ _ _ _ _ _ _ _ _ _ _ _ _ true (by simp only [Bool.true_eq_false, false_iff]; exact NE.out)
  rw [decide_eq_true h3] at E7
  have H3 := Lib.hid h3
  clear h3
  refine BigFrame.wpList_want (by rfl) (fun K hK => ?_)
  go_simp
  refine hK _ _ ?_
  clear hK K
  (try dsimp only [Act.put]); (try simp only [List.setIfInBounds_toArray, List.set_cons_zero, List.set_cons_succ])
  refine Row.wpList_load_g 26 _ rfl (by rfl) ⟨w.heap.size, 121, none⟩ rfl fa _ FA.out Try.underlying26 rfl KA.out ?_
  (try dsimp only [Act.put]); (try simp only [List.setIfInBounds_toArray, List.set_cons_zero, List.set_cons_succ])
  refine BigFrame.wpList_want (by rfl) (fun K hK => ?_)
  go_simp
  refine hK _ _ ?_
  clear hK K
  (try dsimp only [Act.put]); (try simp only [List.setIfInBounds_toArray, List.set_cons_zero, List.set_cons_succ])
  refine Row.wpList_load_g 26 _ rfl (by rfl) ⟨w.heap.size + 1, 121, none⟩ rfl fb _ FB.out Try.underlying26 rfl KB.out ?_
  (try dsimp only [Act.put]); (try simp only [List.setIfInBounds_toArray, List.set_cons_zero, List.set_cons_succ])
  refine Row.wpList_neq 26 _ _ _ rfl (by rfl) fa.toArray fb.toArray rfl rfl guard8 true E7.out ?_
  simp only [Bool.not_false, Bool.not_true]
  (try dsimp only [Act.put]); (try simp only [List.setIfInBounds_toArray, List.set_cons_zero, List.set_cons_succ])
  clear FA FB KA KB E7
  refine wpList_plain rfl (fun K hK => ?_)
  go_simp
  refine hK _ _ ?_
  clear hK K
  (try dsimp only [Act.put]); (try simp only [List.setIfInBounds_toArray, List.set_cons_zero, List.set_cons_succ])
  refine wpList_plain rfl (fun K hK => ?_)
  go_simp
  refine hK _ _ ?_
  clear hK K
  (try dsimp only [Act.put]); (try simp only [List.setIfInBounds_toArray, List.set_cons_zero, List.set_cons_succ])
  clear C D L1 L2 SS
  by_cases h4 : T.groups.length = U.groups.length
  rotate_left
  · have NE : Hid (¬ Heads T U) := fun e => h4 (e.h4)
    have hn : ((T.groups.length : Int) != (U.groups.length : Int)) = true := by rw [bne_iff_ne]; omega
    clear h4
    go_wp2
    exact HQ.out _ _ _ _ _ _ _ _ _ _ _ _ _ _ _ _ _ _ _ _ _ _ _ _ _ _ _ _ _ _ _ _ _ _ _ _ _ _ _ _ _ _ _ _ _ _ _ _ _ _ _ _ _ _ true (by simp only [Bool.true_eq_false, false_iff]; exact NE.out)
  have hn : ((T.groups.length : Int) != (U.groups.length : Int)) = false := by rw [bne_eq_false_iff_eq]; omega
  have H4 := Lib.hid h4
  clear h4
  refine BigFrame.wpList_want (by rfl) (fun K hK => ?_)
  go_simp
  refine hK _ _ ?_
  clear hK K
  (try dsimp only [Act.put]); (try simp only [List.setIfInBounds_toArray, List.set_cons_zero, List.set_cons_succ])
  refine BigFrame.wpList_want (by rfl) (fun K hK => ?_)
  go_simp
  refine hK _ _ ?_
  clear hK K
  (try dsimp only [Act.put]); (try simp only [List.setIfInBounds_toArray, List.set_cons_zero, List.set_cons_succ])
  refine BigFrame.wpList_want (by rfl) (fun K hK => ?_)
  go_simp
  refine hK _ _ ?_
  clear hK K
  (try dsimp only [Act.put]); (try simp only [List.setIfInBounds_toArray, List.set_cons_zero, List.set_cons_succ])
  refine BigFrame.wpList_want (by rfl) (fun K hK => ?_)
  go_simp
  refine hK _ _ ?_
  clear hK K
  (try dsimp only [Act.put]); (try simp only [List.setIfInBounds_toArray, List.set_cons_zero, List.set_cons_succ])
  refine BigFrame.wpList_want (by rfl) (fun K hK => ?_)
  go_simp
  refine hK _ _ ?_
  clear hK K
  (try dsimp only [Act.put]); (try simp only [List.setIfInBounds_toArray, List.set_cons_zero, List.set_cons_succ])
  refine BigFrame.wpList_want (by rfl) (fun K hK => ?_)
  go_simp
  refine hK _ _ ?_
  clear hK K
  (try dsimp only [Act.put]); (try simp only [List.setIfInBounds_toArray, List.set_cons_zero, List.set_cons_succ])
  refine BigFrame.wpList_want (by rfl) (fun K hK => ?_)
  go_simp
  refine hK _ _ ?_
  clear hK K
  (try dsimp only [Act.put]); (try simp only [List.setIfInBounds_toArray, List.set_cons_zero, List.set_cons_succ])
  refine wpList_plain rfl (fun K hK => ?_)
  go_simp
  refine hK _ _ ?_
  clear hK K
  (try dsimp only [Act.put]); (try simp only [List.setIfInBounds_toArray, List.set_cons_zero, List.set_cons_succ])
  refine wpList_plain rfl (fun K hK => ?_)
  go_simp
  refine hK _ _ ?_
  clear hK K
  (try dsimp only [Act.put]); (try simp only [List.setIfInBounds_toArray, List.set_cons_zero, List.set_cons_succ])
  by_cases h5 : T.dets.length = U.dets.length
  rotate_left
  · have NE : Hid (¬ Heads T U) := fun e => h5 (by exact e.h5)
    have hn : ((T.dets.length : Int) != (U.dets.length : Int)) = true := by rw [bne_iff_ne]; omega
    clear h5
    go_wp2
    exact HQ.out _ _ _ _ _ _ _ _ _ _ _ _ _ _ _ _ _ _ _ _ _ _ _ _ _ _ _ _ _ _ _ _ _ _ _ _ _ _ _ _ _ _ _ _ _ _ _ _ _ _ _ _ _ _ true (by simp only [Bool.true_eq_false, false_iff]; exact NE.out)
  have hn : ((T.dets.length : Int) != (U.dets.length : Int)) = false := by rw [bne_eq_false_iff_eq]; omega
  have H5 := Lib.hid h5
  clear h5
  refine BigFrame.wpList_want (by rfl) (fun K hK => ?_)
  go_simp
  refine hK _ _ ?_
  clear hK K
  (try dsimp only [Act.put]); (try simp only [List.setIfInBounds_toArray, List.set_cons_zero, List.set_cons_succ])
  refine BigFrame.wpList_want (by rfl) (fun K hK => ?_)
  go_simp
  refine hK _ _ ?_
  clear hK K
  (try dsimp only [Act.put]); (try simp only [List.setIfInBounds_toArray, List.set_cons_zero, List.set_cons_succ])
  refine BigFrame.wpList_want (by rfl) (fun K hK => ?_)
  go_simp
  refine hK _ _ ?_
  clear hK K
  (try dsimp only [Act.put]); (try simp only [List.setIfInBounds_toArray, List.set_cons_zero, List.set_cons_succ])
  refine BigFrame.wpList_want (by rfl) (fun K hK => ?_)
  go_simp
  refine hK _ _ ?_
  clear hK K
  (try dsimp only [Act.put]); (try simp only [List.setIfInBounds_toArray, List.set_cons_zero, List.set_cons_succ])
  refine BigFrame.wpList_want (by rfl) (fun K hK => ?_)
  go_simp
  refine hK _ _ ?_
  clear hK K
  (try dsimp only [Act.put]); (try simp only [List.setIfInBounds_toArray, List.set_cons_zero, List.set_cons_succ])
  refine BigFrame.wpList_want (by rfl) (fun K hK => ?_)
  go_simp
  refine hK _ _ ?_
  clear hK K
  (try dsimp only [Act.put]); (try simp only [List.setIfInBounds_toArray, List.set_cons_zero, List.set_cons_succ])
  refine BigFrame.wpList_want (by rfl) (fun K hK => ?_)
  go_simp
  refine hK _ _ ?_
  clear hK K
  (try dsimp only [Act.put]); (try simp only [List.setIfInBounds_toArray, List.set_cons_zero, List.set_cons_succ])
  refine wpList_plain rfl (fun K hK => ?_)
  go_simp
  refine hK _ _ ?_
  clear hK K
  (try dsimp only [Act.put]); (try simp only [List.setIfInBounds_toArray, List.set_cons_zero, List.set_cons_succ])
  refine wpList_plain rfl (fun K hK => ?_)
  go_simp
  refine hK _ _ ?_
  clear hK K
  (try dsimp only [Act.put]); (try simp only [List.setIfInBounds_toArray, List.set_cons_zero, List.set_cons_succ])
  by_cases h6 : T.rails.length = U.rails.length
  rotate_left
  · have NE : Hid (¬ Heads T U) := fun e => h6 (by exact e.h6)
    have hn : ((T.rails.length : Int) != (U.rails.length : Int)) = true := by rw [bne_iff_ne]; omega
    clear h6
    go_wp2
    exact HQ.out _ _ _ _ _ _ _ _ _ _ _ _ _ _ _ _ _ _ _ _ _ _ _ _ _ _ _ _ _ _ _ _ _ _ _ _ _ _ _ _ _ _ _ _ _ _ _ _ _ _ _ _ _ _ true (by simp only [Bool.true_eq_false, false_iff]; exact NE.out)
  have hn : ((T.rails.length : Int) != (U.rails.length : Int)) = false := by rw [bne_eq_false_iff_eq]; omega
  have H6 := Lib.hid h6
  clear h6
  refine BigFrame.wpList_want (by rfl) (fun K hK => ?_)
  go_simp
  refine hK _ _ ?_
  clear hK K
  (try dsimp only [Act.put]); (try simp only [List.setIfInBounds_toArray, List.set_cons_zero, List.set_cons_succ])
  refine BigFrame.wpList_want (by rfl) (fun K hK => ?_)
  go_simp
  refine hK _ _ ?_
  clear hK K
  (try dsimp only [Act.put]); (try simp only [List.setIfInBounds_toArray, List.set_cons_zero, List.set_cons_succ])
  refine BigFrame.wpList_want (by rfl) (fun K hK => ?_)
  go_simp
  refine hK _ _ ?_
  clear hK K
  (try dsimp only [Act.put]); (try simp only [List.setIfInBounds_toArray, List.set_cons_zero, List.set_cons_succ])
  refine BigFrame.wpList_want (by rfl) (fun K hK => ?_)
  go_simp
  refine hK _ _ ?_
  clear hK K
  (try dsimp only [Act.put]); (try simp only [List.setIfInBounds_toArray, List.set_cons_zero, List.set_cons_succ])
  refine BigFrame.wpList_want (by rfl) (fun K hK => ?_)
  go_simp
  refine hK _ _ ?_
  clear hK K
  (try dsimp only [Act.put]); (try simp only [List.setIfInBounds_toArray, List.set_cons_zero, List.set_cons_succ])
  refine BigFrame.wpList_want (by rfl) (fun K hK => ?_)
  go_simp
  refine hK _ _ ?_
  clear hK K
  (try dsimp only [Act.put]); (try simp only [List.setIfInBounds_toArray, List.set_cons_zero, List.set_cons_succ])
  refine BigFrame.wpList_want (by rfl) (fun K hK => ?_)
  go_simp
  refine hK _ _ ?_
  clear hK K
  (try dsimp only [Act.put]); (try simp only [List.setIfInBounds_toArray, List.set_cons_zero, List.set_cons_succ])
  refine wpList_plain rfl (fun K hK => ?_)
  go_simp
  refine hK _ _ ?_
  clear hK K
  (try dsimp only [Act.put]); (try simp only [List.setIfInBounds_toArray, List.set_cons_zero, List.set_cons_succ])
  refine wpList_plain rfl (fun K hK => ?_)
  go_simp
  refine hK _ _ ?_
  clear hK K
  (try dsimp only [Act.put]); (try simp only [List.setIfInBounds_toArray, List.set_cons_zero, List.set_cons_succ])
  by_cases h7 : T.buses.length = U.buses.length
  rotate_left
  · have NE : Hid (¬ Heads T U) := fun e => h7 (by exact e.h7)
    have hn : ((T.buses.length : Int) != (U.buses.length : Int)) = true := by rw [bne_iff_ne]; omega
    clear h7
    go_wp2
    exact HQ.out _ _ _ _ _ _ _ _ _ _ _ _ _ _ _ _ _ _ _ _ _ _ _ _ _ _ _ _ _ _ _ _ _ _ _ _ _ _ _ _ _ _ _ _ _ _ _ _ _ _ _ _ _ _ true (by simp only [Bool.true_eq_false, false_iff]; exact NE.out)
  have hn : ((T.buses.length : Int) != (U.buses.length : Int)) = false := by rw [bne_eq_false_iff_eq]; omega
  have H7 := Lib.hid h7
  clear h7
  go_wp2
  exact HQ.out _ _ _ _ _ _ _ _ _ _ _ _ _ _ _ _ _ _ _ _ _ _ _ _ _ _ _ _ _ _ _ _ _ _ _ _ _ _ _ _ _ _ _ _ _ _ _ _ _ _ _ _ _ _ false (by simp only [true_iff]; exact ⟨H1.out, H2.out, H3.out, H4.out, H5.out, H6.out, H7.out⟩)
end Go.Proofs.Ytpofccenoobojaa.Same
