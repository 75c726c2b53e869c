/- 3 texts in one file, in build order. -/
import Derived.Test.YtbmcendlpeaaeaaRows
import Derived.Test.YtbmcendlpeaaeaaPart03
import Derived.Test.YtbmcendlpeaaeaaPart04
import Derived.Test.YtbmcendlpeaaeaaPart05
import Derived.Deep.Cut
import Derived.Deep.CutRange
import Derived.LoopTactic
import Derived.Deep.CutBlock
set_option linter.unusedVariables false
set_option linter.unusedSimpArgs false
set_option linter.unusedSectionVars false
set_option maxHeartbeats 8000000
set_option maxRecDepth 100000
namespace Go.Proofs.Ytbmcendlpeaaeaa
namespace Scr
open Go.ChangeShapes Go.WideShapes Go.ChangeAt Go.RowKit
open Tab Dtc
structure Frm where
  s : Sl
  n : Nat
  push : Int
  ask : Int
  lines : Int
  stray : Int
  reset : Bool
instance : Inhabited Frm := ⟨⟨⟨none, 0⟩, 0, 0, 0, 0, 0, false⟩⟩
def Frm.cells (f : Frm) : List Value := [f.s.val f.n, I f.push, I f.ask, I f.lines, I f.stray, .bool f.reset]
theorem Frm.len (f : Frm) : f.cells.length = 6 := rfl
/-- A frame whose samples can be read. -/
def Frm.ok (w : World) (f : Frm) : Prop := ∃ xs : List Nat, xs.length = f.n ∧ FltRow w f.s xs ∧ ∀ x, f.s.a = some x → ∃ cs : Array Value, w.heap[x.block]? = some (.cells cs 47 (0, 0))
theorem Frm.ok.below {w w' : World} {f : Frm} (h : f.ok w) (hb : Below w.heap.size w w') : f.ok w' := by
  obtain ⟨xs, h1, h2, h3⟩ := h
  refine ⟨xs, h1, h2.below hb, fun x hx => ?_⟩
  obtain ⟨cs, hc⟩ := h3 x hx
  exact ⟨cs, (hb.block _ (Array.getElem?_eq_some_iff.1 hc).1).trans hc⟩
theorem Frm.ok.grown {w w' : World} {f : Frm} {row : Option Nat} (h : f.ok w) (hg : w.grownBy w' row) (hne : ∀ m, row = some m → ∃ (cs : Array Value) (t : TypeId), w.heap[m]? = some (.cells cs t (0, 0)) ∧ t ≠ 47) : f.ok w' := by
  obtain ⟨xs, h1, h2, h3⟩ := h
  have far : ∀ x, f.s.a = some x → some x.block ≠ row := fun x hx e => by
    obtain ⟨cs, hc⟩ := h3 x hx
    obtain ⟨ds, t, hd, ht⟩ := hne _ e.symm
    rw [hc] at hd
    simp at hd
    exact ht hd.2.symm
  refine ⟨xs, h1, ⟨?_, h2.2⟩, fun x hx => ?_⟩
  · rcases h2.1 with h | ⟨x, k1, k2, k3, k4⟩
    · exact .inl h
    · exact .inr ⟨x, k1, k2, k3, fun i v hv j u hu => hg.cell (k4 i v hv j u hu) (by rw [GenG.add_block, GenG.add_block]; exact far x k1)⟩
  · obtain ⟨cs, hc⟩ := h3 x hx
    exact ⟨cs, (hg.block _ (Array.getElem?_eq_some_iff.1 hc).1 (far x hx)).trans hc⟩
/-- The state of the walk: blocks known whole, the frames gathered so far. -/
structure St (w : World) (B : Nat) (v : Value) (fs : List Frm) (L : List Blk.Bl) (W : World) : Prop where
  bks : Blk.Bks w L W
  own : Gath.Owns Frm.cells 6 B W 45 v fs
  ok : ∀ f ∈ fs, f.ok W
  typ : ∀ x ∈ L, x.2.2 ≠ 47
  sep : ∀ x ∈ L, v.ownBlock ≠ some x.1
  top : B ≤ W.heap.size
section
variable {w W W' : World} {B : Nat} {v : Value} {fs : List Frm} {L : List Blk.Bl}
theorem St.step (h : St w B v fs L W) (hb : Below W.heap.size W W') : St w B v fs L W' :=
  ⟨h.bks.step hb, h.own.below hb, fun f hf => (h.ok f hf).below hb, h.typ, h.sep, Nat.le_trans h.top hb.size⟩
theorem St.alloc (h : St w B v fs L W) (cs : Array Value) (t : TypeId) (ht : t ≠ 47) : St w B v fs ((W.heap.size, cs, t) :: L) (W.alloc (.cells cs t)) := by
  have hb : Below W.heap.size W (W.alloc (.cells cs t)) := (Below.refl _ _).alloc (Nat.le_refl _) _
  refine ⟨h.bks.alloc cs t, h.own.below hb, fun f hf => (h.ok f hf).below hb, ?_, ?_, Nat.le_trans h.top hb.size⟩
  · intro x hx
    rcases List.mem_cons.1 hx with rfl | hx
    · exact ht
    · exact h.typ x hx
  · intro x hx
    rcases List.mem_cons.1 hx with rfl | hx
    · intro e
      exact absurd (GenG.own_lt h.own _ e) (Nat.lt_irrefl _)
    · exact h.sep x hx
theorem St.drop {a : Blk.Bl} (h : St w B v fs (a :: L) W) : St w B v fs L W :=
  ⟨h.bks.drop, h.own, h.ok, fun x hx => h.typ x (List.mem_cons_of_mem _ hx), fun x hx => h.sep x (List.mem_cons_of_mem _ hx), h.top⟩
theorem St.skip1 {a c : Blk.Bl} (h : St w B v fs (a :: c :: L) W) : St w B v fs (a :: L) W := by
  have h1 := h.bks.swap.drop
  exact ⟨h1, h.own, h.ok, fun x hx => h.typ x (by simp only [List.mem_cons] at hx ⊢; exact hx.elim .inl (fun e => .inr (.inr e))), fun x hx => h.sep x (by simp only [List.mem_cons] at hx ⊢; exact hx.elim .inl (fun e => .inr (.inr e))), h.top⟩
theorem St.set (h : St w B v fs L W) (i j : Nat) {g : Nat} {cs : Array Value} {t : TypeId} (hi : L[i]? = some (g, cs, t)) (u : Value) : St w B v fs (L.set i (g, cs.setIfInBounds j u, t)) (W.setCell ⟨g, j, none⟩ u) := by
  have hm := List.mem_of_getElem? hi
  have hg := GenG.grown_set W g j u
  refine ⟨h.bks.set i j hi u, GenG.own_kept h.own hg (fun m hm' e => by cases e; exact h.sep _ hm hm'), fun f hf => (h.ok f hf).grown hg (fun m e => by cases e; exact ⟨cs, t, h.bks.at i hi, h.typ _ hm⟩), ?_, ?_, by simpa using h.top⟩
  · intro x hx
    rcases List.mem_or_eq_of_mem_set hx with hx | rfl
    · exact h.typ x hx
    · exact h.typ (g, cs, t) hm
  · intro x hx
    rcases List.mem_or_eq_of_mem_set hx with hx | rfl
    · exact h.sep x hx
    · exact h.sep (g, cs, t) hm
theorem Frm.ok.same {f g : Frm} (h : f.ok W) (hs : g.s = f.s) (hn : g.n = f.n) : g.ok W := by
  obtain ⟨xs, h1, h2, h3⟩ := h
  exact ⟨xs, by rw [hn]; exact h1, by rw [hs]; exact h2, by rw [hs]; exact h3⟩
theorem St.append {f : Frm} {v' : Value} (h : St w B v fs L W) (hL : ∀ x ∈ L, x.1 < B) (hwB : w.heap.size ≤ B) (hg : W.grownBy W' v.ownBlock) (ho : W'.ownsRow B 45 6 v' (fs.length + 1) (fs.flatMap Frm.cells ++ f.cells)) (hf : f.ok W) : St w B v' (fs ++ [f]) L W' := by
  have hO : Gath.Owns Frm.cells 6 B W' 45 v' (fs ++ [f]) := Gath.Owns.snoc ho
  have hbel : Below B W W' := (Below.refl _ _).grown hg h.top (fun j hj => h.own.blk j hj)
  have hok : ∀ f : Frm, f.ok W → f.ok W' := fun f hf => hf.grown hg (fun m e => by obtain ⟨cs, hc⟩ := GenG.own_type h.own m e; exact ⟨cs, _, hc, by decide⟩)
  refine ⟨older h.bks hbel hwB hL, hO, fun x hx => ?_, h.typ, fun x hx e => ?_, Nat.le_trans h.top hg.size⟩
  · rcases List.mem_append.1 hx with hx | hx
    · exact hok x (h.ok x hx)
    · simp at hx; subst hx; exact hok x hf
  · have := hO.blk _ e
    have := hL x hx
    omega
end
theorem infoFz : (Try.prog.info? 45).map (fun i => (i.zero, i.size, i.bytes)) = some (some (.agg #[.slice none 0 0, I 0, I 0, I 0, I 0, .bool false]), 6, 64) := by kernel_rfl
theorem infoXz : (Try.prog.info? 47).map (fun i => (i.zero, i.size, i.bytes)) = some (some (F 0), 1, 8) := by kernel_rfl
/-- 16 samples. -/
def arr (X : Nat → Nat) : Array Value := ((List.range 16).map fun d => F (X d)).toArray
theorem arr_at {X : Nat → Nat} {d : Nat} (h : d < 16) : (arr X)[d]? = some (F (X d)) := by
  unfold arr
  rw [List.getElem?_toArray, List.getElem?_map, List.getElem?_range h]; rfl
theorem arr_size {X : Nat → Nat} : (arr X).size = 16 := by simp [arr]
theorem arr_set {X : Nat → Nat} {d v : Nat} (h : d < 16) : (arr X).setIfInBounds d (F v) = arr (fun i => if i = d then v else X i) := by
  apply Array.ext_getElem?
  intro i
  rw [Array.getElem?_setIfInBounds, arr_size]
  by_cases hi : i < 16
  · by_cases e : d = i
    · subst e; rw [if_pos rfl, if_pos h, arr_at h, if_pos rfl]
    · rw [if_neg e, arr_at hi, arr_at hi, if_neg (fun x => e x.symm)]
  · rw [if_neg (by omega), Array.getElem?_eq_none (by rw [arr_size]; omega), Array.getElem?_eq_none (by rw [arr_size]; omega)]
theorem inf_1 (w : World) : Calls Try.prog 17 #[.int .i64 1] w fun e w' => e = .returned (.float .f64 9218868437227405312) ∧ w = w' := by
  have hf := Lvl.frombits_call
  go_enter Try.func17, Try.ntmps17
  go_wp2_with (simp only [hf])
  go_ret
  exact ⟨rfl, rfl⟩
theorem copy_z (w : World) : Calls Try.prog 39 #[.float .f64 0, .float .f64 13830554455654793216] w fun e w' => e = .returned (.float .f64 9223372036854775808) ∧ w = w' := by
  have hf := Lvl.frombits_call
  have h1 := Secs.bits_call 0
  have h2 := Secs.bits_call 13830554455654793216
  have e1 : bits .andNot .u64 ((0 : Nat) : Int) 9223372036854775808 = 0 := by decide
  have e2 : bits .and .u64 ((13830554455654793216 : Nat) : Int) 9223372036854775808 = 9223372036854775808 := by decide
  have e3 : bits .or .u64 0 9223372036854775808 = 9223372036854775808 := by decide
  go_enter Try.func39, Try.ntmps39
  go_wp2_with (simp only [hf, h1, h2, e1, e2, e3])
  go_ret
  exact ⟨rfl, rfl⟩
/-- One of six floats. -/
theorem idx6 {a0 a1 a2 a3 a4 a5 : Nat} {M : Nat} (h0 : a0 < M) (h1 : a1 < M) (h2 : a2 < M) (h3 : a3 < M) (h4 : a4 < M) (h5 : a5 < M) (i : Nat) (hi : i < 6) : ∃ r, r < M ∧ ∀ w, Sem.run Try.prog (Instr.index 91 (.agg #[F a0, F a1, F a2, F a3, F a4, F a5]) (.int .i64 (i : Int))) w = .ok (F r) w := by
  match i, hi with
  | 0, _ => exact ⟨a0, h0, fun w => by kernel_rfl⟩
  | 1, _ => exact ⟨a1, h1, fun w => by kernel_rfl⟩
  | 2, _ => exact ⟨a2, h2, fun w => by kernel_rfl⟩
  | 3, _ => exact ⟨a3, h3, fun w => by kernel_rfl⟩
  | 4, _ => exact ⟨a4, h4, fun w => by kernel_rfl⟩
  | 5, _ => exact ⟨a5, h5, fun w => by kernel_rfl⟩
def Wf (X : Nat → Nat) : Prop := ∀ d, X d < 18446744073709551616
theorem Wf.set {X : Nat → Nat} {d v : Nat} (h : Wf X) (hv : v < 18446744073709551616) : Wf (fun i => if i = d then v else X i) := fun i => by
  show (if i = d then v else X i) < _
  split
  · exact hv
  · exact h i
/-- A difference of floats: some float; where it is none by the standard, the tape tells which. -/
theorem sub_some {P : Program} (t : TypeId) (x y : Nat) (w : World) : ∃ r W', (binOp .sub t (.float .f64 x) (.float .f64 y)).run P w = .ok (.float .f64 r) W' ∧ r < 18446744073709551616 ∧ (W' = w ∨ W' = w.drew) := by
  cases h : floatBits .sub .f64 x y with
  | some r => exact ⟨r, w, run_float_arith w .sub t .f64 x y r h, by have := floatBits_wf h; simpa [Lit.wf] using this, .inl rfl⟩
  | none =>
    have h' : FloatKind.f64.format.sub x y = none := h
    refine ⟨(Question.nanBits .f64 x y).cut (w.tape w.drawn (.nanBits .f64 x y)), w.drew, ?_, ?_, .inr rfl⟩
    · simp [binOp, Op.floatArith, h', run_choose_drew, Question.forced]
    · show (w.tape w.drawn (.nanBits .f64 x y) % 2) * 2 ^ 63 + 0x7ff0000000000000 + 1 + (w.tape w.drawn (.nanBits .f64 x y) / 2) % (2 ^ 52 - 1) < _
      generalize w.tape w.drawn _ = t0
      omega
theorem slice_few {few : Nat} (h : few ≤ 16) (g : Nat) (W : World) : Sem.run Try.prog (Instr.sliceAt 55 (.pointer (some ⟨g, 0, none⟩)) none (some (.int .i64 (few : Int))) none) W = .ok (.slice (some ⟨g, 0, none⟩) few 16) W := by
  have hl : Try.prog.arrayLen 55 = 16 := by kernel_rfl
  have hi : (Try.prog.info? (Try.prog.elem 55)).map (·.size) = some 1 := by kernel_rfl
  rw [run_sliceAt_array_h (P := Try.prog) W 55 ⟨g, 0, none⟩ (by kernel_rfl) .i64 few (by omega) (by rw [hl]; omega)]
  cases hq : Try.prog.info? (Try.prog.elem 55) with
  | none => simp [hq] at hi
  | some i => simp [sizeOf, typeInfo, hq, slicedAt, hl, Addr.add]
theorem smp_ok {W : World} {B : Nat} {u : Value} {few : Nat} {X : Nat → Nat} (ho : W.ownsRow B 47 1 u few ((List.range few).map fun d => F (X d))) (hX : Wf X) : ∃ sa sc, u = .slice sa few sc ∧ Frm.ok W ⟨⟨sa, sc⟩, few, 0, 0, 0, 0, false⟩ := by
  have hf : ∀ l : List Nat, (l.map X).flatMap (fun x : Nat => [F x]) = l.map fun d => F (X d) := fun l => by
    induction l with
    | nil => rfl
    | cons a l ih => rw [List.map_cons, List.flatMap_cons, ih]; rfl
  have hO : Gath.Owns (fun x : Nat => [F x]) 1 B W 47 u ((List.range few).map X) := by
    unfold Gath.Owns
    rw [hf, List.length_map, List.length_range]
    exact ho
  obtain ⟨⟨sa, sc⟩, hs, hr⟩ := hO.row (fun _ => rfl)
  have hs : u = .slice sa few sc := by rw [hs]; simp [Sl.val]
  refine ⟨sa, sc, hs, (List.range few).map X, by simp, ⟨hr, fun x hx => ?_⟩, fun x hx => ?_⟩
  · obtain ⟨d, _, rfl⟩ := List.mem_map.1 hx
    exact hX d
  · have hx : sa = some x := hx
    rcases hO.2 with ⟨e, _⟩ | ⟨g, c, cur, e, _, h2, _⟩
    · rw [hs, hx] at e; simp at e
    · rw [hs, hx] at e
      simp at e
      exact ⟨cur, by rw [e.1]; exact h2⟩
end Scr
namespace Scr
open Go.ChangeShapes Go.WideShapes Go.ChangeAt Go.RowKit
open Tab Dtc
def findB (id : Nat) : Code → Option Code
  | .seq a b => (findB id a).or (findB id b)
  | .cond _ a b => (findB id a).or (findB id b)
  | .block i b => if i = id then some (.block i b) else findB id b
  | .loop b => findB id b
  | .scope b => findB id b
  | _ => none
/-- Block number id of a function. -/
def bk (id : Nat) (f : Func) : Code := ((f.body.bind (findB id)).getD .skip)
theorem switch_any {Q : Exit → Act → World → Prop} {w W1 : World} {B gx gf go m few k nn : Nat} {oa : Option Addr} {oc : Nat} {X : Nat → Nat} {ask lines vv s : Int} {fs : List Frm} {wild : Bool} {f0 f2 f3 f4 f5 f9 f14 f15 f16 f17 f18 f19 f20 f21 f22 f23 f24 f25 f26 f27 f28 f29 f30 f31 f32 f33 f34 f35 f36 f37 f38 f39 f40 f41 f42 f43 f44 f45 f46 f47 f49 f50 f51 f52 f53 f54 f55 f56 f57 f58 f59 f60 f61 f62 f63 f64 f65 f66 f67 f68 f69 f70 f71 f72 f73 f74 f75 f76 f77 f78 f79 f80 f81 f82 f83 f84 f85 f86 f87 f88 f89 f90 f91 f92 f93 f94 f95 f96 f97 f98 f99 f100 f101 f102 f103 f104 f105 f106 f107 f108 f109 f110 f111 f112 f113 f114 f115 f116 f117 f118 f119 f120 f121 f122 f123 f124 f125 f126 f127 f128 f129 f130 f131 f132 f133 f134 f135 f136 f137 f138 f139 f140 f141 f142 f143 f144 f145 f146 f147 f148 f149 f150 f151 f152 f153 f154 f155 f156 f157 f158 f159 f160 f161 f162 f163 f164 f165 f166 f167 f168 f169 f170 f171 f172 f173 f174 f175 f176 f177 f178 f179 f180 f181 f182 f183 f184 f185 f186 f187 f188 f189 f190 f191 f192 f193 f194 f195 f196 f197 f198 f199 : Value}
    (hfew : few ≤ 16) (HX : Hid (Wf X)) (hk64 : k < 64) (hn30 : nn ≤ 30) (hs0 : 0 ≤ s ∧ s < 16) (hv0 : 0 ≤ vv) (hv1 : vv < 1099511627776) (HS1 : Hid (St w B (.slice oa m oc) fs [(go, #[.slice none 0 0, I 0, I 0, I 0, I 0, .bool false], 45), (gf, #[.slice none 0 0, I 0, I ask, I lines, I 0, .bool false], 45), (gx, arr X, 55)] W1))
    (HQ : Hid (∀ (few' nn' : Nat) (X' : Nat → Nat) (ask' lines' p ln st : Int) (rs : Bool) (x14 x49 x50 x51 x52 x53 x54 x55 x56 x57 x58 x59 x60 x61 x62 x63 x64 x65 x66 x67 x68 x69 x70 x71 x72 x73 x74 x75 x76 x77 x78 x79 x80 x81 x82 x83 x84 x85 x86 x87 x88 x89 x90 x91 x92 x93 x94 x95 x96 x97 x98 x99 x100 x101 x102 x103 x104 x105 x106 x107 x108 x109 x110 x111 x112 x113 x114 x115 x116 x117 x118 x119 x120 x121 x122 x123 x124 x125 x126 x127 x128 x129 x130 x131 x132 x133 x134 x135 x136 x137 x138 x139 x140 x141 x142 x143 x144 x145 x146 x147 x148 x149 x150 x151 x152 x153 x154 x155 x156 x157 x158 : Value) (W' : World), few' ≤ 16 → nn' ≤ 180 → Hid (Wf X') → St w B (.slice oa m oc) fs [(go, #[.slice none 0 0, I p, I 0, I ln, I st, .bool rs], 45), (gf, #[.slice none 0 0, I 0, I ask', I lines', I 0, .bool false], 45), (gx, arr X', 55)] W' → Q .normal ⟨#[f0, Value.bool wild, f2, f3, f4, f5, Value.pointer (some ⟨gx, 0, none⟩), Value.int .i64 few', Value.pointer (some ⟨gf, 0, none⟩), f9, Value.int .i64 vv, Value.int .i64 k, Value.int .i64 nn', Value.pointer (some ⟨go, 0, none⟩), x14, f15, f16, f17, f18, f19, f20, f21, f22, f23, f24, f25, f26, f27, f28, f29, f30, f31, f32, f33, f34, f35, f36, f37, f38, f39, f40, f41, f42, f43, f44, f45, f46, f47, Value.int .i64 s, x49, x50, x51, x52, x53, x54, x55, x56, x57, x58, x59, x60, x61, x62, x63, x64, x65, x66, x67, x68, x69, x70, x71, x72, x73, x74, x75, x76, x77, x78, x79, x80, x81, x82, x83, x84, x85, x86, x87, x88, x89, x90, x91, x92, x93, x94, x95, x96, x97, x98, x99, x100, x101, x102, x103, x104, x105, x106, x107, x108, x109, x110, x111, x112, x113, x114, x115, x116, x117, x118, x119, x120, x121, x122, x123, x124, x125, x126, x127, x128, x129, x130, x131, x132, x133, x134, x135, x136, x137, x138, x139, x140, x141, x142, x143, x144, x145, x146, x147, x148, x149, x150, x151, x152, x153, x154, x155, x156, x157, x158, f159, f160, f161, f162, f163, f164, f165, f166, f167, f168, f169, f170, f171, f172, f173, f174, f175, f176, f177, f178, f179, f180, f181, f182, f183, f184, f185, f186, f187, f188, f189, f190, f191, f192, f193, f194, f195, f196, f197, f198, f199], []⟩ W')) :
    (bk 2 Try.f15).wp Try.prog Q ⟨#[f0, Value.bool wild, f2, f3, f4, f5, Value.pointer (some ⟨gx, 0, none⟩), Value.int .i64 few, Value.pointer (some ⟨gf, 0, none⟩), f9, Value.int .i64 vv, Value.int .i64 k, Value.int .i64 nn, Value.pointer (some ⟨go, 0, none⟩), f14, f15, f16, f17, f18, f19, f20, f21, f22, f23, f24, f25, f26, f27, f28, f29, f30, f31, f32, f33, f34, f35, f36, f37, f38, f39, f40, f41, f42, f43, f44, f45, f46, f47, Value.int .i64 s, f49, f50, f51, f52, f53, f54, f55, f56, f57, f58, f59, f60, f61, f62, f63, f64, f65, f66, f67, f68, f69, f70, f71, f72, f73, f74, f75, f76, f77, f78, f79, f80, f81, f82, f83, f84, f85, f86, f87, f88, f89, f90, f91, f92, f93, f94, f95, f96, f97, f98, f99, f100, f101, f102, f103, f104, f105, f106, f107, f108, f109, f110, f111, f112, f113, f114, f115, f116, f117, f118, f119, f120, f121, f122, f123, f124, f125, f126, f127, f128, f129, f130, f131, f132, f133, f134, f135, f136, f137, f138, f139, f140, f141, f142, f143, f144, f145, f146, f147, f148, f149, f150, f151, f152, f153, f154, f155, f156, f157, f158, f159, f160, f161, f162, f163, f164, f165, f166, f167, f168, f169, f170, f171, f172, f173, f174, f175, f176, f177, f178, f179, f180, f181, f182, f183, f184, f185, f186, f187, f188, f189, f190, f191, f192, f193, f194, f195, f196, f197, f198, f199], []⟩ W1 := by
  conv => arg 2; whnf
  dsimp only
  rcases (show s = 0 ∨ s = 1 ∨ s = 2 ∨ s = 3 ∨ s = 4 ∨ s = 5 ∨ s = 6 ∨ s = 7 ∨ s = 8 ∨ s = 9 ∨ s = 10 ∨ s = 11 ∨ s = 12 ∨ s = 13 ∨ s = 14 ∨ s = 15 by omega) with rfl | rfl | rfl | rfl | rfl | rfl | rfl | rfl | rfl | rfl | rfl | rfl | rfl | rfl | rfl | rfl
  · obtain ⟨k6, hk6, hk16⟩ : ∃ k6 : Nat, (k : Int) % 16 = (k6 : Int) ∧ k6 < 16 := ⟨k % 16, by omega, by omega⟩
    have c0 : W1.cell? ⟨gx, k6, none⟩ = some (F (X k6)) := HS1.out.bks.cell 2 k6 rfl (arr_at hk16)
    obtain ⟨r, W2, hsub, hr, hW⟩ := sub_some (P := Try.prog) 47 4626322717216342016 (X k6) W1
    have hb2 : Below W1.heap.size W1 W2 := by rcases hW with rfl | rfl; exact Below.refl _ _; exact (Below.refl _ _).drew
    have HS2 := Lib.hid (HS1.out.step hb2)
    clear hb2 hW
    have c1 : W2.cell? ⟨gx, k6, none⟩ = some (F (X k6)) := HS2.out.bks.cell 2 k6 rfl (arr_at hk16)
    have f1 : W2.frozen? ⟨gx, k6, none⟩ = false := HS2.out.bks.frozen 2 k6 rfl
    have s1 : Sem.run Try.prog (store ⟨gx, k6, none⟩ (.float .f64 r)) W2 = .ok () (W2.setCell ⟨gx, k6, none⟩ (.float .f64 r)) := GenD.run_store_float c1 f1
    go_wp2_with fail
    exact HQ.out few nn (fun i => if i = k6 then r else X i) _ _ _ _ _ _ _ _ _ _ _ _ _ _ _ _ _ _ _ _ _ _ _ _ _ _ _ _ _ _ _ _ _ _ _ _ _ _ _ _ _ _ _ _ _ _ _ _ _ _ _ _ _ _ _ _ _ _ _ _ _ _ _ _ _ _ _ _ _ _ _ _ _ _ _ _ _ _ _ _ _ _ _ _ _ _ _ _ _ _ _ _ _ _ _ _ _ _ _ _ _ _ _ _ _ _ _ _ _ _ _ _ _ _ _ _ _ _ (by omega) (by omega) (Lib.hid (HX.out.set hr)) (by have := HS2.out.set 2 k6 rfl (F r); rw [arr_set hk16] at this; exact this)
  · obtain ⟨k6, hk6, hk16⟩ : ∃ k6 : Nat, (k : Int) % 16 = (k6 : Int) ∧ k6 < 16 := ⟨k % 16, by omega, by omega⟩
    have c0 : W1.cell? ⟨gx, k6, none⟩ = some (F (X k6)) := HS1.out.bks.cell 2 k6 rfl (arr_at hk16)
    obtain ⟨r, W2, hsub, hr, hW⟩ := sub_some (P := Try.prog) 47 4626322717216342016 (X k6) W1
    have hb2 : Below W1.heap.size W1 W2 := by rcases hW with rfl | rfl; exact Below.refl _ _; exact (Below.refl _ _).drew
    have HS2 := Lib.hid (HS1.out.step hb2)
    clear hb2 hW
    have c1 : W2.cell? ⟨gx, k6, none⟩ = some (F (X k6)) := HS2.out.bks.cell 2 k6 rfl (arr_at hk16)
    have f1 : W2.frozen? ⟨gx, k6, none⟩ = false := HS2.out.bks.frozen 2 k6 rfl
    have s1 : Sem.run Try.prog (store ⟨gx, k6, none⟩ (.float .f64 r)) W2 = .ok () (W2.setCell ⟨gx, k6, none⟩ (.float .f64 r)) := GenD.run_store_float c1 f1
    go_wp2_with fail
    exact HQ.out few nn (fun i => if i = k6 then r else X i) _ _ _ _ _ _ _ _ _ _ _ _ _ _ _ _ _ _ _ _ _ _ _ _ _ _ _ _ _ _ _ _ _ _ _ _ _ _ _ _ _ _ _ _ _ _ _ _ _ _ _ _ _ _ _ _ _ _ _ _ _ _ _ _ _ _ _ _ _ _ _ _ _ _ _ _ _ _ _ _ _ _ _ _ _ _ _ _ _ _ _ _ _ _ _ _ _ _ _ _ _ _ _ _ _ _ _ _ _ _ _ _ _ _ _ _ _ _ (by omega) (by omega) (Lib.hid (HX.out.set hr)) (by have := HS2.out.set 2 k6 rfl (F r); rw [arr_set hk16] at this; exact this)
  · obtain ⟨k6, hk6, hk16⟩ : ∃ k6 : Nat, (k : Int) % 16 = (k6 : Int) ∧ k6 < 16 := ⟨k % 16, by omega, by omega⟩
    have c0 : W1.cell? ⟨gx, k6, none⟩ = some (F (X k6)) := HS1.out.bks.cell 2 k6 rfl (arr_at hk16)
    obtain ⟨r, W2, hsub, hr, hW⟩ := sub_some (P := Try.prog) 47 4626322717216342016 (X k6) W1
    have hb2 : Below W1.heap.size W1 W2 := by rcases hW with rfl | rfl; exact Below.refl _ _; exact (Below.refl _ _).drew
    have HS2 := Lib.hid (HS1.out.step hb2)
    clear hb2 hW
    have c1 : W2.cell? ⟨gx, k6, none⟩ = some (F (X k6)) := HS2.out.bks.cell 2 k6 rfl (arr_at hk16)
    have f1 : W2.frozen? ⟨gx, k6, none⟩ = false := HS2.out.bks.frozen 2 k6 rfl
    have s1 : Sem.run Try.prog (store ⟨gx, k6, none⟩ (.float .f64 r)) W2 = .ok () (W2.setCell ⟨gx, k6, none⟩ (.float .f64 r)) := GenD.run_store_float c1 f1
    go_wp2_with fail
    exact HQ.out few nn (fun i => if i = k6 then r else X i) _ _ _ _ _ _ _ _ _ _ _ _ _ _ _ _ _ _ _ _ _ _ _ _ _ _ _ _ _ _ _ _ _ _ _ _ _ _ _ _ _ _ _ _ _ _ _ _ _ _ _ _ _ _ _ _ _ _ _ _ _ _ _ _ _ _ _ _ _ _ _ _ _ _ _ _ _ _ _ _ _ _ _ _ _ _ _ _ _ _ _ _ _ _ _ _ _ _ _ _ _ _ _ _ _ _ _ _ _ _ _ _ _ _ _ _ _ _ (by omega) (by omega) (Lib.hid (HX.out.set hr)) (by have := HS2.out.set 2 k6 rfl (F r); rw [arr_set hk16] at this; exact this)
  · obtain ⟨k6, hk6, hk16⟩ : ∃ k6 : Nat, (k : Int) % 16 = (k6 : Int) ∧ k6 < 16 := ⟨k % 16, by omega, by omega⟩
    obtain ⟨k7, hk7, hk17⟩ : ∃ k7 : Nat, (k : Int) % 6 = (k7 : Int) ∧ k7 < 6 := ⟨k % 6, by omega, by omega⟩
    obtain ⟨r, hr, hix⟩ := idx6 (a0 := NAN) (a1 := 9218868437227405312) (a2 := 9223372036854775808) (a3 := 4613937818241073152) (a4 := 4711630319722168320) (a5 := 4604930618986332160) (M := 18446744073709551616) (by decide) (by decide) (by decide) (by decide) (by decide) (by decide) k7 hk17
    have c1 : W1.cell? ⟨gx, k6, none⟩ = some (F (X k6)) := HS1.out.bks.cell 2 k6 rfl (arr_at hk16)
    have f1 : W1.frozen? ⟨gx, k6, none⟩ = false := HS1.out.bks.frozen 2 k6 rfl
    have s1 : Sem.run Try.prog (store ⟨gx, k6, none⟩ (.float .f64 r)) W1 = .ok () (W1.setCell ⟨gx, k6, none⟩ (.float .f64 r)) := GenD.run_store_float c1 f1
    go_wp2_with (first | (go_at_call 16; refine (nan_any _).mono ?_; rintro e w' ⟨rfl, rfl⟩) | (go_at_call 17; refine (inf_1 _).mono ?_; rintro e w' ⟨rfl, rfl⟩) | (go_at_call 39; refine (copy_z _).mono ?_; rintro e w' ⟨rfl, rfl⟩))
    exact HQ.out few nn (fun i => if i = k6 then r else X i) _ _ _ _ _ _ _ _ _ _ _ _ _ _ _ _ _ _ _ _ _ _ _ _ _ _ _ _ _ _ _ _ _ _ _ _ _ _ _ _ _ _ _ _ _ _ _ _ _ _ _ _ _ _ _ _ _ _ _ _ _ _ _ _ _ _ _ _ _ _ _ _ _ _ _ _ _ _ _ _ _ _ _ _ _ _ _ _ _ _ _ _ _ _ _ _ _ _ _ _ _ _ _ _ _ _ _ _ _ _ _ _ _ _ _ _ _ _ (by omega) (by omega) (Lib.hid (HX.out.set hr)) (by have := HS1.out.set 2 k6 rfl (F r); rw [arr_set hk16] at this; exact this)
  · have k0_1 : W1.cell? ⟨go, 1, none⟩ = some (I 0) := HS1.out.bks.cell 0 1 rfl rfl
    have f0_1 : W1.frozen? ⟨go, 1, none⟩ = false := HS1.out.bks.frozen 0 1 rfl
    go_wp2_with fail
    exact HQ.out few nn X _ _ _ _ _ _ _ _ _ _ _ _ _ _ _ _ _ _ _ _ _ _ _ _ _ _ _ _ _ _ _ _ _ _ _ _ _ _ _ _ _ _ _ _ _ _ _ _ _ _ _ _ _ _ _ _ _ _ _ _ _ _ _ _ _ _ _ _ _ _ _ _ _ _ _ _ _ _ _ _ _ _ _ _ _ _ _ _ _ _ _ _ _ _ _ _ _ _ _ _ _ _ _ _ _ _ _ _ _ _ _ _ _ _ _ _ _ _ (by omega) (by omega) (HX) (HS1.out.set 0 1 rfl _)
  · have k0_1 : W1.cell? ⟨go, 1, none⟩ = some (I 0) := HS1.out.bks.cell 0 1 rfl rfl
    have f0_1 : W1.frozen? ⟨go, 1, none⟩ = false := HS1.out.bks.frozen 0 1 rfl
    go_wp2_with fail
    exact HQ.out few nn X _ _ _ _ _ _ _ _ _ _ _ _ _ _ _ _ _ _ _ _ _ _ _ _ _ _ _ _ _ _ _ _ _ _ _ _ _ _ _ _ _ _ _ _ _ _ _ _ _ _ _ _ _ _ _ _ _ _ _ _ _ _ _ _ _ _ _ _ _ _ _ _ _ _ _ _ _ _ _ _ _ _ _ _ _ _ _ _ _ _ _ _ _ _ _ _ _ _ _ _ _ _ _ _ _ _ _ _ _ _ _ _ _ _ _ _ _ _ (by omega) (by omega) (HX) (HS1.out.set 0 1 rfl _)
  · obtain ⟨k6, hk6, hk16⟩ : ∃ k6 : Nat, (k : Int) % 4 = (k6 : Int) ∧ k6 < 4 := ⟨k % 4, by omega, by omega⟩
    have k1_2 : W1.cell? ⟨gf, 2, none⟩ = some (I ask) := HS1.out.bks.cell 1 2 rfl rfl
    have f1_2 : W1.frozen? ⟨gf, 2, none⟩ = false := HS1.out.bks.frozen 1 2 rfl
    go_wp2_with fail
    exact HQ.out few nn X _ _ _ _ _ _ _ _ _ _ _ _ _ _ _ _ _ _ _ _ _ _ _ _ _ _ _ _ _ _ _ _ _ _ _ _ _ _ _ _ _ _ _ _ _ _ _ _ _ _ _ _ _ _ _ _ _ _ _ _ _ _ _ _ _ _ _ _ _ _ _ _ _ _ _ _ _ _ _ _ _ _ _ _ _ _ _ _ _ _ _ _ _ _ _ _ _ _ _ _ _ _ _ _ _ _ _ _ _ _ _ _ _ _ _ _ _ _ (by omega) (by omega) (HX) (HS1.out.set 1 2 rfl _)
  · obtain ⟨k6, hk6, hk16⟩ : ∃ k6 : Nat, (k : Int) % 4 = (k6 : Int) ∧ k6 < 4 := ⟨k % 4, by omega, by omega⟩
    have k0_3 : W1.cell? ⟨go, 3, none⟩ = some (I 0) := HS1.out.bks.cell 0 3 rfl rfl
    have f0_3 : W1.frozen? ⟨go, 3, none⟩ = false := HS1.out.bks.frozen 0 3 rfl
    go_wp2_with fail
    exact HQ.out few nn X _ _ _ _ _ _ _ _ _ _ _ _ _ _ _ _ _ _ _ _ _ _ _ _ _ _ _ _ _ _ _ _ _ _ _ _ _ _ _ _ _ _ _ _ _ _ _ _ _ _ _ _ _ _ _ _ _ _ _ _ _ _ _ _ _ _ _ _ _ _ _ _ _ _ _ _ _ _ _ _ _ _ _ _ _ _ _ _ _ _ _ _ _ _ _ _ _ _ _ _ _ _ _ _ _ _ _ _ _ _ _ _ _ _ _ _ _ _ (by omega) (by omega) (HX) (HS1.out.set 0 3 rfl _)
  · obtain ⟨k6, hk6, hk16⟩ : ∃ k6 : Nat, (k : Int) % 4 = (k6 : Int) ∧ k6 < 4 := ⟨k % 4, by omega, by omega⟩
    have k1_3 : W1.cell? ⟨gf, 3, none⟩ = some (I lines) := HS1.out.bks.cell 1 3 rfl rfl
    have f1_3 : W1.frozen? ⟨gf, 3, none⟩ = false := HS1.out.bks.frozen 1 3 rfl
    go_wp2_with fail
    exact HQ.out few nn X _ _ _ _ _ _ _ _ _ _ _ _ _ _ _ _ _ _ _ _ _ _ _ _ _ _ _ _ _ _ _ _ _ _ _ _ _ _ _ _ _ _ _ _ _ _ _ _ _ _ _ _ _ _ _ _ _ _ _ _ _ _ _ _ _ _ _ _ _ _ _ _ _ _ _ _ _ _ _ _ _ _ _ _ _ _ _ _ _ _ _ _ _ _ _ _ _ _ _ _ _ _ _ _ _ _ _ _ _ _ _ _ _ _ _ _ _ _ (by omega) (by omega) (HX) (HS1.out.set 1 3 rfl _)
  · go_wp2_with fail
    exact HQ.out few (nn * 6) X _ _ _ _ _ _ _ _ _ _ _ _ _ _ _ _ _ _ _ _ _ _ _ _ _ _ _ _ _ _ _ _ _ _ _ _ _ _ _ _ _ _ _ _ _ _ _ _ _ _ _ _ _ _ _ _ _ _ _ _ _ _ _ _ _ _ _ _ _ _ _ _ _ _ _ _ _ _ _ _ _ _ _ _ _ _ _ _ _ _ _ _ _ _ _ _ _ _ _ _ _ _ _ _ _ _ _ _ _ _ _ _ _ _ _ _ _ _ (by omega) (by omega) (HX) (HS1.out)
  · obtain ⟨k6, hk6, hk16⟩ : ∃ k6 : Nat, (k : Int) % 2 = (k6 : Int) ∧ k6 < 2 := ⟨k % 2, by omega, by omega⟩
    obtain ⟨r, hrr⟩ : ∃ r, floatOfInt .f64 ((k6 : Int) * 20) = r := ⟨_, rfl⟩
    have hr : r < 18446744073709551616 := by have := floatOfInt_wf .f64 ((k6 : Int) * 20); rw [hrr] at this; simpa [Lit.wf] using this
    go_wp2_with fail
    go_loopw [14] (fun i wx => ∃ (d : Nat) (X2 : Nat → Nat), d ≤ 16 ∧ i = .int .i64 d ∧ Hid (Wf X2) ∧ St w B (.slice oa m oc) fs [(go, #[.slice none 0 0, I 0, I 0, I 0, I 0, .bool false], 45), (gf, #[.slice none 0 0, I 0, I ask, I lines, I 0, .bool false], 45), (gx, arr X2, 55)] wx) (fun i _ => 16 - (intOf i).toNat)
    case atStart => exact ⟨0, X, by omega, rfl, HX, HS1.out⟩
    case round =>
      clear HS1
      obtain ⟨d, X2, hd, rfl, HX2, hst⟩ := hrel
      have HS2 := Lib.hid hst
      clear hst
      by_cases hd2 : d < 16
      · have c1 : wr.cell? ⟨gx, d, none⟩ = some (F (X2 d)) := HS2.out.bks.cell 2 d rfl (arr_at hd2)
        have f1 : wr.frozen? ⟨gx, d, none⟩ = false := HS2.out.bks.frozen 2 d rfl
        have s1 : Sem.run Try.prog (store ⟨gx, d, none⟩ (.float .f64 r)) wr = .ok () (wr.setCell ⟨gx, d, none⟩ (.float .f64 r)) := GenD.run_store_float c1 f1
        go_wp2_with fail
        go_roundw
        case rel => exact ⟨d + 1, fun i => if i = d then r else X2 i, by omega, by go_num, Lib.hid (HX2.out.set hr), by have := HS2.out.set 2 d rfl (F r); rw [arr_set hd2] at this; exact this⟩
        case measure => simp [intOf]; omega
      · go_wp2_with fail
        exact HQ.out few nn X2 _ _ _ _ _ _ _ _ _ _ _ _ _ _ _ _ _ _ _ _ _ _ _ _ _ _ _ _ _ _ _ _ _ _ _ _ _ _ _ _ _ _ _ _ _ _ _ _ _ _ _ _ _ _ _ _ _ _ _ _ _ _ _ _ _ _ _ _ _ _ _ _ _ _ _ _ _ _ _ _ _ _ _ _ _ _ _ _ _ _ _ _ _ _ _ _ _ _ _ _ _ _ _ _ _ _ _ _ _ _ _ _ _ _ _ _ _ _ (by omega) (by omega) (HX2) (HS2.out)
  · obtain ⟨k6, hk6, hk16⟩ : ∃ k6 : Nat, (k : Int) % 17 = (k6 : Int) ∧ k6 < 17 := ⟨k % 17, by omega, by omega⟩
    go_wp2_with fail
    (try rw [hk6])
    exact HQ.out k6 nn X _ _ _ _ _ _ _ _ _ _ _ _ _ _ _ _ _ _ _ _ _ _ _ _ _ _ _ _ _ _ _ _ _ _ _ _ _ _ _ _ _ _ _ _ _ _ _ _ _ _ _ _ _ _ _ _ _ _ _ _ _ _ _ _ _ _ _ _ _ _ _ _ _ _ _ _ _ _ _ _ _ _ _ _ _ _ _ _ _ _ _ _ _ _ _ _ _ _ _ _ _ _ _ _ _ _ _ _ _ _ _ _ _ _ _ _ _ _ (by omega) (by omega) (HX) (HS1.out)
  · have k1_3 : W1.cell? ⟨gf, 3, none⟩ = some (I lines) := HS1.out.bks.cell 1 3 rfl rfl
    have f1_3 : W1.frozen? ⟨gf, 3, none⟩ = false := HS1.out.bks.frozen 1 3 rfl
    go_wp2_with fail
    exact HQ.out 16 nn X _ _ _ _ _ _ _ _ _ _ _ _ _ _ _ _ _ _ _ _ _ _ _ _ _ _ _ _ _ _ _ _ _ _ _ _ _ _ _ _ _ _ _ _ _ _ _ _ _ _ _ _ _ _ _ _ _ _ _ _ _ _ _ _ _ _ _ _ _ _ _ _ _ _ _ _ _ _ _ _ _ _ _ _ _ _ _ _ _ _ _ _ _ _ _ _ _ _ _ _ _ _ _ _ _ _ _ _ _ _ _ _ _ _ _ _ _ _ (by omega) (by omega) (HX) (HS1.out.set 1 3 rfl _)
  · cases wild
    · have k0_5 : W1.cell? ⟨go, 5, none⟩ = some (.bool false) := HS1.out.bks.cell 0 5 rfl rfl
      have f0_5 : W1.frozen? ⟨go, 5, none⟩ = false := HS1.out.bks.frozen 0 5 rfl
      go_wp2_with fail
      exact HQ.out few nn X _ _ _ _ _ _ _ _ _ _ _ _ _ _ _ _ _ _ _ _ _ _ _ _ _ _ _ _ _ _ _ _ _ _ _ _ _ _ _ _ _ _ _ _ _ _ _ _ _ _ _ _ _ _ _ _ _ _ _ _ _ _ _ _ _ _ _ _ _ _ _ _ _ _ _ _ _ _ _ _ _ _ _ _ _ _ _ _ _ _ _ _ _ _ _ _ _ _ _ _ _ _ _ _ _ _ _ _ _ _ _ _ _ _ _ _ _ _ (by omega) (by omega) (HX) (HS1.out.set 0 5 rfl _)
    · obtain ⟨k4, hk4, hk44⟩ : ∃ k4 : Nat, (k : Int) % 4 = (k4 : Int) ∧ k4 < 4 := ⟨k % 4, by omega, by omega⟩
      have hkx : (k : Int) < 64 := by omega
      rcases (show k4 = 0 ∨ k4 = 1 ∨ 2 ≤ k4 by omega) with rfl | rfl | h2
      · have hk4 : (k : Int) % 4 = 0 := hk4
        have k0_1 : W1.cell? ⟨go, 1, none⟩ = some (I 0) := HS1.out.bks.cell 0 1 rfl rfl
        have f0_1 : W1.frozen? ⟨go, 1, none⟩ = false := HS1.out.bks.frozen 0 1 rfl
        go_upto_region 45 with fail
        generalize hW : World.setCell W1 _ _ = W2
        obtain ⟨p, hs2⟩ : ∃ p, St w B (.slice oa m oc) fs [(go, #[.slice none 0 0, I p, I 0, I 0, I 0, .bool false], 45), (gf, #[.slice none 0 0, I 0, I ask, I lines, I 0, .bool false], 45), (gx, arr X, 55)] W2 := ⟨_, by rw [← hW]; exact HS1.out.set 0 1 rfl _⟩
        clear hW
        have HS2 := Lib.hid hs2
        clear hs2 k0_1 f0_1
        have k0_5 : W2.cell? ⟨go, 5, none⟩ = some (.bool false) := HS2.out.bks.cell 0 5 rfl rfl
        have f0_5 : W2.frozen? ⟨go, 5, none⟩ = false := HS2.out.bks.frozen 0 5 rfl
        go_wp2_with fail
        exact HQ.out few nn X _ _ _ _ _ _ _ _ _ _ _ _ _ _ _ _ _ _ _ _ _ _ _ _ _ _ _ _ _ _ _ _ _ _ _ _ _ _ _ _ _ _ _ _ _ _ _ _ _ _ _ _ _ _ _ _ _ _ _ _ _ _ _ _ _ _ _ _ _ _ _ _ _ _ _ _ _ _ _ _ _ _ _ _ _ _ _ _ _ _ _ _ _ _ _ _ _ _ _ _ _ _ _ _ _ _ _ _ _ _ _ _ _ _ _ _ _ _ (by omega) (by omega) (HX) (HS2.out.set 0 5 rfl _)
      · have hk4 : (k : Int) % 4 = 1 := hk4
        have k0_4 : W1.cell? ⟨go, 4, none⟩ = some (I 0) := HS1.out.bks.cell 0 4 rfl rfl
        have f0_4 : W1.frozen? ⟨go, 4, none⟩ = false := HS1.out.bks.frozen 0 4 rfl
        go_upto_region 45 with fail
        generalize hW : World.setCell W1 _ _ = W2
        obtain ⟨p, hs2⟩ : ∃ p, St w B (.slice oa m oc) fs [(go, #[.slice none 0 0, I 0, I 0, I 0, I p, .bool false], 45), (gf, #[.slice none 0 0, I 0, I ask, I lines, I 0, .bool false], 45), (gx, arr X, 55)] W2 := ⟨_, by rw [← hW]; exact HS1.out.set 0 4 rfl _⟩
        clear hW
        have HS2 := Lib.hid hs2
        clear hs2 k0_4 f0_4
        have k0_5 : W2.cell? ⟨go, 5, none⟩ = some (.bool false) := HS2.out.bks.cell 0 5 rfl rfl
        have f0_5 : W2.frozen? ⟨go, 5, none⟩ = false := HS2.out.bks.frozen 0 5 rfl
        go_wp2_with fail
        exact HQ.out few nn X _ _ _ _ _ _ _ _ _ _ _ _ _ _ _ _ _ _ _ _ _ _ _ _ _ _ _ _ _ _ _ _ _ _ _ _ _ _ _ _ _ _ _ _ _ _ _ _ _ _ _ _ _ _ _ _ _ _ _ _ _ _ _ _ _ _ _ _ _ _ _ _ _ _ _ _ _ _ _ _ _ _ _ _ _ _ _ _ _ _ _ _ _ _ _ _ _ _ _ _ _ _ _ _ _ _ _ _ _ _ _ _ _ _ _ _ _ _ (by omega) (by omega) (HX) (HS2.out.set 0 5 rfl _)
      · have e0 : ((k4 : Int) == 0) = false := by rw [beq_eq_false_iff_ne]; omega
        have e1 : ((k4 : Int) == 1) = false := by rw [beq_eq_false_iff_ne]; omega
        have k0_5 : W1.cell? ⟨go, 5, none⟩ = some (.bool false) := HS1.out.bks.cell 0 5 rfl rfl
        have f0_5 : W1.frozen? ⟨go, 5, none⟩ = false := HS1.out.bks.frozen 0 5 rfl
        go_wp2_with fail
        exact HQ.out few nn X _ _ _ _ _ _ _ _ _ _ _ _ _ _ _ _ _ _ _ _ _ _ _ _ _ _ _ _ _ _ _ _ _ _ _ _ _ _ _ _ _ _ _ _ _ _ _ _ _ _ _ _ _ _ _ _ _ _ _ _ _ _ _ _ _ _ _ _ _ _ _ _ _ _ _ _ _ _ _ _ _ _ _ _ _ _ _ _ _ _ _ _ _ _ _ _ _ _ _ _ _ _ _ _ _ _ _ _ _ _ _ _ _ _ _ _ _ _ (by omega) (by omega) (HX) (HS1.out.set 0 5 rfl _)
  · go_wp2_with fail
    exact HQ.out few nn X _ _ _ _ _ _ _ _ _ _ _ _ _ _ _ _ _ _ _ _ _ _ _ _ _ _ _ _ _ _ _ _ _ _ _ _ _ _ _ _ _ _ _ _ _ _ _ _ _ _ _ _ _ _ _ _ _ _ _ _ _ _ _ _ _ _ _ _ _ _ _ _ _ _ _ _ _ _ _ _ _ _ _ _ _ _ _ _ _ _ _ _ _ _ _ _ _ _ _ _ _ _ _ _ _ _ _ _ _ _ _ _ _ _ _ _ _ _ (by omega) (by omega) (HX) (HS1.out)
  · go_wp2_with fail
    exact HQ.out few nn X _ _ _ _ _ _ _ _ _ _ _ _ _ _ _ _ _ _ _ _ _ _ _ _ _ _ _ _ _ _ _ _ _ _ _ _ _ _ _ _ _ _ _ _ _ _ _ _ _ _ _ _ _ _ _ _ _ _ _ _ _ _ _ _ _ _ _ _ _ _ _ _ _ _ _ _ _ _ _ _ _ _ _ _ _ _ _ _ _ _ _ _ _ _ _ _ _ _ _ _ _ _ _ _ _ _ _ _ _ _ _ _ _ _ _ _ _ _ (by omega) (by omega) (HX) (HS1.out)
end Scr
namespace Scr
open Go.ChangeShapes Go.WideShapes Go.ChangeAt Go.RowKit
open Tab Dtc
theorem script_any (a : Option Addr) (cap : Nat) (L : List Int) (wild : Bool) (w : World) (hrow : IntRow w ⟨a, cap⟩ L) :
    Calls Try.prog 15 #[.slice a L.length cap, .bool wild] w fun e w' => ∃ (sl : Sl) (fs : List Frm), e = .returned (sl.val fs.length) ∧ RowOf 6 Frm.cells w' sl fs ∧ fs.length ≤ 1500 ∧ (∀ f ∈ fs, f.ok w') ∧ Below w.heap.size w w' := by
  have hl := hrow.len
  unfold maxLen at hl
  obtain ⟨hl1, hl2⟩ := hl
  have HR := Lib.hid hrow
  clear hrow
  obtain ⟨n, hn⟩ : ∃ n, L.length = n := ⟨_, rfl⟩
  rw [hn] at hl1 ⊢
  have HN := Lib.hid hn
  clear hn
  obtain ⟨j0, hj, hy0, hy1, hy2⟩ := info_parts infoFz
  obtain ⟨j1, hk, hk0, hk1, hk2⟩ := info_parts infoXz
  have h0 := ((Blk.Bks.nil w).alloc #[F 0, F 0, F 0, F 0, F 0, F 0, F 0, F 0, F 0, F 0, F 0, F 0, F 0, F 0, F 0, F 0] 55).alloc #[.slice none 0 0, I 0, I 0, I 0, I 0, .bool false] 45
  rw [show (w.alloc (.cells #[F 0, F 0, F 0, F 0, F 0, F 0, F 0, F 0, F 0, F 0, F 0, F 0, F 0, F 0, F 0, F 0] 55)).heap.size = w.heap.size + 1 by simp] at h0
  go_enter Try.func15, Try.ntmps15
  go_upto_region 5 with fail
  generalize World.alloc (World.alloc w _) _ = u at h0 ⊢
  obtain ⟨B, hB⟩ : ∃ B, B = u.heap.size := ⟨_, rfl⟩
  have hlt1 := h0.lt (x := (w.heap.size + 1, #[.slice none 0 0, I 0, I 0, I 0, I 0, .bool false], 45)) (by simp)
  have hwB : w.heap.size + 1 < B := by rw [hB]; exact hlt1
  clear hlt1
  generalize hgf : w.heap.size + 1 = gf at h0 hwB ⊢
  have hgx : w.heap.size < B := by omega
  have hwB2 : w.heap.size ≤ B := by omega
  have HWB := Lib.hid hwB2
  clear hwB2
  generalize w.heap.size = gx at h0 hgf hgx ⊢
  have ST0 : Hid (St w B (.slice none 0 0) [] [(gf, #[.slice none 0 0, I 0, I 0, I 0, I 0, .bool false], 45), (gx, arr (fun _ => 0), 55)] u) := Lib.hid ⟨h0, Gath.Owns.nil, by simp, by simp, by simp [Value.ownBlock], by omega⟩
  clear h0 hB hgf
  go_wp2_with fail
  go_loopw [5, 7, 9] (fun v5 v7 v9 wr => ∃ (q few m : Nat) (X : Nat → Nat) (ask lines : Int) (fs : List Frm) (oa : Option Addr) (oc : Nat), q ≤ n ∧ v9 = .int .i64 q ∧ v7 = .int .i64 few ∧ few ≤ 16 ∧ Hid (Wf X) ∧ v5 = .slice oa m oc ∧ Hid (fs.length = m) ∧ m ≤ 1500 ∧ St w B (.slice oa m oc) fs [(gf, #[.slice none 0 0, I 0, I ask, I lines, I 0, .bool false], 45), (gx, arr X, 55)] wr) (fun _ _ i _ => n - (intOf i).toNat)
  case atStart => exact ⟨0, 16, 0, fun _ => 0, 0, 0, [], none, 0, by omega, rfl, rfl, by omega, Lib.hid (fun _ => by show (0 : Nat) < _; decide), rfl, Lib.hid rfl, by omega, ST0.out⟩
  case round =>
    clear ST0
    obtain ⟨q, few, m, X, ask, lines, fs, oa, oc, hq, rfl, rfl, hfew, HX, rfl, HM, hm2, hst⟩ := hrel
    have HST := Lib.hid hst
    clear hst
    rename World => wq
    by_cases hq1 : q < n
    · by_cases hq2 : q < 120
      · by_cases hq3 : m < 1500
        · obtain ⟨lv, hlv⟩ : ∃ lv, L[q]? = some lv := ⟨_, List.getElem?_eq_getElem (by rw [HN.out]; exact hq1)⟩
          obtain ⟨y, hy, hyc⟩ := (HR.out.below HST.out.bks.bel).at hlv
          obtain rfl : a = some y := hy
          have hyq : wq.cell? (y.add q) = some (I lv) := by have := hyc 0 _ rfl; rwa [Nat.mul_one, Tab.add_zero] at this
          obtain ⟨vv, hvv⟩ : ∃ vv, lv % 1099511627776 = vv := ⟨_, rfl⟩
          have hv0 : 0 ≤ vv := by omega
          have hv1 : vv < 1099511627776 := by omega
          have HVV := Lib.hid hvv
          clear hvv hlv hyc
          go_upto_block 2 with (go_at_call 18; refine (RefS.place_any _ 1099511627776 _ (by decide) (by decide)).mono ?_; rintro e w' ⟨rfl, rfl⟩; rw [HVV.out])
          have hs1 := HST.out.alloc #[.slice none 0 0, I 0, I 0, I 0, I 0, .bool false] 45 (by decide)
          generalize World.alloc wq _ = W1 at hs1 ⊢
          have hgo : B ≤ wq.heap.size := HST.out.top
          generalize wq.heap.size = go at hs1 hgo ⊢
          have HS1 := Lib.hid hs1
          clear hs1 hyq HST
          obtain ⟨k, hk, hk64⟩ : ∃ k : Nat, vv / 16 % 64 = (k : Int) ∧ k < 64 := ⟨(vv / 16 % 64).toNat, by omega, by omega⟩
          obtain ⟨nn, hnn, hn1, hn30⟩ : ∃ nn : Nat, 1 + vv / 1024 % 30 = (nn : Int) ∧ 1 ≤ nn ∧ nn ≤ 30 := ⟨(1 + vv / 1024 % 30).toNat, by omega, by omega, by omega⟩
          obtain ⟨s, hs⟩ : ∃ s, vv % 16 = s := ⟨_, rfl⟩
          have hs0 : 0 ≤ s ∧ s < 16 := by omega
          rw [hk, hnn, hs]
          clear hk hnn hs
          refine switch_any hfew HX hk64 hn30 hs0 hv0 hv1 HS1 (Lib.hid ?_)
          clear HS1 HX hfew hn1 hn30 hs0
          intro few nn X ask lines p ln st rs x14 x49 x50 x51 x52 x53 x54 x55 x56 x57 x58 x59 x60 x61 x62 x63 x64 x65 x66 x67 x68 x69 x70 x71 x72 x73 x74 x75 x76 x77 x78 x79 x80 x81 x82 x83 x84 x85 x86 x87 x88 x89 x90 x91 x92 x93 x94 x95 x96 x97 x98 x99 x100 x101 x102 x103 x104 x105 x106 x107 x108 x109 x110 x111 x112 x113 x114 x115 x116 x117 x118 x119 x120 x121 x122 x123 x124 x125 x126 x127 x128 x129 x130 x131 x132 x133 x134 x135 x136 x137 x138 x139 x140 x141 x142 x143 x144 x145 x146 x147 x148 x149 x150 x151 x152 x153 x154 x155 x156 x157 x158 wc hfew hnn HX hst
          · have HS1 := Lib.hid hst
            clear hst
            have hsl := slice_few hfew gx
            go_wp2_with (at_builtin; refine wpList_append_own _ rfl _ _ 33 rfl B 47 j1 (F 0) 1 8 Try.underlying33 hk hk0 hk1 hk2 rfl (by decide) (.slice none 0 0) 0 [] rfl (World.ownsRow_nil _ _ _ _) ⟨gx, 0, none⟩ few 16 ((List.range few).map fun d => F (X d)) rfl ?c1 ?c2 ?c3 ?c4 ?c5 ?c6 ?_)
            case c1 => simp
            case c2 =>
              intro j u hju
              have hjf : j < few := by have := (List.getElem?_eq_some_iff.1 hju).1; simpa using this
              rw [List.getElem?_map, List.getElem?_range hjf] at hju
              obtain rfl := Option.some.inj hju
              rw [Addr.add_mid, Nat.zero_add]
              exact HS1.out.bks.cell 2 j rfl (arr_at (by omega))
            case c3 =>
              intro u hu
              obtain ⟨d, _, rfl⟩ := List.mem_map.1 hu
              rfl
            case c4 => unfold maxLen; omega
            case c5 => omega
            case c6 => exact HS1.out.top
            intro vs W2 hown' hgrow hnil'
            have hb2 : Below wc.heap.size wc W2 := (Below.refl _ _).grown hgrow (Nat.le_refl _) (fun k hk => by simp [Value.ownBlock] at hk)
            obtain ⟨sa, sc, rfl, hok⟩ := smp_ok hown' HX.out
            have HS2 := Lib.hid (HS1.out.step hb2)
            have HOK := Lib.hid hok
            clear hown' hgrow hnil' hb2 hok HS1
            have HS3 := Lib.hid HS2.out.drop
            go_wp2_with fail
            go_loopw [5, 16] (fun v5 v16 wx => ∃ (j m' : Nat) (fs' : List Frm) (oa' : Option Addr) (oc' : Nat), j ≤ nn ∧ v16 = .int .i64 j ∧ v5 = .slice oa' m' oc' ∧ Hid (fs'.length = m') ∧ m' ≤ 1500 ∧ St w B (.slice oa' m' oc') fs' [(gf, #[.slice none 0 0, I 0, I ask, I lines, I 0, .bool false], 45), (gx, arr X, 55)] wx ∧ Hid (Frm.ok wx ⟨⟨sa, sc⟩, few, 0, 0, 0, 0, false⟩) ∧ (j = 0 → wx = W2 ∧ oa' = oa ∧ oc' = oc ∧ m' = m ∧ fs' = fs)) (fun _ i _ => nn - (intOf i).toNat)
            case atStart => exact ⟨0, m, fs, oa, oc, by omega, rfl, rfl, HM, by omega, HS3.out, HOK, fun _ => ⟨rfl, rfl, rfl, rfl, rfl⟩⟩
            case round =>
              clear HS3 HOK
              obtain ⟨j, m2, fs2, oa2, oc2, hj2, rfl, rfl, HM2, hm2b, hst, HOK, hz⟩ := hrel
              have HS3 := Lib.hid hst
              clear hst
              by_cases hjn : j < nn
              · by_cases hm15 : m2 < 1500
                · by_cases hj0 : j = 0
                  · obtain ⟨rfl, rfl, rfl, rfl, rfl⟩ := hz hj0
                    subst hj0
                    clear HS3
                    have q2 : wr.cell? ⟨gf, 2, none⟩ = some (I ask) := HS2.out.bks.cell 1 2 rfl rfl
                    have q3 : wr.cell? ⟨gf, 3, none⟩ = some (I lines) := HS2.out.bks.cell 1 3 rfl rfl
                    go_upto_region 51 with fail
                    have hs4 := HS2.out.alloc #[.slice sa few sc, I 0, I ask, I lines, I 0, .bool false] 45 (by decide)
                    have hok4 : Frm.ok (wr.alloc (.cells #[.slice sa few sc, I 0, I ask, I lines, I 0, .bool false] 45)) ⟨⟨sa, sc⟩, few, 0, 0, 0, 0, false⟩ := HOK.out.below ((Below.refl _ _).alloc (Nat.le_refl _) _)
                    generalize World.alloc wr _ = W4 at hs4 hok4 ⊢
                    generalize wr.heap.size = gg at hs4 ⊢
                    have HS4 := Lib.hid hs4
                    have HOKn := Lib.hid hok4
                    clear hs4 hok4 q2 q3
                    clear HS2
                    have a1 : W4.cell? ⟨go, 1, none⟩ = some (I p) := HS4.out.bks.cell 1 1 rfl rfl
                    have a2 : W4.cell? ⟨gg, 1, none⟩ = some (I 0) := HS4.out.bks.cell 0 1 rfl rfl
                    have a3 : W4.frozen? ⟨gg, 1, none⟩ = false := HS4.out.bks.frozen 0 1 rfl
                    go_upto_region 53 with fail
                    generalize hW : World.setCell W4 _ _ = W5
                    obtain ⟨p1, hs5⟩ : ∃ p1, St w B (.slice oa2 m2 oc2) fs2 [(gg, #[.slice sa few sc, I p1, I ask, I lines, I 0, .bool false], 45), (go, #[.slice none 0 0, I p, I 0, I ln, I st, .bool rs], 45), (gf, #[.slice none 0 0, I 0, I ask, I lines, I 0, .bool false], 45), (gx, arr X, 55)] W5 := ⟨_, by rw [← hW]; exact HS4.out.set 0 1 rfl _⟩
                    have hok5 : Frm.ok W5 ⟨⟨sa, sc⟩, few, 0, 0, 0, 0, false⟩ := by rw [← hW]; exact HOKn.out.grown (GenG.grown_set _ _ _ _) (fun m e => by cases e; exact ⟨_, _, HS4.out.bks.at 0 rfl, by decide⟩)
                    clear hW HOKn a1 a2 a3
                    have HS5 := Lib.hid hs5
                    have HOKn := Lib.hid hok5
                    clear hs5 hok5 HS4
                    have a1 : W5.cell? ⟨go, 4, none⟩ = some (I st) := HS5.out.bks.cell 1 4 rfl rfl
                    have a2 : W5.cell? ⟨gg, 4, none⟩ = some (I 0) := HS5.out.bks.cell 0 4 rfl rfl
                    have a3 : W5.frozen? ⟨gg, 4, none⟩ = false := HS5.out.bks.frozen 0 4 rfl
                    go_upto_region 54 with fail
                    generalize hW : World.setCell W5 _ _ = W6
                    obtain ⟨p4, hs5⟩ : ∃ p4, St w B (.slice oa2 m2 oc2) fs2 [(gg, #[.slice sa few sc, I p1, I ask, I lines, I p4, .bool false], 45), (go, #[.slice none 0 0, I p, I 0, I ln, I st, .bool rs], 45), (gf, #[.slice none 0 0, I 0, I ask, I lines, I 0, .bool false], 45), (gx, arr X, 55)] W6 := ⟨_, by rw [← hW]; exact HS5.out.set 0 4 rfl _⟩
                    have hok5 : Frm.ok W6 ⟨⟨sa, sc⟩, few, 0, 0, 0, 0, false⟩ := by rw [← hW]; exact HOKn.out.grown (GenG.grown_set _ _ _ _) (fun m e => by cases e; exact ⟨_, _, HS5.out.bks.at 0 rfl, by decide⟩)
                    clear hW HOKn a1 a2 a3
                    have HS6 := Lib.hid hs5
                    have HOKn := Lib.hid hok5
                    clear hs5 hok5 HS5
                    have a1 : W6.cell? ⟨go, 3, none⟩ = some (I ln) := HS6.out.bks.cell 1 3 rfl rfl
                    have a2 : W6.cell? ⟨gg, 3, none⟩ = some (I lines) := HS6.out.bks.cell 0 3 rfl rfl
                    have a3 : W6.frozen? ⟨gg, 3, none⟩ = false := HS6.out.bks.frozen 0 3 rfl
                    go_upto_region 55 with fail
                    generalize hW : World.setCell W6 _ _ = W7
                    obtain ⟨p3, hs5⟩ : ∃ p3, St w B (.slice oa2 m2 oc2) fs2 [(gg, #[.slice sa few sc, I p1, I ask, I p3, I p4, .bool false], 45), (go, #[.slice none 0 0, I p, I 0, I ln, I st, .bool rs], 45), (gf, #[.slice none 0 0, I 0, I ask, I lines, I 0, .bool false], 45), (gx, arr X, 55)] W7 := ⟨_, by rw [← hW]; exact HS6.out.set 0 3 rfl _⟩
                    have hok5 : Frm.ok W7 ⟨⟨sa, sc⟩, few, 0, 0, 0, 0, false⟩ := by rw [← hW]; exact HOKn.out.grown (GenG.grown_set _ _ _ _) (fun m e => by cases e; exact ⟨_, _, HS6.out.bks.at 0 rfl, by decide⟩)
                    clear hW HOKn a1 a2 a3
                    have HS7 := Lib.hid hs5
                    have HOKn := Lib.hid hok5
                    clear hs5 hok5 HS6
                    have a1 : W7.cell? ⟨go, 5, none⟩ = some (Value.bool rs) := HS7.out.bks.cell 1 5 rfl rfl
                    have a2 : W7.cell? ⟨gg, 5, none⟩ = some (Value.bool false) := HS7.out.bks.cell 0 5 rfl rfl
                    have a3 : W7.frozen? ⟨gg, 5, none⟩ = false := HS7.out.bks.frozen 0 5 rfl
                    go_upto_region 56 with fail
                    generalize hW : World.setCell W7 _ _ = W8
                    obtain ⟨p5, hs5⟩ : ∃ p5, St w B (.slice oa2 m2 oc2) fs2 [(gg, #[.slice sa few sc, I p1, I ask, I p3, I p4, .bool p5], 45), (go, #[.slice none 0 0, I p, I 0, I ln, I st, .bool rs], 45), (gf, #[.slice none 0 0, I 0, I ask, I lines, I 0, .bool false], 45), (gx, arr X, 55)] W8 := ⟨_, by rw [← hW]; exact HS7.out.set 0 5 rfl _⟩
                    have hok5 : Frm.ok W8 ⟨⟨sa, sc⟩, few, 0, 0, 0, 0, false⟩ := by rw [← hW]; exact HOKn.out.grown (GenG.grown_set _ _ _ _) (fun m e => by cases e; exact ⟨_, _, HS7.out.bks.at 0 rfl, by decide⟩)
                    clear hW HOKn a1 a2 a3
                    have HS8 := Lib.hid hs5
                    have HOKn := Lib.hid hok5
                    clear hs5 hok5 HS7
                    have HSA : Hid (St w B (.slice oa2 m2 oc2) fs2 [(gg, #[.slice sa few sc, I p1, I ask, I p3, I p4, .bool p5], 45), (gf, #[.slice none 0 0, I 0, I ask, I lines, I 0, .bool false], 45), (gx, arr X, 55)] W8) := Lib.hid (HS8.out.skip1)
                    clear HS8
                    have z0 : W8.cell? ⟨gg, 0, none⟩ = some (Value.slice sa few sc) := HSA.out.bks.cell 0 0 rfl rfl
                    have z1 : W8.cell? ⟨gg, 1, none⟩ = some (I p1) := HSA.out.bks.cell 0 1 rfl rfl
                    have z2 : W8.cell? ⟨gg, 2, none⟩ = some (I ask) := HSA.out.bks.cell 0 2 rfl rfl
                    have z3 : W8.cell? ⟨gg, 3, none⟩ = some (I p3) := HSA.out.bks.cell 0 3 rfl rfl
                    have z4 : W8.cell? ⟨gg, 4, none⟩ = some (I p4) := HSA.out.bks.cell 0 4 rfl rfl
                    have z5 : W8.cell? ⟨gg, 5, none⟩ = some (Value.bool p5) := HSA.out.bks.cell 0 5 rfl rfl
                    have HS9 := Lib.hid HSA.out.drop
                    have HO9 := Lib.hid HSA.out.own
                    have htop := HSA.out.top
                    clear HSA
                    go_wp2_with (at_builtin; refine wpList_append_own _ rfl _ _ 42 rfl B 45 j0 (.agg #[.slice none 0 0, I 0, I 0, I 0, I 0, .bool false]) 6 64 Try.underlying42 hj hy0 hy1 hy2 rfl (by decide) _ _ _ rfl (World.ownsRow.alloc HO9.out _) ⟨W8.heap.size, 0, none⟩ 1 1 [Value.slice sa few sc, I p1, I ask, I p3, I p4, Value.bool p5] rfl rfl ?d1 ?d2 ?d3 ?d4 ?d5 ?_)
                    try (case d1 => exact Row.lies_new W8 _ _)
                    try (case d2 => simp [Value.oneCell'])
                    try (case d3 => rw [HM2.out]; unfold maxLen; omega)
                    try (case d4 => rw [HM2.out]; omega)
                    try (case d5 => first | omega | (simp; omega))
                    intro v' W9 hown' hgrow hnil'
                    have hbA : Below W8.heap.size W8 (W8.alloc (.cells #[Value.slice sa few sc, I p1, I ask, I p3, I p4, Value.bool p5] 45)) := (Below.refl _ _).alloc (Nat.le_refl _) _
                    have hst9 := (HS9.out.step hbA).append (f := ⟨⟨sa, sc⟩, few, p1, ask, p3, p4, p5⟩) (by intro x hx; simp at hx; rcases hx with rfl | rfl; omega; omega) HWB.out hgrow hown' ((HOKn.out.below hbA).same rfl rfl)
                    have hok9 := (HOKn.out.below hbA).grown hgrow (fun m e => by obtain ⟨cs, hc⟩ := GenG.own_type (HO9.out.below hbA) m e; exact ⟨cs, _, hc, by decide⟩)
                    obtain ⟨⟨oa3, oc3⟩, hs3, _⟩ := hst9.own.row Frm.len
                    have hs3 : v' = .slice oa3 (m2 + 1) oc3 := by rw [hs3]; simp [Sl.val, HM2.out]
                    subst hs3
                    have HST9 := Lib.hid hst9
                    have HOK9 := Lib.hid hok9
                    have HM9 : Hid ((fs2 ++ [(⟨⟨sa, sc⟩, few, p1, ask, p3, p4, p5⟩ : Frm)]).length = m2 + 1) := Lib.hid (by rw [List.length_append, HM2.out]; rfl)
                    clear hown' hgrow hnil' hst9 hok9 hbA HS9 HO9 z0 z1 z2 z3 z4 z5
                    go_wp2
                    go_roundw
                    case rel => exact ⟨0 + 1, m2 + 1, _, oa3, oc3, by omega, by go_num, rfl, HM9, by omega, HST9.out, HOK9, fun h => by omega⟩
                    case measure => simp [intOf]; omega
                  · have HZ := Lib.hid hz
                    clear hz
                    have hbe : ((j : Int) == 0) = false := by rw [beq_eq_false_iff_ne]; omega
                    have q2 : wr.cell? ⟨gf, 2, none⟩ = some (I ask) := HS3.out.bks.cell 0 2 rfl rfl
                    have q3 : wr.cell? ⟨gf, 3, none⟩ = some (I lines) := HS3.out.bks.cell 0 3 rfl rfl
                    go_upto_region 51 with fail
                    have hs4 := HS3.out.alloc #[.slice sa few sc, I 0, I ask, I lines, I 0, .bool false] 45 (by decide)
                    have hok4 : Frm.ok (wr.alloc (.cells #[.slice sa few sc, I 0, I ask, I lines, I 0, .bool false] 45)) ⟨⟨sa, sc⟩, few, 0, 0, 0, 0, false⟩ := HOK.out.below ((Below.refl _ _).alloc (Nat.le_refl _) _)
                    generalize World.alloc wr _ = W4 at hs4 hok4 ⊢
                    generalize wr.heap.size = gg at hs4 ⊢
                    have HS4 := Lib.hid hs4
                    have HOKn := Lib.hid hok4
                    clear hs4 hok4 q2 q3
                    clear HS3
                    go_upto_region 56 with fail
                    have z0 : W4.cell? ⟨gg, 0, none⟩ = some (Value.slice sa few sc) := HS4.out.bks.cell 0 0 rfl rfl
                    have z1 : W4.cell? ⟨gg, 1, none⟩ = some (I 0) := HS4.out.bks.cell 0 1 rfl rfl
                    have z2 : W4.cell? ⟨gg, 2, none⟩ = some (I ask) := HS4.out.bks.cell 0 2 rfl rfl
                    have z3 : W4.cell? ⟨gg, 3, none⟩ = some (I lines) := HS4.out.bks.cell 0 3 rfl rfl
                    have z4 : W4.cell? ⟨gg, 4, none⟩ = some (I 0) := HS4.out.bks.cell 0 4 rfl rfl
                    have z5 : W4.cell? ⟨gg, 5, none⟩ = some (Value.bool false) := HS4.out.bks.cell 0 5 rfl rfl
                    have HS9 := Lib.hid HS4.out.drop
                    have HO9 := Lib.hid HS4.out.own
                    have htop := HS4.out.top
                    clear HS4
                    go_wp2_with (at_builtin; refine wpList_append_own _ rfl _ _ 42 rfl B 45 j0 (.agg #[.slice none 0 0, I 0, I 0, I 0, I 0, .bool false]) 6 64 Try.underlying42 hj hy0 hy1 hy2 rfl (by decide) _ _ _ rfl (World.ownsRow.alloc HO9.out _) ⟨W4.heap.size, 0, none⟩ 1 1 [Value.slice sa few sc, I 0, I ask, I lines, I 0, Value.bool false] rfl rfl ?e1 ?e2 ?e3 ?e4 ?e5 ?_)
                    try (case e1 => exact Row.lies_new W4 _ _)
                    try (case e2 => simp [Value.oneCell'])
                    try (case e3 => rw [HM2.out]; unfold maxLen; omega)
                    try (case e4 => rw [HM2.out]; omega)
                    try (case e5 => first | omega | (simp; omega))
                    intro v' W9 hown' hgrow hnil'
                    have hbA : Below W4.heap.size W4 (W4.alloc (.cells #[Value.slice sa few sc, I 0, I ask, I lines, I 0, Value.bool false] 45)) := (Below.refl _ _).alloc (Nat.le_refl _) _
                    have hst9 := (HS9.out.step hbA).append (f := ⟨⟨sa, sc⟩, few, 0, ask, lines, 0, false⟩) (by intro x hx; simp at hx; rcases hx with rfl | rfl; omega; omega) HWB.out hgrow hown' ((HOKn.out.below hbA).same rfl rfl)
                    have hok9 := (HOKn.out.below hbA).grown hgrow (fun m e => by obtain ⟨cs, hc⟩ := GenG.own_type (HO9.out.below hbA) m e; exact ⟨cs, _, hc, by decide⟩)
                    obtain ⟨⟨oa3, oc3⟩, hs3, _⟩ := hst9.own.row Frm.len
                    have hs3 : v' = .slice oa3 (m2 + 1) oc3 := by rw [hs3]; simp [Sl.val, HM2.out]
                    subst hs3
                    have HST9 := Lib.hid hst9
                    have HOK9 := Lib.hid hok9
                    have HM9 : Hid ((fs2 ++ [(⟨⟨sa, sc⟩, few, 0, ask, lines, 0, false⟩ : Frm)]).length = m2 + 1) := Lib.hid (by rw [List.length_append, HM2.out]; rfl)
                    clear hown' hgrow hnil' hst9 hok9 hbA HS9 HO9 z0 z1 z2 z3 z4 z5
                    go_wp2
                    go_roundw
                    case rel => exact ⟨j + 1, m2 + 1, _, oa3, oc3, by omega, by go_num, rfl, HM9, by omega, HST9.out, HOK9, fun h => by omega⟩
                    case measure => simp [intOf]; omega
                · have hd3 : decide ((m2 : Int) < 1500) = false := decide_eq_false (by omega)
                  go_wp2
                  go_roundw
                  case rel => exact ⟨q + 1, few, m2, X, ask, lines, fs2, oa2, oc2, by omega, by go_num, rfl, hfew, HX, rfl, HM2, hm2b, HS3.out⟩
                  case measure => simp [intOf]; omega
              · go_wp2
                go_roundw
                case rel => exact ⟨q + 1, few, m2, X, ask, lines, fs2, oa2, oc2, by omega, by go_num, rfl, hfew, HX, rfl, HM2, hm2b, HS3.out⟩
                case measure => simp [intOf]; omega
        · have hd3 : decide ((m : Int) < 1500) = false := decide_eq_false (by omega)
          obtain ⟨sl, hsl, hrw⟩ := HST.out.own.row Frm.len
          have HSL : Hid (Value.slice oa m oc = sl.val fs.length) := Lib.hid hsl
          have HRW := Lib.hid hrw
          clear hsl hrw
          go_wp2
          go_ret
          exact ⟨sl, fs, by rw [← HSL.out]; rfl, HRW.out, by rw [HM.out]; exact hm2, HST.out.ok, HST.out.bks.bel⟩
      · obtain ⟨sl, hsl, hrw⟩ := HST.out.own.row Frm.len
        have HSL : Hid (Value.slice oa m oc = sl.val fs.length) := Lib.hid hsl
        have HRW := Lib.hid hrw
        clear hsl hrw
        go_wp2
        go_ret
        exact ⟨sl, fs, by rw [← HSL.out]; rfl, HRW.out, by rw [HM.out]; exact hm2, HST.out.ok, HST.out.bks.bel⟩
    · obtain ⟨sl, hsl, hrw⟩ := HST.out.own.row Frm.len
      have HSL : Hid (Value.slice oa m oc = sl.val fs.length) := Lib.hid hsl
      have HRW := Lib.hid hrw
      clear hsl hrw
      go_wp2
      go_ret
      exact ⟨sl, fs, by rw [← HSL.out]; rfl, HRW.out, by rw [HM.out]; exact hm2, HST.out.ok, HST.out.bks.bel⟩
end Scr
end Go.Proofs.Ytbmcendlpeaaeaa
