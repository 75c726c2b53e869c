/- 4 texts in one file, in build order. -/
import Derived.Test.YtjgpljnbeolapaaRows
import Derived.Test.YtjgpljnbeolapaaPart02
import Derived.Test.YtjgpljnbeolapaaPart01
import Derived.Great.BuildSlice
import Derived.Test.YtjgpljnbeolapaaPart03
import Derived.StillTailTactics
import Derived.Laws.Rows
import Derived.Deep.Cut
import Derived.Laws.FloatArith
set_option linter.unusedVariables false
set_option linter.unusedSimpArgs false
set_option linter.unusedSectionVars false
set_option maxHeartbeats 8000000
set_option maxRecDepth 100000
namespace Go.Proofs.Ytjgpljnbeolapaa
namespace GenG
open Go.ChangeShapes Go.WideShapes Go.ChangeAt Go.RowKit
open Tab Gath
open RefS (num from_any num_range ret_int)
/-- m phases from p on. -/
def seg (p m : Nat) : List Int := (List.range m).map fun i => ((p + i : Nat) : Int)
theorem seg_len (p m : Nat) : (seg p m).length = m := by simp [seg]
theorem seg_succ (p m : Nat) : seg p (m + 1) = seg p m ++ [((p + m : Nat) : Int)] := by unfold seg; rw [List.range_succ, List.map_append]; rfl
def lim (G g : Nat) : Nat := 9 + g - G
def want0 (L : List Int) (g : Nat) : Nat := (num L (1 + 2 * g) 3).toNat
def want1 (L : List Int) (g : Nat) (m : Nat) : Nat := if num L (2 + 2 * g) 3 = 0 ∧ m = 0 then 1 else (num L (2 + 2 * g) 3).toNat
def n0 (L : List Int) (G g p : Nat) : Nat := min (want0 L g) (lim G g - p)
def n1 (L : List Int) (G g p : Nat) : Nat := min (want1 L g (n0 L G g p)) (lim G g - (p + n0 L G g p))
def grpD (L : List Int) (G g p : Nat) : List Int × List Int := (seg p (n0 L G g p), seg (p + n0 L G g p) (n1 L G g p))
def upTo (L : List Int) (G : Nat) : Nat → List (List Int × List Int) × Nat
  | 0 => ([], 0)
  | g + 1 => ((upTo L G g).1 ++ [grpD L G g (upTo L G g).2], (upTo L G g).2 + n0 L G g (upTo L G g).2 + n1 L G g (upTo L G g).2)
def genG (L : List Int) : Nat := (1 + num L 0 3).toNat
def genGs (L : List Int) : List (List Int × List Int) := (upTo L (genG L) (genG L)).1
def genN (L : List Int) : Nat := (upTo L (genG L) (genG L)).2
theorem genG_range (L : List Int) : 1 ≤ genG L ∧ genG L ≤ 3 := by have := num_range L 0 3 (by omega); unfold genG; omega
theorem want0_le (L : List Int) (g : Nat) : want0 L g ≤ 2 := by have := num_range L (1 + 2 * g) 3 (by omega); unfold want0; omega
theorem want1_le (L : List Int) (g m : Nat) : want1 L g m ≤ 2 := by have := num_range L (2 + 2 * g) 3 (by omega); unfold want1; split <;> omega
theorem up_le (L : List Int) (G : Nat) (hG : G ≤ 3) : ∀ g, g ≤ G → (upTo L G g).2 ≤ 8
  | 0, _ => Nat.zero_le _
  | g + 1, h => by
    have := up_le L G hG g (by omega)
    show (upTo L G g).2 + n0 L G g (upTo L G g).2 + n1 L G g (upTo L G g).2 ≤ 8
    unfold n1 n0 lim
    omega
theorem up_len (L : List Int) (G : Nat) : ∀ g, (upTo L G g).1.length = g
  | 0 => rfl
  | g + 1 => by show ((upTo L G g).1 ++ [_]).length = g + 1; rw [List.length_append, up_len L G g]; rfl
/-- A row of integers, in a block of integers. -/
def RowI (w : World) (s : Sl) (l : List Int) : Prop := IntRow w s l ∧ ∀ x, s.a = some x → ∃ cs : Array Value, w.heap[x.block]? = some (.cells cs 3 (0, 0))
theorem RowI.below {w w' : World} {s : Sl} {l : List Int} (h : RowI w s l) (hb : Below w.heap.size w w') : RowI w' s l := ⟨h.1.below hb, fun x hx => by
  obtain ⟨cs, hc⟩ := h.2 x hx
  exact ⟨cs, (hb.block _ (Array.getElem?_eq_some_iff.1 hc).1).trans hc⟩⟩
theorem add_block (x : Addr) (k : Nat) : (x.add k).block = x.block := by unfold Addr.add; split <;> rfl
theorem RowI.grown {w w' : World} {s : Sl} {l : List Int} {row : Option Nat} (h : RowI w s l) (hg : w.grownBy w' row) (hne : ∀ x, s.a = some x → some x.block ≠ row) : RowI w' s l := by
  refine ⟨?_, fun x hx => ?_⟩
  · rcases h.1 with h | ⟨x, h1, h2, h3, h4⟩
    · exact .inl h
    · exact .inr ⟨x, h1, h2, h3, fun i v hv j u hu => hg.cell (h4 i v hv j u hu) (by rw [add_block, add_block]; exact hne x h1)⟩
  · obtain ⟨cs, hc⟩ := h.2 x hx
    exact ⟨cs, (hg.block _ (Array.getElem?_eq_some_iff.1 hc).1 (hne x hx)).trans hc⟩
/-- It lies in another block than one of another type. -/
theorem RowI.ne {w : World} {s : Sl} {l : List Int} {b : Nat} {cs : Array Value} {t : TypeId} (h : RowI w s l) (hb : w.heap[b]? = some (.cells cs t (0, 0))) (ht : t ≠ 3) : ∀ x, s.a = some x → x.block ≠ b := by
  intro x hx e
  obtain ⟨ds, hc⟩ := h.2 x hx
  rw [e, hb] at hc
  simp at hc
  exact ht hc.2
theorem grown_set (W : World) (b i : Nat) (v : Value) : W.grownBy (W.setCell ⟨b, i, none⟩ v) (some b) :=
  ⟨rfl, rfl, rfl, by simp, fun j _ hj => heap_setCell_other _ _ _ _ (fun e => hj (by rw [e]))⟩
theorem own_row {B : Nat} {w : World} {v : Value} {l : List Int} (h : Owns (fun n => [I n]) 1 B w 3 v l) : ∃ s : Sl, v = s.val l.length ∧ RowI w s l := by
  obtain ⟨s, hs, hr⟩ := Owns.row h (enc := fun n => [I n]) (fun _ => rfl)
  refine ⟨s, hs, hr, fun x hx => ?_⟩
  rcases h.2 with ⟨e, _⟩ | ⟨g, cap, cur, e, h1, h2, _⟩
  · rw [hs] at e
    simp [Sl.val, hx] at e
  · rw [hs] at e
    simp [Sl.val, hx] at e
    obtain ⟨rfl, _⟩ := e
    exact ⟨cur, h2⟩
theorem own_kept {α : Type} {enc : α → List Value} {n B : Nat} {w w' : World} {t : TypeId} {v : Value} {l : List α} {row : Option Nat} (h : Owns enc n B w t v l) (hg : w.grownBy w' row) (hne : ∀ m, v.ownBlock = some m → row ≠ some m) : Owns enc n B w' t v l :=
  World.ownsRow.kept h hg (by
    cases e : v.ownBlock with
    | none => exact .inl rfl
    | some m => exact .inr (fun e' => hne m e e'.symm))
theorem own_lt {α : Type} {enc : α → List Value} {n B : Nat} {w : World} {t : TypeId} {v : Value} {l : List α} (h : Owns enc n B w t v l) : ∀ m, v.ownBlock = some m → m < w.heap.size := by
  intro m hm
  rcases h.2 with ⟨rfl, _⟩ | ⟨g, cap, cur, rfl, h1, h2, _⟩
  · simp [Value.ownBlock] at hm
  · simp [Value.ownBlock] at hm
    subst hm
    exact (Array.getElem?_eq_some_iff.1 h2).1
theorem own_type {α : Type} {enc : α → List Value} {n B : Nat} {w : World} {t : TypeId} {v : Value} {l : List α} (h : Owns enc n B w t v l) : ∀ m, v.ownBlock = some m → ∃ cs : Array Value, w.heap[m]? = some (.cells cs t (0, 0)) := by
  intro m hm
  rcases h.2 with ⟨rfl, _⟩ | ⟨g, cap, cur, rfl, h1, h2, _⟩
  · simp [Value.ownBlock] at hm
  · simp [Value.ownBlock] at hm
    subst hm
    exact ⟨cur, h2⟩
theorem own_ne {α : Type} {enc : α → List Value} {n B : Nat} {w : World} {t t' : TypeId} {v : Value} {l : List α} {b : Nat} {cs : Array Value} (h : Owns enc n B w t v l) (hb : w.heap[b]? = some (.cells cs t' (0, 0))) (ht : t' ≠ t) : v.ownBlock ≠ some b := by
  intro e
  obtain ⟨ds, hd⟩ := own_type h b e
  rw [hb] at hd
  simp at hd
  exact ht hd.2
theorem grown_below {w w' : World} (hb : Below w.heap.size w w') (row : Option Nat) : w.grownBy w' row := ⟨hb.os, hb.tape, hb.output, hb.size, fun j hj _ => hb.block j hj⟩
theorem grown_trans {w w1 w2 : World} {b : Nat} {row : Option Nat} (h : w.grownBy w1 (some b)) (h2 : w1.grownBy w2 row) (hr : ∀ m, row = some m → m = b ∨ w.heap.size ≤ m) : w.grownBy w2 (some b) := by
  refine ⟨h2.os.trans h.os, h2.tape.trans h.tape, h2.output.trans h.output, Nat.le_trans h.size h2.size, fun j hj hne => ?_⟩
  rw [h2.block j (Nat.lt_of_lt_of_le hj h.size) (fun e => by rcases hr j e.symm with e' | e'; exact hne (by rw [e']); omega), h.block j hj hne]
/-- One group while its first row is filled. -/
structure G0 (Bg : Nat) (w1 : World) (a : Option Addr) (c : Nat) (p i : Nat) (W : World) : Prop where
  bel : Below Bg w1 W
  box : W.heap[Bg]? = some (.cells #[.slice a i c, .slice none 0 0] 92 (0, 0))
  own : Owns (fun n => [I n]) 1 (Bg + 1) W 3 (.slice a i c) (seg p i)
theorem G0.step {Bg : Nat} {w1 W W' : World} {a : Option Addr} {c p i : Nat} (h : G0 Bg w1 a c p i W) (hb : Below W.heap.size W W') (hB : Bg ≤ W.heap.size) : G0 Bg w1 a c p i W' :=
  ⟨h.bel.trans (hb.mono hB), (hb.block _ (Array.getElem?_eq_some_iff.1 h.box).1).trans h.box, h.own.below hb⟩
theorem G0.put {Bg : Nat} {w1 W W' : World} {a : Option Addr} {c p i : Nat} {v' : Value} (h : G0 Bg w1 a c p i W) (hB : Bg + 1 ≤ W.heap.size) (hg : W.grownBy W' (Value.slice a i c).ownBlock)
    (ho : W'.ownsRow (Bg + 1) 3 1 v' (i + 1) ((seg p i).flatMap (fun n => [I n]) ++ [I ((p + i : Nat) : Int)])) :
    (W'.heap[Bg]? = some (.cells #[.slice a i c, .slice none 0 0] 92 (0, 0))) ∧ ∃ a' c', v' = .slice a' (i + 1) c' ∧ G0 Bg w1 a' c' p (i + 1) (W'.setCell ⟨Bg, 0, none⟩ v') := by
  have hne : some Bg ≠ (Value.slice a i c).ownBlock := fun e => by have := h.own.blk _ e.symm; omega
  have hbx := (hg.block Bg (by omega) hne).trans h.box
  have hO : Owns (fun n => [I n]) 1 (Bg + 1) W' 3 v' (seg p (i + 1)) := by
    rw [seg_succ]; refine Owns.snoc ?_; rw [seg_len]; exact ho
  obtain ⟨⟨a', c'⟩, hs, hr⟩ := own_row hO
  rw [seg_len] at hs
  refine ⟨hbx, a', c', hs, ?_⟩
  have hB' : Bg ≤ W'.heap.size := Nat.le_trans (by omega) hg.size
  refine ⟨?_, ?_, ?_⟩
  · exact (h.bel.grown hg (by omega) (fun k hk => by have := h.own.blk k hk; omega)).setCell (p := ⟨Bg, 0, none⟩) (Nat.le_refl _) v'
  · rw [heap_setCell_same _ _ _ _ _ _ hbx, hs]; rfl
  · rw [hs] at hO ⊢
    exact own_kept hO (grown_set _ _ _ _) (fun m hm e => by have := hO.blk m hm; cases e; omega)
/-- One group while its second row is filled. -/
structure G1 (Bg : Nat) (w1 : World) (B1 : Nat) (a : Option Addr) (c : Nat) (p m : Nat) (a1 : Option Addr) (c1 : Nat) (i : Nat) (W : World) : Prop where
  bel : Below Bg w1 W
  box : W.heap[Bg]? = some (.cells #[.slice a m c, .slice a1 i c1] 92 (0, 0))
  own : Owns (fun n => [I n]) 1 (Bg + 1) W 3 (.slice a m c) (seg p m)
  lt : ∀ j, (Value.slice a m c).ownBlock = some j → j < B1
  own1 : Owns (fun n => [I n]) 1 B1 W 3 (.slice a1 i c1) (seg (p + m) i)
  sz : B1 ≤ W.heap.size
theorem G0.next {Bg : Nat} {w1 W : World} {a : Option Addr} {c p m : Nat} (h : G0 Bg w1 a c p m W) : G1 Bg w1 W.heap.size a c p m none 0 0 W :=
  ⟨h.bel, h.box, h.own, own_lt h.own, Owns.nil, Nat.le_refl _⟩
theorem G1.step {Bg B1 : Nat} {w1 W W' : World} {a a1 : Option Addr} {c p m c1 i : Nat} (h : G1 Bg w1 B1 a c p m a1 c1 i W) (hb : Below W.heap.size W W') (hB : Bg ≤ W.heap.size) : G1 Bg w1 B1 a c p m a1 c1 i W' :=
  ⟨h.bel.trans (hb.mono hB), (hb.block _ (Array.getElem?_eq_some_iff.1 h.box).1).trans h.box, h.own.below hb, h.lt, h.own1.below hb, Nat.le_trans h.sz hb.size⟩
theorem G1.put {Bg B1 : Nat} {w1 W W' : World} {a a1 : Option Addr} {c p m c1 i : Nat} {v' : Value} (h : G1 Bg w1 B1 a c p m a1 c1 i W) (h1 : Bg < B1) (hB : B1 ≤ W.heap.size) (hg : W.grownBy W' (Value.slice a1 i c1).ownBlock)
    (ho : W'.ownsRow B1 3 1 v' (i + 1) ((seg (p + m) i).flatMap (fun n => [I n]) ++ [I ((p + m + i : Nat) : Int)])) :
    (W'.heap[Bg]? = some (.cells #[.slice a m c, .slice a1 i c1] 92 (0, 0))) ∧ ∃ a' c', v' = .slice a' (i + 1) c' ∧ G1 Bg w1 B1 a c p m a' c' (i + 1) (W'.setCell ⟨Bg, 1, none⟩ v') := by
  have hne : some Bg ≠ (Value.slice a1 i c1).ownBlock := fun e => by have := h.own1.blk _ e.symm; omega
  have hbx := (hg.block Bg (by omega) hne).trans h.box
  have hO : Owns (fun n => [I n]) 1 B1 W' 3 v' (seg (p + m) (i + 1)) := by
    rw [seg_succ]; refine Owns.snoc ?_; rw [seg_len]; exact ho
  have hO0 : Owns (fun n => [I n]) 1 (Bg + 1) W' 3 (.slice a m c) (seg p m) := own_kept h.own hg (fun j hj e => by have := h.lt j hj; have := h.own1.blk j e; omega)
  obtain ⟨⟨a', c'⟩, hs, hr⟩ := own_row hO
  rw [seg_len] at hs
  refine ⟨hbx, a', c', hs, ?_⟩
  have hB' : Bg ≤ W'.heap.size := Nat.le_trans (by omega) hg.size
  refine ⟨?_, ?_, ?_, h.lt, ?_, by simp; exact Nat.le_trans h.sz hg.size⟩
  · exact (h.bel.grown hg (by omega) (fun k hk => by have := h.own1.blk k hk; omega)).setCell (p := ⟨Bg, 1, none⟩) (Nat.le_refl _) v'
  · rw [heap_setCell_same _ _ _ _ _ _ hbx, hs]; rfl
  · exact own_kept hO0 (grown_set _ _ _ _) (fun m hm e => by have := hO0.blk m hm; cases e; omega)
  · rw [hs] at hO ⊢
    exact own_kept hO (grown_set _ _ _ _) (fun m hm e => by have := hO.blk m hm; cases e; omega)
/-- The groups so far. -/
structure GS (w : World) (tb : Nat) (cs : List Value) (ga : Option Addr) (gc : Nat) (g : Nat) (gs : List Gr) (W : World) : Prop where
  gb : w.grownBy W (some tb)
  tbk : W.heap[tb]? = some (.cells (cs.set 104 (.slice ga g gc)).toArray 32 (0, 0))
  own : Owns Gr.cells 2 w.heap.size W 92 (.slice ga g gc) gs
  len : gs.length = g
  rows : ∀ x ∈ gs, RowI W x.s0 x.r0 ∧ RowI W x.s1 x.r1
theorem GS.step {w W W' : World} {tb : Nat} {cs : List Value} {ga : Option Addr} {gc g : Nat} {gs : List Gr} (h : GS w tb cs ga gc g gs W) (hb : Below W.heap.size W W') : GS w tb cs ga gc g gs W' :=
  ⟨grown_trans h.gb (grown_below hb none) (fun m e => by cases e), (hb.block _ (Array.getElem?_eq_some_iff.1 h.tbk).1).trans h.tbk, h.own.below hb, h.len, fun x hx => ⟨(h.rows x hx).1.below hb, (h.rows x hx).2.below hb⟩⟩
theorem GS.put {w W W' : World} {tb : Nat} {cs : List Value} {ga : Option Addr} {gc g : Nat} {gs : List Gr} {v' : Value} (x : Gr) (h : GS w tb cs ga gc g gs W) (hx : RowI W x.s0 x.r0 ∧ RowI W x.s1 x.r1) (hg : W.grownBy W' (Value.slice ga g gc).ownBlock) (hc : cs.length = 131)
    (ho : W'.ownsRow w.heap.size 92 2 v' (g + 1) (gs.flatMap Gr.cells ++ x.cells)) :
    (W'.heap[tb]? = some (.cells (cs.set 104 (.slice ga g gc)).toArray 32 (0, 0))) ∧ ∃ a' c', v' = .slice a' (g + 1) c' ∧ GS w tb cs a' c' (g + 1) (gs ++ [x]) (W'.setCell ⟨tb, 104, none⟩ v') := by
  have hne : some tb ≠ (Value.slice ga g gc).ownBlock := fun e => own_ne h.own h.tbk (by decide) e.symm
  have hbx := (hg.block tb (Array.getElem?_eq_some_iff.1 h.tbk).1 hne).trans h.tbk
  have hO : Owns Gr.cells 2 w.heap.size W' 92 v' (gs ++ [x]) := Owns.snoc (by rw [h.len]; exact ho)
  obtain ⟨⟨a', c'⟩, hs, hr⟩ := Owns.row hO (fun _ => rfl)
  have hs2 : v' = .slice a' (g + 1) c' := by rw [hs, List.length_append, h.len]; rfl
  have hK : ∀ s l, RowI W s l → RowI (W'.setCell ⟨tb, 104, none⟩ v') s l := fun s l hr => by
    have h1 : RowI W' s l := hr.grown hg (fun y hy e => by
      obtain ⟨ds, hd⟩ := own_type h.own _ e.symm
      exact hr.ne hd (by decide) y hy rfl)
    exact h1.grown (grown_set _ _ _ _) (fun y hy e => h1.ne hbx (by decide) y hy (by cases e; rfl))
  refine ⟨hbx, a', c', hs2, ?_, ?_, ?_, by rw [List.length_append, h.len]; rfl, ?_⟩
  · exact grown_trans (grown_trans h.gb hg (fun m e => .inr (h.own.blk m e))) (grown_set _ _ _ _) (fun m e => .inl (by cases e; rfl))
  · rw [heap_setCell_same _ _ _ _ _ _ hbx, hs2]
    simp
  · rw [← hs2]
    exact own_kept hO (grown_set _ _ _ _) (fun m hm e => by cases e; exact own_ne hO hbx (by decide) hm)
  · intro y hy
    rcases List.mem_append.1 hy with hy | hy
    · exact ⟨hK _ _ (h.rows y hy).1, hK _ _ (h.rows y hy).2⟩
    · obtain rfl : y = x := by simpa using hy
      exact ⟨hK _ _ hx.1, hK _ _ hx.2⟩
theorem from_at (a : Option Addr) (cap : Nat) (L : List Int) (i j n : Int) (hij : i = j) (w : World) (h : IntRow w ⟨a, cap⟩ L) (h0 : 0 ≤ i) (hn : 0 < n) (hn' : n ≤ 1000) :
    Calls Try.prog 27 #[.slice a L.length cap, .int .i64 i, .int .i64 n] w fun e w' => e = .returned (.int .i64 (num L j n)) ∧ w = w' := by
  subst hij; exact from_any a cap L i n w h h0 hn hn'
theorem infoGz : (Try.prog.info? 92).map (fun i => (i.zero, i.size)) = some (some (.agg #[.slice none 0 0, .slice none 0 0]), 2) := by kernel_rfl
theorem infoG2 : (Try.prog.info? 92).map (·.size) = some 2 := by kernel_rfl
theorem infoG3 : (Try.prog.info? 92).map (fun i => (i.zero, i.size, i.bytes)) = some (some (.agg #[.slice none 0 0, .slice none 0 0]), 2, 48) := by kernel_rfl
end GenG
namespace GenP
open Go.ChangeShapes Go.WideShapes Go.ChangeAt Go.RowKit
open Tab Clone RefS
open May (infoP)
open Same (below_setRow)
theorem infoPz : (Try.prog.info? 24).map (fun i => (i.zero, i.size)) = some (some (.agg zPh.cells.toArray), 13) := by kernel_rfl
def recall (x walk : Int) : Int := if x > 3 ∨ x = 3 ∧ walk = 0 then 0 else x
/-- A phase by twelve numbers. -/
def genPh (L : List Int) (i : Int) : Ph :=
  let min := 1 + num L i 12
  let max := min + num L (i + 5) 25
  let walks := num L (i + 7) 2 = 1
  let walk := if walks then 1 + num L (i + 8) 10 else 0
  ⟨true, min, num L (i + 1) 9, max, max + num L (i + 6) 15, 1 + num L (i + 2) 6, 10 + num L (i + 3) 4, num L (i + 4) 5, walk, if walks then 1 + num L (i + 8) 97 / 10 else 0, recall (num L (i + 9) 7) walk, decide (num L (i + 10) 3 > 0), decide (num L (i + 11) 4 = 1)⟩
theorem phase_any (a : Option Addr) (cap : Nat) (L : List Int) (i : Int) (w : World) (h : IntRow w ⟨a, cap⟩ L) (h0 : 0 ≤ i) (h1 : i ≤ 100000) :
    Calls Try.prog 26 #[.slice a L.length cap, .int .i64 i] w fun e w' => e = .returned (.agg (genPh L i).cells.toArray) ∧ Below w.heap.size w w' := by
  obtain ⟨x0, hx0, ⟨r0, s0⟩, F0⟩ : ∃ x : Int, x = num L i 12 ∧ (0 ≤ x ∧ x < 12) ∧ Hid (∀ W, Below w.heap.size w W → Calls Try.prog 27 #[.slice a L.length cap, .int .i64 i, .int .i64 12] W fun e w' => e = .returned (.int .i64 x) ∧ w' = W) := ⟨_, rfl, num_range _ _ _ (by omega), Lib.hid (fun W hb => (from_any a cap L _ _ W (h.below hb) (by omega) (by omega) (by omega)).mono fun _ _ ⟨e, q⟩ => ⟨e, q.symm⟩)⟩
  obtain ⟨x1, hx1, ⟨r1, s1⟩, F1⟩ : ∃ x : Int, x = num L (i + 1) 9 ∧ (0 ≤ x ∧ x < 9) ∧ Hid (∀ W, Below w.heap.size w W → Calls Try.prog 27 #[.slice a L.length cap, .int .i64 (i + 1), .int .i64 9] W fun e w' => e = .returned (.int .i64 x) ∧ w' = W) := ⟨_, rfl, num_range _ _ _ (by omega), Lib.hid (fun W hb => (from_any a cap L _ _ W (h.below hb) (by omega) (by omega) (by omega)).mono fun _ _ ⟨e, q⟩ => ⟨e, q.symm⟩)⟩
  obtain ⟨x2, hx2, ⟨r2, s2⟩, F2⟩ : ∃ x : Int, x = num L (i + 2) 6 ∧ (0 ≤ x ∧ x < 6) ∧ Hid (∀ W, Below w.heap.size w W → Calls Try.prog 27 #[.slice a L.length cap, .int .i64 (i + 2), .int .i64 6] W fun e w' => e = .returned (.int .i64 x) ∧ w' = W) := ⟨_, rfl, num_range _ _ _ (by omega), Lib.hid (fun W hb => (from_any a cap L _ _ W (h.below hb) (by omega) (by omega) (by omega)).mono fun _ _ ⟨e, q⟩ => ⟨e, q.symm⟩)⟩
  obtain ⟨x3, hx3, ⟨r3, s3⟩, F3⟩ : ∃ x : Int, x = num L (i + 3) 4 ∧ (0 ≤ x ∧ x < 4) ∧ Hid (∀ W, Below w.heap.size w W → Calls Try.prog 27 #[.slice a L.length cap, .int .i64 (i + 3), .int .i64 4] W fun e w' => e = .returned (.int .i64 x) ∧ w' = W) := ⟨_, rfl, num_range _ _ _ (by omega), Lib.hid (fun W hb => (from_any a cap L _ _ W (h.below hb) (by omega) (by omega) (by omega)).mono fun _ _ ⟨e, q⟩ => ⟨e, q.symm⟩)⟩
  obtain ⟨x4, hx4, ⟨r4, s4⟩, F4⟩ : ∃ x : Int, x = num L (i + 4) 5 ∧ (0 ≤ x ∧ x < 5) ∧ Hid (∀ W, Below w.heap.size w W → Calls Try.prog 27 #[.slice a L.length cap, .int .i64 (i + 4), .int .i64 5] W fun e w' => e = .returned (.int .i64 x) ∧ w' = W) := ⟨_, rfl, num_range _ _ _ (by omega), Lib.hid (fun W hb => (from_any a cap L _ _ W (h.below hb) (by omega) (by omega) (by omega)).mono fun _ _ ⟨e, q⟩ => ⟨e, q.symm⟩)⟩
  obtain ⟨x5, hx5, ⟨r5, s5⟩, F5⟩ : ∃ x : Int, x = num L (i + 5) 25 ∧ (0 ≤ x ∧ x < 25) ∧ Hid (∀ W, Below w.heap.size w W → Calls Try.prog 27 #[.slice a L.length cap, .int .i64 (i + 5), .int .i64 25] W fun e w' => e = .returned (.int .i64 x) ∧ w' = W) := ⟨_, rfl, num_range _ _ _ (by omega), Lib.hid (fun W hb => (from_any a cap L _ _ W (h.below hb) (by omega) (by omega) (by omega)).mono fun _ _ ⟨e, q⟩ => ⟨e, q.symm⟩)⟩
  obtain ⟨x6, hx6, ⟨r6, s6⟩, F6⟩ : ∃ x : Int, x = num L (i + 6) 15 ∧ (0 ≤ x ∧ x < 15) ∧ Hid (∀ W, Below w.heap.size w W → Calls Try.prog 27 #[.slice a L.length cap, .int .i64 (i + 6), .int .i64 15] W fun e w' => e = .returned (.int .i64 x) ∧ w' = W) := ⟨_, rfl, num_range _ _ _ (by omega), Lib.hid (fun W hb => (from_any a cap L _ _ W (h.below hb) (by omega) (by omega) (by omega)).mono fun _ _ ⟨e, q⟩ => ⟨e, q.symm⟩)⟩
  obtain ⟨x7, hx7, ⟨r7, s7⟩, F7⟩ : ∃ x : Int, x = num L (i + 7) 2 ∧ (0 ≤ x ∧ x < 2) ∧ Hid (∀ W, Below w.heap.size w W → Calls Try.prog 27 #[.slice a L.length cap, .int .i64 (i + 7), .int .i64 2] W fun e w' => e = .returned (.int .i64 x) ∧ w' = W) := ⟨_, rfl, num_range _ _ _ (by omega), Lib.hid (fun W hb => (from_any a cap L _ _ W (h.below hb) (by omega) (by omega) (by omega)).mono fun _ _ ⟨e, q⟩ => ⟨e, q.symm⟩)⟩
  obtain ⟨x8, hx8, ⟨r8, s8⟩, F8⟩ : ∃ x : Int, x = num L (i + 8) 10 ∧ (0 ≤ x ∧ x < 10) ∧ Hid (∀ W, Below w.heap.size w W → Calls Try.prog 27 #[.slice a L.length cap, .int .i64 (i + 8), .int .i64 10] W fun e w' => e = .returned (.int .i64 x) ∧ w' = W) := ⟨_, rfl, num_range _ _ _ (by omega), Lib.hid (fun W hb => (from_any a cap L _ _ W (h.below hb) (by omega) (by omega) (by omega)).mono fun _ _ ⟨e, q⟩ => ⟨e, q.symm⟩)⟩
  obtain ⟨xb, hxb, ⟨rb, sb⟩, Fb⟩ : ∃ x : Int, x = num L (i + 8) 97 ∧ (0 ≤ x ∧ x < 97) ∧ Hid (∀ W, Below w.heap.size w W → Calls Try.prog 27 #[.slice a L.length cap, .int .i64 (i + 8), .int .i64 97] W fun e w' => e = .returned (.int .i64 x) ∧ w' = W) := ⟨_, rfl, num_range _ _ _ (by omega), Lib.hid (fun W hb => (from_any a cap L _ _ W (h.below hb) (by omega) (by omega) (by omega)).mono fun _ _ ⟨e, q⟩ => ⟨e, q.symm⟩)⟩
  obtain ⟨x9, hx9, ⟨r9, s9⟩, F9⟩ : ∃ x : Int, x = num L (i + 9) 7 ∧ (0 ≤ x ∧ x < 7) ∧ Hid (∀ W, Below w.heap.size w W → Calls Try.prog 27 #[.slice a L.length cap, .int .i64 (i + 9), .int .i64 7] W fun e w' => e = .returned (.int .i64 x) ∧ w' = W) := ⟨_, rfl, num_range _ _ _ (by omega), Lib.hid (fun W hb => (from_any a cap L _ _ W (h.below hb) (by omega) (by omega) (by omega)).mono fun _ _ ⟨e, q⟩ => ⟨e, q.symm⟩)⟩
  obtain ⟨xt, hxt, ⟨rt, st⟩, Ft⟩ : ∃ x : Int, x = num L (i + 10) 3 ∧ (0 ≤ x ∧ x < 3) ∧ Hid (∀ W, Below w.heap.size w W → Calls Try.prog 27 #[.slice a L.length cap, .int .i64 (i + 10), .int .i64 3] W fun e w' => e = .returned (.int .i64 x) ∧ w' = W) := ⟨_, rfl, num_range _ _ _ (by omega), Lib.hid (fun W hb => (from_any a cap L _ _ W (h.below hb) (by omega) (by omega) (by omega)).mono fun _ _ ⟨e, q⟩ => ⟨e, q.symm⟩)⟩
  obtain ⟨xe, hxe, ⟨re, se⟩, Fe⟩ : ∃ x : Int, x = num L (i + 11) 4 ∧ (0 ≤ x ∧ x < 4) ∧ Hid (∀ W, Below w.heap.size w W → Calls Try.prog 27 #[.slice a L.length cap, .int .i64 (i + 11), .int .i64 4] W fun e w' => e = .returned (.int .i64 x) ∧ w' = W) := ⟨_, rfl, num_range _ _ _ (by omega), Lib.hid (fun W hb => (from_any a cap L _ _ W (h.below hb) (by omega) (by omega) (by omega)).mono fun _ _ ⟨e, q⟩ => ⟨e, q.symm⟩)⟩
  have RES : Hid (genPh L i = ⟨true, 1 + x0, x1, 1 + x0 + x5, 1 + x0 + x5 + x6, 1 + x2, 10 + x3, x4, if x7 = 1 then 1 + x8 else 0, if x7 = 1 then 1 + xb / 10 else 0, recall x9 (if x7 = 1 then 1 + x8 else 0), decide (xt > 0), decide (xe = 1)⟩) := Lib.hid (by subst hx0 hx1 hx2 hx3 hx4 hx5 hx6 hx7 hx8 hxb hx9 hxt hxe; rfl)
  generalize genPh L i = R at RES ⊢
  clear hx0 hx1 hx2 hx3 hx4 hx5 hx6 hx7 hx8 hxb hx9 hxt hxe h
  have hz := (zero_of_info infoPz).1
  have HB : Hid (Below w.heap.size w (w.alloc (.cells zPh.cells.toArray 24))) := Lib.hid ((Below.refl _ _).alloc (Nat.le_refl _) _)
  have hg := heap_alloc_new w (.cells zPh.cells.toArray 24)
  have hs : (w.alloc (.cells zPh.cells.toArray 24)).heap.size = w.heap.size + 1 := by simp
  have HG := Lib.hid hg
  have HS := Lib.hid hs
  clear hg hs
  simp only [zPh, Ph.cells] at hz HB HG HS
  go_enter Try.func26, Try.ntmps26
  go_upto_region 1 with fail
  generalize (World.alloc w _) = u at HB HG HS ⊢
  go_wp2_with fail
  refine (F0.out _ HB.out).mono ?_
  rintro e w' ⟨rfl, hq⟩
  subst w'
  go_wp2_with fail
  refine (F1.out _ HB.out).mono ?_
  rintro e w' ⟨rfl, hq⟩
  subst w'
  go_wp2_with fail
  refine (F2.out _ HB.out).mono ?_
  rintro e w' ⟨rfl, hq⟩
  subst w'
  go_wp2_with fail
  refine (F3.out _ HB.out).mono ?_
  rintro e w' ⟨rfl, hq⟩
  subst w'
  go_wp2_with fail
  refine (F4.out _ HB.out).mono ?_
  rintro e w' ⟨rfl, hq⟩
  subst w'
  go_upto_region 2 with (refine Row.wpList_store_new rfl 24 _ _ rfl u _ #[.bool true, I (1 + x0), I x1, I 0, I 0, I (1 + x2), I (10 + x3), I x4, I 0, I 0, I 0, .bool false, .bool false] rfl rfl rfl infoP rfl (by simp [Value.oneCell']) ?_)
  (try dsimp only [Act.put])
  have hb := HB.out.alloc HB.out.size (.cells #[.bool true, I (1 + x0), I x1, I 0, I 0, I (1 + x2), I (10 + x3), I x4, I 0, I 0, I 0, .bool false, .bool false] 24)
  have g5 := heap_alloc_new u (.cells #[.bool true, I (1 + x0), I x1, I 0, I 0, I (1 + x2), I (10 + x3), I x4, I 0, I 0, I 0, .bool false, .bool false] 24)
  have g4 := (Below.heap_alloc u (.cells #[.bool true, I (1 + x0), I x1, I 0, I 0, I (1 + x2), I (10 + x3), I x4, I 0, I 0, I 0, .bool false, .bool false] 24) w.heap.size (by have := HS.out; omega)).trans HG.out
  have b5lt : w.heap.size < u.heap.size := by have := HS.out; omega
  clear HB HG HS
  generalize World.alloc u _ = u0 at g4 g5 hb ⊢
  generalize u.heap.size = b5 at g5 b5lt ⊢
  have G4 := Lib.hid g4
  have G5 := Lib.hid g5
  have HB := Lib.hid hb
  clear g4 g5 hb
  have e0 : IntKind.i64.wrap (i + 5) = i + 5 := by rw [IntKind.wrap_i64]; omega
  have e1 : IntKind.i64.wrap (1 + x0 + x5) = 1 + x0 + x5 := by rw [IntKind.wrap_i64]; omega
  have g4 : u0.drew.heap[w.heap.size]? = some (.cells #[.bool false, .int .i64 0, .int .i64 0, .int .i64 0, .int .i64 0, .int .i64 0, .int .i64 0, .int .i64 0, .int .i64 0, .int .i64 0, .int .i64 0, .bool false, .bool false] 24 (0, 0)) := G4.out
  have g5 : u0.drew.heap[b5]? = some (.cells #[.bool true, I (1 + x0), I x1, I 0, I 0, I (1 + x2), I (10 + x3), I x4, I 0, I 0, I 0, .bool false, .bool false] 24 (0, 0)) := G5.out
  have hb : Below w.heap.size w u0.drew := HB.out.drew
  clear G4 G5 HB
  refine QB.region_tail 8 (by kernel_rfl) (by kernel_rfl) ?_
  generalize World.drew u0 = u1 at g4 g5 hb ⊢
  have G4 := Lib.hid g4
  have G5 := Lib.hid g5
  have HB := Lib.hid hb
  clear g4 g5 hb
  have c1 : u1.cell? ⟨b5, 1, none⟩ = some (I (1 + x0)) := by rw [cell_of_row _ _ _ _ _ _ G5.out]; rfl
  have c3 : u1.cell? ⟨b5, 3, none⟩ = some (I 0) := by rw [cell_of_row _ _ _ _ _ _ G5.out]; rfl
  have f3 : u1.frozen? ⟨b5, 3, none⟩ = false := frozen_of_row _ _ _ _ _ G5.out
  simp only [List.take_succ_cons, List.take_zero, List.drop_succ_cons, List.drop_zero]
  repeat still_step
  still_call (F5.out _ HB.out)
  repeat still_step
  refine wpStill_nil ?_
  go_upto_region 3 with fail
  clear e0 e1
  have g5 := heap_setCell_same u1 b5 3 _ _ (I (1 + x0 + x5)) G5.out
  simp only [List.setIfInBounds_toArray, List.set_cons_succ, List.set_cons_zero] at g5
  have g4 := (Below.heap_setCell u1 ⟨b5, 3, none⟩ (I (1 + x0 + x5)) w.heap.size (by simp; omega)).trans G4.out
  have hb := Owned.below_write HB.out (g := b5) (i := 3) (by omega) (I (1 + x0 + x5))
  clear c1 c3 f3 G4 G5 HB
  generalize World.setCell u1 ⟨b5, 3, none⟩ (I (1 + x0 + x5)) = u2 at g4 g5 hb ⊢
  have G4 := Lib.hid g4
  have G5 := Lib.hid g5
  have HB := Lib.hid hb
  clear g4 g5 hb
  have e0 : IntKind.i64.wrap (i + 6) = i + 6 := by rw [IntKind.wrap_i64]; omega
  have e1 : IntKind.i64.wrap (1 + x0 + x5 + x6) = 1 + x0 + x5 + x6 := by rw [IntKind.wrap_i64]; omega
  have g4 : u2.drew.heap[w.heap.size]? = some (.cells #[.bool false, .int .i64 0, .int .i64 0, .int .i64 0, .int .i64 0, .int .i64 0, .int .i64 0, .int .i64 0, .int .i64 0, .int .i64 0, .int .i64 0, .bool false, .bool false] 24 (0, 0)) := G4.out
  have g5 : u2.drew.heap[b5]? = some (.cells #[.bool true, I (1 + x0), I x1, I (1 + x0 + x5), I 0, I (1 + x2), I (10 + x3), I x4, I 0, I 0, I 0, .bool false, .bool false] 24 (0, 0)) := G5.out
  have hb : Below w.heap.size w u2.drew := HB.out.drew
  clear G4 G5 HB
  refine QB.region_tail 8 (by kernel_rfl) (by kernel_rfl) ?_
  generalize World.drew u2 = u3 at g4 g5 hb ⊢
  have G4 := Lib.hid g4
  have G5 := Lib.hid g5
  have HB := Lib.hid hb
  clear g4 g5 hb
  have c3 : u3.cell? ⟨b5, 3, none⟩ = some (I (1 + x0 + x5)) := by rw [cell_of_row _ _ _ _ _ _ G5.out]; rfl
  have c4 : u3.cell? ⟨b5, 4, none⟩ = some (I 0) := by rw [cell_of_row _ _ _ _ _ _ G5.out]; rfl
  have f4 : u3.frozen? ⟨b5, 4, none⟩ = false := frozen_of_row _ _ _ _ _ G5.out
  simp only [List.take_succ_cons, List.take_zero, List.drop_succ_cons, List.drop_zero]
  repeat still_step
  still_call (F6.out _ HB.out)
  repeat still_step
  refine wpStill_nil ?_
  go_upto_region 4 with fail
  clear e0 e1
  have g5 := heap_setCell_same u3 b5 4 _ _ (I (1 + x0 + x5 + x6)) G5.out
  simp only [List.setIfInBounds_toArray, List.set_cons_succ, List.set_cons_zero] at g5
  have g4 := (Below.heap_setCell u3 ⟨b5, 4, none⟩ (I (1 + x0 + x5 + x6)) w.heap.size (by simp; omega)).trans G4.out
  have hb := Owned.below_write HB.out (g := b5) (i := 4) (by omega) (I (1 + x0 + x5 + x6))
  clear c3 c4 f4 G4 G5 HB
  generalize World.setCell u3 ⟨b5, 4, none⟩ (I (1 + x0 + x5 + x6)) = u4 at g4 g5 hb ⊢
  have G4 := Lib.hid g4
  have G5 := Lib.hid g5
  have HB := Lib.hid hb
  clear g4 g5 hb
  go_wp2_with fail
  refine (F7.out _ HB.out).mono ?_
  rintro e w' ⟨rfl, hq⟩
  subst w'
  by_cases h7 : x7 = 1
  · have H7 := Lib.hid h7
    have e7 : (x7 == 1) = true := by simpa using h7
    clear h7
    go_upto_region 5 with fail
    have c8 : u4.cell? ⟨b5, 8, none⟩ = some (I 0) := by rw [cell_of_row _ _ _ _ _ _ G5.out]; rfl
    have f8 : u4.frozen? ⟨b5, 8, none⟩ = false := frozen_of_row _ _ _ _ _ G5.out
    go_wp2_with fail
    refine (F8.out _ HB.out).mono ?_
    rintro e w' ⟨rfl, hq⟩
    subst w'
    go_upto_region 6 with fail
    have g5 := heap_setCell_same u4 b5 8 _ _ (I (1 + x8)) G5.out
    simp only [List.setIfInBounds_toArray, List.set_cons_succ, List.set_cons_zero] at g5
    have g4 := (Below.heap_setCell u4 ⟨b5, 8, none⟩ (I (1 + x8)) w.heap.size (by simp; omega)).trans G4.out
    have hb := Owned.below_write HB.out (g := b5) (i := 8) (by omega) (I (1 + x8))
    clear c8 f8 G4 G5 HB
    generalize World.setCell u4 ⟨b5, 8, none⟩ (I (1 + x8)) = u5 at g4 g5 hb ⊢
    have G4 := Lib.hid g4
    have G5 := Lib.hid g5
    have HB := Lib.hid hb
    clear g4 g5 hb
    have c9 : u5.cell? ⟨b5, 9, none⟩ = some (I 0) := by rw [cell_of_row _ _ _ _ _ _ G5.out]; rfl
    have f9 : u5.frozen? ⟨b5, 9, none⟩ = false := frozen_of_row _ _ _ _ _ G5.out
    go_wp2_with fail
    refine (Fb.out _ HB.out).mono ?_
    rintro e w' ⟨rfl, hq⟩
    subst w'
    go_upto_region 7 with fail
    have g5 := heap_setCell_same u5 b5 9 _ _ (I (1 + xb / 10)) G5.out
    simp only [List.setIfInBounds_toArray, List.set_cons_succ, List.set_cons_zero] at g5
    have g4 := (Below.heap_setCell u5 ⟨b5, 9, none⟩ (I (1 + xb / 10)) w.heap.size (by simp; omega)).trans G4.out
    have hb := Owned.below_write HB.out (g := b5) (i := 9) (by omega) (I (1 + xb / 10))
    clear c9 f9 G4 G5 HB
    generalize World.setCell u5 ⟨b5, 9, none⟩ (I (1 + xb / 10)) = u6 at g4 g5 hb ⊢
    have G4 := Lib.hid g4
    have G5 := Lib.hid g5
    have HB := Lib.hid hb
    clear g4 g5 hb
    have c10 : u6.cell? ⟨b5, 10, none⟩ = some (I 0) := by rw [cell_of_row _ _ _ _ _ _ G5.out]; rfl
    have f10 : u6.frozen? ⟨b5, 10, none⟩ = false := frozen_of_row _ _ _ _ _ G5.out
    go_wp2_with fail
    refine (F9.out _ HB.out).mono ?_
    rintro e w' ⟨rfl, hq⟩
    subst w'
    go_upto_region 8 with fail
    have g5 := heap_setCell_same u6 b5 10 _ _ (I x9) G5.out
    simp only [List.setIfInBounds_toArray, List.set_cons_succ, List.set_cons_zero] at g5
    have g4 := (Below.heap_setCell u6 ⟨b5, 10, none⟩ (I x9) w.heap.size (by simp; omega)).trans G4.out
    have hb := Owned.below_write HB.out (g := b5) (i := 10) (by omega) (I x9)
    clear c10 f10 G4 G5 HB
    generalize World.setCell u6 ⟨b5, 10, none⟩ (I x9) = u7 at g4 g5 hb ⊢
    have G4 := Lib.hid g4
    have G5 := Lib.hid g5
    have HB := Lib.hid hb
    clear g4 g5 hb
    have c8 : u7.cell? ⟨b5, 8, none⟩ = some (I (1 + x8)) := by rw [cell_of_row _ _ _ _ _ _ G5.out]; rfl
    have c10 : u7.cell? ⟨b5, 10, none⟩ = some (I x9) := by rw [cell_of_row _ _ _ _ _ _ G5.out]; rfl
    have f10 : u7.frozen? ⟨b5, 10, none⟩ = false := frozen_of_row _ _ _ _ _ G5.out
    by_cases h9 : x9 > 3
    · have RC : Hid (recall x9 (1 + x8) = 0) := Lib.hid (by unfold recall; rw [if_pos (by omega)])
      have H9 := Lib.hid h9
      have q9 : ¬ (x9 ≤ 3) := by omega
      go_upto_region 10 with fail
      have g5 := heap_setCell_same u7 b5 10 _ _ (I 0) G5.out
      simp only [List.setIfInBounds_toArray, List.set_cons_succ, List.set_cons_zero] at g5
      have g4 := (Below.heap_setCell u7 ⟨b5, 10, none⟩ (I 0) w.heap.size (by simp; omega)).trans G4.out
      have hb := Owned.below_write HB.out (g := b5) (i := 10) (by omega) (I 0)
      clear c8 c10 f10 G4 G5 HB
      generalize World.setCell u7 ⟨b5, 10, none⟩ (I 0) = u8 at g4 g5 hb ⊢
      have G4 := Lib.hid g4
      have G5 := Lib.hid g5
      have HB := Lib.hid hb
      clear g4 g5 hb
      have c11 : u8.cell? ⟨b5, 11, none⟩ = some (.bool false) := by rw [cell_of_row _ _ _ _ _ _ G5.out]; rfl
      have f11 : u8.frozen? ⟨b5, 11, none⟩ = false := frozen_of_row _ _ _ _ _ G5.out
      go_wp2_with fail
      refine (Ft.out _ HB.out).mono ?_
      rintro e w' ⟨rfl, hq⟩
      subst w'
      go_upto_region 11 with fail
      have g5 := heap_setCell_same u8 b5 11 _ _ (.bool (decide (xt > 0))) G5.out
      simp only [List.setIfInBounds_toArray, List.set_cons_succ, List.set_cons_zero] at g5
      have g4 := (Below.heap_setCell u8 ⟨b5, 11, none⟩ (.bool (decide (xt > 0))) w.heap.size (by simp; omega)).trans G4.out
      have hb := Owned.below_write HB.out (g := b5) (i := 11) (by omega) (.bool (decide (xt > 0)))
      clear c11 f11 G4 G5 HB
      generalize World.setCell u8 ⟨b5, 11, none⟩ (.bool (decide (xt > 0))) = u9 at g4 g5 hb ⊢
      have G4 := Lib.hid g4
      have G5 := Lib.hid g5
      have HB := Lib.hid hb
      clear g4 g5 hb
      have c12 : u9.cell? ⟨b5, 12, none⟩ = some (.bool false) := by rw [cell_of_row _ _ _ _ _ _ G5.out]; rfl
      have f12 : u9.frozen? ⟨b5, 12, none⟩ = false := frozen_of_row _ _ _ _ _ G5.out
      go_wp2_with fail
      refine (Fe.out _ HB.out).mono ?_
      rintro e w' ⟨rfl, hq⟩
      subst w'
      go_upto_region 12 with fail
      have g5 := heap_setCell_same u9 b5 12 _ _ (.bool (decide (xe = 1))) G5.out
      simp only [List.setIfInBounds_toArray, List.set_cons_succ, List.set_cons_zero] at g5
      have g4 := (Below.heap_setCell u9 ⟨b5, 12, none⟩ (.bool (decide (xe = 1))) w.heap.size (by simp; omega)).trans G4.out
      have hb := Owned.below_write HB.out (g := b5) (i := 12) (by omega) (.bool (decide (xe = 1)))
      clear c12 f12 G4 G5 HB
      generalize World.setCell u9 ⟨b5, 12, none⟩ (.bool (decide (xe = 1))) = u10 at g4 g5 hb ⊢
      have G4 := Lib.hid g4
      have G5 := Lib.hid g5
      have HB := Lib.hid hb
      clear g4 g5 hb
      have FIN : Hid (R.cells.toArray = #[.bool true, I (1 + x0), I x1, I (1 + x0 + x5), I (1 + x0 + x5 + x6), I (1 + x2), I (10 + x3), I x4, I (1 + x8), I (1 + xb / 10), I 0, .bool (decide (xt > 0)), .bool (decide (xe = 1))]) := Lib.hid (by rw [RES.out]; simp only [Ph.cells, if_pos H7.out, RC.out])
      have LV : Hid (Lies u10 ⟨b5, 0, none⟩ #[.bool true, I (1 + x0), I x1, I (1 + x0 + x5), I (1 + x0 + x5 + x6), I (1 + x2), I (10 + x3), I x4, I (1 + x8), I (1 + xb / 10), I 0, .bool (decide (xt > 0)), .bool (decide (xe = 1))].toList) := Lib.hid (Row.lies_of_block G5.out)
      have HG := Lib.hid (below_setRow HB.out (g := w.heap.size) (Nat.le_refl _) #[.bool true, I (1 + x0), I x1, I (1 + x0 + x5), I (1 + x0 + x5 + x6), I (1 + x2), I (10 + x3), I x4, I (1 + x8), I (1 + xb / 10), I 0, .bool (decide (xt > 0)), .bool (decide (xe = 1))])
      have HK := Lib.hid (setRow_heap u10 w.heap.size _ #[.bool true, I (1 + x0), I x1, I (1 + x0 + x5), I (1 + x0 + x5 + x6), I (1 + x2), I (10 + x3), I x4, I (1 + x8), I (1 + xb / 10), I 0, .bool (decide (xt > 0)), .bool (decide (xe = 1))] _ _ G4.out)
      go_wp2_with (first | (refine Row.wpList_load_g 24 _ rfl (by first | rfl | go_simp) ⟨b5, 0, none⟩ rfl #[.bool true, I (1 + x0), I x1, I (1 + x0 + x5), I (1 + x0 + x5 + x6), I (1 + x2), I (10 + x3), I x4, I (1 + x8), I (1 + xb / 10), I 0, .bool (decide (xt > 0)), .bool (decide (xe = 1))].toList _ LV.out Try.underlying24 rfl infoP ?_) | (refine wpList_store_row rfl 24 _ _ rfl w.heap.size #[.bool true, I (1 + x0), I x1, I (1 + x0 + x5), I (1 + x0 + x5 + x6), I (1 + x2), I (10 + x3), I x4, I (1 + x8), I (1 + xb / 10), I 0, .bool (decide (xt > 0)), .bool (decide (xe = 1))] rfl rfl 24 _ G4.out infoP rfl (by simp [Value.oneCell']) ?_))
      generalize u10.setRow w.heap.size #[.bool true, I (1 + x0), I x1, I (1 + x0 + x5), I (1 + x0 + x5 + x6), I (1 + x2), I (10 + x3), I x4, I (1 + x8), I (1 + xb / 10), I 0, .bool (decide (xt > 0)), .bool (decide (xe = 1))] = uz at HG HK ⊢
      go_wp2_with fail
      (try simp only [Exit.inBlock, Exit.then])
      refine bodyPost_ret (v := .agg #[.bool true, I (1 + x0), I x1, I (1 + x0 + x5), I (1 + x0 + x5 + x6), I (1 + x2), I (10 + x3), I x4, I (1 + x8), I (1 + xb / 10), I 0, .bool (decide (xt > 0)), .bool (decide (xe = 1))]) ?_ rfl ⟨by rw [FIN.out], HG.out⟩
      exact results_cell_row rfl _ _ w.heap.size 24 _ (0, 0) _ rfl HK.out Try.underlying24 rfl infoP
    · have RC : Hid (recall x9 (1 + x8) = x9) := Lib.hid (by unfold recall; rw [if_neg (by omega)])
      have H9 := Lib.hid h9
      have q9 : x9 ≤ 3 := by omega
      have q8 : (1 + x8 == 0) = false := by rw [beq_eq_false_iff_ne]; omega
      have Q8 := Lib.hid (show ¬ (1 + x8 = 0) from by omega)
      by_cases h3 : x9 = 3
      · have e3 : (x9 == 3) = true := by simpa using h3
        clear h3 h9
        go_upto_region 10 with fail
        clear c8 c10 f10 e3 q8
        have c11 : u7.cell? ⟨b5, 11, none⟩ = some (.bool false) := by rw [cell_of_row _ _ _ _ _ _ G5.out]; rfl
        have f11 : u7.frozen? ⟨b5, 11, none⟩ = false := frozen_of_row _ _ _ _ _ G5.out
        go_wp2_with fail
        refine (Ft.out _ HB.out).mono ?_
        rintro e w' ⟨rfl, hq⟩
        subst w'
        go_upto_region 11 with fail
        have g5 := heap_setCell_same u7 b5 11 _ _ (.bool (decide (xt > 0))) G5.out
        simp only [List.setIfInBounds_toArray, List.set_cons_succ, List.set_cons_zero] at g5
        have g4 := (Below.heap_setCell u7 ⟨b5, 11, none⟩ (.bool (decide (xt > 0))) w.heap.size (by simp; omega)).trans G4.out
        have hb := Owned.below_write HB.out (g := b5) (i := 11) (by omega) (.bool (decide (xt > 0)))
        clear c11 f11 G4 G5 HB
        generalize World.setCell u7 ⟨b5, 11, none⟩ (.bool (decide (xt > 0))) = u8 at g4 g5 hb ⊢
        have G4 := Lib.hid g4
        have G5 := Lib.hid g5
        have HB := Lib.hid hb
        clear g4 g5 hb
        have c12 : u8.cell? ⟨b5, 12, none⟩ = some (.bool false) := by rw [cell_of_row _ _ _ _ _ _ G5.out]; rfl
        have f12 : u8.frozen? ⟨b5, 12, none⟩ = false := frozen_of_row _ _ _ _ _ G5.out
        go_wp2_with fail
        refine (Fe.out _ HB.out).mono ?_
        rintro e w' ⟨rfl, hq⟩
        subst w'
        go_upto_region 12 with fail
        have g5 := heap_setCell_same u8 b5 12 _ _ (.bool (decide (xe = 1))) G5.out
        simp only [List.setIfInBounds_toArray, List.set_cons_succ, List.set_cons_zero] at g5
        have g4 := (Below.heap_setCell u8 ⟨b5, 12, none⟩ (.bool (decide (xe = 1))) w.heap.size (by simp; omega)).trans G4.out
        have hb := Owned.below_write HB.out (g := b5) (i := 12) (by omega) (.bool (decide (xe = 1)))
        clear c12 f12 G4 G5 HB
        generalize World.setCell u8 ⟨b5, 12, none⟩ (.bool (decide (xe = 1))) = u9 at g4 g5 hb ⊢
        have G4 := Lib.hid g4
        have G5 := Lib.hid g5
        have HB := Lib.hid hb
        clear g4 g5 hb
        have FIN : Hid (R.cells.toArray = #[.bool true, I (1 + x0), I x1, I (1 + x0 + x5), I (1 + x0 + x5 + x6), I (1 + x2), I (10 + x3), I x4, I (1 + x8), I (1 + xb / 10), I x9, .bool (decide (xt > 0)), .bool (decide (xe = 1))]) := Lib.hid (by rw [RES.out]; simp only [Ph.cells, if_pos H7.out, RC.out])
        have LV : Hid (Lies u9 ⟨b5, 0, none⟩ #[.bool true, I (1 + x0), I x1, I (1 + x0 + x5), I (1 + x0 + x5 + x6), I (1 + x2), I (10 + x3), I x4, I (1 + x8), I (1 + xb / 10), I x9, .bool (decide (xt > 0)), .bool (decide (xe = 1))].toList) := Lib.hid (Row.lies_of_block G5.out)
        have HG := Lib.hid (below_setRow HB.out (g := w.heap.size) (Nat.le_refl _) #[.bool true, I (1 + x0), I x1, I (1 + x0 + x5), I (1 + x0 + x5 + x6), I (1 + x2), I (10 + x3), I x4, I (1 + x8), I (1 + xb / 10), I x9, .bool (decide (xt > 0)), .bool (decide (xe = 1))])
        have HK := Lib.hid (setRow_heap u9 w.heap.size _ #[.bool true, I (1 + x0), I x1, I (1 + x0 + x5), I (1 + x0 + x5 + x6), I (1 + x2), I (10 + x3), I x4, I (1 + x8), I (1 + xb / 10), I x9, .bool (decide (xt > 0)), .bool (decide (xe = 1))] _ _ G4.out)
        go_wp2_with (first | (refine Row.wpList_load_g 24 _ rfl (by first | rfl | go_simp) ⟨b5, 0, none⟩ rfl #[.bool true, I (1 + x0), I x1, I (1 + x0 + x5), I (1 + x0 + x5 + x6), I (1 + x2), I (10 + x3), I x4, I (1 + x8), I (1 + xb / 10), I x9, .bool (decide (xt > 0)), .bool (decide (xe = 1))].toList _ LV.out Try.underlying24 rfl infoP ?_) | (refine wpList_store_row rfl 24 _ _ rfl w.heap.size #[.bool true, I (1 + x0), I x1, I (1 + x0 + x5), I (1 + x0 + x5 + x6), I (1 + x2), I (10 + x3), I x4, I (1 + x8), I (1 + xb / 10), I x9, .bool (decide (xt > 0)), .bool (decide (xe = 1))] rfl rfl 24 _ G4.out infoP rfl (by simp [Value.oneCell']) ?_))
        generalize u9.setRow w.heap.size #[.bool true, I (1 + x0), I x1, I (1 + x0 + x5), I (1 + x0 + x5 + x6), I (1 + x2), I (10 + x3), I x4, I (1 + x8), I (1 + xb / 10), I x9, .bool (decide (xt > 0)), .bool (decide (xe = 1))] = uz at HG HK ⊢
        go_wp2_with fail
        (try simp only [Exit.inBlock, Exit.then])
        refine bodyPost_ret (v := .agg #[.bool true, I (1 + x0), I x1, I (1 + x0 + x5), I (1 + x0 + x5 + x6), I (1 + x2), I (10 + x3), I x4, I (1 + x8), I (1 + xb / 10), I x9, .bool (decide (xt > 0)), .bool (decide (xe = 1))]) ?_ rfl ⟨by rw [FIN.out], HG.out⟩
        exact results_cell_row rfl _ _ w.heap.size 24 _ (0, 0) _ rfl HK.out Try.underlying24 rfl infoP
      · have e3 : (x9 == 3) = false := by simpa using h3
        clear h3 h9
        go_upto_region 10 with fail
        clear c8 c10 f10 e3 q8
        have c11 : u7.cell? ⟨b5, 11, none⟩ = some (.bool false) := by rw [cell_of_row _ _ _ _ _ _ G5.out]; rfl
        have f11 : u7.frozen? ⟨b5, 11, none⟩ = false := frozen_of_row _ _ _ _ _ G5.out
        go_wp2_with fail
        refine (Ft.out _ HB.out).mono ?_
        rintro e w' ⟨rfl, hq⟩
        subst w'
        go_upto_region 11 with fail
        have g5 := heap_setCell_same u7 b5 11 _ _ (.bool (decide (xt > 0))) G5.out
        simp only [List.setIfInBounds_toArray, List.set_cons_succ, List.set_cons_zero] at g5
        have g4 := (Below.heap_setCell u7 ⟨b5, 11, none⟩ (.bool (decide (xt > 0))) w.heap.size (by simp; omega)).trans G4.out
        have hb := Owned.below_write HB.out (g := b5) (i := 11) (by omega) (.bool (decide (xt > 0)))
        clear c11 f11 G4 G5 HB
        generalize World.setCell u7 ⟨b5, 11, none⟩ (.bool (decide (xt > 0))) = u8 at g4 g5 hb ⊢
        have G4 := Lib.hid g4
        have G5 := Lib.hid g5
        have HB := Lib.hid hb
        clear g4 g5 hb
        have c12 : u8.cell? ⟨b5, 12, none⟩ = some (.bool false) := by rw [cell_of_row _ _ _ _ _ _ G5.out]; rfl
        have f12 : u8.frozen? ⟨b5, 12, none⟩ = false := frozen_of_row _ _ _ _ _ G5.out
        go_wp2_with fail
        refine (Fe.out _ HB.out).mono ?_
        rintro e w' ⟨rfl, hq⟩
        subst w'
        go_upto_region 12 with fail
        have g5 := heap_setCell_same u8 b5 12 _ _ (.bool (decide (xe = 1))) G5.out
        simp only [List.setIfInBounds_toArray, List.set_cons_succ, List.set_cons_zero] at g5
        have g4 := (Below.heap_setCell u8 ⟨b5, 12, none⟩ (.bool (decide (xe = 1))) w.heap.size (by simp; omega)).trans G4.out
        have hb := Owned.below_write HB.out (g := b5) (i := 12) (by omega) (.bool (decide (xe = 1)))
        clear c12 f12 G4 G5 HB
        generalize World.setCell u8 ⟨b5, 12, none⟩ (.bool (decide (xe = 1))) = u9 at g4 g5 hb ⊢
        have G4 := Lib.hid g4
        have G5 := Lib.hid g5
        have HB := Lib.hid hb
        clear g4 g5 hb
        have FIN : Hid (R.cells.toArray = #[.bool true, I (1 + x0), I x1, I (1 + x0 + x5), I (1 + x0 + x5 + x6), I (1 + x2), I (10 + x3), I x4, I (1 + x8), I (1 + xb / 10), I x9, .bool (decide (xt > 0)), .bool (decide (xe = 1))]) := Lib.hid (by rw [RES.out]; simp only [Ph.cells, if_pos H7.out, RC.out])
        have LV : Hid (Lies u9 ⟨b5, 0, none⟩ #[.bool true, I (1 + x0), I x1, I (1 + x0 + x5), I (1 + x0 + x5 + x6), I (1 + x2), I (10 + x3), I x4, I (1 + x8), I (1 + xb / 10), I x9, .bool (decide (xt > 0)), .bool (decide (xe = 1))].toList) := Lib.hid (Row.lies_of_block G5.out)
        have HG := Lib.hid (below_setRow HB.out (g := w.heap.size) (Nat.le_refl _) #[.bool true, I (1 + x0), I x1, I (1 + x0 + x5), I (1 + x0 + x5 + x6), I (1 + x2), I (10 + x3), I x4, I (1 + x8), I (1 + xb / 10), I x9, .bool (decide (xt > 0)), .bool (decide (xe = 1))])
        have HK := Lib.hid (setRow_heap u9 w.heap.size _ #[.bool true, I (1 + x0), I x1, I (1 + x0 + x5), I (1 + x0 + x5 + x6), I (1 + x2), I (10 + x3), I x4, I (1 + x8), I (1 + xb / 10), I x9, .bool (decide (xt > 0)), .bool (decide (xe = 1))] _ _ G4.out)
        go_wp2_with (first | (refine Row.wpList_load_g 24 _ rfl (by first | rfl | go_simp) ⟨b5, 0, none⟩ rfl #[.bool true, I (1 + x0), I x1, I (1 + x0 + x5), I (1 + x0 + x5 + x6), I (1 + x2), I (10 + x3), I x4, I (1 + x8), I (1 + xb / 10), I x9, .bool (decide (xt > 0)), .bool (decide (xe = 1))].toList _ LV.out Try.underlying24 rfl infoP ?_) | (refine wpList_store_row rfl 24 _ _ rfl w.heap.size #[.bool true, I (1 + x0), I x1, I (1 + x0 + x5), I (1 + x0 + x5 + x6), I (1 + x2), I (10 + x3), I x4, I (1 + x8), I (1 + xb / 10), I x9, .bool (decide (xt > 0)), .bool (decide (xe = 1))] rfl rfl 24 _ G4.out infoP rfl (by simp [Value.oneCell']) ?_))
        generalize u9.setRow w.heap.size #[.bool true, I (1 + x0), I x1, I (1 + x0 + x5), I (1 + x0 + x5 + x6), I (1 + x2), I (10 + x3), I x4, I (1 + x8), I (1 + xb / 10), I x9, .bool (decide (xt > 0)), .bool (decide (xe = 1))] = uz at HG HK ⊢
        go_wp2_with fail
        (try simp only [Exit.inBlock, Exit.then])
        refine bodyPost_ret (v := .agg #[.bool true, I (1 + x0), I x1, I (1 + x0 + x5), I (1 + x0 + x5 + x6), I (1 + x2), I (10 + x3), I x4, I (1 + x8), I (1 + xb / 10), I x9, .bool (decide (xt > 0)), .bool (decide (xe = 1))]) ?_ rfl ⟨by rw [FIN.out], HG.out⟩
        exact results_cell_row rfl _ _ w.heap.size 24 _ (0, 0) _ rfl HK.out Try.underlying24 rfl infoP
  · have H7 := Lib.hid h7
    have e7 : (x7 == 1) = false := by simpa using h7
    clear h7
    go_upto_region 7 with fail
    have c10 : u4.cell? ⟨b5, 10, none⟩ = some (I 0) := by rw [cell_of_row _ _ _ _ _ _ G5.out]; rfl
    have f10 : u4.frozen? ⟨b5, 10, none⟩ = false := frozen_of_row _ _ _ _ _ G5.out
    go_wp2_with fail
    refine (F9.out _ HB.out).mono ?_
    rintro e w' ⟨rfl, hq⟩
    subst w'
    go_upto_region 8 with fail
    have g5 := heap_setCell_same u4 b5 10 _ _ (I x9) G5.out
    simp only [List.setIfInBounds_toArray, List.set_cons_succ, List.set_cons_zero] at g5
    have g4 := (Below.heap_setCell u4 ⟨b5, 10, none⟩ (I x9) w.heap.size (by simp; omega)).trans G4.out
    have hb := Owned.below_write HB.out (g := b5) (i := 10) (by omega) (I x9)
    clear c10 f10 G4 G5 HB
    generalize World.setCell u4 ⟨b5, 10, none⟩ (I x9) = u5 at g4 g5 hb ⊢
    have G4 := Lib.hid g4
    have G5 := Lib.hid g5
    have HB := Lib.hid hb
    clear g4 g5 hb
    have c8 : u5.cell? ⟨b5, 8, none⟩ = some (I 0) := by rw [cell_of_row _ _ _ _ _ _ G5.out]; rfl
    have c10 : u5.cell? ⟨b5, 10, none⟩ = some (I x9) := by rw [cell_of_row _ _ _ _ _ _ G5.out]; rfl
    have f10 : u5.frozen? ⟨b5, 10, none⟩ = false := frozen_of_row _ _ _ _ _ G5.out
    by_cases h9 : x9 > 3
    · have RC : Hid (recall x9 (0) = 0) := Lib.hid (by unfold recall; rw [if_pos (by omega)])
      have H9 := Lib.hid h9
      have q9 : ¬ (x9 ≤ 3) := by omega
      go_upto_region 10 with fail
      have g5 := heap_setCell_same u5 b5 10 _ _ (I 0) G5.out
      simp only [List.setIfInBounds_toArray, List.set_cons_succ, List.set_cons_zero] at g5
      have g4 := (Below.heap_setCell u5 ⟨b5, 10, none⟩ (I 0) w.heap.size (by simp; omega)).trans G4.out
      have hb := Owned.below_write HB.out (g := b5) (i := 10) (by omega) (I 0)
      clear c8 c10 f10 G4 G5 HB
      generalize World.setCell u5 ⟨b5, 10, none⟩ (I 0) = u6 at g4 g5 hb ⊢
      have G4 := Lib.hid g4
      have G5 := Lib.hid g5
      have HB := Lib.hid hb
      clear g4 g5 hb
      have c11 : u6.cell? ⟨b5, 11, none⟩ = some (.bool false) := by rw [cell_of_row _ _ _ _ _ _ G5.out]; rfl
      have f11 : u6.frozen? ⟨b5, 11, none⟩ = false := frozen_of_row _ _ _ _ _ G5.out
      go_wp2_with fail
      refine (Ft.out _ HB.out).mono ?_
      rintro e w' ⟨rfl, hq⟩
      subst w'
      go_upto_region 11 with fail
      have g5 := heap_setCell_same u6 b5 11 _ _ (.bool (decide (xt > 0))) G5.out
      simp only [List.setIfInBounds_toArray, List.set_cons_succ, List.set_cons_zero] at g5
      have g4 := (Below.heap_setCell u6 ⟨b5, 11, none⟩ (.bool (decide (xt > 0))) w.heap.size (by simp; omega)).trans G4.out
      have hb := Owned.below_write HB.out (g := b5) (i := 11) (by omega) (.bool (decide (xt > 0)))
      clear c11 f11 G4 G5 HB
      generalize World.setCell u6 ⟨b5, 11, none⟩ (.bool (decide (xt > 0))) = u7 at g4 g5 hb ⊢
      have G4 := Lib.hid g4
      have G5 := Lib.hid g5
      have HB := Lib.hid hb
      clear g4 g5 hb
      have c12 : u7.cell? ⟨b5, 12, none⟩ = some (.bool false) := by rw [cell_of_row _ _ _ _ _ _ G5.out]; rfl
      have f12 : u7.frozen? ⟨b5, 12, none⟩ = false := frozen_of_row _ _ _ _ _ G5.out
      go_wp2_with fail
      refine (Fe.out _ HB.out).mono ?_
      rintro e w' ⟨rfl, hq⟩
      subst w'
      go_upto_region 12 with fail
      have g5 := heap_setCell_same u7 b5 12 _ _ (.bool (decide (xe = 1))) G5.out
      simp only [List.setIfInBounds_toArray, List.set_cons_succ, List.set_cons_zero] at g5
      have g4 := (Below.heap_setCell u7 ⟨b5, 12, none⟩ (.bool (decide (xe = 1))) w.heap.size (by simp; omega)).trans G4.out
      have hb := Owned.below_write HB.out (g := b5) (i := 12) (by omega) (.bool (decide (xe = 1)))
      clear c12 f12 G4 G5 HB
      generalize World.setCell u7 ⟨b5, 12, none⟩ (.bool (decide (xe = 1))) = u8 at g4 g5 hb ⊢
      have G4 := Lib.hid g4
      have G5 := Lib.hid g5
      have HB := Lib.hid hb
      clear g4 g5 hb
      have FIN : Hid (R.cells.toArray = #[.bool true, I (1 + x0), I x1, I (1 + x0 + x5), I (1 + x0 + x5 + x6), I (1 + x2), I (10 + x3), I x4, I 0, I 0, I 0, .bool (decide (xt > 0)), .bool (decide (xe = 1))]) := Lib.hid (by rw [RES.out]; simp only [Ph.cells, if_neg H7.out, RC.out])
      have LV : Hid (Lies u8 ⟨b5, 0, none⟩ #[.bool true, I (1 + x0), I x1, I (1 + x0 + x5), I (1 + x0 + x5 + x6), I (1 + x2), I (10 + x3), I x4, I 0, I 0, I 0, .bool (decide (xt > 0)), .bool (decide (xe = 1))].toList) := Lib.hid (Row.lies_of_block G5.out)
      have HG := Lib.hid (below_setRow HB.out (g := w.heap.size) (Nat.le_refl _) #[.bool true, I (1 + x0), I x1, I (1 + x0 + x5), I (1 + x0 + x5 + x6), I (1 + x2), I (10 + x3), I x4, I 0, I 0, I 0, .bool (decide (xt > 0)), .bool (decide (xe = 1))])
      have HK := Lib.hid (setRow_heap u8 w.heap.size _ #[.bool true, I (1 + x0), I x1, I (1 + x0 + x5), I (1 + x0 + x5 + x6), I (1 + x2), I (10 + x3), I x4, I 0, I 0, I 0, .bool (decide (xt > 0)), .bool (decide (xe = 1))] _ _ G4.out)
      go_wp2_with (first | (refine Row.wpList_load_g 24 _ rfl (by first | rfl | go_simp) ⟨b5, 0, none⟩ rfl #[.bool true, I (1 + x0), I x1, I (1 + x0 + x5), I (1 + x0 + x5 + x6), I (1 + x2), I (10 + x3), I x4, I 0, I 0, I 0, .bool (decide (xt > 0)), .bool (decide (xe = 1))].toList _ LV.out Try.underlying24 rfl infoP ?_) | (refine wpList_store_row rfl 24 _ _ rfl w.heap.size #[.bool true, I (1 + x0), I x1, I (1 + x0 + x5), I (1 + x0 + x5 + x6), I (1 + x2), I (10 + x3), I x4, I 0, I 0, I 0, .bool (decide (xt > 0)), .bool (decide (xe = 1))] rfl rfl 24 _ G4.out infoP rfl (by simp [Value.oneCell']) ?_))
      generalize u8.setRow w.heap.size #[.bool true, I (1 + x0), I x1, I (1 + x0 + x5), I (1 + x0 + x5 + x6), I (1 + x2), I (10 + x3), I x4, I 0, I 0, I 0, .bool (decide (xt > 0)), .bool (decide (xe = 1))] = uz at HG HK ⊢
      go_wp2_with fail
      (try simp only [Exit.inBlock, Exit.then])
      refine bodyPost_ret (v := .agg #[.bool true, I (1 + x0), I x1, I (1 + x0 + x5), I (1 + x0 + x5 + x6), I (1 + x2), I (10 + x3), I x4, I 0, I 0, I 0, .bool (decide (xt > 0)), .bool (decide (xe = 1))]) ?_ rfl ⟨by rw [FIN.out], HG.out⟩
      exact results_cell_row rfl _ _ w.heap.size 24 _ (0, 0) _ rfl HK.out Try.underlying24 rfl infoP
    · have H9 := Lib.hid h9
      have q9 : x9 ≤ 3 := by omega
      by_cases h3 : x9 = 3
      · have RC : Hid (recall x9 (0) = 0) := Lib.hid (by unfold recall; rw [if_pos (by omega)])
        have H3 := Lib.hid h3
        have e3 : (x9 == 3) = true := by simpa using h3
        clear h3 h9
        go_upto_region 10 with fail
        have g5 := heap_setCell_same u5 b5 10 _ _ (I 0) G5.out
        simp only [List.setIfInBounds_toArray, List.set_cons_succ, List.set_cons_zero] at g5
        have g4 := (Below.heap_setCell u5 ⟨b5, 10, none⟩ (I 0) w.heap.size (by simp; omega)).trans G4.out
        have hb := Owned.below_write HB.out (g := b5) (i := 10) (by omega) (I 0)
        clear c8 c10 f10 G4 G5 HB
        generalize World.setCell u5 ⟨b5, 10, none⟩ (I 0) = u6 at g4 g5 hb ⊢
        have G4 := Lib.hid g4
        have G5 := Lib.hid g5
        have HB := Lib.hid hb
        clear g4 g5 hb
        clear e3
        have c11 : u6.cell? ⟨b5, 11, none⟩ = some (.bool false) := by rw [cell_of_row _ _ _ _ _ _ G5.out]; rfl
        have f11 : u6.frozen? ⟨b5, 11, none⟩ = false := frozen_of_row _ _ _ _ _ G5.out
        go_wp2_with fail
        refine (Ft.out _ HB.out).mono ?_
        rintro e w' ⟨rfl, hq⟩
        subst w'
        go_upto_region 11 with fail
        have g5 := heap_setCell_same u6 b5 11 _ _ (.bool (decide (xt > 0))) G5.out
        simp only [List.setIfInBounds_toArray, List.set_cons_succ, List.set_cons_zero] at g5
        have g4 := (Below.heap_setCell u6 ⟨b5, 11, none⟩ (.bool (decide (xt > 0))) w.heap.size (by simp; omega)).trans G4.out
        have hb := Owned.below_write HB.out (g := b5) (i := 11) (by omega) (.bool (decide (xt > 0)))
        clear c11 f11 G4 G5 HB
        generalize World.setCell u6 ⟨b5, 11, none⟩ (.bool (decide (xt > 0))) = u7 at g4 g5 hb ⊢
        have G4 := Lib.hid g4
        have G5 := Lib.hid g5
        have HB := Lib.hid hb
        clear g4 g5 hb
        have c12 : u7.cell? ⟨b5, 12, none⟩ = some (.bool false) := by rw [cell_of_row _ _ _ _ _ _ G5.out]; rfl
        have f12 : u7.frozen? ⟨b5, 12, none⟩ = false := frozen_of_row _ _ _ _ _ G5.out
        go_wp2_with fail
        refine (Fe.out _ HB.out).mono ?_
        rintro e w' ⟨rfl, hq⟩
        subst w'
        go_upto_region 12 with fail
        have g5 := heap_setCell_same u7 b5 12 _ _ (.bool (decide (xe = 1))) G5.out
        simp only [List.setIfInBounds_toArray, List.set_cons_succ, List.set_cons_zero] at g5
        have g4 := (Below.heap_setCell u7 ⟨b5, 12, none⟩ (.bool (decide (xe = 1))) w.heap.size (by simp; omega)).trans G4.out
        have hb := Owned.below_write HB.out (g := b5) (i := 12) (by omega) (.bool (decide (xe = 1)))
        clear c12 f12 G4 G5 HB
        generalize World.setCell u7 ⟨b5, 12, none⟩ (.bool (decide (xe = 1))) = u8 at g4 g5 hb ⊢
        have G4 := Lib.hid g4
        have G5 := Lib.hid g5
        have HB := Lib.hid hb
        clear g4 g5 hb
        have FIN : Hid (R.cells.toArray = #[.bool true, I (1 + x0), I x1, I (1 + x0 + x5), I (1 + x0 + x5 + x6), I (1 + x2), I (10 + x3), I x4, I 0, I 0, I 0, .bool (decide (xt > 0)), .bool (decide (xe = 1))]) := Lib.hid (by rw [RES.out]; simp only [Ph.cells, if_neg H7.out, RC.out])
        have LV : Hid (Lies u8 ⟨b5, 0, none⟩ #[.bool true, I (1 + x0), I x1, I (1 + x0 + x5), I (1 + x0 + x5 + x6), I (1 + x2), I (10 + x3), I x4, I 0, I 0, I 0, .bool (decide (xt > 0)), .bool (decide (xe = 1))].toList) := Lib.hid (Row.lies_of_block G5.out)
        have HG := Lib.hid (below_setRow HB.out (g := w.heap.size) (Nat.le_refl _) #[.bool true, I (1 + x0), I x1, I (1 + x0 + x5), I (1 + x0 + x5 + x6), I (1 + x2), I (10 + x3), I x4, I 0, I 0, I 0, .bool (decide (xt > 0)), .bool (decide (xe = 1))])
        have HK := Lib.hid (setRow_heap u8 w.heap.size _ #[.bool true, I (1 + x0), I x1, I (1 + x0 + x5), I (1 + x0 + x5 + x6), I (1 + x2), I (10 + x3), I x4, I 0, I 0, I 0, .bool (decide (xt > 0)), .bool (decide (xe = 1))] _ _ G4.out)
        go_wp2_with (first | (refine Row.wpList_load_g 24 _ rfl (by first | rfl | go_simp) ⟨b5, 0, none⟩ rfl #[.bool true, I (1 + x0), I x1, I (1 + x0 + x5), I (1 + x0 + x5 + x6), I (1 + x2), I (10 + x3), I x4, I 0, I 0, I 0, .bool (decide (xt > 0)), .bool (decide (xe = 1))].toList _ LV.out Try.underlying24 rfl infoP ?_) | (refine wpList_store_row rfl 24 _ _ rfl w.heap.size #[.bool true, I (1 + x0), I x1, I (1 + x0 + x5), I (1 + x0 + x5 + x6), I (1 + x2), I (10 + x3), I x4, I 0, I 0, I 0, .bool (decide (xt > 0)), .bool (decide (xe = 1))] rfl rfl 24 _ G4.out infoP rfl (by simp [Value.oneCell']) ?_))
        generalize u8.setRow w.heap.size #[.bool true, I (1 + x0), I x1, I (1 + x0 + x5), I (1 + x0 + x5 + x6), I (1 + x2), I (10 + x3), I x4, I 0, I 0, I 0, .bool (decide (xt > 0)), .bool (decide (xe = 1))] = uz at HG HK ⊢
        go_wp2_with fail
        (try simp only [Exit.inBlock, Exit.then])
        refine bodyPost_ret (v := .agg #[.bool true, I (1 + x0), I x1, I (1 + x0 + x5), I (1 + x0 + x5 + x6), I (1 + x2), I (10 + x3), I x4, I 0, I 0, I 0, .bool (decide (xt > 0)), .bool (decide (xe = 1))]) ?_ rfl ⟨by rw [FIN.out], HG.out⟩
        exact results_cell_row rfl _ _ w.heap.size 24 _ (0, 0) _ rfl HK.out Try.underlying24 rfl infoP
      · have RC : Hid (recall x9 (0) = x9) := Lib.hid (by unfold recall; rw [if_neg (by omega)])
        have H3 := Lib.hid h3
        have e3 : (x9 == 3) = false := by simpa using h3
        clear h3 h9
        go_upto_region 10 with fail
        clear c8 c10 f10 e3
        have c11 : u5.cell? ⟨b5, 11, none⟩ = some (.bool false) := by rw [cell_of_row _ _ _ _ _ _ G5.out]; rfl
        have f11 : u5.frozen? ⟨b5, 11, none⟩ = false := frozen_of_row _ _ _ _ _ G5.out
        go_wp2_with fail
        refine (Ft.out _ HB.out).mono ?_
        rintro e w' ⟨rfl, hq⟩
        subst w'
        go_upto_region 11 with fail
        have g5 := heap_setCell_same u5 b5 11 _ _ (.bool (decide (xt > 0))) G5.out
        simp only [List.setIfInBounds_toArray, List.set_cons_succ, List.set_cons_zero] at g5
        have g4 := (Below.heap_setCell u5 ⟨b5, 11, none⟩ (.bool (decide (xt > 0))) w.heap.size (by simp; omega)).trans G4.out
        have hb := Owned.below_write HB.out (g := b5) (i := 11) (by omega) (.bool (decide (xt > 0)))
        clear c11 f11 G4 G5 HB
        generalize World.setCell u5 ⟨b5, 11, none⟩ (.bool (decide (xt > 0))) = u6 at g4 g5 hb ⊢
        have G4 := Lib.hid g4
        have G5 := Lib.hid g5
        have HB := Lib.hid hb
        clear g4 g5 hb
        have c12 : u6.cell? ⟨b5, 12, none⟩ = some (.bool false) := by rw [cell_of_row _ _ _ _ _ _ G5.out]; rfl
        have f12 : u6.frozen? ⟨b5, 12, none⟩ = false := frozen_of_row _ _ _ _ _ G5.out
        go_wp2_with fail
        refine (Fe.out _ HB.out).mono ?_
        rintro e w' ⟨rfl, hq⟩
        subst w'
        go_upto_region 12 with fail
        have g5 := heap_setCell_same u6 b5 12 _ _ (.bool (decide (xe = 1))) G5.out
        simp only [List.setIfInBounds_toArray, List.set_cons_succ, List.set_cons_zero] at g5
        have g4 := (Below.heap_setCell u6 ⟨b5, 12, none⟩ (.bool (decide (xe = 1))) w.heap.size (by simp; omega)).trans G4.out
        have hb := Owned.below_write HB.out (g := b5) (i := 12) (by omega) (.bool (decide (xe = 1)))
        clear c12 f12 G4 G5 HB
        generalize World.setCell u6 ⟨b5, 12, none⟩ (.bool (decide (xe = 1))) = u7 at g4 g5 hb ⊢
        have G4 := Lib.hid g4
        have G5 := Lib.hid g5
        have HB := Lib.hid hb
        clear g4 g5 hb
        have FIN : Hid (R.cells.toArray = #[.bool true, I (1 + x0), I x1, I (1 + x0 + x5), I (1 + x0 + x5 + x6), I (1 + x2), I (10 + x3), I x4, I 0, I 0, I x9, .bool (decide (xt > 0)), .bool (decide (xe = 1))]) := Lib.hid (by rw [RES.out]; simp only [Ph.cells, if_neg H7.out, RC.out])
        have LV : Hid (Lies u7 ⟨b5, 0, none⟩ #[.bool true, I (1 + x0), I x1, I (1 + x0 + x5), I (1 + x0 + x5 + x6), I (1 + x2), I (10 + x3), I x4, I 0, I 0, I x9, .bool (decide (xt > 0)), .bool (decide (xe = 1))].toList) := Lib.hid (Row.lies_of_block G5.out)
        have HG := Lib.hid (below_setRow HB.out (g := w.heap.size) (Nat.le_refl _) #[.bool true, I (1 + x0), I x1, I (1 + x0 + x5), I (1 + x0 + x5 + x6), I (1 + x2), I (10 + x3), I x4, I 0, I 0, I x9, .bool (decide (xt > 0)), .bool (decide (xe = 1))])
        have HK := Lib.hid (setRow_heap u7 w.heap.size _ #[.bool true, I (1 + x0), I x1, I (1 + x0 + x5), I (1 + x0 + x5 + x6), I (1 + x2), I (10 + x3), I x4, I 0, I 0, I x9, .bool (decide (xt > 0)), .bool (decide (xe = 1))] _ _ G4.out)
        go_wp2_with (first | (refine Row.wpList_load_g 24 _ rfl (by first | rfl | go_simp) ⟨b5, 0, none⟩ rfl #[.bool true, I (1 + x0), I x1, I (1 + x0 + x5), I (1 + x0 + x5 + x6), I (1 + x2), I (10 + x3), I x4, I 0, I 0, I x9, .bool (decide (xt > 0)), .bool (decide (xe = 1))].toList _ LV.out Try.underlying24 rfl infoP ?_) | (refine wpList_store_row rfl 24 _ _ rfl w.heap.size #[.bool true, I (1 + x0), I x1, I (1 + x0 + x5), I (1 + x0 + x5 + x6), I (1 + x2), I (10 + x3), I x4, I 0, I 0, I x9, .bool (decide (xt > 0)), .bool (decide (xe = 1))] rfl rfl 24 _ G4.out infoP rfl (by simp [Value.oneCell']) ?_))
        generalize u7.setRow w.heap.size #[.bool true, I (1 + x0), I x1, I (1 + x0 + x5), I (1 + x0 + x5 + x6), I (1 + x2), I (10 + x3), I x4, I 0, I 0, I x9, .bool (decide (xt > 0)), .bool (decide (xe = 1))] = uz at HG HK ⊢
        go_wp2_with fail
        (try simp only [Exit.inBlock, Exit.then])
        refine bodyPost_ret (v := .agg #[.bool true, I (1 + x0), I x1, I (1 + x0 + x5), I (1 + x0 + x5 + x6), I (1 + x2), I (10 + x3), I x4, I 0, I 0, I x9, .bool (decide (xt > 0)), .bool (decide (xe = 1))]) ?_ rfl ⟨by rw [FIN.out], HG.out⟩
        exact results_cell_row rfl _ _ w.heap.size 24 _ (0, 0) _ rfl HK.out Try.underlying24 rfl infoP
end GenP
namespace GenD
open Go.ChangeShapes Go.WideShapes Go.ChangeAt Go.RowKit
open Tab Clone RefS
open May (infoD)
open Same (below_setRow)
theorem run_store_float {P : Program} {w : World} {a : Addr} {u : Value} {k : FloatKind} {v : Nat} (h : w.cell? a = some u) (hf : w.frozen? a = false) : Sem.run P (store a (.float k v)) w = .ok () (w.setCell a (.float k v)) := by
  rw [run_store P w a _ _ rfl]
  simp [stored, h, hf]
theorem infoDz : (Try.prog.info? 73).map (fun i => (i.zero, i.size)) = some (some (.agg #[I 0, F 0, F 0, F 0, F 0, I 0, I 0]), 7) := by kernel_rfl
def onTab (x : Int) : Nat := [4617315517961601024, 4621819117588971520, 4607182418800017408, 4602678819172646912].getD x.toNat 0
def facTab (x : Int) : Nat := [4602678819172646912, 4607182418800017408, 4598175219545276416].getD x.toNat 0
theorem idx4_0 (w : World) : Sem.run Try.prog (Instr.index 112 (.agg #[F 4617315517961601024, F 4621819117588971520, F 4607182418800017408, F 4602678819172646912]) (.int .i64 0)) w = .ok (F (onTab 0)) w := by kernel_rfl
theorem idx4_1 (w : World) : Sem.run Try.prog (Instr.index 112 (.agg #[F 4617315517961601024, F 4621819117588971520, F 4607182418800017408, F 4602678819172646912]) (.int .i64 1)) w = .ok (F (onTab 1)) w := by kernel_rfl
theorem idx4_2 (w : World) : Sem.run Try.prog (Instr.index 112 (.agg #[F 4617315517961601024, F 4621819117588971520, F 4607182418800017408, F 4602678819172646912]) (.int .i64 2)) w = .ok (F (onTab 2)) w := by kernel_rfl
theorem idx4_3 (w : World) : Sem.run Try.prog (Instr.index 112 (.agg #[F 4617315517961601024, F 4621819117588971520, F 4607182418800017408, F 4602678819172646912]) (.int .i64 3)) w = .ok (F (onTab 3)) w := by kernel_rfl
theorem idx4 (x : Int) (h0 : 0 ≤ x) (h1 : x < 4) (w : World) : Sem.run Try.prog (Instr.index 112 (.agg #[F 4617315517961601024, F 4621819117588971520, F 4607182418800017408, F 4602678819172646912]) (.int .i64 x)) w = .ok (F (onTab x)) w := by
  have : x = 0 ∨ x = 1 ∨ x = 2 ∨ x = 3 := by omega
  rcases this with rfl | rfl | rfl | rfl
  · exact idx4_0 w
  · exact idx4_1 w
  · exact idx4_2 w
  · exact idx4_3 w
theorem idx3_0 (w : World) : Sem.run Try.prog (Instr.index 113 (.agg #[F 4602678819172646912, F 4607182418800017408, F 4598175219545276416]) (.int .i64 0)) w = .ok (F (facTab 0)) w := by kernel_rfl
theorem idx3_1 (w : World) : Sem.run Try.prog (Instr.index 113 (.agg #[F 4602678819172646912, F 4607182418800017408, F 4598175219545276416]) (.int .i64 1)) w = .ok (F (facTab 1)) w := by kernel_rfl
theorem idx3_2 (w : World) : Sem.run Try.prog (Instr.index 113 (.agg #[F 4602678819172646912, F 4607182418800017408, F 4598175219545276416]) (.int .i64 2)) w = .ok (F (facTab 2)) w := by kernel_rfl
theorem idx3 (x : Int) (h0 : 0 ≤ x) (h1 : x < 3) (w : World) : Sem.run Try.prog (Instr.index 113 (.agg #[F 4602678819172646912, F 4607182418800017408, F 4598175219545276416]) (.int .i64 x)) w = .ok (F (facTab x)) w := by
  have : x = 0 ∨ x = 1 ∨ x = 2 := by omega
  rcases this with rfl | rfl | rfl
  · exact idx3_0 w
  · exact idx3_1 w
  · exact idx3_2 w
def mulTab (x y : Int) : Nat := (floatBits .mul .f64 (onTab x) (facTab y)).getD 0
theorem mul_ok (x y : Int) (h0 : 0 ≤ x) (h1 : x < 4) (k0 : 0 ≤ y) (k1 : y < 3) (t : TypeId) (w : World) : (binOp .mul t (F (onTab x)) (F (facTab y))).run Try.prog w = .ok (F (mulTab x y)) w := by
  refine run_float_arith w .mul t .f64 _ _ _ ?_
  have h : ∀ a : Nat, a < 4 → ∀ b : Nat, b < 3 → floatBits .mul .f64 (onTab a) (facTab b) = some (mulTab a b) := by decide +kernel
  have := h x.toNat (by omega) y.toNat (by omega)
  rwa [Int.toNat_of_nonneg h0, Int.toNat_of_nonneg k0] at this
/-- A detector by eight numbers. -/
def genDet (L : List Int) (i n : Int) : Det :=
  ⟨num L i n, onTab (num L (i + 1) 4), mulTab (num L (i + 1) 4) (num L (i + 2) 3), Fl.ofB (num L (i + 3) 4).toNat, Fl.ofB (num L (i + 4) 6).toNat,
    if num L (i + 5) 3 = 1 then 20 + num L (i + 6) 60 else 0, if num L (i + 5) 9 = 2 then 60 + num L (i + 7) 300 else 0⟩
theorem detector_any (a : Option Addr) (cap : Nat) (L : List Int) (i n : Int) (w : World) (h : IntRow w ⟨a, cap⟩ L) (h0 : 0 ≤ i) (h1 : i ≤ 100000) (n0 : 0 < n) (n8 : n ≤ 8) :
    Calls Try.prog 28 #[.slice a L.length cap, .int .i64 i, .int .i64 n] w fun e w' => e = .returned (.agg (genDet L i n).cells.toArray) ∧ Below w.heap.size w w' := by
  obtain ⟨x0, hx0, ⟨r0, s0⟩, F0⟩ : ∃ x : Int, x = num L i n ∧ (0 ≤ x ∧ x < n) ∧ Hid (∀ W, Below w.heap.size w W → Calls Try.prog 27 #[.slice a L.length cap, .int .i64 i, .int .i64 n] W fun e w' => e = .returned (.int .i64 x) ∧ w' = W) := ⟨_, rfl, num_range _ _ _ (by omega), Lib.hid (fun W hb => (from_any a cap L _ _ W (h.below hb) (by omega) (by omega) (by omega)).mono fun _ _ ⟨e, q⟩ => ⟨e, q.symm⟩)⟩
  obtain ⟨x1, hx1, ⟨r1, s1⟩, F1⟩ : ∃ x : Int, x = num L (i + 1) 4 ∧ (0 ≤ x ∧ x < 4) ∧ Hid (∀ W, Below w.heap.size w W → Calls Try.prog 27 #[.slice a L.length cap, .int .i64 (i + 1), .int .i64 4] W fun e w' => e = .returned (.int .i64 x) ∧ w' = W) := ⟨_, rfl, num_range _ _ _ (by omega), Lib.hid (fun W hb => (from_any a cap L _ _ W (h.below hb) (by omega) (by omega) (by omega)).mono fun _ _ ⟨e, q⟩ => ⟨e, q.symm⟩)⟩
  obtain ⟨x2, hx2, ⟨r2, s2⟩, F2⟩ : ∃ x : Int, x = num L (i + 2) 3 ∧ (0 ≤ x ∧ x < 3) ∧ Hid (∀ W, Below w.heap.size w W → Calls Try.prog 27 #[.slice a L.length cap, .int .i64 (i + 2), .int .i64 3] W fun e w' => e = .returned (.int .i64 x) ∧ w' = W) := ⟨_, rfl, num_range _ _ _ (by omega), Lib.hid (fun W hb => (from_any a cap L _ _ W (h.below hb) (by omega) (by omega) (by omega)).mono fun _ _ ⟨e, q⟩ => ⟨e, q.symm⟩)⟩
  obtain ⟨x3, hx3, ⟨r3, s3⟩, F3⟩ : ∃ x : Int, x = num L (i + 3) 4 ∧ (0 ≤ x ∧ x < 4) ∧ Hid (∀ W, Below w.heap.size w W → Calls Try.prog 27 #[.slice a L.length cap, .int .i64 (i + 3), .int .i64 4] W fun e w' => e = .returned (.int .i64 x) ∧ w' = W) := ⟨_, rfl, num_range _ _ _ (by omega), Lib.hid (fun W hb => (from_any a cap L _ _ W (h.below hb) (by omega) (by omega) (by omega)).mono fun _ _ ⟨e, q⟩ => ⟨e, q.symm⟩)⟩
  obtain ⟨x4, hx4, ⟨r4, s4⟩, F4⟩ : ∃ x : Int, x = num L (i + 4) 6 ∧ (0 ≤ x ∧ x < 6) ∧ Hid (∀ W, Below w.heap.size w W → Calls Try.prog 27 #[.slice a L.length cap, .int .i64 (i + 4), .int .i64 6] W fun e w' => e = .returned (.int .i64 x) ∧ w' = W) := ⟨_, rfl, num_range _ _ _ (by omega), Lib.hid (fun W hb => (from_any a cap L _ _ W (h.below hb) (by omega) (by omega) (by omega)).mono fun _ _ ⟨e, q⟩ => ⟨e, q.symm⟩)⟩
  obtain ⟨x5, hx5, ⟨r5, s5⟩, F5⟩ : ∃ x : Int, x = num L (i + 5) 3 ∧ (0 ≤ x ∧ x < 3) ∧ Hid (∀ W, Below w.heap.size w W → Calls Try.prog 27 #[.slice a L.length cap, .int .i64 (i + 5), .int .i64 3] W fun e w' => e = .returned (.int .i64 x) ∧ w' = W) := ⟨_, rfl, num_range _ _ _ (by omega), Lib.hid (fun W hb => (from_any a cap L _ _ W (h.below hb) (by omega) (by omega) (by omega)).mono fun _ _ ⟨e, q⟩ => ⟨e, q.symm⟩)⟩
  obtain ⟨x6, hx6, ⟨r6, s6⟩, F6⟩ : ∃ x : Int, x = num L (i + 6) 60 ∧ (0 ≤ x ∧ x < 60) ∧ Hid (∀ W, Below w.heap.size w W → Calls Try.prog 27 #[.slice a L.length cap, .int .i64 (i + 6), .int .i64 60] W fun e w' => e = .returned (.int .i64 x) ∧ w' = W) := ⟨_, rfl, num_range _ _ _ (by omega), Lib.hid (fun W hb => (from_any a cap L _ _ W (h.below hb) (by omega) (by omega) (by omega)).mono fun _ _ ⟨e, q⟩ => ⟨e, q.symm⟩)⟩
  obtain ⟨xz, hxz, ⟨rz, sz⟩, Fz⟩ : ∃ x : Int, x = num L (i + 5) 9 ∧ (0 ≤ x ∧ x < 9) ∧ Hid (∀ W, Below w.heap.size w W → Calls Try.prog 27 #[.slice a L.length cap, .int .i64 (i + 5), .int .i64 9] W fun e w' => e = .returned (.int .i64 x) ∧ w' = W) := ⟨_, rfl, num_range _ _ _ (by omega), Lib.hid (fun W hb => (from_any a cap L _ _ W (h.below hb) (by omega) (by omega) (by omega)).mono fun _ _ ⟨e, q⟩ => ⟨e, q.symm⟩)⟩
  obtain ⟨x7, hx7, ⟨r7, s7⟩, F7⟩ : ∃ x : Int, x = num L (i + 7) 300 ∧ (0 ≤ x ∧ x < 300) ∧ Hid (∀ W, Below w.heap.size w W → Calls Try.prog 27 #[.slice a L.length cap, .int .i64 (i + 7), .int .i64 300] W fun e w' => e = .returned (.int .i64 x) ∧ w' = W) := ⟨_, rfl, num_range _ _ _ (by omega), Lib.hid (fun W hb => (from_any a cap L _ _ W (h.below hb) (by omega) (by omega) (by omega)).mono fun _ _ ⟨e, q⟩ => ⟨e, q.symm⟩)⟩
  obtain ⟨v1, hv1, I1⟩ : ∃ v : Nat, v = onTab x1 ∧ Hid (∀ w, Sem.run Try.prog (Instr.index 112 (.agg #[F 4617315517961601024, F 4621819117588971520, F 4607182418800017408, F 4602678819172646912]) (.int .i64 x1)) w = .ok (F v) w) := ⟨_, rfl, Lib.hid (fun w => idx4 x1 r1 s1 w)⟩
  obtain ⟨v2, hv2, I2⟩ : ∃ v : Nat, v = facTab x2 ∧ Hid (∀ w, Sem.run Try.prog (Instr.index 113 (.agg #[F 4602678819172646912, F 4607182418800017408, F 4598175219545276416]) (.int .i64 x2)) w = .ok (F v) w) := ⟨_, rfl, Lib.hid (fun w => idx3 x2 r2 s2 w)⟩
  obtain ⟨v3, hv3, I3⟩ : ∃ v : Nat, v = mulTab x1 x2 ∧ Hid (∀ t w, (binOp .mul t (F v1) (F v2)).run Try.prog w = .ok (.float .f64 v) w) := ⟨_, rfl, Lib.hid (fun t w => by rw [hv1, hv2]; exact mul_ok x1 x2 r1 s1 r2 s2 t w)⟩
  obtain ⟨v4, hv4, I4⟩ : ∃ v : Nat, v = Fl.ofB x3.toNat ∧ Hid (∀ t w, (binOp .quo t (.float .f64 (floatOfInt .f64 x3)) (.float .f64 4621819117588971520)).run Try.prog w = .ok (.float .f64 v) w) := ⟨_, rfl, Lib.hid (Secs.quo_at Secs.quo_holds x3 r3 (by omega))⟩
  obtain ⟨v5, hv5, I5⟩ : ∃ v : Nat, v = Fl.ofB x4.toNat ∧ Hid (∀ t w, (binOp .quo t (.float .f64 (floatOfInt .f64 x4)) (.float .f64 4621819117588971520)).run Try.prog w = .ok (.float .f64 v) w) := ⟨_, rfl, Lib.hid (Secs.quo_at Secs.quo_holds x4 r4 (by omega))⟩
  have RES : Hid (genDet L i n = ⟨x0, v1, v3, v4, v5, if x5 = 1 then 20 + x6 else 0, if xz = 2 then 60 + x7 else 0⟩) := Lib.hid (by subst hv1 hv3 hv4 hv5 hx0 hx1 hx2 hx3 hx4 hx5 hx6 hxz hx7; rfl)
  generalize genDet L i n = R at RES ⊢
  have i1 := I1.out
  have i2 := I2.out
  have i3 := I3.out
  have i4 := I4.out
  have i5 := I5.out
  clear h hx0 hx1 hx2 hx3 hx4 hx5 hx6 hxz hx7 hv1 hv2 hv3 hv4 hv5
  have hz := (zero_of_info infoDz).1
  have HB : Hid (Below w.heap.size w (w.alloc (.cells #[I 0, F 0, F 0, F 0, F 0, I 0, I 0] 73))) := Lib.hid ((Below.refl _ _).alloc (Nat.le_refl _) _)
  have hg := heap_alloc_new w (.cells #[I 0, F 0, F 0, F 0, F 0, I 0, I 0] 73)
  have hs : (w.alloc (.cells #[I 0, F 0, F 0, F 0, F 0, I 0, I 0] 73)).heap.size = w.heap.size + 1 := by simp
  have HG := Lib.hid hg
  have HS := Lib.hid hs
  clear hg hs
  go_enter Try.func28, Try.ntmps28
  go_upto_region 1 with fail
  generalize (World.alloc w _) = u at HB HG HS ⊢
  go_wp2_with fail
  refine (F0.out _ HB.out).mono ?_
  rintro e w' ⟨rfl, hq⟩
  subst w'
  go_wp2_with fail
  refine (F1.out _ HB.out).mono ?_
  rintro e w' ⟨rfl, hq⟩
  subst w'
  go_upto_region 2 with (refine Row.wpList_store_new rfl 73 _ _ rfl u _ #[I x0, F v1, F 0, F 0, F 0, I 0, I 0] rfl rfl rfl infoD rfl (by simp [Value.oneCell']) ?_)
  (try dsimp only [Act.put])
  have hb := HB.out.alloc HB.out.size (.cells #[I x0, F v1, F 0, F 0, F 0, I 0, I 0] 73)
  have g5 := heap_alloc_new u (.cells #[I x0, F v1, F 0, F 0, F 0, I 0, I 0] 73)
  have g4 := (Below.heap_alloc u (.cells #[I x0, F v1, F 0, F 0, F 0, I 0, I 0] 73) w.heap.size (by have := HS.out; omega)).trans HG.out
  have b5lt : w.heap.size < u.heap.size := by have := HS.out; omega
  clear HB HG HS
  generalize World.alloc u _ = u0 at g4 g5 hb ⊢
  generalize u.heap.size = b5 at g5 b5lt ⊢
  have G4 := Lib.hid g4
  have G5 := Lib.hid g5
  have HB := Lib.hid hb
  clear g4 g5 hb
  have e0 : IntKind.i64.wrap (i + 2) = i + 2 := by rw [IntKind.wrap_i64]; omega
  have g4 : u0.drew.heap[w.heap.size]? = some (.cells #[I 0, F 0, F 0, F 0, F 0, I 0, I 0] 73 (0, 0)) := G4.out
  have g5 : u0.drew.heap[b5]? = some (.cells #[I x0, F v1, F 0, F 0, F 0, I 0, I 0] 73 (0, 0)) := G5.out
  have hb : Below w.heap.size w u0.drew := HB.out.drew
  clear G4 G5 HB
  refine QB.region_tail 10 (by kernel_rfl) (by kernel_rfl) ?_
  generalize World.drew u0 = u1 at g4 g5 hb ⊢
  have G4 := Lib.hid g4
  have G5 := Lib.hid g5
  have HB := Lib.hid hb
  clear g4 g5 hb
  have c1 : u1.cell? ⟨b5, 1, none⟩ = some (F v1) := by rw [cell_of_row _ _ _ _ _ _ G5.out]; rfl
  have c2 : u1.cell? ⟨b5, 2, none⟩ = some (F 0) := by rw [cell_of_row _ _ _ _ _ _ G5.out]; rfl
  have f2 : u1.frozen? ⟨b5, 2, none⟩ = false := frozen_of_row _ _ _ _ _ G5.out
  have st : Sem.run Try.prog (store ⟨b5, 2, none⟩ (.float .f64 v3)) u1 = .ok () (u1.setCell ⟨b5, 2, none⟩ (.float .f64 v3)) := run_store_float c2 f2
  simp only [List.take_succ_cons, List.take_zero, List.drop_succ_cons, List.drop_zero]
  repeat still_step
  still_call (F2.out _ HB.out)
  repeat still_step
  refine wpStill_nil ?_
  go_upto_region 3 with fail
  clear e0
  have g5 := heap_setCell_same u1 b5 2 _ _ (.float .f64 v3) G5.out
  simp only [List.setIfInBounds_toArray, List.set_cons_succ, List.set_cons_zero] at g5
  have g4 := (Below.heap_setCell u1 ⟨b5, 2, none⟩ (.float .f64 v3) w.heap.size (by simp; omega)).trans G4.out
  have hb := Owned.below_write HB.out (g := b5) (i := 2) (by omega) (.float .f64 v3)
  clear st c1 c2 f2 G4 G5 HB
  generalize World.setCell u1 ⟨b5, 2, none⟩ (.float .f64 v3) = u2 at g4 g5 hb ⊢
  have G4 := Lib.hid g4
  have G5 := Lib.hid g5
  have HB := Lib.hid hb
  clear g4 g5 hb
  have c3 : u2.cell? ⟨b5, 3, none⟩ = some (F 0) := by rw [cell_of_row _ _ _ _ _ _ G5.out]; rfl
  have f3 : u2.frozen? ⟨b5, 3, none⟩ = false := frozen_of_row _ _ _ _ _ G5.out
  have st : Sem.run Try.prog (store ⟨b5, 3, none⟩ (.float .f64 v4)) u2 = .ok () (u2.setCell ⟨b5, 3, none⟩ (.float .f64 v4)) := run_store_float c3 f3
  go_wp2_with fail
  refine (F3.out _ HB.out).mono ?_
  rintro e w' ⟨rfl, hq⟩
  subst w'
  go_upto_region 4 with fail
  have g5 := heap_setCell_same u2 b5 3 _ _ (.float .f64 v4) G5.out
  simp only [List.setIfInBounds_toArray, List.set_cons_succ, List.set_cons_zero] at g5
  have g4 := (Below.heap_setCell u2 ⟨b5, 3, none⟩ (.float .f64 v4) w.heap.size (by simp; omega)).trans G4.out
  have hb := Owned.below_write HB.out (g := b5) (i := 3) (by omega) (.float .f64 v4)
  clear st c3 f3 G4 G5 HB
  generalize World.setCell u2 ⟨b5, 3, none⟩ (.float .f64 v4) = u3 at g4 g5 hb ⊢
  have G4 := Lib.hid g4
  have G5 := Lib.hid g5
  have HB := Lib.hid hb
  clear g4 g5 hb
  have c4 : u3.cell? ⟨b5, 4, none⟩ = some (F 0) := by rw [cell_of_row _ _ _ _ _ _ G5.out]; rfl
  have f4 : u3.frozen? ⟨b5, 4, none⟩ = false := frozen_of_row _ _ _ _ _ G5.out
  have st : Sem.run Try.prog (store ⟨b5, 4, none⟩ (.float .f64 v5)) u3 = .ok () (u3.setCell ⟨b5, 4, none⟩ (.float .f64 v5)) := run_store_float c4 f4
  go_wp2_with fail
  refine (F4.out _ HB.out).mono ?_
  rintro e w' ⟨rfl, hq⟩
  subst w'
  go_upto_region 5 with fail
  have g5 := heap_setCell_same u3 b5 4 _ _ (.float .f64 v5) G5.out
  simp only [List.setIfInBounds_toArray, List.set_cons_succ, List.set_cons_zero] at g5
  have g4 := (Below.heap_setCell u3 ⟨b5, 4, none⟩ (.float .f64 v5) w.heap.size (by simp; omega)).trans G4.out
  have hb := Owned.below_write HB.out (g := b5) (i := 4) (by omega) (.float .f64 v5)
  clear st c4 f4 G4 G5 HB
  generalize World.setCell u3 ⟨b5, 4, none⟩ (.float .f64 v5) = u4 at g4 g5 hb ⊢
  have G4 := Lib.hid g4
  have G5 := Lib.hid g5
  have HB := Lib.hid hb
  clear g4 g5 hb
  go_wp2_with fail
  refine (F5.out _ HB.out).mono ?_
  rintro e w' ⟨rfl, hq⟩
  subst w'
  by_cases h5 : x5 = 1
  · have H5 := Lib.hid h5
    have e5 : (x5 == 1) = true := by simpa using h5
    clear h5
    go_upto_region 6 with fail
    have c5 : u4.cell? ⟨b5, 5, none⟩ = some (I 0) := by rw [cell_of_row _ _ _ _ _ _ G5.out]; rfl
    have f5 : u4.frozen? ⟨b5, 5, none⟩ = false := frozen_of_row _ _ _ _ _ G5.out
    go_wp2_with fail
    refine (F6.out _ HB.out).mono ?_
    rintro e w' ⟨rfl, hq⟩
    subst w'
    go_upto_region 7 with fail
    have g5 := heap_setCell_same u4 b5 5 _ _ (I (20 + x6)) G5.out
    simp only [List.setIfInBounds_toArray, List.set_cons_succ, List.set_cons_zero] at g5
    have g4 := (Below.heap_setCell u4 ⟨b5, 5, none⟩ (I (20 + x6)) w.heap.size (by simp; omega)).trans G4.out
    have hb := Owned.below_write HB.out (g := b5) (i := 5) (by omega) (I (20 + x6))
    clear c5 f5 G4 G5 HB
    generalize World.setCell u4 ⟨b5, 5, none⟩ (I (20 + x6)) = u5 at g4 g5 hb ⊢
    have G4 := Lib.hid g4
    have G5 := Lib.hid g5
    have HB := Lib.hid hb
    clear g4 g5 hb
    go_wp2_with fail
    refine (Fz.out _ HB.out).mono ?_
    rintro e w' ⟨rfl, hq⟩
    subst w'
    by_cases hz : xz = 2
    · have HZ := Lib.hid hz
      have ez : (xz == 2) = true := by simpa using hz
      clear hz
      go_upto_region 8 with fail
      have c6 : u5.cell? ⟨b5, 6, none⟩ = some (I 0) := by rw [cell_of_row _ _ _ _ _ _ G5.out]; rfl
      have f6 : u5.frozen? ⟨b5, 6, none⟩ = false := frozen_of_row _ _ _ _ _ G5.out
      go_wp2_with fail
      refine (F7.out _ HB.out).mono ?_
      rintro e w' ⟨rfl, hq⟩
      subst w'
      go_upto_region 9 with fail
      have g5 := heap_setCell_same u5 b5 6 _ _ (I (60 + x7)) G5.out
      simp only [List.setIfInBounds_toArray, List.set_cons_succ, List.set_cons_zero] at g5
      have g4 := (Below.heap_setCell u5 ⟨b5, 6, none⟩ (I (60 + x7)) w.heap.size (by simp; omega)).trans G4.out
      have hb := Owned.below_write HB.out (g := b5) (i := 6) (by omega) (I (60 + x7))
      clear c6 f6 G4 G5 HB
      generalize World.setCell u5 ⟨b5, 6, none⟩ (I (60 + x7)) = u6 at g4 g5 hb ⊢
      have G4 := Lib.hid g4
      have G5 := Lib.hid g5
      have HB := Lib.hid hb
      clear g4 g5 hb
      have FIN : Hid (R.cells.toArray = #[I x0, F v1, .float .f64 v3, .float .f64 v4, .float .f64 v5, I (20 + x6), I (60 + x7)]) := Lib.hid (by rw [RES.out]; simp only [Det.cells, if_pos H5.out, if_pos HZ.out])
      have LV : Hid (Lies u6 ⟨b5, 0, none⟩ #[I x0, F v1, .float .f64 v3, .float .f64 v4, .float .f64 v5, I (20 + x6), I (60 + x7)].toList) := Lib.hid (Row.lies_of_block G5.out)
      have HG := Lib.hid (below_setRow HB.out (g := w.heap.size) (Nat.le_refl _) #[I x0, F v1, .float .f64 v3, .float .f64 v4, .float .f64 v5, I (20 + x6), I (60 + x7)])
      have HK := Lib.hid (setRow_heap u6 w.heap.size _ #[I x0, F v1, .float .f64 v3, .float .f64 v4, .float .f64 v5, I (20 + x6), I (60 + x7)] _ _ G4.out)
      go_wp2_with (first | (refine Row.wpList_load_g 73 _ rfl (by first | rfl | go_simp) ⟨b5, 0, none⟩ rfl #[I x0, F v1, .float .f64 v3, .float .f64 v4, .float .f64 v5, I (20 + x6), I (60 + x7)].toList _ LV.out Try.underlying73 rfl infoD ?_) | (refine wpList_store_row rfl 73 _ _ rfl w.heap.size #[I x0, F v1, .float .f64 v3, .float .f64 v4, .float .f64 v5, I (20 + x6), I (60 + x7)] rfl rfl 73 _ G4.out infoD rfl (by simp [Value.oneCell']) ?_))
      generalize u6.setRow w.heap.size #[I x0, F v1, .float .f64 v3, .float .f64 v4, .float .f64 v5, I (20 + x6), I (60 + x7)] = uz at HG HK ⊢
      go_wp2_with fail
      (try simp only [Exit.inBlock, Exit.then])
      refine bodyPost_ret (v := .agg #[I x0, F v1, .float .f64 v3, .float .f64 v4, .float .f64 v5, I (20 + x6), I (60 + x7)]) ?_ rfl ⟨by rw [FIN.out], HG.out⟩
      exact results_cell_row rfl _ _ w.heap.size 73 _ (0, 0) _ rfl HK.out Try.underlying73 rfl infoD
    · have HZ := Lib.hid hz
      have ez : (xz == 2) = false := by simpa using hz
      clear hz
      go_upto_region 9 with fail
      have FIN : Hid (R.cells.toArray = #[I x0, F v1, .float .f64 v3, .float .f64 v4, .float .f64 v5, I (20 + x6), I 0]) := Lib.hid (by rw [RES.out]; simp only [Det.cells, if_pos H5.out, if_neg HZ.out])
      have LV : Hid (Lies u5 ⟨b5, 0, none⟩ #[I x0, F v1, .float .f64 v3, .float .f64 v4, .float .f64 v5, I (20 + x6), I 0].toList) := Lib.hid (Row.lies_of_block G5.out)
      have HG := Lib.hid (below_setRow HB.out (g := w.heap.size) (Nat.le_refl _) #[I x0, F v1, .float .f64 v3, .float .f64 v4, .float .f64 v5, I (20 + x6), I 0])
      have HK := Lib.hid (setRow_heap u5 w.heap.size _ #[I x0, F v1, .float .f64 v3, .float .f64 v4, .float .f64 v5, I (20 + x6), I 0] _ _ G4.out)
      go_wp2_with (first | (refine Row.wpList_load_g 73 _ rfl (by first | rfl | go_simp) ⟨b5, 0, none⟩ rfl #[I x0, F v1, .float .f64 v3, .float .f64 v4, .float .f64 v5, I (20 + x6), I 0].toList _ LV.out Try.underlying73 rfl infoD ?_) | (refine wpList_store_row rfl 73 _ _ rfl w.heap.size #[I x0, F v1, .float .f64 v3, .float .f64 v4, .float .f64 v5, I (20 + x6), I 0] rfl rfl 73 _ G4.out infoD rfl (by simp [Value.oneCell']) ?_))
      generalize u5.setRow w.heap.size #[I x0, F v1, .float .f64 v3, .float .f64 v4, .float .f64 v5, I (20 + x6), I 0] = uz at HG HK ⊢
      go_wp2_with fail
      (try simp only [Exit.inBlock, Exit.then])
      refine bodyPost_ret (v := .agg #[I x0, F v1, .float .f64 v3, .float .f64 v4, .float .f64 v5, I (20 + x6), I 0]) ?_ rfl ⟨by rw [FIN.out], HG.out⟩
      exact results_cell_row rfl _ _ w.heap.size 73 _ (0, 0) _ rfl HK.out Try.underlying73 rfl infoD
  · have H5 := Lib.hid h5
    have e5 : (x5 == 1) = false := by simpa using h5
    clear h5
    go_upto_region 7 with fail
    go_wp2_with fail
    refine (Fz.out _ HB.out).mono ?_
    rintro e w' ⟨rfl, hq⟩
    subst w'
    by_cases hz : xz = 2
    · have HZ := Lib.hid hz
      have ez : (xz == 2) = true := by simpa using hz
      clear hz
      go_upto_region 8 with fail
      have c6 : u4.cell? ⟨b5, 6, none⟩ = some (I 0) := by rw [cell_of_row _ _ _ _ _ _ G5.out]; rfl
      have f6 : u4.frozen? ⟨b5, 6, none⟩ = false := frozen_of_row _ _ _ _ _ G5.out
      go_wp2_with fail
      refine (F7.out _ HB.out).mono ?_
      rintro e w' ⟨rfl, hq⟩
      subst w'
      go_upto_region 9 with fail
      have g5 := heap_setCell_same u4 b5 6 _ _ (I (60 + x7)) G5.out
      simp only [List.setIfInBounds_toArray, List.set_cons_succ, List.set_cons_zero] at g5
      have g4 := (Below.heap_setCell u4 ⟨b5, 6, none⟩ (I (60 + x7)) w.heap.size (by simp; omega)).trans G4.out
      have hb := Owned.below_write HB.out (g := b5) (i := 6) (by omega) (I (60 + x7))
      clear c6 f6 G4 G5 HB
      generalize World.setCell u4 ⟨b5, 6, none⟩ (I (60 + x7)) = u5 at g4 g5 hb ⊢
      have G4 := Lib.hid g4
      have G5 := Lib.hid g5
      have HB := Lib.hid hb
      clear g4 g5 hb
      have FIN : Hid (R.cells.toArray = #[I x0, F v1, .float .f64 v3, .float .f64 v4, .float .f64 v5, I 0, I (60 + x7)]) := Lib.hid (by rw [RES.out]; simp only [Det.cells, if_neg H5.out, if_pos HZ.out])
      have LV : Hid (Lies u5 ⟨b5, 0, none⟩ #[I x0, F v1, .float .f64 v3, .float .f64 v4, .float .f64 v5, I 0, I (60 + x7)].toList) := Lib.hid (Row.lies_of_block G5.out)
      have HG := Lib.hid (below_setRow HB.out (g := w.heap.size) (Nat.le_refl _) #[I x0, F v1, .float .f64 v3, .float .f64 v4, .float .f64 v5, I 0, I (60 + x7)])
      have HK := Lib.hid (setRow_heap u5 w.heap.size _ #[I x0, F v1, .float .f64 v3, .float .f64 v4, .float .f64 v5, I 0, I (60 + x7)] _ _ G4.out)
      go_wp2_with (first | (refine Row.wpList_load_g 73 _ rfl (by first | rfl | go_simp) ⟨b5, 0, none⟩ rfl #[I x0, F v1, .float .f64 v3, .float .f64 v4, .float .f64 v5, I 0, I (60 + x7)].toList _ LV.out Try.underlying73 rfl infoD ?_) | (refine wpList_store_row rfl 73 _ _ rfl w.heap.size #[I x0, F v1, .float .f64 v3, .float .f64 v4, .float .f64 v5, I 0, I (60 + x7)] rfl rfl 73 _ G4.out infoD rfl (by simp [Value.oneCell']) ?_))
      generalize u5.setRow w.heap.size #[I x0, F v1, .float .f64 v3, .float .f64 v4, .float .f64 v5, I 0, I (60 + x7)] = uz at HG HK ⊢
      go_wp2_with fail
      (try simp only [Exit.inBlock, Exit.then])
      refine bodyPost_ret (v := .agg #[I x0, F v1, .float .f64 v3, .float .f64 v4, .float .f64 v5, I 0, I (60 + x7)]) ?_ rfl ⟨by rw [FIN.out], HG.out⟩
      exact results_cell_row rfl _ _ w.heap.size 73 _ (0, 0) _ rfl HK.out Try.underlying73 rfl infoD
    · have HZ := Lib.hid hz
      have ez : (xz == 2) = false := by simpa using hz
      clear hz
      go_upto_region 9 with fail
      have FIN : Hid (R.cells.toArray = #[I x0, F v1, .float .f64 v3, .float .f64 v4, .float .f64 v5, I 0, I 0]) := Lib.hid (by rw [RES.out]; simp only [Det.cells, if_neg H5.out, if_neg HZ.out])
      have LV : Hid (Lies u4 ⟨b5, 0, none⟩ #[I x0, F v1, .float .f64 v3, .float .f64 v4, .float .f64 v5, I 0, I 0].toList) := Lib.hid (Row.lies_of_block G5.out)
      have HG := Lib.hid (below_setRow HB.out (g := w.heap.size) (Nat.le_refl _) #[I x0, F v1, .float .f64 v3, .float .f64 v4, .float .f64 v5, I 0, I 0])
      have HK := Lib.hid (setRow_heap u4 w.heap.size _ #[I x0, F v1, .float .f64 v3, .float .f64 v4, .float .f64 v5, I 0, I 0] _ _ G4.out)
      go_wp2_with (first | (refine Row.wpList_load_g 73 _ rfl (by first | rfl | go_simp) ⟨b5, 0, none⟩ rfl #[I x0, F v1, .float .f64 v3, .float .f64 v4, .float .f64 v5, I 0, I 0].toList _ LV.out Try.underlying73 rfl infoD ?_) | (refine wpList_store_row rfl 73 _ _ rfl w.heap.size #[I x0, F v1, .float .f64 v3, .float .f64 v4, .float .f64 v5, I 0, I 0] rfl rfl 73 _ G4.out infoD rfl (by simp [Value.oneCell']) ?_))
      generalize u4.setRow w.heap.size #[I x0, F v1, .float .f64 v3, .float .f64 v4, .float .f64 v5, I 0, I 0] = uz at HG HK ⊢
      go_wp2_with fail
      (try simp only [Exit.inBlock, Exit.then])
      refine bodyPost_ret (v := .agg #[I x0, F v1, .float .f64 v3, .float .f64 v4, .float .f64 v5, I 0, I 0]) ?_ rfl ⟨by rw [FIN.out], HG.out⟩
      exact results_cell_row rfl _ _ w.heap.size 73 _ (0, 0) _ rfl HK.out Try.underlying73 rfl infoD
end GenD
namespace Spots
open Go.ChangeShapes Go.WideShapes Go.ChangeAt Go.RowKit
open Tab Clone PlaceM Gath
open May (ret_bool chain infoP infoG infoD infoR infoB infoT St)
theorem info4 : (Try.prog.info? 87).map (fun i => (i.zero, i.size, i.bytes)) = some (some (.agg #[I 0, I 0, I 0, I 0]), 4, 32) := by kernel_rfl
abbrev OwnsS (B : Nat) (w : World) (v : Value) (l : List Spt) : Prop := Owns Spt.cells 4 B w 87 v l
/-- The block under a slice is one of places. -/
def Typed (w : World) (s : Sl) : Prop := ∀ x, s.a = some x → ∃ cs : Array Value, w.heap[x.block]? = some (.cells cs 87 (0, 0))
theorem Typed.below {w w' : World} {s : Sl} (h : Typed w s) (hb : Below w.heap.size w w') : Typed w' s := fun x hx => by
  obtain ⟨cs, hc⟩ := h x hx
  exact ⟨cs, (hb.block _ (Array.getElem?_eq_some_iff.1 hc).1).trans hc⟩
theorem own_row_t {B : Nat} {w : World} {v : Value} {l : List Spt} (h : OwnsS B w v l) : ∃ s : Sl, v = s.val l.length ∧ RowOf 4 Spt.cells w s l ∧ Typed w s := by
  obtain ⟨s, hs, hr⟩ := Owns.row h (enc := Spt.cells) (fun _ => rfl)
  refine ⟨s, hs, hr, fun x hx => ?_⟩
  rcases h.2 with ⟨e, _⟩ | ⟨g, cap, cur, e, h1, h2, _⟩
  · rw [hs] at e
    simp [Sl.val, hx] at e
  · rw [hs] at e
    simp [Sl.val, hx] at e
    obtain ⟨rfl, _⟩ := e
    exact ⟨cur, h2⟩
theorem spots_typed (T : Tab) (h : Hd) (w : World) (ht : IsTab w h T) (sm : Few T) :
    Calls Try.prog 61 #[.agg (T.cells h).toArray] w fun e w' => ∃ s : Sl, e = .returned (s.val (spots T).length) ∧ RowOf 4 Spt.cells w' s (spots T) ∧ Typed w' s ∧ Below w.heap.size w w' := by
  have C := Lib.hid (cells_ok ht)
  generalize (T.cells h).toArray = cs at C ⊢
  obtain ⟨gs, hgd, hgr⟩ := ht.groups
  have Hgr := Lib.hid hgr
  have Hgd := Lib.hid hgd
  have SM := Lib.hid sm
  have hsz := C.out.size
  have S0 := Lib.hid (St.box (cs := cs) ht)
  have HZ : Hid ((w.alloc (.cells cs 32)).heap.size = w.heap.size + 1) := Lib.hid (by simp)
  have Hgl := Lib.hid (show T.groups.length = gs.length by rw [← hgd, List.length_map])
  have Kg := hgr.1.len
  unfold maxLen at Kg
  obtain ⟨i0, hi, hz0, hz1, hz2⟩ := info_parts info4
  have LEN : Hid (∀ n, (allS 0 (T.groups.take n)).length ≤ 2000000) := Lib.hid (fun n => small_len (by have := sm.groups; rw [List.length_take]; omega) (fun x hx => sm.rows x (List.mem_of_mem_take hx)))
  clear ht hgr hgd sm
  go_enter Try.func61, Try.ntmps61
  go_upto_region 1 with fail
  generalize w.alloc (.cells cs 32) = w1 at S0 HZ ⊢
  clear hsz
  have q104 := S0.out.cell C.out.g
  rw [Hgl.out] at q104
  have Q104 := Lib.hid q104
  clear q104
  have LIFT : Hid (∀ W, Below w1.heap.size w1 W → ∀ (z : Addr) (c : Value), w1.cell? z = some c → W.cell? z = some c) := Lib.hid (fun W hb z c hc => (hb.cell (World.block_lt_of_cell? w1 _ hc)).trans hc)
  go_wp2_with fail
  go_loopw [3, 4] (fun v g wr => ∃ q : Nat, q ≤ gs.length ∧ g = .int .i64 q ∧ OwnsS w1.heap.size wr v (allS 0 (T.groups.take q)) ∧ Below w1.heap.size w1 wr) (fun _ g _ => gs.length - (intOf g).toNat)
  case atStart => exact ⟨0, by omega, rfl, Owns.nil, Below.refl _ _⟩
  case round =>
    obtain ⟨q, hq, rfl, hown, hbel⟩ := hrel
    have HO := Lib.hid hown
    have HB := Lib.hid hbel
    clear hown hbel
    have p104 := LIFT.out _ HB.out _ _ Q104.out
    by_cases hlt : q < gs.length
    · have hv := List.getElem?_eq_getElem hlt
      generalize gs[q] = u at hv
      obtain ⟨x, hx, hc⟩ := (Hgr.out.1.below S0.out.bel).at hv
      have hok := (Hgr.out.2 u (List.mem_of_getElem? hv)).below S0.out.bel
      have HD : Hid (T.groups[q]? = some u.data) := Lib.hid (by rw [← Hgd.out, List.getElem?_map, hv]; rfl)
      have hsm := SM.out.rows u.data (by rw [← Hgd.out]; exact List.mem_map.2 ⟨u, List.mem_of_getElem? hv, rfl⟩)
      obtain ⟨l0, l1, ⟨a0, cap0⟩, ⟨a1, cap1⟩⟩ := u
      have hl0 : l0.length ≤ 1000 := hsm.1
      have hl1 : l1.length ≤ 1000 := hsm.2
      have K0 := hok.1.len
      have K1 := hok.2.len
      unfold maxLen at K0 K1
      have H0 := Lib.hid hok.1
      have H1 := Lib.hid hok.2
      have QQ : Hid (w1.cell? ⟨w.heap.size, 104, none⟩ = some (.slice (some x) gs.length h.g.cap)) := by have := Q104.out; simp only [Sl.val, hx] at this; exact this
      have c0 := hc 0 _ rfl
      have c1 := hc 1 _ rfl
      rw [add_zero] at c0
      rw [add_one] at c1
      have HC0 := Lib.hid c0
      have HC1 := Lib.hid c1
      clear hv hc hok hx c0 c1 hsm
      go_wp2_with fail
      clear p104
      go_loopw [3, 5] (fun v k wk => ∃ r : Nat, r ≤ 2 ∧ k = .int .i64 r ∧ OwnsS w1.heap.size wk v (allS 0 (T.groups.take q) ++ ((if 0 < r then rowS q 0 0 l0 else []) ++ (if 1 < r then rowS q 1 0 l1 else []))) ∧ Below w1.heap.size w1 wk) (fun _ k _ => 2 - (intOf k).toNat)
      case atStart => exact ⟨0, by omega, rfl, by simpa using HO.out, HB.out⟩
      case round =>
        obtain ⟨r, hr, rfl, hown, hbel⟩ := hrel
        have HOr := Lib.hid hown
        have HBr := Lib.hid hbel
        clear hown hbel
        have hr2 : r = 0 ∨ r = 1 ∨ r = 2 := by omega
        rcases hr2 with rfl | rfl | rfl
        · rw [show ((0 : Nat) : Int) = (0 : Int) from rfl]
          have HO1 : Hid (OwnsS w1.heap.size wr u3 (allS 0 (T.groups.take q))) := Lib.hid (by simpa using HOr.out)
          clear HOr
          have LN : Hid ((allS 0 (T.groups.take q)).length ≤ 2002000) := Lib.hid (by have := LEN.out q; have h2 := rowS_len q 0 0 l0; (try rw [List.length_append]); omega)
          go_wp2_with fail
          go_loopw [3, 6] (fun v i wj => ∃ j : Nat, j ≤ l0.length ∧ i = .int .i64 j ∧ OwnsS w1.heap.size wj v (allS 0 (T.groups.take q) ++ rowS q 0 0 (l0.take j)) ∧ Below w1.heap.size w1 wj) (fun _ i _ => l0.length - (intOf i).toNat)
          case atStart => exact ⟨0, by omega, rfl, by simpa [rowS] using HO1.out, HBr.out⟩
          case round =>
            obtain ⟨j, hj, rfl, hown, hbel⟩ := hrel
            have HOj := Lib.hid hown
            have HBj := Lib.hid hbel
            clear hown hbel
            have p104 := LIFT.out _ HBj.out _ _ QQ.out
            by_cases hjl : j < l0.length
            · have hv := List.getElem?_eq_getElem hjl
              generalize l0[j] = p at hv
              obtain ⟨y, hy, hp⟩ := IntRow.at (H0.out.below HBj.out) hv
              obtain rfl : a0 = some y := hy
              have p0 : wr.cell? _ = some (.slice (some y) l0.length cap0) := LIFT.out _ HBj.out _ _ HC0.out
              have HV := Lib.hid hv
              clear hv
              have hsz := HBj.out.size
              by_cases hp8 : 0 ≤ p ∧ p < 8
              · obtain ⟨hp0, hp1⟩ := hp8
                have HS : Hid (allS 0 (T.groups.take q) ++ rowS q 0 0 (l0.take (j + 1)) = (allS 0 (T.groups.take q) ++ rowS q 0 0 (l0.take j)) ++ [⟨q, 0, j, p⟩]) := Lib.hid (by rw [row_hit HV.out hp0 hp1, ← List.append_assoc])
                have hlen : (allS 0 (T.groups.take q) ++ rowS q 0 0 (l0.take j)).length ≤ 2003000 := by have := LN.out; have h2 := rowS_len q 0 0 (l0.take j); rw [List.length_append]; rw [List.length_take] at h2; omega
                have hown := HOj.out
                generalize allS 0 (T.groups.take q) ++ rowS q 0 0 (l0.take j) = P1 at hown hlen HS
                have hown2 : wr.ownsRow w1.heap.size 87 4 u3 P1.length (P1.flatMap Spt.cells) := hown
                clear hown HOj
                go_wp2_with (at_builtin; refine wpList_append_own _ rfl _ _ 117 rfl w1.heap.size 87 i0 (.agg #[I 0, I 0, I 0, I 0]) 4 32 Try.underlying117 hi hz0 hz1 hz2 rfl (by decide) _ _ _ rfl (hown2.alloc _) ⟨wr.heap.size, 0, none⟩ 1 1 (Spt.cells ⟨q, 0, j, p⟩) rfl rfl ?c1 ?c2 ?c3 ?c4 ?c5 ?_)
                case c1 =>
                  intro m u hm
                  match m, hm with
                  | 0, hm | 1, hm | 2, hm | 3, hm => simp [Spt.cells] at hm; subst hm; simp [Addr.add]
                case c2 => intro u hu; simp [Spt.cells] at hu; rcases hu with rfl | rfl | rfl | rfl <;> rfl
                case c3 => unfold maxLen; omega
                case c4 => omega
                case c5 => simp; omega
                intro v' w2 hown' hgrow hnil'
                have HB2 : Hid (Below w1.heap.size w1 w2) := Lib.hid ((HBj.out.alloc hsz _).grown hgrow (by simp; omega) fun m hm => (show OwnsS w1.heap.size wr u3 P1 from hown2).blk m hm)
                have HO2 : Hid (OwnsS w1.heap.size w2 v' (P1 ++ [⟨q, 0, j, p⟩])) := Lib.hid (Owns.snoc hown')
                clear hown' hgrow hown2 hnil'
                go_wp2
                go_roundw
                case rel => exact ⟨j + 1, by omega, by go_num, by rw [HS.out]; exact HO2.out, HB2.out⟩
                case measure => simp [intOf]; omega
              · have HS : Hid (allS 0 (T.groups.take q) ++ rowS q 0 0 (l0.take (j + 1)) = allS 0 (T.groups.take q) ++ rowS q 0 0 (l0.take j)) := Lib.hid (by rw [row_miss HV.out hp8])
                by_cases hp0 : 0 ≤ p
                · have hp1 : ¬ p < 8 := fun h => hp8 ⟨hp0, h⟩
                  clear hp8
                  go_wp2
                  go_roundw
                  case rel => exact ⟨j + 1, by omega, by go_num, by rw [HS.out]; exact HOj.out, HBj.out⟩
                  case measure => simp [intOf]; omega
                · clear hp8
                  go_wp2
                  go_roundw
                  case rel => exact ⟨j + 1, by omega, by go_num, by rw [HS.out]; exact HOj.out, HBj.out⟩
                  case measure => simp [intOf]; omega
            · have p0 : wr.cell? _ = some (.slice a0 l0.length cap0) := LIFT.out _ HBj.out _ _ HC0.out
              have HE : Hid (rowS q 0 0 (l0.take j) = rowS q 0 0 l0) := Lib.hid (by rw [List.take_of_length_le (by omega)])
              go_wp2
              go_roundw
              case rel => exact ⟨0 + 1, by omega, by go_num, by have := HOj.out; rw [HE.out] at this; simpa using this, HBj.out⟩
              case measure => simp [intOf]
        · rw [show ((1 : Nat) : Int) = (1 : Int) from rfl]
          have HO1 : Hid (OwnsS w1.heap.size wr u3 (allS 0 (T.groups.take q) ++ rowS q 0 0 l0)) := Lib.hid (by simpa using HOr.out)
          clear HOr
          have LN : Hid ((allS 0 (T.groups.take q) ++ rowS q 0 0 l0).length ≤ 2002000) := Lib.hid (by have := LEN.out q; have h2 := rowS_len q 0 0 l0; (try rw [List.length_append]); omega)
          go_wp2_with fail
          go_loopw [3, 6] (fun v i wj => ∃ j : Nat, j ≤ l1.length ∧ i = .int .i64 j ∧ OwnsS w1.heap.size wj v (allS 0 (T.groups.take q) ++ rowS q 0 0 l0 ++ rowS q 1 0 (l1.take j)) ∧ Below w1.heap.size w1 wj) (fun _ i _ => l1.length - (intOf i).toNat)
          case atStart => exact ⟨0, by omega, rfl, by simpa [rowS] using HO1.out, HBr.out⟩
          case round =>
            obtain ⟨j, hj, rfl, hown, hbel⟩ := hrel
            have HOj := Lib.hid hown
            have HBj := Lib.hid hbel
            clear hown hbel
            have p104 := LIFT.out _ HBj.out _ _ QQ.out
            by_cases hjl : j < l1.length
            · have hv := List.getElem?_eq_getElem hjl
              generalize l1[j] = p at hv
              obtain ⟨y, hy, hp⟩ := IntRow.at (H1.out.below HBj.out) hv
              obtain rfl : a1 = some y := hy
              have p0 : wr.cell? _ = some (.slice (some y) l1.length cap1) := LIFT.out _ HBj.out _ _ HC1.out
              have HV := Lib.hid hv
              clear hv
              have hsz := HBj.out.size
              by_cases hp8 : 0 ≤ p ∧ p < 8
              · obtain ⟨hp0, hp1⟩ := hp8
                have HS : Hid (allS 0 (T.groups.take q) ++ rowS q 0 0 l0 ++ rowS q 1 0 (l1.take (j + 1)) = (allS 0 (T.groups.take q) ++ rowS q 0 0 l0 ++ rowS q 1 0 (l1.take j)) ++ [⟨q, 1, j, p⟩]) := Lib.hid (by rw [row_hit HV.out hp0 hp1, ← List.append_assoc])
                have hlen : (allS 0 (T.groups.take q) ++ rowS q 0 0 l0 ++ rowS q 1 0 (l1.take j)).length ≤ 2003000 := by have := LN.out; have h2 := rowS_len q 1 0 (l1.take j); rw [List.length_append]; rw [List.length_take] at h2; omega
                have hown := HOj.out
                generalize allS 0 (T.groups.take q) ++ rowS q 0 0 l0 ++ rowS q 1 0 (l1.take j) = P1 at hown hlen HS
                have hown2 : wr.ownsRow w1.heap.size 87 4 u3 P1.length (P1.flatMap Spt.cells) := hown
                clear hown HOj
                go_wp2_with (at_builtin; refine wpList_append_own _ rfl _ _ 117 rfl w1.heap.size 87 i0 (.agg #[I 0, I 0, I 0, I 0]) 4 32 Try.underlying117 hi hz0 hz1 hz2 rfl (by decide) _ _ _ rfl (hown2.alloc _) ⟨wr.heap.size, 0, none⟩ 1 1 (Spt.cells ⟨q, 1, j, p⟩) rfl rfl ?c1 ?c2 ?c3 ?c4 ?c5 ?_)
                case c1 =>
                  intro m u hm
                  match m, hm with
                  | 0, hm | 1, hm | 2, hm | 3, hm => simp [Spt.cells] at hm; subst hm; simp [Addr.add]
                case c2 => intro u hu; simp [Spt.cells] at hu; rcases hu with rfl | rfl | rfl | rfl <;> rfl
                case c3 => unfold maxLen; omega
                case c4 => omega
                case c5 => simp; omega
                intro v' w2 hown' hgrow hnil'
                have HB2 : Hid (Below w1.heap.size w1 w2) := Lib.hid ((HBj.out.alloc hsz _).grown hgrow (by simp; omega) fun m hm => (show OwnsS w1.heap.size wr u3 P1 from hown2).blk m hm)
                have HO2 : Hid (OwnsS w1.heap.size w2 v' (P1 ++ [⟨q, 1, j, p⟩])) := Lib.hid (Owns.snoc hown')
                clear hown' hgrow hown2 hnil'
                go_wp2
                go_roundw
                case rel => exact ⟨j + 1, by omega, by go_num, by rw [HS.out]; exact HO2.out, HB2.out⟩
                case measure => simp [intOf]; omega
              · have HS : Hid (allS 0 (T.groups.take q) ++ rowS q 0 0 l0 ++ rowS q 1 0 (l1.take (j + 1)) = allS 0 (T.groups.take q) ++ rowS q 0 0 l0 ++ rowS q 1 0 (l1.take j)) := Lib.hid (by rw [row_miss HV.out hp8])
                by_cases hp0 : 0 ≤ p
                · have hp1 : ¬ p < 8 := fun h => hp8 ⟨hp0, h⟩
                  clear hp8
                  go_wp2
                  go_roundw
                  case rel => exact ⟨j + 1, by omega, by go_num, by rw [HS.out]; exact HOj.out, HBj.out⟩
                  case measure => simp [intOf]; omega
                · clear hp8
                  go_wp2
                  go_roundw
                  case rel => exact ⟨j + 1, by omega, by go_num, by rw [HS.out]; exact HOj.out, HBj.out⟩
                  case measure => simp [intOf]; omega
            · have p0 : wr.cell? _ = some (.slice a1 l1.length cap1) := LIFT.out _ HBj.out _ _ HC1.out
              have HE : Hid (rowS q 1 0 (l1.take j) = rowS q 1 0 l1) := Lib.hid (by rw [List.take_of_length_le (by omega)])
              go_wp2
              go_roundw
              case rel => exact ⟨1 + 1, by omega, by go_num, by have := HOj.out; rw [HE.out] at this; simpa using this, HBj.out⟩
              case measure => simp [intOf]
        · have HN : Hid (allS 0 (T.groups.take (q + 1)) = allS 0 (T.groups.take q) ++ (rowS q 0 0 l0 ++ rowS q 1 0 l1)) := Lib.hid (all_step HD.out)
          go_wp2
          go_roundw
          case rel => exact ⟨q + 1, by omega, by go_num, by rw [HN.out]; simpa using HOr.out, HBr.out⟩
          case measure => simp [intOf]; omega
    · have HE : Hid (allS 0 (T.groups.take q) = spots T) := Lib.hid (by rw [List.take_of_length_le (by rw [Hgl.out]; omega)]; rfl)
      obtain ⟨s, hs, hrow, hty⟩ := own_row_t HO.out
      rw [HE.out] at hs hrow
      have HR := Lib.hid hrow
      have HT := Lib.hid hty
      have HF : Hid (Below w.heap.size w wr) := Lib.hid (S0.out.bel.trans (HB.out.mono S0.out.bel.size))
      clear hrow hty HE
      subst hs
      go_wp2
      go_ret
      exact ⟨s, rfl, HR.out, HT.out, HF.out⟩
theorem spots_any (T : Tab) (h : Hd) (w : World) (ht : IsTab w h T) (sm : Few T) :
    Calls Try.prog 61 #[.agg (T.cells h).toArray] w fun e w' => ∃ s : Sl, e = .returned (s.val (spots T).length) ∧ RowOf 4 Spt.cells w' s (spots T) ∧ Below w.heap.size w w' := by
  refine (spots_typed T h w ht sm).mono ?_
  rintro e w' ⟨s, h1, h2, _, h3⟩
  exact ⟨s, h1, h2, h3⟩
end Spots
end Go.Proofs.Ytjgpljnbeolapaa
