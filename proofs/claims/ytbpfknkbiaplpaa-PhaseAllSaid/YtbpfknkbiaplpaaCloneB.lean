/- The contract of table.Clone: the walk. -/
import Derived.Test.YtbpfknkbiaplpaaRows
import Derived.Test.YtbpfknkbiaplpaaCloneA
import Derived.Test.YtbpfknkbiaplpaaRow
import Derived.Deep.Cut
import Derived.LoopTactic
namespace Go.Proofs.Ytbpfknkbiaplpaa.Clone
open Go.ChangeShapes Go.WideShapes Go.ChangeAt Go.RowKit
open Tab Copy Owned
open May (chain infoP infoG infoD infoR infoB infoT take_succ')
set_option linter.unusedVariables false
set_option linter.unusedSimpArgs false

/-- The groups' block while it is being filled. -/
def mix (ns : List NG) (gs : List Gr) (k : Nat) : List Gr := ns.map NG.gr ++ gs.drop k
theorem mix_at {ns : List NG} {gs : List Gr} {k : Nat} {v : Gr} (hn : ns.length = k) (hv : gs[k]? = some v) : (mix ns gs k)[k]? = some v := by
  unfold mix
  rw [List.getElem?_append_right (by rw [List.length_map]; omega), List.length_map, hn, Nat.sub_self, List.getElem?_drop, Nat.add_zero, hv]
theorem mix_next {ns : List NG} {gs : List Gr} {k : Nat} {v : Gr} (n : NG) (hn : ns.length = k) (hv : gs[k]? = some v) :
    ((mix ns gs k).flatMap Gr.cells).take (k * 2) ++ n.gr.cells ++ ((mix ns gs k).flatMap Gr.cells).drop (k * 2 + 2) = (mix (ns ++ [n]) gs (k + 1)).flatMap Gr.cells := by
  have hk : k < gs.length := (List.getElem?_eq_some_iff.1 hv).1
  have hl : ((ns.map NG.gr).flatMap Gr.cells).length = k * 2 := by rw [flat_len (n := 2) (enc := Gr.cells) (fun _ => rfl), List.length_map, hn]
  have hd : gs.drop k = v :: gs.drop (k + 1) := by
    rw [List.drop_eq_getElem_cons hk]; congr 1
    exact (List.getElem?_eq_some_iff.1 hv).2
  unfold mix
  rw [hd, List.flatMap_append, List.flatMap_cons, List.take_left' hl, List.map_append, List.flatMap_append, List.flatMap_append]
  rw [show k * 2 + 2 = ((ns.map NG.gr).flatMap Gr.cells).length + v.cells.length by rw [hl]; rfl, ← List.append_assoc, List.drop_left' (by rw [List.length_append])]
  simp
def LL (T : Tab) (h1 : Hd) (N G : Nat) (zs : List Value) (ns : List NG) (gs : List Gr) (k : Nat) : List Blk :=
  ⟨G, (mix ns gs k).flatMap Gr.cells, 85⟩ :: ⟨N, T.cells h1, 45⟩ :: ⟨N + 1, zs, 45⟩ :: ns.flatMap NG.blks
theorem perm_next {T : Tab} {h1 : Hd} {N G : Nat} {zs : List Value} {ns : List NG} {gs : List Gr} {k : Nat} {cs : List Value} (n : NG) (e : cs = (mix (ns ++ [n]) gs (k + 1)).flatMap Gr.cells) :
    (LL T h1 N G zs (ns ++ [n]) gs (k + 1)).Perm (⟨G, cs, 85⟩ :: ⟨n.b1, n.r1.flatMap (fun n => [I n]), 3⟩ :: ⟨n.b0, n.r0.flatMap (fun n => [I n]), 3⟩ :: ⟨N, T.cells h1, 45⟩ :: ⟨N + 1, zs, 45⟩ :: ns.flatMap NG.blks) := by
  subst e
  unfold LL
  rw [List.flatMap_append, show List.flatMap NG.blks [n] = [⟨n.b0, n.r0.flatMap (fun n => [I n]), 3⟩, ⟨n.b1, n.r1.flatMap (fun n => [I n]), 3⟩] from rfl]
  refine List.Perm.cons _ ?_
  generalize (⟨n.b0, _, _⟩ : Blk) = x0
  generalize (⟨n.b1, _, _⟩ : Blk) = x1
  generalize (⟨N, _, _⟩ : Blk) = y0
  generalize (⟨N + 1, _, _⟩ : Blk) = y1
  generalize ns.flatMap NG.blks = L
  have a1 : (y0 :: y1 :: (L ++ [x0, x1])).Perm ([x0, x1] ++ (y0 :: y1 :: L)) := (List.perm_append_comm (l₁ := y0 :: y1 :: L) (l₂ := [x0, x1]))
  exact a1.trans (List.Perm.swap _ _ _)
/-- The phases of the region that fills one group. -/
def D5 (w : World) (B M : Nat) (L0 L1 L2 L3 : List Blk) (q : Nat) (w' : World) : Prop :=
  Below B w w' ∧ match q with
    | 0 => Owned.Own B w' L0 ∧ w'.heap.size = M + 1
    | 1 => Owned.Own B w' L1 ∧ w'.heap.size = M + 1 + 1
    | 2 => Owned.Own B w' L2 ∧ w'.heap.size = M + 1 + 1 + 1
    | _ => Owned.Own B w' L3
theorem D5.get {w w' : World} {B M q : Nat} {L0 L1 L2 L3 : List Blk} {x : Blk} (h : D5 w B M L0 L1 L2 L3 q w') (h0 : x ∈ L0) (h1 : x ∈ L1) (h2 : x ∈ L2) (h3 : x ∈ L3) : w'.heap[x.at_]? = some (.cells x.cells.toArray x.type (0, 0)) := by
  match q, h with
  | 0, ⟨_, h, _⟩ => exact h.get h0
  | 1, ⟨_, h, _⟩ => exact h.get h1
  | 2, ⟨_, h, _⟩ => exact h.get h2
  | _ + 3, ⟨_, h⟩ => exact h.get h3
theorem mix_len {ns : List NG} {gs : List Gr} {k : Nat} (hn : ns.length = k) (hk : k ≤ gs.length) : ((mix ns gs k).flatMap Gr.cells).length = gs.length * 2 := by
  rw [flat_len (n := 2) (enc := Gr.cells) (fun _ => rfl)]
  unfold mix
  rw [List.length_append, List.length_map, List.length_drop]
  omega
theorem store_link {w w' : World} {L : List Blk} {G k : Nat} {ns : List NG} {gs : List Gr} {v : Gr} (hb : Below w.heap.size w w') (ho : Owned.Own w.heap.size w' L) (hx : L[3]? = some ⟨G, (mix ns gs k).flatMap Gr.cells, 85⟩) (hn : ns.length = k) (hv : gs[k]? = some v) (n : NG) :
    ∃ w'', (Instr.storeAt 85 (.pointer (some ⟨G, k * 2, none⟩)) (.agg n.gr.cells.toArray)).run Try.prog w' = .ok () w'' ∧ Below w.heap.size w w'' ∧ Owned.Own w.heap.size w'' (L.set 3 ⟨G, (mix (ns ++ [n]) gs (k + 1)).flatMap Gr.cells, 85⟩) := by
  have hk : k < gs.length := (List.getElem?_eq_some_iff.1 hv).1
  have h1 := Row.run_storeAt_at (P := Try.prog) w' G (k * 2) 85 85 _ n.gr.cells.toArray (ho.get (List.mem_of_getElem? hx)) infoG (by rw [List.size_toArray]; show k * 2 + 2 ≤ ((mix ns gs k).flatMap Gr.cells).length; rw [mix_len hn (by omega)]; omega) (Gr.one _)
  have h2 := mix_next n hn hv
  rw [show (k * 2 + n.gr.cells.toArray.size) = k * 2 + 2 from rfl] at h1
  dsimp only at h1
  rw [h2] at h1
  exact ⟨_, h1, below_setRow hb (ho.base (List.mem_of_getElem? hx)) _, ho.row_at hx _⟩
end Go.Proofs.Ytbpfknkbiaplpaa.Clone
