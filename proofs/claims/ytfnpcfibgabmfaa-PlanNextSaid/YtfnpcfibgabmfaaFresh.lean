/- The contracts of table.fresh at its five types of element: a copy in new memory. -/
import Derived.Test.YtfnpcfibgabmfaaRows
import Derived.Test.YtfnpcfibgabmfaaMayC
import Derived.Test.YtfnpcfibgabmfaaCopy
namespace Go.Proofs.Ytfnpcfibgabmfaa.Clone
open Go.ChangeShapes Go.WideShapes Go.ChangeAt Go.RowKit
open Tab Copy
open May (chain infoP infoG infoD infoR infoB)
set_option linter.unusedVariables false
set_option linter.unusedSimpArgs false
/-- What fresh hands back: a new block that holds just the elements. -/
def Fresh (e : TypeId) (cs : List Value) (n : Nat) (w : World) (r : Ending) (w' : World) : Prop :=
  r = .returned (.slice (some ⟨w.heap.size, 0, none⟩) n n) ∧ w'.heap[w.heap.size]? = some (.cells cs.toArray e (0, 0)) ∧ Below w.heap.size w w' ∧ w'.heap.size = w.heap.size + 1
theorem infoI : (Try.prog.info? 3).map (·.size) = some 1 := by kernel_rfl
theorem zI : (Try.prog.info? 3).map (fun i => (i.zero, i.size, i.bytes)) = some (some (.int .i64 0), 1, 8) := by kernel_rfl
theorem zG : (Try.prog.info? 42).map (fun i => (i.zero, i.size, i.bytes)) = some (some (.agg #[.slice none 0 0, .slice none 0 0]), 2, 48) := by kernel_rfl
theorem zD : (Try.prog.info? 44).map (fun i => (i.zero, i.size, i.bytes)) = some (some (.agg #[.int .i64 0, .float .f64 0, .float .f64 0, .float .f64 0, .float .f64 0, .int .i64 0, .int .i64 0]), 7, 56) := by kernel_rfl
theorem zR : (Try.prog.info? 46).map (fun i => (i.zero, i.size, i.bytes)) = some (some (.agg #[.int .i64 0, .int .i64 0, .int .i64 0, .int .i64 0, .int .i64 0, .int .i64 0, .int .i64 0, .int .i64 0, .int .i64 0, .int .i64 0, .int .i64 0]), 11, 88) := by kernel_rfl
theorem zB : (Try.prog.info? 48).map (fun i => (i.zero, i.size, i.bytes)) = some (some (.agg #[.int .i64 0, .int .i64 0]), 2, 16) := by kernel_rfl
theorem RowOf_flat {α : Type} {n : Nat} {enc : α → List Value} (he : ∀ v, (enc v).length = n) {w : World} {s : Sl} {l : List α} (h : RowOf n enc w s l) (h0 : 0 < l.length) : ∃ x, s.a = some x ∧ Lies w x (l.flatMap enc) := Copy.RowOf.flat he h h0
set_option maxRecDepth 10000 in
theorem freshI_any (a : Option Addr) (cap : Nat) (l : List Int) (w : World) (h : RowOf 1 (fun n => [I n]) w ⟨a, cap⟩ l) (hl : l.length ≤ 1000) :
    Calls Try.prog 43 #[.slice a l.length cap] w fun r w' => Fresh 3 (l.flatMap (fun n => [I n])) l.length w r w' := by
  have Hr := Lib.hid h
  have Hl := Lib.hid hl
  have hln := h.len
  unfold maxLen at hln
  clear h hl
  go_enter Try.func43, Try.ntmps43
  go_wp2_with (at_make; refine wpList_make_rows rfl _ _ 22 3 rfl Try.underlying22 _ 1 _ zI l.length rfl rfl Hl.out (by omega) ?_)
  intro w1 cur hg hsz hb hz
  have HZ := Lib.hid hz
  have HG := Lib.hid hg
  have HB := Lib.hid hb
  have HS := Lib.hid hsz
  have HF := Lib.hid (fun h0 => RowOf_flat (n := 1) (enc := (fun n => [I n])) (fun _ => rfl) (Hr.out.below HB.out) h0)
  have HO := Lib.hid (flat_one (enc := (fun n => [I n])) (fun v => by simp [Value.oneCell']) l)
  have HL := Lib.hid (flat_len (n := 1) (enc := (fun n => [I n])) (fun _ => rfl) l)
  clear hg hb hsz hz
  go_wp2_with (refine wpList_copy_rows rfl _ _ 22 22 3 rfl Try.underlying22 1 infoI w.heap.size l.length cap a rfl rfl cur 3 HG.out (l.flatMap (fun n => [I n])) (by have := HL.out; omega) (by have := HS.out; omega) HF.out HO.out ?_)
  intro w2 hg2 hb2 hz2
  have HZ2 := Lib.hid (hz2.trans HZ.out)
  have HG2 := Lib.hid hg2
  have HB2 := Lib.hid (HB.out.trans hb2)
  clear hg2 hb2 hz2
  go_wp2
  go_ret
  exact ⟨rfl, HG2.out, HB2.out, HZ2.out⟩
set_option maxRecDepth 10000 in
theorem freshG_any (a : Option Addr) (cap : Nat) (l : List Gr) (w : World) (h : RowOf 2 Gr.cells w ⟨a, cap⟩ l) (hl : l.length ≤ 1000) :
    Calls Try.prog 42 #[.slice a l.length cap] w fun r w' => Fresh 42 (l.flatMap Gr.cells) l.length w r w' := by
  have Hr := Lib.hid h
  have Hl := Lib.hid hl
  have hln := h.len
  unfold maxLen at hln
  clear h hl
  go_enter Try.func42, Try.ntmps42
  go_wp2_with (at_make; refine wpList_make_rows rfl _ _ 27 42 rfl Try.underlying27 _ 2 _ zG l.length rfl rfl Hl.out (by omega) ?_)
  intro w1 cur hg hsz hb hz
  have HZ := Lib.hid hz
  have HG := Lib.hid hg
  have HB := Lib.hid hb
  have HS := Lib.hid hsz
  have HF := Lib.hid (fun h0 => RowOf_flat (n := 2) (enc := Gr.cells) (fun _ => rfl) (Hr.out.below HB.out) h0)
  have HO := Lib.hid (flat_one (enc := Gr.cells) Gr.one l)
  have HL := Lib.hid (flat_len (n := 2) (enc := Gr.cells) (fun _ => rfl) l)
  clear hg hb hsz hz
  go_wp2_with (refine wpList_copy_rows rfl _ _ 27 27 42 rfl Try.underlying27 2 infoG w.heap.size l.length cap a rfl rfl cur 42 HG.out (l.flatMap Gr.cells) (by have := HL.out; omega) (by have := HS.out; omega) HF.out HO.out ?_)
  intro w2 hg2 hb2 hz2
  have HZ2 := Lib.hid (hz2.trans HZ.out)
  have HG2 := Lib.hid hg2
  have HB2 := Lib.hid (HB.out.trans hb2)
  clear hg2 hb2 hz2
  go_wp2
  go_ret
  exact ⟨rfl, HG2.out, HB2.out, HZ2.out⟩
set_option maxRecDepth 10000 in
theorem freshD_any (a : Option Addr) (cap : Nat) (l : List Det) (w : World) (h : RowOf 7 Det.cells w ⟨a, cap⟩ l) (hl : l.length ≤ 1000) :
    Calls Try.prog 44 #[.slice a l.length cap] w fun r w' => Fresh 44 (l.flatMap Det.cells) l.length w r w' := by
  have Hr := Lib.hid h
  have Hl := Lib.hid hl
  have hln := h.len
  unfold maxLen at hln
  clear h hl
  go_enter Try.func44, Try.ntmps44
  go_wp2_with (at_make; refine wpList_make_rows rfl _ _ 29 44 rfl Try.underlying29 _ 7 _ zD l.length rfl rfl Hl.out (by omega) ?_)
  intro w1 cur hg hsz hb hz
  have HZ := Lib.hid hz
  have HG := Lib.hid hg
  have HB := Lib.hid hb
  have HS := Lib.hid hsz
  have HF := Lib.hid (fun h0 => RowOf_flat (n := 7) (enc := Det.cells) (fun _ => rfl) (Hr.out.below HB.out) h0)
  have HO := Lib.hid (flat_one (enc := Det.cells) Det.one l)
  have HL := Lib.hid (flat_len (n := 7) (enc := Det.cells) (fun _ => rfl) l)
  clear hg hb hsz hz
  go_wp2_with (refine wpList_copy_rows rfl _ _ 29 29 44 rfl Try.underlying29 7 infoD w.heap.size l.length cap a rfl rfl cur 44 HG.out (l.flatMap Det.cells) (by have := HL.out; omega) (by have := HS.out; omega) HF.out HO.out ?_)
  intro w2 hg2 hb2 hz2
  have HZ2 := Lib.hid (hz2.trans HZ.out)
  have HG2 := Lib.hid hg2
  have HB2 := Lib.hid (HB.out.trans hb2)
  clear hg2 hb2 hz2
  go_wp2
  go_ret
  exact ⟨rfl, HG2.out, HB2.out, HZ2.out⟩
set_option maxRecDepth 10000 in
theorem freshR_any (a : Option Addr) (cap : Nat) (l : List Rl) (w : World) (h : RowOf 11 Rl.cells w ⟨a, cap⟩ l) (hl : l.length ≤ 1000) :
    Calls Try.prog 45 #[.slice a l.length cap] w fun r w' => Fresh 46 (l.flatMap Rl.cells) l.length w r w' := by
  have Hr := Lib.hid h
  have Hl := Lib.hid hl
  have hln := h.len
  unfold maxLen at hln
  clear h hl
  go_enter Try.func45, Try.ntmps45
  go_wp2_with (at_make; refine wpList_make_rows rfl _ _ 30 46 rfl Try.underlying30 _ 11 _ zR l.length rfl rfl Hl.out (by omega) ?_)
  intro w1 cur hg hsz hb hz
  have HZ := Lib.hid hz
  have HG := Lib.hid hg
  have HB := Lib.hid hb
  have HS := Lib.hid hsz
  have HF := Lib.hid (fun h0 => RowOf_flat (n := 11) (enc := Rl.cells) (fun _ => rfl) (Hr.out.below HB.out) h0)
  have HO := Lib.hid (flat_one (enc := Rl.cells) Rl.one l)
  have HL := Lib.hid (flat_len (n := 11) (enc := Rl.cells) (fun _ => rfl) l)
  clear hg hb hsz hz
  go_wp2_with (refine wpList_copy_rows rfl _ _ 30 30 46 rfl Try.underlying30 11 infoR w.heap.size l.length cap a rfl rfl cur 46 HG.out (l.flatMap Rl.cells) (by have := HL.out; omega) (by have := HS.out; omega) HF.out HO.out ?_)
  intro w2 hg2 hb2 hz2
  have HZ2 := Lib.hid (hz2.trans HZ.out)
  have HG2 := Lib.hid hg2
  have HB2 := Lib.hid (HB.out.trans hb2)
  clear hg2 hb2 hz2
  go_wp2
  go_ret
  exact ⟨rfl, HG2.out, HB2.out, HZ2.out⟩
set_option maxRecDepth 10000 in
theorem freshB_any (a : Option Addr) (cap : Nat) (l : List Bs) (w : World) (h : RowOf 2 Bs.cells w ⟨a, cap⟩ l) (hl : l.length ≤ 1000) :
    Calls Try.prog 46 #[.slice a l.length cap] w fun r w' => Fresh 48 (l.flatMap Bs.cells) l.length w r w' := by
  have Hr := Lib.hid h
  have Hl := Lib.hid hl
  have hln := h.len
  unfold maxLen at hln
  clear h hl
  go_enter Try.func46, Try.ntmps46
  go_wp2_with (at_make; refine wpList_make_rows rfl _ _ 31 48 rfl Try.underlying31 _ 2 _ zB l.length rfl rfl Hl.out (by omega) ?_)
  intro w1 cur hg hsz hb hz
  have HZ := Lib.hid hz
  have HG := Lib.hid hg
  have HB := Lib.hid hb
  have HS := Lib.hid hsz
  have HF := Lib.hid (fun h0 => RowOf_flat (n := 2) (enc := Bs.cells) (fun _ => rfl) (Hr.out.below HB.out) h0)
  have HO := Lib.hid (flat_one (enc := Bs.cells) Bs.one l)
  have HL := Lib.hid (flat_len (n := 2) (enc := Bs.cells) (fun _ => rfl) l)
  clear hg hb hsz hz
  go_wp2_with (refine wpList_copy_rows rfl _ _ 31 31 48 rfl Try.underlying31 2 infoB w.heap.size l.length cap a rfl rfl cur 48 HG.out (l.flatMap Bs.cells) (by have := HL.out; omega) (by have := HS.out; omega) HF.out HO.out ?_)
  intro w2 hg2 hb2 hz2
  have HZ2 := Lib.hid (hz2.trans HZ.out)
  have HG2 := Lib.hid hg2
  have HB2 := Lib.hid (HB.out.trans hb2)
  clear hg2 hb2 hz2
  go_wp2
  go_ret
  exact ⟨rfl, HG2.out, HB2.out, HZ2.out⟩
end Go.Proofs.Ytfnpcfibgabmfaa.Clone
