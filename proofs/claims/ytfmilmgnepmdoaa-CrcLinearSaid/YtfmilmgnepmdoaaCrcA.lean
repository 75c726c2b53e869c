/- The contracts of crc.Add and crc.Of, and the chapter's example. -/
import Derived.Test.YtfmilmgnepmdoaaCrc
import Derived.Lib.SlBytesConst
import Derived.OpenShut
namespace Go.Proofs.Ytfmilmgnepmdoaa.CrcA
open Go.ChangeShapes Go.WideShapes Go.ChangeAt Go.RowKit
open CrcM Crc
set_option linter.unusedVariables false

/-- A slice of bytes that came in reads as a row. -/
theorem row_raw {w : World} {a : Option Addr} {len cap : Nat} {zs : List Int} (h : (a = none ∧ len = 0 ∧ cap = 0 ∧ zs = []) ∨
    ∃ x, a = some x ∧ len ≤ cap ∧ cap ≤ maxLen ∧ zs.length = cap ∧ (∀ i, i < zs.length → w.cell? (x.add i) = some (.int .u8 (zs.getD i 0))) ∧ ∀ n ∈ zs, (Lit.int .u8 n).wf = true) :
    ∃ l : List Nat, l.length = len ∧ Row w a l ∧ len ≤ cap ∧ cap ≤ maxLen ∧ (a = none → cap = 0) := by
  rcases h with ⟨rfl, rfl, rfl, rfl⟩ | ⟨x, rfl, h1, h2, h3, h4, h5⟩
  · exact ⟨[], rfl, ⟨Nat.zero_le _, by simp, .inl rfl⟩, Nat.le_refl _, Nat.zero_le _, fun _ => rfl⟩
  · have hl : ((zs.take len).map Int.toNat).length = len := by rw [List.length_map, List.length_take]; omega
    refine ⟨(zs.take len).map Int.toNat, hl, ⟨by omega, fun y hy => ?_, .inr ⟨x, rfl, fun i hi => ?_⟩⟩, h1, h2, fun e => by cases e⟩
    · obtain ⟨z, hz, rfl⟩ := List.mem_map.1 hy
      have := bounds_u8 (h5 z (List.mem_of_mem_take hz))
      omega
    · rw [hl] at hi
      have hi2 : i < zs.length := by omega
      rw [h4 i hi2]
      have hz := bounds_u8 (h5 _ (List.getElem_mem hi2))
      rw [List.getD_eq_getElem?_getD, List.getD_eq_getElem?_getD, List.getElem?_map, List.getElem?_take_of_lt hi, List.getElem?_eq_getElem hi2]
      simp only [Option.getD_some, Option.map_some]
      congr 2
      omega

theorem idx (d y : Nat) (hd : d < 65536) (hy : y < 256) : bits .xor .u8 ((d : Int) / 256) (y : Int) = ((d / 256 ^^^ y : Nat) : Int) := by
  rw [show (d : Int) / 256 = ((d / 256 : Nat) : Int) by omega]
  exact u8_xor_nat _ _ (by omega) hy
theorem idx_lt (d y : Nat) (hd : d < 65536) (hy : y < 256) : d / 256 ^^^ y < 256 := Nat.xor_lt_two_pow (n := 8) (by omega) hy
theorem step_bits (d y : Nat) : bits .xor .u16 (IntKind.u16.wrap ((d : Int) * 256)) (tab (d / 256 ^^^ y) : Nat) = (CrcM.step d y : Nat) := by
  rw [show (d : Int) * 256 = ((256 * d : Nat) : Int) by omega, wrap16]
  exact u16_xor_nat _ _ (Nat.mod_lt _ (by decide)) (tab_lt _)

set_option maxRecDepth 100000 in
set_option maxHeartbeats 1000000 in
theorem add_any (c : Nat) (hc : c < 65536) (a : Option Addr) (cap : Nat) (l : List Nat) (w : World) (h : Row w a l) :
    Calls Try.prog 9 #[.int .u16 (c : Int), .slice a l.length cap] w fun e w' => e = .returned (.int .u16 (crc c l : Nat)) ∧ Below w.heap.size w w' := by
  have h1 := h.1
  unfold maxLen at h1
  obtain ⟨hz, hi⟩ := zero_of_info info36
  rw [cells_zero] at hz
  have Hr := Lib.hid h
  have Hi := Lib.hid hi
  clear h hi
  go_enter Try.func9, Try.ntmps9
  go_wp2_with fail
  refine (table_any _).mono ?_
  rintro e w1 ⟨rfl, hb1⟩
  have hb2 : Below w.heap.size w (w1.alloc (.cells (cells 256) 36)) := hb1.alloc hb1.size _
  have hst : (storeCells ⟨w1.heap.size, 0, none⟩ (cells 256).toList 0).run Try.prog (w1.alloc (.cells (cells 0) 36)) = .ok () (w1.alloc (.cells (cells 256) 36)) := by
    rw [store_whole _ _ _ 0 256 (heap_alloc_last w1 _), World.setRow_alloc_new]
  have ht : ∀ j : Nat, j < 256 → (w1.alloc (.cells (cells 256) 36)).cell? ⟨w1.heap.size, j, none⟩ = some (.int .u16 (tab j : Nat)) := fun j hj => by
    rw [World.cell?_alloc_at _ _ _ _ rfl, cells_at _ _ hj, if_pos hj]
  have Ht := Lib.hid ht
  clear ht
  go_wp2_with fail
  have Hr2 := Lib.hid (Hr.out.below hb2)
  have Hb2 := Lib.hid hb2
  generalize w1.alloc (.cells (cells 256) 36) = w2 at Ht Hr2 Hb2 ⊢
  clear Hr hst hb2
  go_loop [0, 11] (fun t i => ∃ k : Nat, k ≤ l.length ∧ i = .int .i64 k ∧ t = .int .u16 (crc c (l.take k) : Nat)) (fun _ i => l.length - (intOf i).toNat)
  case atStart => exact ⟨0, Nat.zero_le _, rfl, rfl⟩
  case round =>
    obtain ⟨k, hk, rfl, rfl⟩ := hrel
    by_cases hlt : k < l.length
    · have hs := CrcM.take_snoc l k hlt
      have hx := Hr2.out.lt k hlt
      obtain ⟨x, rfl, hcl⟩ := Hr2.out.cells hlt
      have hcell := hcl k hlt
      have hd := crc_lt c (l.take k) hc
      have HS : Hid (crc c (l.take (k + 1)) = CrcM.step (crc c (l.take k)) (l.getD k 0)) := by
        show _ = _
        rw [hs, crc_snoc]
      clear hcl hs
      generalize crc c (l.take k) = d at hd HS
      generalize l.getD k 0 = y at hcell hx HS
      have hj := idx d y hd hx
      have hjl := idx_lt d y hd hx
      have hst := step_bits d y
      have htc := Ht.out _ hjl
      rw [← HS.out] at hst
      clear HS
      generalize d / 256 ^^^ y = j at hj hjl hst htc
      have hjn : (j : Int).toNat = j := Int.toNat_natCast j
      have hj2 : (j : Int) < 256 := by omega
      go_wp2
      go_round
      case rel => exact ⟨k + 1, by omega, by go_num, rfl⟩
      case measure => simp [intOf]; omega
    · go_wp2
      go_ret
      have : k = l.length := by omega
      subst this
      exact ⟨by rw [List.take_of_length_le (Nat.le_refl _)]; rfl, Hb2.out⟩

set_option maxHeartbeats 400000 in
theorem of_any (a : Option Addr) (cap : Nat) (l : List Nat) (w : World) (h : Row w a l) :
    Calls Try.prog 11 #[.slice a l.length cap] w fun e w' => e = .returned (.int .u16 (crc 65535 l : Nat)) ∧ Below w.heap.size w w' := by
  have Hr := Lib.hid h
  clear h
  go_enter Try.func11, Try.ntmps11
  go_wp2_with fail
  refine (add_any 65535 (by decide) _ _ l _ Hr.out).mono ?_
  rintro e w1 ⟨rfl, hb⟩
  go_wp2
  go_ret
  exact ⟨rfl, hb⟩

/-! ### the chapter's example -/
theorem cell_marked (w : World) (C : Array Value) (t : TypeId) (fr : Nat × Nat) (i : Nat) : (w.alloc (.cells C t fr)).cell? ⟨w.heap.size, i, none⟩ = C[i]? := cell_of_row _ _ i C t fr (heap_alloc_last w _)
theorem ex1 : crc 65535 [49, 50, 51, 52, 53, 54, 55, 56, 57] = 10673 := by decide +kernel
set_option maxHeartbeats 1000000 in
theorem awake_any (w : World) : Calls Try.prog 8 #[] w fun e w' => e = .returned (.bool true) ∧ Below w.heap.size w w' := by
  have kc := fun (w : World) (C : Array Value) (n c : Nat) => Lib.run_convert_bytes_const (P := Try.prog) w 23 5 C n c Try.underlying23 Try.underlying5
  go_enter Try.func8, Try.ntmps8
  go_wp2_with fail
  have hbw := (Below.refl w.heap.size w).alloc (Nat.le_refl _) (.cells #[Value.int IntKind.u8 49, Value.int IntKind.u8 50, Value.int IntKind.u8 51, Value.int IntKind.u8 52, Value.int IntKind.u8 53, Value.int IntKind.u8 54, Value.int IntKind.u8 55, Value.int IntKind.u8 56, Value.int IntKind.u8 57] 5 (9, 10))
  refine (of_any _ _ [49, 50, 51, 52, 53, 54, 55, 56, 57] _ ⟨by unfold maxLen; simp, by decide, .inr ⟨_, rfl, ?_⟩⟩).mono ?_
  · intro i hi
    have h9 : i = 0 ∨ i = 1 ∨ i = 2 ∨ i = 3 ∨ i = 4 ∨ i = 5 ∨ i = 6 ∨ i = 7 ∨ i = 8 := by simp at hi; omega
    rcases h9 with rfl | rfl | rfl | rfl | rfl | rfl | rfl | rfl | rfl <;> (simp [Addr.add, cell_marked]; done)
  · rintro e w1 ⟨rfl, hb⟩
    rw [ex1]
    go_wp2
    go_ret
    exact ⟨rfl, hbw.trans (hb.mono (by simp))⟩
end Go.Proofs.Ytfmilmgnepmdoaa.CrcA
