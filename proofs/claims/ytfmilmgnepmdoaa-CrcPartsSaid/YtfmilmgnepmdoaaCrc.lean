/- The contracts of crc.double, crc.table, crc.Add, crc.Of and the document's own sum. -/
import Derived.Test.YtfmilmgnepmdoaaRows
import Derived.Test.YtfmilmgnepmdoaaCrcM
import Derived.WalkKit
import Derived.ProofKit
import Derived.IntWalk
import Derived.Lib.Hide
import Derived.LoopTactic
import Derived.Below
import Derived.BigQuiet
import Derived.Deep.QuietTactic
import Derived.Deep.WholeRow
import Derived.Laws.BitsAllLaws
namespace Go.Proofs.Ytfmilmgnepmdoaa.Crc
open Go.ChangeShapes Go.WideShapes Go.ChangeAt Go.RowKit
open CrcM
set_option linter.unusedVariables false

theorem ret_int {k : IntKind} {a b : Int} (h : a = b) : Ending.returned (.int k a) = .returned (.int k b) := by rw [h]

theorem wrap16 (a : Nat) : IntKind.u16.wrap (a : Int) = ((a % 65536 : Nat) : Int) := by rw [IntKind.wrap_u16]; omega
theorem xor_rule (a : Nat) (h : a < 65536) : bits .xor .u16 (a : Int) 4129 = ((a ^^^ 4129 : Nat) : Int) := u16_xor_nat a 4129 h (by decide)
theorem top_bit (c : Nat) (h : c < 65536) : bits .and .u16 (c : Int) 32768 = if c / 32768 % 2 = 1 then 32768 else 0 := by
  have h1 := u16_and_nat c 32768 h (by decide)
  rw [show bits .and .u16 (c : Int) 32768 = ((c &&& 32768 : Nat) : Int) from h1]
  have h2 : c &&& 32768 = if c / 32768 % 2 = 1 then 32768 else 0 := by
    have h5 : c.testBit 15 = decide (c / 32768 % 2 = 1) := Nat.testBit_eq_decide_div_mod_eq
    apply Nat.eq_of_testBit_eq
    intro i
    rw [Nat.testBit_and, show (32768 : Nat) = 2 ^ 15 from rfl, Nat.testBit_two_pow]
    by_cases hi : 15 = i
    · subst hi
      rw [h5]
      by_cases h4 : c / 32768 % 2 = 1
      · rw [if_pos h4, decide_eq_true h4]; decide
      · rw [if_neg h4, decide_eq_false h4]; decide
    · rw [decide_eq_false hi, Bool.and_false]
      split
      · rw [Nat.testBit_two_pow, decide_eq_false hi]
      · rw [Nat.zero_testBit]
  rw [h2]; split <;> rfl
theorem dbl_hit (c : Nat) (h : c < 65536) (hc : c / 32768 % 2 = 1) : bits .xor .u16 (IntKind.u16.wrap ((c : Int) * 2)) 4129 = (dbl c : Nat) := by
  rw [show (c : Int) * 2 = ((2 * c : Nat) : Int) by omega, wrap16, xor_rule _ (Nat.mod_lt _ (by decide))]
  unfold dbl; rw [if_pos hc]
theorem dbl_miss (c : Nat) (h : c < 65536) (hc : ¬ c / 32768 % 2 = 1) : IntKind.u16.wrap ((c : Int) * 2) = (dbl c : Nat) := by
  rw [show (c : Int) * 2 = ((2 * c : Nat) : Int) by omega, wrap16]
  unfold dbl; rw [if_neg hc, Nat.xor_zero]

theorem double_any (c : Nat) (h : c < 65536) (w : World) :
    Calls Try.prog 15 #[.int .u16 (c : Int)] w fun e w' => e = .returned (.int .u16 (dbl c : Nat)) ∧ w = w' := by
  have hb := top_bit c h
  by_cases hc : c / 32768 % 2 = 1
  · rw [if_pos hc] at hb
    have HS := Lib.hid (dbl_hit c h hc)
    clear hc
    go_enter Try.func15, Try.ntmps15
    go_wp2
    go_ret
    exact ⟨ret_int HS.out, rfl⟩
  · rw [if_neg hc] at hb
    have HS := Lib.hid (dbl_miss c h hc)
    clear hc
    go_enter Try.func15, Try.ntmps15
    go_wp2
    go_ret
    exact ⟨ret_int HS.out, rfl⟩

/-! ### bytes -/
theorem add_zero (x : Addr) : x.add 0 = x := by cases x; simp [Addr.add]
/-- A slice's address under which the bytes l lie. -/
def Row (w : World) (a : Option Addr) (l : List Nat) : Prop := l.length ≤ maxLen ∧ (∀ x ∈ l, x < 256) ∧ (l = [] ∨ ∃ x, a = some x ∧ ∀ i, i < l.length → w.cell? (x.add i) = some (.int .u8 (l.getD i 0 : Nat)))
theorem Row.cells {w : World} {a : Option Addr} {l : List Nat} (h : Row w a l) {k : Nat} (hk : k < l.length) : ∃ x, a = some x ∧ ∀ i, i < l.length → w.cell? (x.add i) = some (.int .u8 (l.getD i 0 : Nat)) := by
  rcases h.2.2 with rfl | h
  · simp at hk
  · exact h
theorem Row.below {w w' : World} {a : Option Addr} {l : List Nat} (h : Row w a l) (hb : Below w.heap.size w w') : Row w' a l := by
  refine ⟨h.1, h.2.1, ?_⟩
  rcases h.2.2 with h | ⟨x, hx, hc⟩
  · exact .inl h
  · exact .inr ⟨x, hx, fun i hi => (hb.cell (World.block_lt_of_cell? w _ (hc i hi))).trans (hc i hi)⟩
theorem Row.lt {w : World} {a : Option Addr} {l : List Nat} (h : Row w a l) (k : Nat) (hk : k < l.length) : l.getD k 0 < 256 := by
  rw [List.getD_eq_getElem?_getD, List.getElem?_eq_getElem hk]; exact h.2.1 _ (List.getElem_mem hk)

theorem bit_of (y m : Nat) (hy : y < 256) : IntKind.u16.wrap (bits .and .u8 ((y : Int) / 2 ^ (7 - m)) 1) = ((y / 2 ^ (7 - m) % 2 : Nat) : Int) := by
  have h1 : ((y : Int) / 2 ^ (7 - m)) = ((y / 2 ^ (7 - m) : Nat) : Int) := by simp
  have h2 : y / 2 ^ (7 - m) < 256 := Nat.lt_of_le_of_lt (Nat.div_le_self _ _) hy
  generalize y / 2 ^ (7 - m) = z at h1 h2 ⊢
  have h3 := u8_and_nat z 1 h2 (by decide)
  rw [h1, show bits .and .u8 (z : Int) 1 = ((z &&& 1 : Nat) : Int) from h3, Nat.and_one_is_mod, wrap16]
  omega
theorem test_eq (q y b : Nat) (h : q / 32768 = b) : ((q : Int) / 32768 != (b : Int)) = false := by
  rw [bne_eq_false_iff_eq]; omega
theorem test_ne (q y b : Nat) (h : ¬ q / 32768 = b) : ((q : Int) / 32768 != (b : Int)) = true := by
  rw [bne_iff_ne]; omega
theorem bit_miss (q b : Nat) (h : q < 65536) (hb : q / 32768 = b) : IntKind.u16.wrap ((q : Int) * 2) = (bitStep q b : Nat) := by
  rw [show (q : Int) * 2 = ((2 * q : Nat) : Int) by omega, wrap16]
  unfold bitStep; rw [if_neg (by omega)]
theorem bit_hit (q b : Nat) (h : q < 65536) (hb : ¬ q / 32768 = b) : bits .xor .u16 (IntKind.u16.wrap ((q : Int) * 2)) 4129 = (bitStep q b : Nat) := by
  rw [show (q : Int) * 2 = ((2 * q : Nat) : Int) by omega, wrap16, xor_rule _ (Nat.mod_lt _ (by decide))]
  unfold bitStep; rw [if_pos (by omega)]

set_option maxHeartbeats 1000000 in
theorem ref_any (c : Nat) (hc : c < 65536) (a : Option Addr) (cap : Nat) (l : List Nat) (w : World) (h : Row w a l) :
    Calls Try.prog 10 #[.int .u16 (c : Int), .slice a l.length cap] w fun e w' => e = .returned (.int .u16 (crc c l : Nat)) ∧ w = w' := by
  have h1 := h.1
  unfold maxLen at h1
  have Hr := Lib.hid h
  clear h
  go_enter Try.func10, Try.ntmps10
  go_wp2
  go_loop [0, 5] (fun t i => ∃ k : Nat, k ≤ l.length ∧ i = .int .i64 k ∧ t = .int .u16 (crc c (l.take k) : Nat)) (fun _ i => l.length - (intOf i).toNat)
  case atStart => exact ⟨0, Nat.zero_le _, rfl, rfl⟩
  case round =>
    obtain ⟨k, hk, rfl, rfl⟩ := hrel
    by_cases hlt : k < l.length
    · have hs := CrcM.take_snoc l k hlt
      have hx := Hr.out.lt k hlt
      obtain ⟨x, rfl, hcl⟩ := Hr.out.cells hlt
      have hcell := hcl k hlt
      have hd := crc_lt c (l.take k) hc
      have HS : Hid (crc c (l.take (k + 1)) = bits8 (crc c (l.take k)) (l.getD k 0) 8) := by
        show _ = _
        rw [hs, crc_snoc, bits8_step _ _ hd hx]
      clear hcl hs
      generalize crc c (l.take k) = d at hd HS
      generalize l.getD k 0 = y at hcell hx HS
      go_wp2
      go_loop [0, 6] (fun t i => ∃ m : Nat, m ≤ 8 ∧ i = .int .i64 (7 - (m : Int)) ∧ t = .int .u16 (bits8 d y m : Nat)) (fun _ i => (1 + intOf i).toNat)
      case atStart => exact ⟨0, Nat.zero_le _, rfl, rfl⟩
      case round =>
        obtain ⟨m, hm, rfl, rfl⟩ := hrel
        by_cases hlt : m < 8
        · have hq := bits8_lt d y m hd
          have hw1 := bit_of y m hx
          by_cases ht : bits8 d y m / 32768 = y / 2 ^ (7 - m) % 2
          · have hT := test_eq _ y _ ht
            have HB := Lib.hid (bit_miss _ _ hq ht)
            have HQ : Hid (bits8 d y (m + 1) = bitStep (bits8 d y m) (y / 2 ^ (7 - m) % 2)) := rfl
            rw [← hw1] at hT
            clear ht hw1
            generalize bits8 d y m = q at hq hT HB HQ
            go_wp2
            go_round
            case rel => exact ⟨m + 1, by omega, by go_num, by rw [HQ.out, HB.out]⟩
            case measure => simp [intOf]; omega
          · have hT := test_ne _ y _ ht
            have HB := Lib.hid (bit_hit _ _ hq ht)
            have HQ : Hid (bits8 d y (m + 1) = bitStep (bits8 d y m) (y / 2 ^ (7 - m) % 2)) := rfl
            rw [← hw1] at hT
            clear ht hw1
            generalize bits8 d y m = q at hq hT HB HQ
            go_wp2
            go_round
            case rel => exact ⟨m + 1, by omega, by go_num, by rw [HQ.out, HB.out]⟩
            case measure => simp [intOf]; omega
        · obtain rfl : m = 8 := by omega
          go_wp2
          go_round
          case rel => exact ⟨k + 1, by omega, by go_num, by rw [HS.out]⟩
          case measure => simp [intOf]; omega
    · go_wp2
      go_ret
      have : k = l.length := by omega
      subst this
      exact ⟨by rw [List.take_of_length_le (Nat.le_refl _)]; rfl, rfl⟩
/-! ### the table -/
/-- The table as it is filled: its first k elements. -/
def cells (k : Nat) : Array Value := ((List.range 256).map fun i => if i < k then .int .u16 (tab i : Nat) else .int .u16 0).toArray
theorem cells_size (k : Nat) : (cells k).size = 256 := by simp [cells]
theorem cells_at (k i : Nat) (h : i < 256) : (cells k)[i]? = some (if i < k then .int .u16 (tab i : Nat) else .int .u16 0) := by
  unfold cells
  rw [List.getElem?_toArray, List.getElem?_map, List.getElem?_range h]; rfl
theorem cells_zero : Array.replicate 256 (.int .u16 0) = cells 0 := by
  apply Array.ext_getElem?
  intro i
  by_cases h : i < 256
  · rw [cells_at 0 i h, Array.getElem?_replicate, if_pos h]; rfl
  · rw [Array.getElem?_eq_none (by simp; omega), Array.getElem?_eq_none (by rw [cells_size]; omega)]
theorem cells_set (k : Nat) (h : k < 256) : (cells k).setIfInBounds k (.int .u16 (tab k : Nat)) = cells (k + 1) := by
  apply Array.ext_getElem?
  intro i
  by_cases hi : i < 256
  · by_cases e : k = i
    · subst e
      rw [Array.getElem?_setIfInBounds_self_of_lt (by rw [cells_size]; exact h), cells_at _ _ h, if_pos (Nat.lt_succ_self _)]
    · rw [Array.getElem?_setIfInBounds_ne e, cells_at _ _ hi, cells_at _ _ hi]
      by_cases h2 : i < k
      · rw [if_pos h2, if_pos (by omega)]
      · rw [if_neg h2, if_neg (by omega)]
  · rw [Array.getElem?_eq_none (by rw [Array.size_setIfInBounds, cells_size]; omega), Array.getElem?_eq_none (by rw [cells_size]; omega)]
theorem cells_set2 (k : Nat) (v : Value) (h : k < 256) : ((cells k).setIfInBounds k v).setIfInBounds k (.int .u16 (tab k : Nat)) = cells (k + 1) := by
  rw [Array.setIfInBounds_setIfInBounds, cells_set k h]
theorem cells_half (k : Nat) (h : k < 256) : (cells k)[k / 2]? = some (.int .u16 (tab (k / 2) : Nat)) := by
  rw [cells_at _ _ (by omega)]
  by_cases h2 : k / 2 < k
  · rw [if_pos h2]
  · have : k = 0 := by omega
    subst this
    rw [if_neg (by decide)]
    rw [show 0 / 2 = 0 from rfl, tab_zero]; rfl
theorem cells_one (k : Nat) : (cells k).all (·.oneCell') = true := by
  rw [Array.all_eq_true]
  intro i hi
  rw [cells_size] at hi
  have h1 := cells_at k i hi
  rw [Array.getElem?_eq_getElem (by rw [cells_size]; exact hi)] at h1
  rw [Option.some.inj h1]
  split <;> rfl
theorem store_whole (w : World) (g : Nat) (t : TypeId) (j k : Nat) (hg : w.heap[g]? = some (.cells (cells j) t (0, 0))) :
    (storeCells ⟨g, 0, none⟩ (cells k).toList 0).run Try.prog w = .ok () (w.setRow g (cells k)) := by
  have := run_storeCells_from (P := Try.prog) g t (cells k).toList 0 (cells j) w hg (by simp [cells_size]) (fun v hv => (Array.all_eq_true_iff_forall_mem.1 (cells_one k)) v (by simpa using hv))
  simpa using this
theorem info36 : (Try.prog.info? 36).map (fun i => (i.zero, i.size)) = some (some (.agg (Array.replicate 256 (.int .u16 0))), 256) := by kernel_rfl

set_option maxRecDepth 100000 in
set_option maxHeartbeats 1000000 in
theorem table_any (w : World) :
    Calls Try.prog 14 #[] w fun e w' => e = .returned (.agg (cells 256)) ∧ Below w.heap.size w w' := by
  obtain ⟨hz, hi⟩ := zero_of_info info36
  rw [cells_zero] at hz
  have Hi := Lib.hid hi
  clear hi
  go_enter Try.func14, Try.ntmps14
  go_wp2_with fail
  go_loopw [3] (fun i wr => ∃ k : Nat, k ≤ 256 ∧ i = .int .i64 k ∧ wr = (w.alloc (.cells (cells 0) 36)).alloc (.cells (cells k) 36)) (fun i _ => 256 - (intOf i).toNat)
  case atStart => exact ⟨0, by omega, rfl, rfl⟩
  case round =>
    obtain ⟨k, hk, rfl, rfl⟩ := hrel
    by_cases hlt : k < 256
    · have hcell := cells_half k hlt
      have hsz := cells_size k
      have ht := tab_lt (k / 2)
      have HS := Lib.hid (cells_set k hlt)
      have hto : ((k : Int) / 2).toNat = k / 2 := by omega
      have hd := dbl_lt (tab (k / 2))
      by_cases ho : k % 2 = 1
      · have hx : bits .xor .u16 (dbl (tab (k / 2)) : Nat) 4129 = (tab k : Nat) := by rw [xor_rule _ hd, ← tab_odd k hlt ho]
        have ho2 : ((k : Int) % 2) = 1 := by omega
        go_wp2_with (go_at_call 15; refine (double_any _ ht _).mono ?_; rintro e w' ⟨rfl, rfl⟩)
        go_roundw
        case rel => exact ⟨k + 1, by omega, by go_num, by rw [HS.out]⟩
        case measure => simp [intOf]; omega
      · have hx : dbl (tab (k / 2)) = tab k := (tab_even k hlt ho).symm
        have HX := Lib.hid hx
        clear hx
        have ho2 : ((k : Int) % 2) = 0 := by omega
        go_wp2_with (go_at_call 15; refine (double_any _ ht _).mono ?_; rintro e w' ⟨rfl, rfl⟩; rw [HX.out])
        go_roundw
        case rel => exact ⟨k + 1, by omega, by go_num, by rw [HS.out]⟩
        case measure => simp [intOf]; omega
    · obtain rfl : k = 256 := by omega
      have hu : Try.prog.underlying 36 = some (.array 256 22) := by kernel_rfl
      have hg1 : ((w.alloc (.cells (cells 0) 36)).alloc (.cells (cells 256) 36)).heap[w.heap.size + 1]? = some (.cells (cells 256) 36 (0, 0)) := heap_alloc2_new w _ _
      have hg0 : ((w.alloc (.cells (cells 0) 36)).alloc (.cells (cells 256) 36)).heap[w.heap.size]? = some (.cells (cells 0) 36 (0, 0)) := heap_alloc2_old w _ _
      have hbel : Below w.heap.size w ((w.alloc (.cells (cells 0) 36)).alloc (.cells (cells 256) 36)) := ((Below.refl _ _).alloc (Nat.le_refl _) _).alloc (by simp) _
      generalize (w.alloc (.cells (cells 0) 36)).alloc (.cells (cells 256) 36) = w2 at hg1 hg0 hbel ⊢
      have hst := store_whole w2 w.heap.size _ 0 256 hg0
      have HG := Lib.hid (And.intro hg1 hu)
      have HF : Hid (Below w.heap.size w (w2.setRow w.heap.size (cells 256)) ∧ (w2.setRow w.heap.size (cells 256)).heap[w.heap.size]? = some (.cells (cells 256) 36 (0, 0))) :=
        ⟨hbel.trans ⟨rfl, rfl, rfl, by simp [World.setRow], fun j hj => setRow_other _ _ _ _ (by omega)⟩, setRow_heap _ _ _ _ _ _ hg0⟩
      generalize w2.setRow w.heap.size (cells 256) = w3 at HF hst
      clear hg1 hg0 hu hz hbel
      go_wp2_with fail
      refine wp_load_row 36 (.tmp 1) rfl (w.heap.size + 1) rfl 36 (cells 256) (0, 0) _ HG.out.1 HG.out.2 rfl (by rw [cells_size]; exact Hi.out) ?_
      go_wp2_with fail
      (try simp only [Exit.inBlock, Exit.then])
      refine bodyPost_ret (v := .agg (cells 256)) ?_ rfl ⟨rfl, HF.out.1⟩
      exact results_cell_row rfl _ _ w.heap.size 36 (cells 256) (0, 0) _ rfl HF.out.2 HG.out.2 rfl (by rw [cells_size]; exact Hi.out)

end Go.Proofs.Ytfmilmgnepmdoaa.Crc
