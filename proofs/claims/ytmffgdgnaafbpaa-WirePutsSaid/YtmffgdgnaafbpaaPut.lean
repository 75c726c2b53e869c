/- The contracts of wire.limit, wire.Put, wire.PutFloat and of the document's own Put and PutFloat. -/
import Derived.Test.YtmffgdgnaafbpaaB
import Derived.Laws.ShiftsVarLaws
namespace Go.Proofs.Ytmffgdgnaafbpaa.Put
open Go.ChangeShapes Go.WideShapes Go.ChangeAt Go.RowKit
open B
set_option linter.unusedVariables false

/-- The lowest k bytes of n, the most significant one first. -/
def low : Nat → Int → List Nat
  | 0, _ => []
  | k + 1, n => ((n / 2 ^ (8 * k)) % 256).toNat :: low k n
theorem low_len (k : Nat) (n : Int) : (low k n).length = k := by
  induction k with
  | zero => rfl
  | succ k ih => rw [low, List.length_cons, ih]
theorem low_lt (k : Nat) (n : Int) : ∀ x ∈ low k n, x < 256 := by
  induction k with
  | zero => simp [low]
  | succ k ih =>
    intro x hx
    rw [low, List.mem_cons] at hx
    rcases hx with rfl | h
    · omega
    · exact ih x h
/-- A size as one from 0 to m. -/
def lim (n : Int) (m : Nat) : Nat := min n.toNat m
theorem lim_le (n : Int) (m : Nat) : lim n m ≤ m := Nat.min_le_right _ _

set_option maxHeartbeats 400000 in
theorem limit_any (n : Int) (m : Nat) (w : World) : Calls Try.prog 25 #[.int .i64 n, .int .i64 (m : Int)] w fun e w' => e = .returned (.int .i64 (lim n m : Nat)) ∧ w = w' := by
  by_cases h0 : n < 0
  · have e : ((lim n m : Nat) : Int) = 0 := by unfold lim; omega
    have h1 : ¬ ((m : Int) < 0) := by omega
    have HE := Lib.hid e
    clear e
    go_enter Try.func25, Try.ntmps25
    go_wp2
    go_ret
    exact ⟨ret_int (by rw [HE.out]), rfl⟩
  · by_cases h1 : (m : Int) < n
    · have e : ((lim n m : Nat) : Int) = m := by unfold lim; omega
      have HE := Lib.hid e
      clear e
      go_enter Try.func25, Try.ntmps25
      go_wp2
      go_ret
      exact ⟨ret_int (by rw [HE.out]), rfl⟩
    · have e : ((lim n m : Nat) : Int) = n := by unfold lim; omega
      have HE := Lib.hid e
      clear e
      go_enter Try.func25, Try.ntmps25
      go_wp2
      go_ret
      exact ⟨ret_int (by rw [HE.out]), rfl⟩
set_option maxHeartbeats 400000 in
theorem cut_any (n : Int) (m : Nat) (w : World) : Calls Try.prog 27 #[.int .i64 n, .int .i64 0, .int .i64 (m : Int)] w fun e w' => e = .returned (.int .i64 (lim n m : Nat)) ∧ w = w' := by
  by_cases h0 : n < 0
  · have e : ((lim n m : Nat) : Int) = 0 := by unfold lim; omega
    have HE := Lib.hid e
    clear e
    go_enter Try.func27, Try.ntmps27
    go_wp2
    go_ret
    exact ⟨ret_int (by rw [HE.out]), rfl⟩
  · by_cases h1 : (m : Int) < n
    · have e : ((lim n m : Nat) : Int) = m := by unfold lim; omega
      have HE := Lib.hid e
      clear e
      go_enter Try.func27, Try.ntmps27
      go_wp2
      go_ret
      exact ⟨ret_int (by rw [HE.out]), rfl⟩
    · have e : ((lim n m : Nat) : Int) = n := by unfold lim; omega
      have HE := Lib.hid e
      clear e
      go_enter Try.func27, Try.ntmps27
      go_wp2
      go_ret
      exact ⟨ret_int (by rw [HE.out]), rfl⟩

theorem one_row (w : World) (x : Nat) (hx : x < 256) : Row (w.alloc (.cells #[.int .u8 (x : Int)] 5)) (some ⟨w.heap.size, 0, none⟩) [x] := by
  refine ⟨by unfold maxLen; simp, fun y hy => ?_, .inr ⟨_, rfl, fun i hi => ?_⟩⟩
  · simp only [List.mem_cons, List.not_mem_nil, or_false] at hy
    omega
  · obtain rfl : i = 0 := by simp at hi; omega
    rw [add_zero]
    simp

set_option maxHeartbeats 1000000 in
theorem put_any (ad : Option Addr) (cap : Nat) (l : List Nat) (size n : Int) (w : World) (hr : Row w ad l) (hl : l.length ≤ 10000) :
    Calls Try.prog 8 #[.slice ad l.length cap, .int .i64 size, .int .i64 n] w fun e w' => ∃ v, e = .returned v ∧ Own w.heap.size w' v (l ++ low (lim size 8) n) ∧ Below w.heap.size w w' := by
  have Hr := Lib.hid hr
  clear hr
  go_enter Try.func8, Try.ntmps8
  go_wp2_with fail
  refine (limit_any _ 8 _).mono ?_
  rintro e w' ⟨rfl, rfl⟩
  have hk := lim_le size 8
  generalize hkk : lim size 8 = k at hk ⊢
  have HK := Lib.hid hkk
  clear hkk
  go_wp2_with (at_make; refine wpList_space rfl _ _ rfl w.heap.size l.length (l.length + k) _ _ rfl rfl rfl (Int.natCast_add _ _).symm (by omega) (by omega) (Nat.le_refl _) ?_)
  intro w1 hg1 b1 hs1
  go_wp2_with (refine wpList_copied rfl _ _ rfl w.heap.size w.heap.size l.length (l.length + k) rfl ad cap l rfl rfl (Hr.out.below b1) (by omega) (by omega) _ hg1 (by simp) (Nat.le_refl _) ?_)
  intro w2 hown b2
  have hb2 : Below w.heap.size w w2 := b1.trans b2
  have hs2 := b2.size
  clear hg1 b1 b2
  generalize Value.slice (some ⟨w.heap.size, 0, none⟩) l.length (l.length + k) = v0 at hown ⊢
  have Hown := Lib.hid hown
  have Hb2 := Lib.hid hb2
  clear hown hb2
  go_wp2
  go_loopw [7, 8] (fun o i wr => ∃ z : Int, -1 ≤ z ∧ z < k ∧ i = .int .i64 z ∧ (∃ m, Own w.heap.size wr o (l ++ m) ∧ m ++ low (z + 1).toNat n = low k n) ∧ Below w.heap.size w wr ∧ w.heap.size ≤ wr.heap.size) (fun _ i _ => (intOf i + 1).toNat)
  case atStart =>
    refine ⟨k - 1, by omega, by omega, by go_num, ⟨[], by rw [List.append_nil]; exact Hown.out, ?_⟩, Hb2.out, by omega⟩
    rw [show ((k : Int) - 1 + 1).toNat = k by omega]; rfl
  case round =>
    obtain ⟨z, hz1, hz2, rfl, ⟨m, hm, hml⟩, hbel, hsz⟩ := hrel
    have Hm := Lib.hid hm
    have Hml := Lib.hid hml
    clear hm hml
    by_cases h0 : 0 ≤ z
    · obtain ⟨q, rfl⟩ : ∃ q : Nat, z = q := ⟨z.toNat, by omega⟩
      obtain ⟨x, hx⟩ : ∃ x : Nat, n / 2 ^ (8 * q) % 256 = x := ⟨_, (Int.toNat_of_nonneg (by omega)).symm⟩
      have hx2 : x < 256 := by omega
      have HL : Hid (m ++ [x] ++ low q n = low k n) := by
        have h := Hml.out
        rw [show ((q : Int) + 1).toNat = q + 1 by omega, low, hx, Int.toNat_natCast] at h
        show _ = _
        rw [← h]; simp
      have Hlen : Hid (m.length ≤ 8) := by
        have h := congrArg List.length Hml.out
        rw [List.length_append, low_len, low_len] at h
        show _ ≤ _
        omega
      go_wp2_with (at_builtin; refine wpList_more rfl _ _ rfl w.heap.size _ (l ++ m) rfl (own_below Hm.out ((Below.refl _ _).alloc (Nat.le_refl _) _)) _ _ [x] rfl ?row ?hB ?len ?_)
      case row => exact one_row wr x hx2
      case hB => simp; omega
      case len =>
        have := Hlen.out
        simp only [List.length_append, List.length_singleton]; omega
      intro v' w' hown' hb'
      have hgo : Below w.heap.size w w' := (hbel.alloc hsz _).trans hb'
      have hsz' : w.heap.size ≤ w'.heap.size := hgo.size
      have Hown' := Lib.hid hown'
      clear hown' hb'
      go_wp2
      go_roundw
      case rel => exact ⟨q - 1, by omega, by omega, by go_num, ⟨m ++ [x], by first | exact Hown'.out | (rw [← List.append_assoc]; exact Hown'.out), by rw [show ((q : Int) - 1 + 1).toNat = q by omega]; exact HL.out⟩, hgo, hsz'⟩
      case measure => first | (simp [intOf]; done) | (simp [intOf]; omega)
    · obtain rfl : z = -1 := by omega
      have e : l ++ m = l ++ low k n := by rw [← Hml.out]; simp [low]
      have Hm2 := Hm.out
      rw [e] at Hm2
      replace Hm2 := Lib.hid Hm2
      clear e
      go_wp2
      go_ret
      refine ⟨_, rfl, ?_, hbel⟩
      rw [HK.out]
      first | exact Hm2.out | (simp; exact Hm2.out)

set_option maxHeartbeats 1000000 in
theorem ref_put_any (ad : Option Addr) (cap : Nat) (l : List Nat) (size n : Int) (w : World) (hr : Row w ad l) (hl : l.length ≤ 10000) (hnil : ad = none → cap = 0) :
    Calls Try.prog 11 #[.slice ad l.length cap, .int .i64 size, .int .i64 n] w fun e w' => ∃ v, e = .returned v ∧ Own w.heap.size w' v (l ++ low (lim size 8) n) ∧ Below w.heap.size w w' := by
  have Hr := Lib.hid hr
  have Hn := Lib.hid hnil
  clear hr hnil
  go_enter Try.func11, Try.ntmps11
  go_wp2_with (at_builtin; refine wpList_copy rfl _ _ rfl rfl ad cap l rfl Hr.out Hn.out (by omega) ?_)
  intro v0 w2 hown hb2
  have hs2 := hb2.size
  have Hown := Lib.hid hown
  have Hb2 := Lib.hid hb2
  clear hown hb2
  go_wp2_with fail
  refine (cut_any _ 8 _).mono ?_
  rintro e w' ⟨rfl, rfl⟩
  have hk := lim_le size 8
  generalize hkk : lim size 8 = k at hk ⊢
  have HK := Lib.hid hkk
  clear hkk
  go_wp2
  go_loopw [7, 8] (fun o i wr => ∃ z : Int, -1 ≤ z ∧ z < k ∧ i = .int .i64 z ∧ (∃ m, Own w.heap.size wr o (l ++ m) ∧ m ++ low (z + 1).toNat n = low k n) ∧ Below w.heap.size w wr ∧ w.heap.size ≤ wr.heap.size) (fun _ i _ => (intOf i + 1).toNat)
  case atStart =>
    refine ⟨k - 1, by omega, by omega, by go_num, ⟨[], by rw [List.append_nil]; exact Hown.out, ?_⟩, Hb2.out, by omega⟩
    rw [show ((k : Int) - 1 + 1).toNat = k by omega]; rfl
  case round =>
    obtain ⟨z, hz1, hz2, rfl, ⟨m, hm, hml⟩, hbel, hsz⟩ := hrel
    have Hm := Lib.hid hm
    have Hml := Lib.hid hml
    clear hm hml
    by_cases h0 : 0 ≤ z
    · obtain ⟨q, rfl⟩ : ∃ q : Nat, z = q := ⟨z.toNat, by omega⟩
      obtain ⟨x, hx⟩ : ∃ x : Nat, n / 2 ^ (8 * q) % 256 = x := ⟨_, (Int.toNat_of_nonneg (by omega)).symm⟩
      have hx2 : x < 256 := by omega
      have HL : Hid (m ++ [x] ++ low q n = low k n) := by
        have h := Hml.out
        rw [show ((q : Int) + 1).toNat = q + 1 by omega, low, hx, Int.toNat_natCast] at h
        show _ = _
        rw [← h]; simp
      have Hlen : Hid (m.length ≤ 8) := by
        have h := congrArg List.length Hml.out
        rw [List.length_append, low_len, low_len] at h
        show _ ≤ _
        omega
      go_wp2_with (at_builtin; refine wpList_more rfl _ _ rfl w.heap.size _ (l ++ m) rfl (own_below Hm.out ((Below.refl _ _).alloc (Nat.le_refl _) _)) _ _ [x] rfl ?row ?hB ?len ?_)
      case row => exact one_row wr x hx2
      case hB => simp; omega
      case len =>
        have := Hlen.out
        simp only [List.length_append, List.length_singleton]; omega
      intro v' w' hown' hb'
      have hgo : Below w.heap.size w w' := (hbel.alloc hsz _).trans hb'
      have hsz' : w.heap.size ≤ w'.heap.size := hgo.size
      have Hown' := Lib.hid hown'
      clear hown' hb'
      go_wp2
      go_roundw
      case rel => exact ⟨q - 1, by omega, by omega, by go_num, ⟨m ++ [x], by first | exact Hown'.out | (rw [← List.append_assoc]; exact Hown'.out), by rw [show ((q : Int) - 1 + 1).toNat = q by omega]; exact HL.out⟩, hgo, hsz'⟩
      case measure => first | (simp [intOf]; done) | (simp [intOf]; omega)
    · obtain rfl : z = -1 := by omega
      have e : l ++ m = l ++ low k n := by rw [← Hml.out]; simp [low]
      have Hm2 := Hm.out
      rw [e] at Hm2
      replace Hm2 := Lib.hid Hm2
      clear e
      go_wp2
      go_ret
      refine ⟨_, rfl, ?_, hbel⟩
      rw [HK.out]
      first | exact Hm2.out | (simp; exact Hm2.out)

theorem bits_call (x : Nat) (w : World) : (callFunc 26 #[.float .f64 x]).run Try.prog w = .ok (.value (.int .u64 x)) w := by
  rw [run_callFunc_extern (e := Extern.MathFloatBits.float64bits) Try.func26 (by kernel_rfl) (by kernel_rfl) (by kernel_rfl) (by kernel_rfl)]
  rfl
theorem frombits_call (n : Int) (w : World) : (callFunc 36 #[.int .u64 n]).run Try.prog w = .ok (.value (.float .f64 n.toNat)) w := by
  rw [run_callFunc_extern (e := Extern.MathFloatBits.float64frombits) Try.func36 (by kernel_rfl) (by kernel_rfl) (by kernel_rfl) (by kernel_rfl)]
  rfl
theorem div_mod (a p : Int) (hp : 0 < p) : a / p % 256 = a % (p * 256) / p := by
  have h := Int.emod_add_mul_ediv a (p * 256)
  have h1 := Int.emod_nonneg a (show p * 256 ≠ 0 by omega)
  have h2 := Int.emod_lt_of_pos a (show 0 < p * 256 by omega)
  generalize a % (p * 256) = r at *
  generalize a / (p * 256) = q at *
  have h5 : a = r + p * (256 * q) := by rw [← h, Int.mul_assoc]
  rw [h5, Int.add_mul_ediv_left _ _ (by omega)]
  have h3 : 0 ≤ r / p := Int.ediv_nonneg h1 (by omega)
  have h4 : r / p < 256 := Int.ediv_lt_of_lt_mul hp (by rw [Int.mul_comm]; exact h2)
  omega
/-- 8 bytes do not tell numbers apart that are alike in their lowest 64 bits. -/
theorem low_mod (k : Nat) (a b : Int) (h : a % 2 ^ (8 * k) = b % 2 ^ (8 * k)) : low k a = low k b := by
  induction k with
  | zero => rfl
  | succ k ih =>
    have hp : (2 : Int) ^ (8 * (k + 1)) = 2 ^ (8 * k) * 256 := by rw [show 8 * (k + 1) = 8 * k + 8 by omega, Int.pow_add]; rfl
    have hpos : (0 : Int) < 2 ^ (8 * k) := Int.pow_pos (by decide)
    rw [hp] at h
    have h1 : a / 2 ^ (8 * k) % 256 = b / 2 ^ (8 * k) % 256 := by
      rw [div_mod a _ hpos, div_mod b _ hpos, h]
    have h2 : a % 2 ^ (8 * k) = b % 2 ^ (8 * k) := by
      rw [← Int.emod_emod_of_dvd a (Int.dvd_mul_right (2 ^ (8 * k)) 256), h, Int.emod_emod_of_dvd b (Int.dvd_mul_right _ _)]
    rw [low, low, h1, ih h2]
theorem low_wrap (x : Nat) : low (lim 8 8) (wrap64 x) = low 8 x := low_mod 8 _ _ (by unfold wrap64; omega)
set_option maxHeartbeats 1000000 in
theorem putf_any (ad : Option Addr) (cap : Nat) (l : List Nat) (x : Nat) (w : World) (hr : Row w ad l) (hl : l.length ≤ 10000) :
    Calls Try.prog 9 #[.slice ad l.length cap, .float .f64 x] w fun e w' => ∃ v, e = .returned v ∧ Own w.heap.size w' v (l ++ low 8 x) ∧ Below w.heap.size w w' := by
  have Hr := Lib.hid hr
  clear hr
  have hb := bits_call x
  go_enter Try.func9, Try.ntmps9
  go_wp2_with fail
  refine (put_any ad cap l 8 _ _ Hr.out hl).mono ?_
  rintro e w' ⟨v, rfl, hown, hbel⟩
  rw [low_wrap] at hown
  have Hown := Lib.hid hown
  clear hown
  go_wp2
  go_ret
  refine ⟨_, rfl, ?_, hbel⟩
  exact Hown.out
set_option maxHeartbeats 1000000 in
theorem ref_putf_any (ad : Option Addr) (cap : Nat) (l : List Nat) (x : Nat) (w : World) (hr : Row w ad l) (hl : l.length ≤ 10000) (hnil : ad = none → cap = 0) :
    Calls Try.prog 12 #[.slice ad l.length cap, .float .f64 x] w fun e w' => ∃ v, e = .returned v ∧ Own w.heap.size w' v (l ++ low 8 x) ∧ Below w.heap.size w w' := by
  have Hr := Lib.hid hr
  have Hn := Lib.hid hnil
  clear hnil
  clear hr
  have hb := bits_call x
  go_enter Try.func12, Try.ntmps12
  go_wp2_with fail
  refine (ref_put_any ad cap l 8 _ _ Hr.out hl Hn.out).mono ?_
  rintro e w' ⟨v, rfl, hown, hbel⟩
  rw [low_wrap] at hown
  have Hown := Lib.hid hown
  clear hown
  go_wp2
  go_ret
  refine ⟨_, rfl, ?_, hbel⟩
  exact Hown.out
end Go.Proofs.Ytmffgdgnaafbpaa.Put
