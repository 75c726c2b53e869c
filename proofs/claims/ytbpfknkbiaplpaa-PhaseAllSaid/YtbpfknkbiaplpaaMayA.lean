/- The contracts of table.within and of the document's times and upto: are all numbers from 0 to a bound? -/
import Derived.Test.YtbpfknkbiaplpaaRows
import Derived.Test.YtbpfknkbiaplpaaTab
import Derived.WalkKit
import Derived.ProofKit
import Derived.IntWalk
import Derived.Lib.Hide
import Derived.LoopTactic
import Derived.Below
namespace Go.Proofs.Ytbpfknkbiaplpaa.May
open Go.ChangeShapes Go.WideShapes Go.ChangeAt Go.RowKit
open Tab
set_option linter.unusedVariables false
set_option linter.unusedSimpArgs false

theorem ret_bool {a b : Bool} (h : a = b) : Ending.returned (.bool a) = .returned (.bool b) := by rw [h]
/-- Are all numbers from 0 to m? -/
def inB (m : Int) (n : Int) : Bool := decide (0 ≤ n) && decide (n ≤ m)
def allIn (m : Int) (l : List Int) : Bool := l.all (inB m)
theorem take_succ' {α : Type} (l : List α) (k : Nat) (v : α) (h : l[k]? = some v) : l.take (k + 1) = l.take k ++ [v] := by
  rw [List.take_add_one, h]; rfl
theorem all_step {α : Type} {f : α → Bool} {l : List α} {k : Nat} {v : α} (h : l[k]? = some v) (hk : (l.take k).all f = true) (hv : f v = true) : (l.take (k + 1)).all f = true := by
  rw [take_succ' l k v h, List.all_append, hk]; simp [hv]
theorem all_break {α : Type} {f : α → Bool} {l : List α} {k : Nat} {v : α} (h : l[k]? = some v) (hv : f v = false) : l.all f = false := by
  rw [List.all_eq_false]; exact ⟨v, List.mem_of_getElem? h, by simp [hv]⟩
theorem all_end {α : Type} {f : α → Bool} {l : List α} {k : Nat} (hk : (l.take k).all f = true) (h : ¬ k < l.length) : l.all f = true := by
  rwa [List.take_of_length_le (by omega)] at hk

theorem times_any (a : Option Addr) (cap : Nat) (l : List Int) (w : World) (h : IntRow w ⟨a, cap⟩ l) :
    Calls Try.prog 39 #[.slice a l.length cap] w fun e w' => e = .returned (.bool (allIn 9999 l)) ∧ w = w' := by
  have h1 := h.len
  unfold maxLen at h1
  have Hr := Lib.hid h
  clear h
  go_enter Try.func39, Try.ntmps39
  go_wp2
  go_loop [3] (fun i => ∃ k : Nat, k ≤ l.length ∧ i = .int .i64 k ∧ (l.take k).all (inB 9999) = true) (fun i => l.length - (intOf i).toNat)
  case atStart => exact ⟨0, Nat.zero_le _, rfl, rfl⟩
  case round =>
    obtain ⟨k, hk, rfl, hall⟩ := hrel
    have Hall := Lib.hid hall
    clear hall
    by_cases hlt : k < l.length
    · have hv := List.getElem?_eq_getElem hlt
      generalize l[k] = v at hv
      obtain ⟨x, hx, hcell⟩ := Hr.out.at hv
      obtain rfl : a = some x := hx
      have HV := Lib.hid hv
      clear hv
      by_cases h0 : v < 0
      · go_wp2
        go_ret
        exact ⟨ret_bool (all_break HV.out (by unfold inB; rw [decide_eq_false (by omega)]; rfl)).symm, rfl⟩
      · by_cases hm : 9999 < v
        · go_wp2
          go_ret
          exact ⟨ret_bool (all_break HV.out (by unfold inB; rw [decide_eq_false (p := v ≤ 9999) (by omega), Bool.and_false])).symm, rfl⟩
        · go_wp2
          go_round
          case rel => exact ⟨k + 1, by omega, by go_num, all_step HV.out Hall.out (by unfold inB; rw [decide_eq_true (by omega), decide_eq_true (by omega)]; rfl)⟩
          case measure => simp [intOf]; omega
    · go_wp2
      go_ret
      exact ⟨ret_bool (all_end Hall.out hlt).symm, rfl⟩
theorem upto_any (m : Int) (a : Option Addr) (cap : Nat) (l : List Int) (w : World) (h : IntRow w ⟨a, cap⟩ l) :
    Calls Try.prog 40 #[.slice a l.length cap, .int .i64 m] w fun e w' => e = .returned (.bool (allIn m l)) ∧ w = w' := by
  have h1 := h.len
  unfold maxLen at h1
  have Hr := Lib.hid h
  clear h
  go_enter Try.func40, Try.ntmps40
  go_wp2
  go_loop [5] (fun i => ∃ k : Nat, k ≤ l.length ∧ i = .int .i64 k ∧ (l.take k).all (inB m) = true) (fun i => l.length - (intOf i).toNat)
  case atStart => exact ⟨0, Nat.zero_le _, rfl, rfl⟩
  case round =>
    obtain ⟨k, hk, rfl, hall⟩ := hrel
    have Hall := Lib.hid hall
    clear hall
    by_cases hlt : k < l.length
    · have hv := List.getElem?_eq_getElem hlt
      generalize l[k] = v at hv
      obtain ⟨x, hx, hcell⟩ := Hr.out.at hv
      obtain rfl : a = some x := hx
      have HV := Lib.hid hv
      clear hv
      by_cases h0 : v < 0
      · go_wp2
        go_ret
        exact ⟨ret_bool (all_break HV.out (by unfold inB; rw [decide_eq_false (by omega)]; rfl)).symm, rfl⟩
      · by_cases hm : m < v
        · go_wp2
          go_ret
          exact ⟨ret_bool (all_break HV.out (by unfold inB; rw [decide_eq_false (p := v ≤ m) (by omega), Bool.and_false])).symm, rfl⟩
        · go_wp2
          go_round
          case rel => exact ⟨k + 1, by omega, by go_num, all_step HV.out Hall.out (by unfold inB; rw [decide_eq_true (by omega), decide_eq_true (by omega)]; rfl)⟩
          case measure => simp [intOf]; omega
    · go_wp2
      go_ret
      exact ⟨ret_bool (all_end Hall.out hlt).symm, rfl⟩
end Go.Proofs.Ytbpfknkbiaplpaa.May
