/- The contracts of sameValue, sameList and sameGroup at ints, rails, buses and groups, and of the document's SameInts: are two lists equal? -/
import Derived.Test.YtfnpcfibgabmfaaRows
import Derived.Test.YtfnpcfibgabmfaaMayC
import Derived.Test.YtfnpcfibgabmfaaFlat
namespace Go.Proofs.Ytfnpcfibgabmfaa.Same
open Go.ChangeShapes Go.WideShapes Go.ChangeAt Go.RowKit
open Tab
open May (ret_bool chain take_succ' infoP infoG infoD infoR infoB row_new)
set_option linter.unusedVariables false
set_option linter.unusedSimpArgs false

theorem eq_step {α : Type} {l m : List α} {k : Nat} {v u : α} (h : l[k]? = some v) (h' : m[k]? = some u) (e : l.take k = m.take k) (hv : v = u) : l.take (k + 1) = m.take (k + 1) := by
  rw [take_succ' l k v h, take_succ' m k u h', e, hv]
theorem eq_break {α : Type} {l m : List α} {k : Nat} {v u : α} (h : l[k]? = some v) (h' : m[k]? = some u) (hv : ¬ v = u) : ¬ l = m := by
  rintro rfl; rw [h] at h'; exact hv (Option.some.inj h')
theorem eq_end {α : Type} {l m : List α} {k : Nat} (e : l.take k = m.take k) (hl : l.length = m.length) (hk : ¬ k < l.length) : l = m := by
  rwa [List.take_of_length_le (by omega), List.take_of_length_le (by omega)] at e

theorem value_any (a b : Int) (w : World) : Calls Try.prog 94 #[.int .i64 a, .int .i64 b] w fun e w' => e = .returned (.bool (decide (a = b))) ∧ w = w' := by
  go_enter Try.func94, Try.ntmps94
  go_wp2
  go_ret
  exact ⟨ret_bool (by by_cases h : a = b <;> simp [h]), rfl⟩
theorem ints_any (a b : Option Addr) (ca cb : Nat) (l m : List Int) (w : World) (h : IntRow w ⟨a, ca⟩ l) (h' : IntRow w ⟨b, cb⟩ m) :
    Calls Try.prog 93 #[.slice a l.length ca, .slice b m.length cb, .func (.func 94) #[] #[]] w fun e w' => e = .returned (.bool (decide (l = m))) ∧ w = w' := by
  have h1 := h.len
  have h2 := h'.len
  unfold maxLen at h1 h2
  have Hr := Lib.hid h
  have Hr' := Lib.hid h'
  clear h h'
  by_cases hlen : l.length = m.length
  · have HL := Lib.hid hlen
    have hd : ((l.length : Int) != (m.length : Int)) = false := by rw [bne_eq_false_iff_eq]; omega
    go_enter Try.func93, Try.ntmps93
    go_wp2
    go_loop [16] (fun i => ∃ k : Nat, k ≤ l.length ∧ i = .int .i64 k ∧ l.take k = m.take k) (fun i => l.length - (intOf i).toNat)
    case atStart => exact ⟨0, by omega, rfl, rfl⟩
    case round =>
      obtain ⟨k, hk, rfl, hall⟩ := hrel
      have Hall := Lib.hid hall
      clear hall
      by_cases hlt : k < l.length
      · have hv := List.getElem?_eq_getElem hlt
        have hu := List.getElem?_eq_getElem (show k < m.length by omega)
        generalize l[k] = v at hv
        generalize m[k]'(show k < m.length by omega) = u at hu
        obtain ⟨x, hx, hc⟩ := Hr.out.at hv
        obtain rfl : a = some x := hx
        obtain ⟨y, hy, hc'⟩ := Hr'.out.at hu
        obtain rfl : b = some y := hy
        have HV := Lib.hid hv
        have HU := Lib.hid hu
        clear hv hu
        go_wp2_with fail
        refine (value_any v u _).mono ?_
        rintro e w2 ⟨rfl, rfl⟩
        by_cases hvu : v = u
        · have HE := Lib.hid hvu
          rw [decide_eq_true hvu]
          clear hvu
          go_wp2
          go_round
          case rel => exact ⟨k + 1, by omega, by go_num, eq_step HV.out HU.out Hall.out HE.out⟩
          case measure => simp [intOf]; omega
        · have HE := Lib.hid (show ¬ l = m from eq_break HV.out HU.out hvu)
          rw [decide_eq_false hvu]
          clear hvu
          go_wp2
          go_ret
          exact ⟨ret_bool (decide_eq_false HE.out).symm, rfl⟩
      · have HE := Lib.hid (show l = m from eq_end Hall.out HL.out hlt)
        go_wp2
        go_ret
        exact ⟨ret_bool (decide_eq_true HE.out).symm, rfl⟩
  · have HL := Lib.hid (show ¬ l = m from fun e => hlen (by rw [e]))
    have hd : ((l.length : Int) != (m.length : Int)) = true := by rw [bne_iff_ne]; omega
    go_enter Try.func93, Try.ntmps93
    go_wp2
    go_ret
    exact ⟨ret_bool (decide_eq_false HL.out).symm, rfl⟩
end Go.Proofs.Ytfnpcfibgabmfaa.Same
