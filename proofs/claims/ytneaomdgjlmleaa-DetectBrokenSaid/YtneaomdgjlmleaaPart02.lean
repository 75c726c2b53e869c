/- 8 texts in one file, in build order. -/
import Derived.Test.YtneaomdgjlmleaaRows
import Derived.Test.YtneaomdgjlmleaaPart01
import Derived.StillTailTactics
import Derived.Deep.Cut
import Derived.Laws.Tables
import Derived.Laws.CopyOwn
import Derived.Laws.Rows
import Derived.WalkKit
import Derived.WalkLawsBesides
import Derived.ProofKit
import Derived.IntWalk
import Derived.Lib.Hide
import Derived.Still
import Derived.StillTail
import Derived.Deep.QuietTactic
import Derived.Below
import Derived.Deep.WholeRow
import Derived.BigFrame
import Derived.Laws.StructEq
import Derived.Laws.CopyRow
import Derived.Deep.Slices
import Derived.ChangeSame
import Derived.Deep.RegionHeld3
set_option linter.unusedVariables false
set_option linter.unusedSimpArgs false
set_option linter.unusedSectionVars false
set_option maxHeartbeats 8000000
set_option maxRecDepth 100000
namespace Go.Proofs.Ytneaomdgjlmleaa
namespace Lvl
open Go.ChangeShapes Go.WideShapes Go.ChangeAt Go.RowKit
open Tab Flat TabArg Go.Proofs.Fl
open Cnt (more ct)
open Secs (bits_call ord_cases ord_nan isnan_t isnan_f isnan_any ret_bool ret_int ret_float)
/-! a state -/
structure Lv where
  on : Bool
  bad : Int
deriving DecidableEq
def Lv.cells (s : Lv) : List Value := [.bool s.on, I s.bad]
section
variable {H : Type} {enc : TypeId × Value → H} {P : Program} {w : World} {base : Nat} {spare : Nat → Bool} {held : Bool}
end
/-! is a sample none? -/
abbrev M : Nat := 4696837146684686336
abbrev mM : Nat := 13920209183539462144
theorem keyM : key M = 4696837146684686336 := by decide
theorem keymM : key mM = -4696837146684686336 := by decide
theorem isnM : isn M = false := by decide
theorem isnmM : isn mM = false := by decide
def bad (x : Nat) : Bool := isn x || (decide (4696837146684686336 < key x) || decide (key x < -4696837146684686336))
/-! the two comparisons -/
def ge (x y : Nat) : Bool := match FloatKind.f64.format.order x y with | some .gt => true | some .eq => true | _ => false
def le (x y : Nat) : Bool := match FloatKind.f64.format.order x y with | some .lt => true | some .eq => true | _ => false
def stp (on off : Nat) (s : Lv) (x : Nat) : Lv := if bad x = true then ⟨s.on, more s.bad⟩ else if ge x on = true then ⟨true, 0⟩ else if le x off = true then ⟨false, 0⟩ else ⟨s.on, 0⟩
def failed (s : Lv) : Bool := decide (3 ≤ s.bad)
def seen (s : Lv) : Bool := s.on || failed s
theorem ge_cases {x y : Nat} {b : Bool} (h : ge x y = b) : (b = true ∧ (FloatKind.f64.format.order x y = some .gt ∨ FloatKind.f64.format.order x y = some .eq)) ∨ (b = false ∧ (FloatKind.f64.format.order x y = some .lt ∨ FloatKind.f64.format.order x y = none)) := by
  subst h
  unfold ge
  rcases FloatKind.f64.format.order x y with _ | _ | _ | _ <;> simp
theorem le_cases {x y : Nat} {b : Bool} (h : le x y = b) : (b = true ∧ (FloatKind.f64.format.order x y = some .lt ∨ FloatKind.f64.format.order x y = some .eq)) ∨ (b = false ∧ (FloatKind.f64.format.order x y = some .gt ∨ FloatKind.f64.format.order x y = none)) := by
  subst h
  unfold le
  rcases FloatKind.f64.format.order x y with _ | _ | _ | _ <;> simp
/-! the parts -/
theorem abs_key (x : Nat) : key (x % 9223372036854775808) = (rung x : Int) := by
  unfold key sg rung
  have h : x % 9223372036854775808 < 9223372036854775808 := Nat.mod_lt _ (by decide)
  rw [show x % 9223372036854775808 / 9223372036854775808 % 2 = 0 by omega]
  simp [Nat.mod_mod]
theorem abs_isn (x : Nat) : isn (x % 9223372036854775808) = isn x := by unfold isn rung; rw [Nat.mod_mod]
theorem bits_abs (x : Nat) (h : x < 18446744073709551616) : bits .andNot .u64 (x : Int) 9223372036854775808 = ((x % 9223372036854775808 : Nat) : Int) := by
  have := u64_andNot_nat x 9223372036854775808 h (by decide)
  rw [show ((9223372036854775808 : Nat) : Int) = 9223372036854775808 from rfl] at this
  rw [this]
  congr 1
  exact Nat.and_two_pow_sub_one_eq_mod x 63
theorem frombits_call (n : Int) (w : World) : (callFunc 63 #[.int .u64 n]).run Try.prog w = .ok (.value (.float .f64 n.toNat)) w := by
  rw [run_callFunc_extern (e := Extern.MathFloatBits.float64frombits) Try.func63 (by kernel_rfl) (by kernel_rfl) (by kernel_rfl) (by kernel_rfl)]
  rfl
theorem abs_any (x : Nat) (hx : x < 18446744073709551616) (w : World) : Calls Try.prog 102 #[.float .f64 x] w fun e w' => e = .returned (.float .f64 (x % 9223372036854775808)) ∧ w = w' := by
  have hb := bits_call x
  have hf := frombits_call
  have ha := bits_abs x hx
  have HX := Lib.hid hx
  clear hx
  go_enter Try.func102, Try.ntmps102
  go_wp2_with (simp only [hb, hf, ha])
  go_ret
  exact ⟨ret_float (by simp), rfl⟩
theorem isBad_any (x : Nat) (hx : x < 18446744073709551616) (w : World) : Calls Try.prog 91 #[.float .f64 x] w fun e w' => e = .returned (.bool (bad x)) ∧ w = w' := by
  have HX := Lib.hid hx
  clear hx
  cases hn : isn x
  · have HN := Lib.hid hn
    have ho := ord_cases (x % 9223372036854775808) 4696837146684686336 (by rw [abs_isn, hn]) isnM
    rw [abs_key, keyM] at ho
    have hk : bad x = decide (4696837146684686336 < (rung x : Int)) := by
      unfold bad key
      rw [hn, Bool.false_or, Bool.eq_iff_iff]
      cases sg x <;> simp <;> omega
    rcases ho with ⟨h, ho⟩ | ⟨h, ho⟩ | ⟨h, ho⟩
    · have HK : Hid (bad x = false) := Lib.hid (by rw [hk]; simp; omega)
      clear h hk hn
      go_enter Try.func91, Try.ntmps91
      go_wp2_with (first | (go_at_call 101; refine (isnan_f HN.out _).mono ?_; rintro e w' ⟨rfl, rfl⟩) | (go_at_call 102; refine (abs_any _ HX.out _).mono ?_; rintro e w' ⟨rfl, rfl⟩))
      go_ret
      exact ⟨ret_bool HK.out.symm, rfl⟩
    · have HK : Hid (bad x = false) := Lib.hid (by rw [hk]; simp; omega)
      clear h hk hn
      go_enter Try.func91, Try.ntmps91
      go_wp2_with (first | (go_at_call 101; refine (isnan_f HN.out _).mono ?_; rintro e w' ⟨rfl, rfl⟩) | (go_at_call 102; refine (abs_any _ HX.out _).mono ?_; rintro e w' ⟨rfl, rfl⟩))
      go_ret
      exact ⟨ret_bool HK.out.symm, rfl⟩
    · have HK : Hid (bad x = true) := Lib.hid (by rw [hk]; simp; omega)
      clear h hk hn
      go_enter Try.func91, Try.ntmps91
      go_wp2_with (first | (go_at_call 101; refine (isnan_f HN.out _).mono ?_; rintro e w' ⟨rfl, rfl⟩) | (go_at_call 102; refine (abs_any _ HX.out _).mono ?_; rintro e w' ⟨rfl, rfl⟩))
      go_ret
      exact ⟨ret_bool HK.out.symm, rfl⟩
  · have HN := Lib.hid hn
    have HK : Hid (bad x = true) := Lib.hid (by unfold bad; rw [hn]; rfl)
    clear hn
    go_enter Try.func91, Try.ntmps91
    go_wp2_with (first | (go_at_call 101; refine (isnan_t HN.out _).mono ?_; rintro e w' ⟨rfl, rfl⟩) | (go_at_call 102; refine (abs_any _ HX.out _).mono ?_; rintro e w' ⟨rfl, rfl⟩))
    go_ret
    exact ⟨ret_bool HK.out.symm, rfl⟩
theorem rbad_any (x : Nat) (w : World) : Calls Try.prog 78 #[.float .f64 x] w fun e w' => e = .returned (.bool (bad x)) ∧ w = w' := by
  cases hn : isn x
  · have h0 := ord_cases x mM hn isnmM
    have h1 := ord_cases x M hn isnM
    rw [keymM] at h0
    rw [keyM] at h1
    have hk : bad x = (decide (4696837146684686336 < key x) || decide (key x < -4696837146684686336)) := by unfold bad; rw [hn, Bool.false_or]
    rcases h0 with ⟨a, h0⟩ | ⟨a, h0⟩ | ⟨a, h0⟩ <;> rcases h1 with ⟨b, h1⟩ | ⟨b, h1⟩ | ⟨b, h1⟩ <;> first
      | omega
      | (have HK : Hid (bad x = true) := Lib.hid (by rw [hk]; simp; omega)
         clear a b hk hn
         go_enter Try.func78, Try.ntmps78
         go_wp2
         go_ret
         exact ⟨ret_bool HK.out.symm, rfl⟩)
      | (have HK : Hid (bad x = false) := Lib.hid (by rw [hk]; simp; omega)
         clear a b hk hn
         go_enter Try.func78, Try.ntmps78
         go_wp2
         go_ret
         exact ⟨ret_bool HK.out.symm, rfl⟩)
  · have h0 := ord_nan x mM (.inl hn)
    have h1 := ord_nan x M (.inl hn)
    have HK : Hid (bad x = true) := Lib.hid (by unfold bad; rw [hn]; rfl)
    clear hn
    go_enter Try.func78, Try.ntmps78
    go_wp2
    go_ret
    exact ⟨ret_bool HK.out.symm, rfl⟩
theorem oneMore_any (n : Int) (w : World) : Calls Try.prog 92 #[.int .i64 n] w fun e w' => e = .returned (.int .i64 (more n)) ∧ w = w' := by
  have e1 : IntKind.i64.wrap (n + 1) = n + 1 ∨ n < 0 ∨ 9999 < n := by rw [IntKind.wrap_i64]; omega
  by_cases h1 : n < 0
  · have HE : Hid (more n = 1) := Lib.hid (by unfold more ct; rw [if_pos h1]; rfl)
    have em : max n 0 = 0 := by omega
    go_enter Try.func92, Try.ntmps92
    go_wp2
    go_ret
    exact ⟨ret_int HE.out.symm, rfl⟩
  by_cases h2 : 9999 < n
  · have HE : Hid (more n = 10000) := Lib.hid (by unfold more ct; rw [if_neg h1, if_pos h2]; rfl)
    go_enter Try.func92, Try.ntmps92
    go_wp2
    go_ret
    exact ⟨ret_int HE.out.symm, rfl⟩
  · have HE : Hid (more n = n + 1) := Lib.hid (by unfold more ct; rw [if_neg h1, if_neg h2])
    go_enter Try.func92, Try.ntmps92
    go_wp2
    go_ret
    exact ⟨ret_int HE.out.symm, rfl⟩
/-! ### by lvl.py -/
theorem infoL : (Try.prog.info? 69).map (·.size) = some 2 := by kernel_rfl
structure B3 (w u : World) (dc sc zc : Array Value) : Prop where
  d : u.heap[w.heap.size]? = some (.cells dc 65 (0, 0))
  s : u.heap[w.heap.size + 1]? = some (.cells sc 69 (0, 0))
  r : u.heap[w.heap.size + 1 + 1]? = some (.cells zc 69 (0, 0))
  bel : Below w.heap.size w u
theorem B3.drew {w u : World} {dc sc zc : Array Value} (h : B3 w u dc sc zc) : B3 w u.drew dc sc zc := ⟨h.d, h.s, h.r, h.bel.drew⟩
theorem b3 (w : World) (dc sc zc : Array Value) : B3 w (((w.alloc (.cells dc 65)).alloc (.cells sc 69)).alloc (.cells zc 69)) dc sc zc := by
  have s1 : (w.alloc (.cells dc 65)).heap.size = w.heap.size + 1 := by simp
  have s2 : ((w.alloc (.cells dc 65)).alloc (.cells sc 69)).heap.size = w.heap.size + 1 + 1 := by simp
  have n1 := heap_alloc_new w (.cells dc 65)
  have n2 := heap_alloc_new (w.alloc (.cells dc 65)) (.cells sc 69)
  have n3 := heap_alloc_new ((w.alloc (.cells dc 65)).alloc (.cells sc 69)) (.cells zc 69)
  rw [s1] at n2
  rw [s2] at n3
  refine ⟨?_, ?_, n3, (((Below.refl _ _).alloc (Nat.le_refl _) _).alloc (by simp) _).alloc (by simp; omega) _⟩
  · rw [Below.heap_alloc _ _ _ (by rw [s2]; omega), Below.heap_alloc _ _ _ (by rw [s1]; omega)]; exact n1
  · rw [Below.heap_alloc _ _ _ (by rw [s2]; omega)]; exact n2
theorem below_row {B : Nat} {a w : World} (h : Below B a w) {g : Nat} (hg : B ≤ g) (cs : Array Value) : Below B a (w.setRow g cs) :=
  below_setRow h hg cs
theorem step_any (d : Det) (s : Lv) (x : Nat) (hx : x < 18446744073709551616) (w : World) : Calls Try.prog 73 #[.agg d.cells.toArray, .agg s.cells.toArray, .float .f64 x] w fun e w' => e = .returned (.agg (stp d.on d.off s x).cells.toArray) ∧ Below w.heap.size w w' := by
  obtain ⟨ph, on, off, dl, ex, mo, mf⟩ := d
  obtain ⟨b, n⟩ := s
  have HX := Lib.hid hx
  clear hx
  simp only [Det.cells, Lv.cells]
  have h3 := b3 w #[I ph, F on, F off, F dl, F ex, I mo, I mf] #[.bool b, I n] #[.bool false, I 0]
  cases hb : bad x
  · have HB := Lib.hid hb
    have h1 := ge_cases (x := x) (y := on) rfl
    have h2 := le_cases (x := x) (y := off) rfl
    have hg : stp on off ⟨b, n⟩ x = if ge x on = true then ⟨true, 0⟩ else if le x off = true then ⟨false, 0⟩ else ⟨b, 0⟩ := by unfold stp; rw [if_neg (by rw [hb]; simp)]
    clear hb
    rcases h1 with ⟨h1, ho | ho⟩ | ⟨h1, ho | ho⟩
    · have HE : Hid (stp on off ⟨b, n⟩ x = ⟨true, 0⟩) := Lib.hid (by rw [hg, if_pos h1])
      clear h1 h2 hg
      go_enter Try.func73, Try.ntmps73
      go_upto_region 1 with fail
      generalize World.alloc _ (.cells #[.bool false, I 0] 69) = u at h3 ⊢
      have H3 := Lib.hid h3
      clear h3
      have c0 : u.cell? ⟨w.heap.size + 1, 0, none⟩ = some (.bool b) := by rw [cell_of_row _ _ _ _ _ _ H3.out.s]; rfl
      have c1 : u.cell? ⟨w.heap.size + 1, 1, none⟩ = some (I n) := by rw [cell_of_row _ _ _ _ _ _ H3.out.s]; rfl
      have k1 : u.cell? ⟨w.heap.size, 1, none⟩ = some (F on) := by rw [cell_of_row _ _ _ _ _ _ H3.out.d]; rfl
      have k2 : u.cell? ⟨w.heap.size, 2, none⟩ = some (F off) := by rw [cell_of_row _ _ _ _ _ _ H3.out.d]; rfl
      go_wp2_with (first | (go_at_call 91; refine (isBad_any _ HX.out _).mono ?_; rintro e w' ⟨rfl, rfl⟩; rw [HB.out]) | (refine wpList_store_row rfl 69 _ _ rfl (w.heap.size + 1 + 1) #[.bool true, I 0] rfl rfl 69 _ H3.out.r infoL rfl (by simp [Value.oneCell']) ?_))
      have HG := Lib.hid (below_row H3.out.bel (g := w.heap.size + 1 + 1) (by omega) #[.bool true, I 0])
      have HK := Lib.hid (setRow_heap u (w.heap.size + 1 + 1) _ #[.bool true, I 0] _ _ H3.out.r)
      clear H3
      generalize World.setRow u (w.heap.size + 1 + 1) #[.bool true, I 0] = uz at HG HK ⊢
      go_wp2_with fail
      (try simp only [Exit.inBlock, Exit.then])
      refine bodyPost_ret (v := .agg #[.bool true, I 0]) ?_ rfl ⟨by rw [HE.out], HG.out⟩
      exact results_cell_row rfl _ _ (w.heap.size + 1 + 1) 69 _ (0, 0) _ rfl HK.out Try.underlying69 rfl infoL
    · have HE : Hid (stp on off ⟨b, n⟩ x = ⟨true, 0⟩) := Lib.hid (by rw [hg, if_pos h1])
      clear h1 h2 hg
      go_enter Try.func73, Try.ntmps73
      go_upto_region 1 with fail
      generalize World.alloc _ (.cells #[.bool false, I 0] 69) = u at h3 ⊢
      have H3 := Lib.hid h3
      clear h3
      have c0 : u.cell? ⟨w.heap.size + 1, 0, none⟩ = some (.bool b) := by rw [cell_of_row _ _ _ _ _ _ H3.out.s]; rfl
      have c1 : u.cell? ⟨w.heap.size + 1, 1, none⟩ = some (I n) := by rw [cell_of_row _ _ _ _ _ _ H3.out.s]; rfl
      have k1 : u.cell? ⟨w.heap.size, 1, none⟩ = some (F on) := by rw [cell_of_row _ _ _ _ _ _ H3.out.d]; rfl
      have k2 : u.cell? ⟨w.heap.size, 2, none⟩ = some (F off) := by rw [cell_of_row _ _ _ _ _ _ H3.out.d]; rfl
      go_wp2_with (first | (go_at_call 91; refine (isBad_any _ HX.out _).mono ?_; rintro e w' ⟨rfl, rfl⟩; rw [HB.out]) | (refine wpList_store_row rfl 69 _ _ rfl (w.heap.size + 1 + 1) #[.bool true, I 0] rfl rfl 69 _ H3.out.r infoL rfl (by simp [Value.oneCell']) ?_))
      have HG := Lib.hid (below_row H3.out.bel (g := w.heap.size + 1 + 1) (by omega) #[.bool true, I 0])
      have HK := Lib.hid (setRow_heap u (w.heap.size + 1 + 1) _ #[.bool true, I 0] _ _ H3.out.r)
      clear H3
      generalize World.setRow u (w.heap.size + 1 + 1) #[.bool true, I 0] = uz at HG HK ⊢
      go_wp2_with fail
      (try simp only [Exit.inBlock, Exit.then])
      refine bodyPost_ret (v := .agg #[.bool true, I 0]) ?_ rfl ⟨by rw [HE.out], HG.out⟩
      exact results_cell_row rfl _ _ (w.heap.size + 1 + 1) 69 _ (0, 0) _ rfl HK.out Try.underlying69 rfl infoL
    · rcases h2 with ⟨h2, hq | hq⟩ | ⟨h2, hq | hq⟩
      · have HE : Hid (stp on off ⟨b, n⟩ x = ⟨false, 0⟩) := Lib.hid (by rw [hg, if_neg (by rw [h1]; simp), if_pos h2])
        clear h1 h2 hg
        go_enter Try.func73, Try.ntmps73
        go_upto_region 1 with fail
        generalize World.alloc _ (.cells #[.bool false, I 0] 69) = u at h3 ⊢
        have H3 := Lib.hid h3
        clear h3
        have c0 : u.cell? ⟨w.heap.size + 1, 0, none⟩ = some (.bool b) := by rw [cell_of_row _ _ _ _ _ _ H3.out.s]; rfl
        have c1 : u.cell? ⟨w.heap.size + 1, 1, none⟩ = some (I n) := by rw [cell_of_row _ _ _ _ _ _ H3.out.s]; rfl
        have k1 : u.cell? ⟨w.heap.size, 1, none⟩ = some (F on) := by rw [cell_of_row _ _ _ _ _ _ H3.out.d]; rfl
        have k2 : u.cell? ⟨w.heap.size, 2, none⟩ = some (F off) := by rw [cell_of_row _ _ _ _ _ _ H3.out.d]; rfl
        go_wp2_with (first | (go_at_call 91; refine (isBad_any _ HX.out _).mono ?_; rintro e w' ⟨rfl, rfl⟩; rw [HB.out]) | (refine wpList_store_row rfl 69 _ _ rfl (w.heap.size + 1 + 1) #[.bool false, I 0] rfl rfl 69 _ H3.out.r infoL rfl (by simp [Value.oneCell']) ?_))
        have HG := Lib.hid (below_row H3.out.bel (g := w.heap.size + 1 + 1) (by omega) #[.bool false, I 0])
        have HK := Lib.hid (setRow_heap u (w.heap.size + 1 + 1) _ #[.bool false, I 0] _ _ H3.out.r)
        clear H3
        generalize World.setRow u (w.heap.size + 1 + 1) #[.bool false, I 0] = uz at HG HK ⊢
        go_wp2_with fail
        (try simp only [Exit.inBlock, Exit.then])
        refine bodyPost_ret (v := .agg #[.bool false, I 0]) ?_ rfl ⟨by rw [HE.out], HG.out⟩
        exact results_cell_row rfl _ _ (w.heap.size + 1 + 1) 69 _ (0, 0) _ rfl HK.out Try.underlying69 rfl infoL
      · have HE : Hid (stp on off ⟨b, n⟩ x = ⟨false, 0⟩) := Lib.hid (by rw [hg, if_neg (by rw [h1]; simp), if_pos h2])
        clear h1 h2 hg
        go_enter Try.func73, Try.ntmps73
        go_upto_region 1 with fail
        generalize World.alloc _ (.cells #[.bool false, I 0] 69) = u at h3 ⊢
        have H3 := Lib.hid h3
        clear h3
        have c0 : u.cell? ⟨w.heap.size + 1, 0, none⟩ = some (.bool b) := by rw [cell_of_row _ _ _ _ _ _ H3.out.s]; rfl
        have c1 : u.cell? ⟨w.heap.size + 1, 1, none⟩ = some (I n) := by rw [cell_of_row _ _ _ _ _ _ H3.out.s]; rfl
        have k1 : u.cell? ⟨w.heap.size, 1, none⟩ = some (F on) := by rw [cell_of_row _ _ _ _ _ _ H3.out.d]; rfl
        have k2 : u.cell? ⟨w.heap.size, 2, none⟩ = some (F off) := by rw [cell_of_row _ _ _ _ _ _ H3.out.d]; rfl
        go_wp2_with (first | (go_at_call 91; refine (isBad_any _ HX.out _).mono ?_; rintro e w' ⟨rfl, rfl⟩; rw [HB.out]) | (refine wpList_store_row rfl 69 _ _ rfl (w.heap.size + 1 + 1) #[.bool false, I 0] rfl rfl 69 _ H3.out.r infoL rfl (by simp [Value.oneCell']) ?_))
        have HG := Lib.hid (below_row H3.out.bel (g := w.heap.size + 1 + 1) (by omega) #[.bool false, I 0])
        have HK := Lib.hid (setRow_heap u (w.heap.size + 1 + 1) _ #[.bool false, I 0] _ _ H3.out.r)
        clear H3
        generalize World.setRow u (w.heap.size + 1 + 1) #[.bool false, I 0] = uz at HG HK ⊢
        go_wp2_with fail
        (try simp only [Exit.inBlock, Exit.then])
        refine bodyPost_ret (v := .agg #[.bool false, I 0]) ?_ rfl ⟨by rw [HE.out], HG.out⟩
        exact results_cell_row rfl _ _ (w.heap.size + 1 + 1) 69 _ (0, 0) _ rfl HK.out Try.underlying69 rfl infoL
      · have HE : Hid (stp on off ⟨b, n⟩ x = ⟨b, 0⟩) := Lib.hid (by rw [hg, if_neg (by rw [h1]; simp), if_neg (by rw [h2]; simp)])
        clear h1 h2 hg
        go_enter Try.func73, Try.ntmps73
        go_upto_region 1 with fail
        generalize World.alloc _ (.cells #[.bool false, I 0] 69) = u at h3 ⊢
        have H3 := Lib.hid h3
        clear h3
        have c0 : u.cell? ⟨w.heap.size + 1, 0, none⟩ = some (.bool b) := by rw [cell_of_row _ _ _ _ _ _ H3.out.s]; rfl
        have c1 : u.cell? ⟨w.heap.size + 1, 1, none⟩ = some (I n) := by rw [cell_of_row _ _ _ _ _ _ H3.out.s]; rfl
        have k1 : u.cell? ⟨w.heap.size, 1, none⟩ = some (F on) := by rw [cell_of_row _ _ _ _ _ _ H3.out.d]; rfl
        have k2 : u.cell? ⟨w.heap.size, 2, none⟩ = some (F off) := by rw [cell_of_row _ _ _ _ _ _ H3.out.d]; rfl
        go_wp2_with (first | (go_at_call 91; refine (isBad_any _ HX.out _).mono ?_; rintro e w' ⟨rfl, rfl⟩; rw [HB.out]) | (refine wpList_store_row rfl 69 _ _ rfl (w.heap.size + 1 + 1) #[.bool b, I 0] rfl rfl 69 _ H3.out.r infoL rfl (by simp [Value.oneCell']) ?_))
        have HG := Lib.hid (below_row H3.out.bel (g := w.heap.size + 1 + 1) (by omega) #[.bool b, I 0])
        have HK := Lib.hid (setRow_heap u (w.heap.size + 1 + 1) _ #[.bool b, I 0] _ _ H3.out.r)
        clear H3
        generalize World.setRow u (w.heap.size + 1 + 1) #[.bool b, I 0] = uz at HG HK ⊢
        go_wp2_with fail
        (try simp only [Exit.inBlock, Exit.then])
        refine bodyPost_ret (v := .agg #[.bool b, I 0]) ?_ rfl ⟨by rw [HE.out], HG.out⟩
        exact results_cell_row rfl _ _ (w.heap.size + 1 + 1) 69 _ (0, 0) _ rfl HK.out Try.underlying69 rfl infoL
      · have HE : Hid (stp on off ⟨b, n⟩ x = ⟨b, 0⟩) := Lib.hid (by rw [hg, if_neg (by rw [h1]; simp), if_neg (by rw [h2]; simp)])
        clear h1 h2 hg
        go_enter Try.func73, Try.ntmps73
        go_upto_region 1 with fail
        generalize World.alloc _ (.cells #[.bool false, I 0] 69) = u at h3 ⊢
        have H3 := Lib.hid h3
        clear h3
        have c0 : u.cell? ⟨w.heap.size + 1, 0, none⟩ = some (.bool b) := by rw [cell_of_row _ _ _ _ _ _ H3.out.s]; rfl
        have c1 : u.cell? ⟨w.heap.size + 1, 1, none⟩ = some (I n) := by rw [cell_of_row _ _ _ _ _ _ H3.out.s]; rfl
        have k1 : u.cell? ⟨w.heap.size, 1, none⟩ = some (F on) := by rw [cell_of_row _ _ _ _ _ _ H3.out.d]; rfl
        have k2 : u.cell? ⟨w.heap.size, 2, none⟩ = some (F off) := by rw [cell_of_row _ _ _ _ _ _ H3.out.d]; rfl
        go_wp2_with (first | (go_at_call 91; refine (isBad_any _ HX.out _).mono ?_; rintro e w' ⟨rfl, rfl⟩; rw [HB.out]) | (refine wpList_store_row rfl 69 _ _ rfl (w.heap.size + 1 + 1) #[.bool b, I 0] rfl rfl 69 _ H3.out.r infoL rfl (by simp [Value.oneCell']) ?_))
        have HG := Lib.hid (below_row H3.out.bel (g := w.heap.size + 1 + 1) (by omega) #[.bool b, I 0])
        have HK := Lib.hid (setRow_heap u (w.heap.size + 1 + 1) _ #[.bool b, I 0] _ _ H3.out.r)
        clear H3
        generalize World.setRow u (w.heap.size + 1 + 1) #[.bool b, I 0] = uz at HG HK ⊢
        go_wp2_with fail
        (try simp only [Exit.inBlock, Exit.then])
        refine bodyPost_ret (v := .agg #[.bool b, I 0]) ?_ rfl ⟨by rw [HE.out], HG.out⟩
        exact results_cell_row rfl _ _ (w.heap.size + 1 + 1) 69 _ (0, 0) _ rfl HK.out Try.underlying69 rfl infoL
    · rcases h2 with ⟨h2, hq | hq⟩ | ⟨h2, hq | hq⟩
      · have HE : Hid (stp on off ⟨b, n⟩ x = ⟨false, 0⟩) := Lib.hid (by rw [hg, if_neg (by rw [h1]; simp), if_pos h2])
        clear h1 h2 hg
        go_enter Try.func73, Try.ntmps73
        go_upto_region 1 with fail
        generalize World.alloc _ (.cells #[.bool false, I 0] 69) = u at h3 ⊢
        have H3 := Lib.hid h3
        clear h3
        have c0 : u.cell? ⟨w.heap.size + 1, 0, none⟩ = some (.bool b) := by rw [cell_of_row _ _ _ _ _ _ H3.out.s]; rfl
        have c1 : u.cell? ⟨w.heap.size + 1, 1, none⟩ = some (I n) := by rw [cell_of_row _ _ _ _ _ _ H3.out.s]; rfl
        have k1 : u.cell? ⟨w.heap.size, 1, none⟩ = some (F on) := by rw [cell_of_row _ _ _ _ _ _ H3.out.d]; rfl
        have k2 : u.cell? ⟨w.heap.size, 2, none⟩ = some (F off) := by rw [cell_of_row _ _ _ _ _ _ H3.out.d]; rfl
        go_wp2_with (first | (go_at_call 91; refine (isBad_any _ HX.out _).mono ?_; rintro e w' ⟨rfl, rfl⟩; rw [HB.out]) | (refine wpList_store_row rfl 69 _ _ rfl (w.heap.size + 1 + 1) #[.bool false, I 0] rfl rfl 69 _ H3.out.r infoL rfl (by simp [Value.oneCell']) ?_))
        have HG := Lib.hid (below_row H3.out.bel (g := w.heap.size + 1 + 1) (by omega) #[.bool false, I 0])
        have HK := Lib.hid (setRow_heap u (w.heap.size + 1 + 1) _ #[.bool false, I 0] _ _ H3.out.r)
        clear H3
        generalize World.setRow u (w.heap.size + 1 + 1) #[.bool false, I 0] = uz at HG HK ⊢
        go_wp2_with fail
        (try simp only [Exit.inBlock, Exit.then])
        refine bodyPost_ret (v := .agg #[.bool false, I 0]) ?_ rfl ⟨by rw [HE.out], HG.out⟩
        exact results_cell_row rfl _ _ (w.heap.size + 1 + 1) 69 _ (0, 0) _ rfl HK.out Try.underlying69 rfl infoL
      · have HE : Hid (stp on off ⟨b, n⟩ x = ⟨false, 0⟩) := Lib.hid (by rw [hg, if_neg (by rw [h1]; simp), if_pos h2])
        clear h1 h2 hg
        go_enter Try.func73, Try.ntmps73
        go_upto_region 1 with fail
        generalize World.alloc _ (.cells #[.bool false, I 0] 69) = u at h3 ⊢
        have H3 := Lib.hid h3
        clear h3
        have c0 : u.cell? ⟨w.heap.size + 1, 0, none⟩ = some (.bool b) := by rw [cell_of_row _ _ _ _ _ _ H3.out.s]; rfl
        have c1 : u.cell? ⟨w.heap.size + 1, 1, none⟩ = some (I n) := by rw [cell_of_row _ _ _ _ _ _ H3.out.s]; rfl
        have k1 : u.cell? ⟨w.heap.size, 1, none⟩ = some (F on) := by rw [cell_of_row _ _ _ _ _ _ H3.out.d]; rfl
        have k2 : u.cell? ⟨w.heap.size, 2, none⟩ = some (F off) := by rw [cell_of_row _ _ _ _ _ _ H3.out.d]; rfl
        go_wp2_with (first | (go_at_call 91; refine (isBad_any _ HX.out _).mono ?_; rintro e w' ⟨rfl, rfl⟩; rw [HB.out]) | (refine wpList_store_row rfl 69 _ _ rfl (w.heap.size + 1 + 1) #[.bool false, I 0] rfl rfl 69 _ H3.out.r infoL rfl (by simp [Value.oneCell']) ?_))
        have HG := Lib.hid (below_row H3.out.bel (g := w.heap.size + 1 + 1) (by omega) #[.bool false, I 0])
        have HK := Lib.hid (setRow_heap u (w.heap.size + 1 + 1) _ #[.bool false, I 0] _ _ H3.out.r)
        clear H3
        generalize World.setRow u (w.heap.size + 1 + 1) #[.bool false, I 0] = uz at HG HK ⊢
        go_wp2_with fail
        (try simp only [Exit.inBlock, Exit.then])
        refine bodyPost_ret (v := .agg #[.bool false, I 0]) ?_ rfl ⟨by rw [HE.out], HG.out⟩
        exact results_cell_row rfl _ _ (w.heap.size + 1 + 1) 69 _ (0, 0) _ rfl HK.out Try.underlying69 rfl infoL
      · have HE : Hid (stp on off ⟨b, n⟩ x = ⟨b, 0⟩) := Lib.hid (by rw [hg, if_neg (by rw [h1]; simp), if_neg (by rw [h2]; simp)])
        clear h1 h2 hg
        go_enter Try.func73, Try.ntmps73
        go_upto_region 1 with fail
        generalize World.alloc _ (.cells #[.bool false, I 0] 69) = u at h3 ⊢
        have H3 := Lib.hid h3
        clear h3
        have c0 : u.cell? ⟨w.heap.size + 1, 0, none⟩ = some (.bool b) := by rw [cell_of_row _ _ _ _ _ _ H3.out.s]; rfl
        have c1 : u.cell? ⟨w.heap.size + 1, 1, none⟩ = some (I n) := by rw [cell_of_row _ _ _ _ _ _ H3.out.s]; rfl
        have k1 : u.cell? ⟨w.heap.size, 1, none⟩ = some (F on) := by rw [cell_of_row _ _ _ _ _ _ H3.out.d]; rfl
        have k2 : u.cell? ⟨w.heap.size, 2, none⟩ = some (F off) := by rw [cell_of_row _ _ _ _ _ _ H3.out.d]; rfl
        go_wp2_with (first | (go_at_call 91; refine (isBad_any _ HX.out _).mono ?_; rintro e w' ⟨rfl, rfl⟩; rw [HB.out]) | (refine wpList_store_row rfl 69 _ _ rfl (w.heap.size + 1 + 1) #[.bool b, I 0] rfl rfl 69 _ H3.out.r infoL rfl (by simp [Value.oneCell']) ?_))
        have HG := Lib.hid (below_row H3.out.bel (g := w.heap.size + 1 + 1) (by omega) #[.bool b, I 0])
        have HK := Lib.hid (setRow_heap u (w.heap.size + 1 + 1) _ #[.bool b, I 0] _ _ H3.out.r)
        clear H3
        generalize World.setRow u (w.heap.size + 1 + 1) #[.bool b, I 0] = uz at HG HK ⊢
        go_wp2_with fail
        (try simp only [Exit.inBlock, Exit.then])
        refine bodyPost_ret (v := .agg #[.bool b, I 0]) ?_ rfl ⟨by rw [HE.out], HG.out⟩
        exact results_cell_row rfl _ _ (w.heap.size + 1 + 1) 69 _ (0, 0) _ rfl HK.out Try.underlying69 rfl infoL
      · have HE : Hid (stp on off ⟨b, n⟩ x = ⟨b, 0⟩) := Lib.hid (by rw [hg, if_neg (by rw [h1]; simp), if_neg (by rw [h2]; simp)])
        clear h1 h2 hg
        go_enter Try.func73, Try.ntmps73
        go_upto_region 1 with fail
        generalize World.alloc _ (.cells #[.bool false, I 0] 69) = u at h3 ⊢
        have H3 := Lib.hid h3
        clear h3
        have c0 : u.cell? ⟨w.heap.size + 1, 0, none⟩ = some (.bool b) := by rw [cell_of_row _ _ _ _ _ _ H3.out.s]; rfl
        have c1 : u.cell? ⟨w.heap.size + 1, 1, none⟩ = some (I n) := by rw [cell_of_row _ _ _ _ _ _ H3.out.s]; rfl
        have k1 : u.cell? ⟨w.heap.size, 1, none⟩ = some (F on) := by rw [cell_of_row _ _ _ _ _ _ H3.out.d]; rfl
        have k2 : u.cell? ⟨w.heap.size, 2, none⟩ = some (F off) := by rw [cell_of_row _ _ _ _ _ _ H3.out.d]; rfl
        go_wp2_with (first | (go_at_call 91; refine (isBad_any _ HX.out _).mono ?_; rintro e w' ⟨rfl, rfl⟩; rw [HB.out]) | (refine wpList_store_row rfl 69 _ _ rfl (w.heap.size + 1 + 1) #[.bool b, I 0] rfl rfl 69 _ H3.out.r infoL rfl (by simp [Value.oneCell']) ?_))
        have HG := Lib.hid (below_row H3.out.bel (g := w.heap.size + 1 + 1) (by omega) #[.bool b, I 0])
        have HK := Lib.hid (setRow_heap u (w.heap.size + 1 + 1) _ #[.bool b, I 0] _ _ H3.out.r)
        clear H3
        generalize World.setRow u (w.heap.size + 1 + 1) #[.bool b, I 0] = uz at HG HK ⊢
        go_wp2_with fail
        (try simp only [Exit.inBlock, Exit.then])
        refine bodyPost_ret (v := .agg #[.bool b, I 0]) ?_ rfl ⟨by rw [HE.out], HG.out⟩
        exact results_cell_row rfl _ _ (w.heap.size + 1 + 1) 69 _ (0, 0) _ rfl HK.out Try.underlying69 rfl infoL
  · have HB := Lib.hid hb
    have HE : Hid (stp on off ⟨b, n⟩ x = ⟨b, more n⟩) := Lib.hid (by unfold stp; rw [if_pos hb])
    clear hb
    go_enter Try.func73, Try.ntmps73
    go_upto_region 1 with fail
    generalize World.alloc _ (.cells #[.bool false, I 0] 69) = u at h3 ⊢
    have H3 := Lib.hid h3
    clear h3
    have c0 : u.cell? ⟨w.heap.size + 1, 0, none⟩ = some (.bool b) := by rw [cell_of_row _ _ _ _ _ _ H3.out.s]; rfl
    have c1 : u.cell? ⟨w.heap.size + 1, 1, none⟩ = some (I n) := by rw [cell_of_row _ _ _ _ _ _ H3.out.s]; rfl
    have k1 : u.cell? ⟨w.heap.size, 1, none⟩ = some (F on) := by rw [cell_of_row _ _ _ _ _ _ H3.out.d]; rfl
    have k2 : u.cell? ⟨w.heap.size, 2, none⟩ = some (F off) := by rw [cell_of_row _ _ _ _ _ _ H3.out.d]; rfl
    go_wp2_with (first | (go_at_call 91; refine (isBad_any _ HX.out _).mono ?_; rintro e w' ⟨rfl, rfl⟩; rw [HB.out]))
    refine QB.region_tail 6 (by kernel_rfl) (by kernel_rfl) ?_
    have h3 := H3.out.drew
    have d0 : u.drew.cell? ⟨w.heap.size + 1, 0, none⟩ = some (.bool b) := c0
    have d1 : u.drew.cell? ⟨w.heap.size + 1, 1, none⟩ = some (I n) := c1
    clear c0 c1 k1 k2 H3
    generalize World.drew u = v at h3 d0 d1 ⊢
    have H3 := Lib.hid h3
    clear h3
    simp only [List.take_succ_cons, List.take_zero, List.drop_succ_cons, List.drop_zero]
    repeat still_step
    still_call ((oneMore_any n v).mono fun e w' h => ⟨h.1, h.2.symm⟩)
    repeat still_step
    refine wpStill_nil ?_
    go_wp2_with (refine wpList_store_row rfl 69 _ _ rfl (w.heap.size + 1 + 1) #[.bool b, I (more n)] rfl rfl 69 _ H3.out.r infoL rfl (by simp [Value.oneCell']) ?_)
    have HG := Lib.hid (below_row H3.out.bel (g := w.heap.size + 1 + 1) (by omega) #[.bool b, I (more n)])
    have HK := Lib.hid (setRow_heap v (w.heap.size + 1 + 1) _ #[.bool b, I (more n)] _ _ H3.out.r)
    clear H3
    generalize World.setRow v (w.heap.size + 1 + 1) #[.bool b, I (more n)] = uz at HG HK ⊢
    go_wp2_with fail
    (try simp only [Exit.inBlock, Exit.then])
    refine bodyPost_ret (v := .agg #[.bool b, I (more n)]) ?_ rfl ⟨by rw [HE.out], HG.out⟩
    exact results_cell_row rfl _ _ (w.heap.size + 1 + 1) 69 _ (0, 0) _ rfl HK.out Try.underlying69 rfl infoL
theorem rstep_any (d : Det) (s : Lv) (x : Nat) (hx : x < 18446744073709551616) (w : World) : Calls Try.prog 54 #[.agg d.cells.toArray, .agg s.cells.toArray, .float .f64 x] w fun e w' => e = .returned (.agg (stp d.on d.off s x).cells.toArray) ∧ Below w.heap.size w w' := by
  obtain ⟨ph, on, off, dl, ex, mo, mf⟩ := d
  obtain ⟨b, n⟩ := s
  have HX := Lib.hid hx
  clear hx
  simp only [Det.cells, Lv.cells]
  have h3 := b3 w #[I ph, F on, F off, F dl, F ex, I mo, I mf] #[.bool b, I n] #[.bool false, I 0]
  cases hb : bad x
  · have HB := Lib.hid hb
    have h1 := ge_cases (x := x) (y := on) rfl
    have h2 := le_cases (x := x) (y := off) rfl
    have hg : stp on off ⟨b, n⟩ x = if ge x on = true then ⟨true, 0⟩ else if le x off = true then ⟨false, 0⟩ else ⟨b, 0⟩ := by unfold stp; rw [if_neg (by rw [hb]; simp)]
    clear hb
    rcases h1 with ⟨h1, ho | ho⟩ | ⟨h1, ho | ho⟩
    · have HE : Hid (stp on off ⟨b, n⟩ x = ⟨true, 0⟩) := Lib.hid (by rw [hg, if_pos h1])
      clear h1 h2 hg
      go_enter Try.func54, Try.ntmps54
      go_upto_region 1 with fail
      generalize World.alloc _ (.cells #[.bool false, I 0] 69) = u at h3 ⊢
      have H3 := Lib.hid h3
      clear h3
      have c0 : u.cell? ⟨w.heap.size + 1, 0, none⟩ = some (.bool b) := by rw [cell_of_row _ _ _ _ _ _ H3.out.s]; rfl
      have c1 : u.cell? ⟨w.heap.size + 1, 1, none⟩ = some (I n) := by rw [cell_of_row _ _ _ _ _ _ H3.out.s]; rfl
      have k1 : u.cell? ⟨w.heap.size, 1, none⟩ = some (F on) := by rw [cell_of_row _ _ _ _ _ _ H3.out.d]; rfl
      have k2 : u.cell? ⟨w.heap.size, 2, none⟩ = some (F off) := by rw [cell_of_row _ _ _ _ _ _ H3.out.d]; rfl
      go_wp2_with (first | (go_at_call 78; refine (rbad_any _ _).mono ?_; rintro e w' ⟨rfl, rfl⟩; rw [HB.out]) | (refine wpList_store_row rfl 69 _ _ rfl (w.heap.size + 1 + 1) #[.bool true, I 0] rfl rfl 69 _ H3.out.r infoL rfl (by simp [Value.oneCell']) ?_))
      have HG := Lib.hid (below_row H3.out.bel (g := w.heap.size + 1 + 1) (by omega) #[.bool true, I 0])
      have HK := Lib.hid (setRow_heap u (w.heap.size + 1 + 1) _ #[.bool true, I 0] _ _ H3.out.r)
      clear H3
      generalize World.setRow u (w.heap.size + 1 + 1) #[.bool true, I 0] = uz at HG HK ⊢
      go_wp2_with fail
      (try simp only [Exit.inBlock, Exit.then])
      refine bodyPost_ret (v := .agg #[.bool true, I 0]) ?_ rfl ⟨by rw [HE.out], HG.out⟩
      exact results_cell_row rfl _ _ (w.heap.size + 1 + 1) 69 _ (0, 0) _ rfl HK.out Try.underlying69 rfl infoL
    · have HE : Hid (stp on off ⟨b, n⟩ x = ⟨true, 0⟩) := Lib.hid (by rw [hg, if_pos h1])
      clear h1 h2 hg
      go_enter Try.func54, Try.ntmps54
      go_upto_region 1 with fail
      generalize World.alloc _ (.cells #[.bool false, I 0] 69) = u at h3 ⊢
      have H3 := Lib.hid h3
      clear h3
      have c0 : u.cell? ⟨w.heap.size + 1, 0, none⟩ = some (.bool b) := by rw [cell_of_row _ _ _ _ _ _ H3.out.s]; rfl
      have c1 : u.cell? ⟨w.heap.size + 1, 1, none⟩ = some (I n) := by rw [cell_of_row _ _ _ _ _ _ H3.out.s]; rfl
      have k1 : u.cell? ⟨w.heap.size, 1, none⟩ = some (F on) := by rw [cell_of_row _ _ _ _ _ _ H3.out.d]; rfl
      have k2 : u.cell? ⟨w.heap.size, 2, none⟩ = some (F off) := by rw [cell_of_row _ _ _ _ _ _ H3.out.d]; rfl
      go_wp2_with (first | (go_at_call 78; refine (rbad_any _ _).mono ?_; rintro e w' ⟨rfl, rfl⟩; rw [HB.out]) | (refine wpList_store_row rfl 69 _ _ rfl (w.heap.size + 1 + 1) #[.bool true, I 0] rfl rfl 69 _ H3.out.r infoL rfl (by simp [Value.oneCell']) ?_))
      have HG := Lib.hid (below_row H3.out.bel (g := w.heap.size + 1 + 1) (by omega) #[.bool true, I 0])
      have HK := Lib.hid (setRow_heap u (w.heap.size + 1 + 1) _ #[.bool true, I 0] _ _ H3.out.r)
      clear H3
      generalize World.setRow u (w.heap.size + 1 + 1) #[.bool true, I 0] = uz at HG HK ⊢
      go_wp2_with fail
      (try simp only [Exit.inBlock, Exit.then])
      refine bodyPost_ret (v := .agg #[.bool true, I 0]) ?_ rfl ⟨by rw [HE.out], HG.out⟩
      exact results_cell_row rfl _ _ (w.heap.size + 1 + 1) 69 _ (0, 0) _ rfl HK.out Try.underlying69 rfl infoL
    · rcases h2 with ⟨h2, hq | hq⟩ | ⟨h2, hq | hq⟩
      · have HE : Hid (stp on off ⟨b, n⟩ x = ⟨false, 0⟩) := Lib.hid (by rw [hg, if_neg (by rw [h1]; simp), if_pos h2])
        clear h1 h2 hg
        go_enter Try.func54, Try.ntmps54
        go_upto_region 1 with fail
        generalize World.alloc _ (.cells #[.bool false, I 0] 69) = u at h3 ⊢
        have H3 := Lib.hid h3
        clear h3
        have c0 : u.cell? ⟨w.heap.size + 1, 0, none⟩ = some (.bool b) := by rw [cell_of_row _ _ _ _ _ _ H3.out.s]; rfl
        have c1 : u.cell? ⟨w.heap.size + 1, 1, none⟩ = some (I n) := by rw [cell_of_row _ _ _ _ _ _ H3.out.s]; rfl
        have k1 : u.cell? ⟨w.heap.size, 1, none⟩ = some (F on) := by rw [cell_of_row _ _ _ _ _ _ H3.out.d]; rfl
        have k2 : u.cell? ⟨w.heap.size, 2, none⟩ = some (F off) := by rw [cell_of_row _ _ _ _ _ _ H3.out.d]; rfl
        go_wp2_with (first | (go_at_call 78; refine (rbad_any _ _).mono ?_; rintro e w' ⟨rfl, rfl⟩; rw [HB.out]) | (refine wpList_store_row rfl 69 _ _ rfl (w.heap.size + 1 + 1) #[.bool false, I 0] rfl rfl 69 _ H3.out.r infoL rfl (by simp [Value.oneCell']) ?_))
        have HG := Lib.hid (below_row H3.out.bel (g := w.heap.size + 1 + 1) (by omega) #[.bool false, I 0])
        have HK := Lib.hid (setRow_heap u (w.heap.size + 1 + 1) _ #[.bool false, I 0] _ _ H3.out.r)
        clear H3
        generalize World.setRow u (w.heap.size + 1 + 1) #[.bool false, I 0] = uz at HG HK ⊢
        go_wp2_with fail
        (try simp only [Exit.inBlock, Exit.then])
        refine bodyPost_ret (v := .agg #[.bool false, I 0]) ?_ rfl ⟨by rw [HE.out], HG.out⟩
        exact results_cell_row rfl _ _ (w.heap.size + 1 + 1) 69 _ (0, 0) _ rfl HK.out Try.underlying69 rfl infoL
      · have HE : Hid (stp on off ⟨b, n⟩ x = ⟨false, 0⟩) := Lib.hid (by rw [hg, if_neg (by rw [h1]; simp), if_pos h2])
        clear h1 h2 hg
        go_enter Try.func54, Try.ntmps54
        go_upto_region 1 with fail
        generalize World.alloc _ (.cells #[.bool false, I 0] 69) = u at h3 ⊢
        have H3 := Lib.hid h3
        clear h3
        have c0 : u.cell? ⟨w.heap.size + 1, 0, none⟩ = some (.bool b) := by rw [cell_of_row _ _ _ _ _ _ H3.out.s]; rfl
        have c1 : u.cell? ⟨w.heap.size + 1, 1, none⟩ = some (I n) := by rw [cell_of_row _ _ _ _ _ _ H3.out.s]; rfl
        have k1 : u.cell? ⟨w.heap.size, 1, none⟩ = some (F on) := by rw [cell_of_row _ _ _ _ _ _ H3.out.d]; rfl
        have k2 : u.cell? ⟨w.heap.size, 2, none⟩ = some (F off) := by rw [cell_of_row _ _ _ _ _ _ H3.out.d]; rfl
        go_wp2_with (first | (go_at_call 78; refine (rbad_any _ _).mono ?_; rintro e w' ⟨rfl, rfl⟩; rw [HB.out]) | (refine wpList_store_row rfl 69 _ _ rfl (w.heap.size + 1 + 1) #[.bool false, I 0] rfl rfl 69 _ H3.out.r infoL rfl (by simp [Value.oneCell']) ?_))
        have HG := Lib.hid (below_row H3.out.bel (g := w.heap.size + 1 + 1) (by omega) #[.bool false, I 0])
        have HK := Lib.hid (setRow_heap u (w.heap.size + 1 + 1) _ #[.bool false, I 0] _ _ H3.out.r)
        clear H3
        generalize World.setRow u (w.heap.size + 1 + 1) #[.bool false, I 0] = uz at HG HK ⊢
        go_wp2_with fail
        (try simp only [Exit.inBlock, Exit.then])
        refine bodyPost_ret (v := .agg #[.bool false, I 0]) ?_ rfl ⟨by rw [HE.out], HG.out⟩
        exact results_cell_row rfl _ _ (w.heap.size + 1 + 1) 69 _ (0, 0) _ rfl HK.out Try.underlying69 rfl infoL
      · have HE : Hid (stp on off ⟨b, n⟩ x = ⟨b, 0⟩) := Lib.hid (by rw [hg, if_neg (by rw [h1]; simp), if_neg (by rw [h2]; simp)])
        clear h1 h2 hg
        go_enter Try.func54, Try.ntmps54
        go_upto_region 1 with fail
        generalize World.alloc _ (.cells #[.bool false, I 0] 69) = u at h3 ⊢
        have H3 := Lib.hid h3
        clear h3
        have c0 : u.cell? ⟨w.heap.size + 1, 0, none⟩ = some (.bool b) := by rw [cell_of_row _ _ _ _ _ _ H3.out.s]; rfl
        have c1 : u.cell? ⟨w.heap.size + 1, 1, none⟩ = some (I n) := by rw [cell_of_row _ _ _ _ _ _ H3.out.s]; rfl
        have k1 : u.cell? ⟨w.heap.size, 1, none⟩ = some (F on) := by rw [cell_of_row _ _ _ _ _ _ H3.out.d]; rfl
        have k2 : u.cell? ⟨w.heap.size, 2, none⟩ = some (F off) := by rw [cell_of_row _ _ _ _ _ _ H3.out.d]; rfl
        go_wp2_with (first | (go_at_call 78; refine (rbad_any _ _).mono ?_; rintro e w' ⟨rfl, rfl⟩; rw [HB.out]) | (refine wpList_store_row rfl 69 _ _ rfl (w.heap.size + 1 + 1) #[.bool b, I 0] rfl rfl 69 _ H3.out.r infoL rfl (by simp [Value.oneCell']) ?_))
        have HG := Lib.hid (below_row H3.out.bel (g := w.heap.size + 1 + 1) (by omega) #[.bool b, I 0])
        have HK := Lib.hid (setRow_heap u (w.heap.size + 1 + 1) _ #[.bool b, I 0] _ _ H3.out.r)
        clear H3
        generalize World.setRow u (w.heap.size + 1 + 1) #[.bool b, I 0] = uz at HG HK ⊢
        go_wp2_with fail
        (try simp only [Exit.inBlock, Exit.then])
        refine bodyPost_ret (v := .agg #[.bool b, I 0]) ?_ rfl ⟨by rw [HE.out], HG.out⟩
        exact results_cell_row rfl _ _ (w.heap.size + 1 + 1) 69 _ (0, 0) _ rfl HK.out Try.underlying69 rfl infoL
      · have HE : Hid (stp on off ⟨b, n⟩ x = ⟨b, 0⟩) := Lib.hid (by rw [hg, if_neg (by rw [h1]; simp), if_neg (by rw [h2]; simp)])
        clear h1 h2 hg
        go_enter Try.func54, Try.ntmps54
        go_upto_region 1 with fail
        generalize World.alloc _ (.cells #[.bool false, I 0] 69) = u at h3 ⊢
        have H3 := Lib.hid h3
        clear h3
        have c0 : u.cell? ⟨w.heap.size + 1, 0, none⟩ = some (.bool b) := by rw [cell_of_row _ _ _ _ _ _ H3.out.s]; rfl
        have c1 : u.cell? ⟨w.heap.size + 1, 1, none⟩ = some (I n) := by rw [cell_of_row _ _ _ _ _ _ H3.out.s]; rfl
        have k1 : u.cell? ⟨w.heap.size, 1, none⟩ = some (F on) := by rw [cell_of_row _ _ _ _ _ _ H3.out.d]; rfl
        have k2 : u.cell? ⟨w.heap.size, 2, none⟩ = some (F off) := by rw [cell_of_row _ _ _ _ _ _ H3.out.d]; rfl
        go_wp2_with (first | (go_at_call 78; refine (rbad_any _ _).mono ?_; rintro e w' ⟨rfl, rfl⟩; rw [HB.out]) | (refine wpList_store_row rfl 69 _ _ rfl (w.heap.size + 1 + 1) #[.bool b, I 0] rfl rfl 69 _ H3.out.r infoL rfl (by simp [Value.oneCell']) ?_))
        have HG := Lib.hid (below_row H3.out.bel (g := w.heap.size + 1 + 1) (by omega) #[.bool b, I 0])
        have HK := Lib.hid (setRow_heap u (w.heap.size + 1 + 1) _ #[.bool b, I 0] _ _ H3.out.r)
        clear H3
        generalize World.setRow u (w.heap.size + 1 + 1) #[.bool b, I 0] = uz at HG HK ⊢
        go_wp2_with fail
        (try simp only [Exit.inBlock, Exit.then])
        refine bodyPost_ret (v := .agg #[.bool b, I 0]) ?_ rfl ⟨by rw [HE.out], HG.out⟩
        exact results_cell_row rfl _ _ (w.heap.size + 1 + 1) 69 _ (0, 0) _ rfl HK.out Try.underlying69 rfl infoL
    · rcases h2 with ⟨h2, hq | hq⟩ | ⟨h2, hq | hq⟩
      · have HE : Hid (stp on off ⟨b, n⟩ x = ⟨false, 0⟩) := Lib.hid (by rw [hg, if_neg (by rw [h1]; simp), if_pos h2])
        clear h1 h2 hg
        go_enter Try.func54, Try.ntmps54
        go_upto_region 1 with fail
        generalize World.alloc _ (.cells #[.bool false, I 0] 69) = u at h3 ⊢
        have H3 := Lib.hid h3
        clear h3
        have c0 : u.cell? ⟨w.heap.size + 1, 0, none⟩ = some (.bool b) := by rw [cell_of_row _ _ _ _ _ _ H3.out.s]; rfl
        have c1 : u.cell? ⟨w.heap.size + 1, 1, none⟩ = some (I n) := by rw [cell_of_row _ _ _ _ _ _ H3.out.s]; rfl
        have k1 : u.cell? ⟨w.heap.size, 1, none⟩ = some (F on) := by rw [cell_of_row _ _ _ _ _ _ H3.out.d]; rfl
        have k2 : u.cell? ⟨w.heap.size, 2, none⟩ = some (F off) := by rw [cell_of_row _ _ _ _ _ _ H3.out.d]; rfl
        go_wp2_with (first | (go_at_call 78; refine (rbad_any _ _).mono ?_; rintro e w' ⟨rfl, rfl⟩; rw [HB.out]) | (refine wpList_store_row rfl 69 _ _ rfl (w.heap.size + 1 + 1) #[.bool false, I 0] rfl rfl 69 _ H3.out.r infoL rfl (by simp [Value.oneCell']) ?_))
        have HG := Lib.hid (below_row H3.out.bel (g := w.heap.size + 1 + 1) (by omega) #[.bool false, I 0])
        have HK := Lib.hid (setRow_heap u (w.heap.size + 1 + 1) _ #[.bool false, I 0] _ _ H3.out.r)
        clear H3
        generalize World.setRow u (w.heap.size + 1 + 1) #[.bool false, I 0] = uz at HG HK ⊢
        go_wp2_with fail
        (try simp only [Exit.inBlock, Exit.then])
        refine bodyPost_ret (v := .agg #[.bool false, I 0]) ?_ rfl ⟨by rw [HE.out], HG.out⟩
        exact results_cell_row rfl _ _ (w.heap.size + 1 + 1) 69 _ (0, 0) _ rfl HK.out Try.underlying69 rfl infoL
      · have HE : Hid (stp on off ⟨b, n⟩ x = ⟨false, 0⟩) := Lib.hid (by rw [hg, if_neg (by rw [h1]; simp), if_pos h2])
        clear h1 h2 hg
        go_enter Try.func54, Try.ntmps54
        go_upto_region 1 with fail
        generalize World.alloc _ (.cells #[.bool false, I 0] 69) = u at h3 ⊢
        have H3 := Lib.hid h3
        clear h3
        have c0 : u.cell? ⟨w.heap.size + 1, 0, none⟩ = some (.bool b) := by rw [cell_of_row _ _ _ _ _ _ H3.out.s]; rfl
        have c1 : u.cell? ⟨w.heap.size + 1, 1, none⟩ = some (I n) := by rw [cell_of_row _ _ _ _ _ _ H3.out.s]; rfl
        have k1 : u.cell? ⟨w.heap.size, 1, none⟩ = some (F on) := by rw [cell_of_row _ _ _ _ _ _ H3.out.d]; rfl
        have k2 : u.cell? ⟨w.heap.size, 2, none⟩ = some (F off) := by rw [cell_of_row _ _ _ _ _ _ H3.out.d]; rfl
        go_wp2_with (first | (go_at_call 78; refine (rbad_any _ _).mono ?_; rintro e w' ⟨rfl, rfl⟩; rw [HB.out]) | (refine wpList_store_row rfl 69 _ _ rfl (w.heap.size + 1 + 1) #[.bool false, I 0] rfl rfl 69 _ H3.out.r infoL rfl (by simp [Value.oneCell']) ?_))
        have HG := Lib.hid (below_row H3.out.bel (g := w.heap.size + 1 + 1) (by omega) #[.bool false, I 0])
        have HK := Lib.hid (setRow_heap u (w.heap.size + 1 + 1) _ #[.bool false, I 0] _ _ H3.out.r)
        clear H3
        generalize World.setRow u (w.heap.size + 1 + 1) #[.bool false, I 0] = uz at HG HK ⊢
        go_wp2_with fail
        (try simp only [Exit.inBlock, Exit.then])
        refine bodyPost_ret (v := .agg #[.bool false, I 0]) ?_ rfl ⟨by rw [HE.out], HG.out⟩
        exact results_cell_row rfl _ _ (w.heap.size + 1 + 1) 69 _ (0, 0) _ rfl HK.out Try.underlying69 rfl infoL
      · have HE : Hid (stp on off ⟨b, n⟩ x = ⟨b, 0⟩) := Lib.hid (by rw [hg, if_neg (by rw [h1]; simp), if_neg (by rw [h2]; simp)])
        clear h1 h2 hg
        go_enter Try.func54, Try.ntmps54
        go_upto_region 1 with fail
        generalize World.alloc _ (.cells #[.bool false, I 0] 69) = u at h3 ⊢
        have H3 := Lib.hid h3
        clear h3
        have c0 : u.cell? ⟨w.heap.size + 1, 0, none⟩ = some (.bool b) := by rw [cell_of_row _ _ _ _ _ _ H3.out.s]; rfl
        have c1 : u.cell? ⟨w.heap.size + 1, 1, none⟩ = some (I n) := by rw [cell_of_row _ _ _ _ _ _ H3.out.s]; rfl
        have k1 : u.cell? ⟨w.heap.size, 1, none⟩ = some (F on) := by rw [cell_of_row _ _ _ _ _ _ H3.out.d]; rfl
        have k2 : u.cell? ⟨w.heap.size, 2, none⟩ = some (F off) := by rw [cell_of_row _ _ _ _ _ _ H3.out.d]; rfl
        go_wp2_with (first | (go_at_call 78; refine (rbad_any _ _).mono ?_; rintro e w' ⟨rfl, rfl⟩; rw [HB.out]) | (refine wpList_store_row rfl 69 _ _ rfl (w.heap.size + 1 + 1) #[.bool b, I 0] rfl rfl 69 _ H3.out.r infoL rfl (by simp [Value.oneCell']) ?_))
        have HG := Lib.hid (below_row H3.out.bel (g := w.heap.size + 1 + 1) (by omega) #[.bool b, I 0])
        have HK := Lib.hid (setRow_heap u (w.heap.size + 1 + 1) _ #[.bool b, I 0] _ _ H3.out.r)
        clear H3
        generalize World.setRow u (w.heap.size + 1 + 1) #[.bool b, I 0] = uz at HG HK ⊢
        go_wp2_with fail
        (try simp only [Exit.inBlock, Exit.then])
        refine bodyPost_ret (v := .agg #[.bool b, I 0]) ?_ rfl ⟨by rw [HE.out], HG.out⟩
        exact results_cell_row rfl _ _ (w.heap.size + 1 + 1) 69 _ (0, 0) _ rfl HK.out Try.underlying69 rfl infoL
      · have HE : Hid (stp on off ⟨b, n⟩ x = ⟨b, 0⟩) := Lib.hid (by rw [hg, if_neg (by rw [h1]; simp), if_neg (by rw [h2]; simp)])
        clear h1 h2 hg
        go_enter Try.func54, Try.ntmps54
        go_upto_region 1 with fail
        generalize World.alloc _ (.cells #[.bool false, I 0] 69) = u at h3 ⊢
        have H3 := Lib.hid h3
        clear h3
        have c0 : u.cell? ⟨w.heap.size + 1, 0, none⟩ = some (.bool b) := by rw [cell_of_row _ _ _ _ _ _ H3.out.s]; rfl
        have c1 : u.cell? ⟨w.heap.size + 1, 1, none⟩ = some (I n) := by rw [cell_of_row _ _ _ _ _ _ H3.out.s]; rfl
        have k1 : u.cell? ⟨w.heap.size, 1, none⟩ = some (F on) := by rw [cell_of_row _ _ _ _ _ _ H3.out.d]; rfl
        have k2 : u.cell? ⟨w.heap.size, 2, none⟩ = some (F off) := by rw [cell_of_row _ _ _ _ _ _ H3.out.d]; rfl
        go_wp2_with (first | (go_at_call 78; refine (rbad_any _ _).mono ?_; rintro e w' ⟨rfl, rfl⟩; rw [HB.out]) | (refine wpList_store_row rfl 69 _ _ rfl (w.heap.size + 1 + 1) #[.bool b, I 0] rfl rfl 69 _ H3.out.r infoL rfl (by simp [Value.oneCell']) ?_))
        have HG := Lib.hid (below_row H3.out.bel (g := w.heap.size + 1 + 1) (by omega) #[.bool b, I 0])
        have HK := Lib.hid (setRow_heap u (w.heap.size + 1 + 1) _ #[.bool b, I 0] _ _ H3.out.r)
        clear H3
        generalize World.setRow u (w.heap.size + 1 + 1) #[.bool b, I 0] = uz at HG HK ⊢
        go_wp2_with fail
        (try simp only [Exit.inBlock, Exit.then])
        refine bodyPost_ret (v := .agg #[.bool b, I 0]) ?_ rfl ⟨by rw [HE.out], HG.out⟩
        exact results_cell_row rfl _ _ (w.heap.size + 1 + 1) 69 _ (0, 0) _ rfl HK.out Try.underlying69 rfl infoL
  · have HB := Lib.hid hb
    have HE : Hid (stp on off ⟨b, n⟩ x = ⟨b, more n⟩) := Lib.hid (by unfold stp; rw [if_pos hb])
    clear hb
    go_enter Try.func54, Try.ntmps54
    go_upto_region 1 with fail
    generalize World.alloc _ (.cells #[.bool false, I 0] 69) = u at h3 ⊢
    have H3 := Lib.hid h3
    clear h3
    have c0 : u.cell? ⟨w.heap.size + 1, 0, none⟩ = some (.bool b) := by rw [cell_of_row _ _ _ _ _ _ H3.out.s]; rfl
    have c1 : u.cell? ⟨w.heap.size + 1, 1, none⟩ = some (I n) := by rw [cell_of_row _ _ _ _ _ _ H3.out.s]; rfl
    have k1 : u.cell? ⟨w.heap.size, 1, none⟩ = some (F on) := by rw [cell_of_row _ _ _ _ _ _ H3.out.d]; rfl
    have k2 : u.cell? ⟨w.heap.size, 2, none⟩ = some (F off) := by rw [cell_of_row _ _ _ _ _ _ H3.out.d]; rfl
    go_wp2_with (first | (go_at_call 78; refine (rbad_any _ _).mono ?_; rintro e w' ⟨rfl, rfl⟩; rw [HB.out]))
    refine QB.region_tail 6 (by kernel_rfl) (by kernel_rfl) ?_
    have h3 := H3.out.drew
    have d0 : u.drew.cell? ⟨w.heap.size + 1, 0, none⟩ = some (.bool b) := c0
    have d1 : u.drew.cell? ⟨w.heap.size + 1, 1, none⟩ = some (I n) := c1
    clear c0 c1 k1 k2 H3
    generalize World.drew u = v at h3 d0 d1 ⊢
    have H3 := Lib.hid h3
    clear h3
    simp only [List.take_succ_cons, List.take_zero, List.drop_succ_cons, List.drop_zero]
    repeat still_step
    still_call ((Cnt.rmore_any n v).mono fun e w' h => ⟨h.1, h.2.symm⟩)
    repeat still_step
    refine wpStill_nil ?_
    go_wp2_with (refine wpList_store_row rfl 69 _ _ rfl (w.heap.size + 1 + 1) #[.bool b, I (more n)] rfl rfl 69 _ H3.out.r infoL rfl (by simp [Value.oneCell']) ?_)
    have HG := Lib.hid (below_row H3.out.bel (g := w.heap.size + 1 + 1) (by omega) #[.bool b, I (more n)])
    have HK := Lib.hid (setRow_heap v (w.heap.size + 1 + 1) _ #[.bool b, I (more n)] _ _ H3.out.r)
    clear H3
    generalize World.setRow v (w.heap.size + 1 + 1) #[.bool b, I (more n)] = uz at HG HK ⊢
    go_wp2_with fail
    (try simp only [Exit.inBlock, Exit.then])
    refine bodyPost_ret (v := .agg #[.bool b, I (more n)]) ?_ rfl ⟨by rw [HE.out], HG.out⟩
    exact results_cell_row rfl _ _ (w.heap.size + 1 + 1) 69 _ (0, 0) _ rfl HK.out Try.underlying69 rfl infoL
theorem failed_any (s : Lv) (w : World) : Calls Try.prog 81 #[.agg s.cells.toArray] w fun e w' => e = .returned (.bool (failed s)) ∧ Below w.heap.size w w' := by
  obtain ⟨b, n⟩ := s
  simp only [Lv.cells]
  have hb : Below w.heap.size w (w.alloc (.cells #[.bool b, I n] 69)) := (Below.refl _ _).alloc (Nat.le_refl _) _
  have HB := Lib.hid hb
  clear hb
  go_enter Try.func81, Try.ntmps81
  go_wp2
  go_ret
  exact ⟨rfl, HB.out⟩
theorem rfailed_any (s : Lv) (w : World) : Calls Try.prog 60 #[.agg s.cells.toArray] w fun e w' => e = .returned (.bool (failed s)) ∧ Below w.heap.size w w' := by
  obtain ⟨b, n⟩ := s
  simp only [Lv.cells]
  have hb : Below w.heap.size w (w.alloc (.cells #[.bool b, I n] 69)) := (Below.refl _ _).alloc (Nat.le_refl _) _
  have HB := Lib.hid hb
  clear hb
  go_enter Try.func60, Try.ntmps60
  go_wp2
  go_ret
  exact ⟨rfl, HB.out⟩
theorem seen_any (s : Lv) (w : World) : Calls Try.prog 74 #[.agg s.cells.toArray] w fun e w' => e = .returned (.bool (seen s)) ∧ Below w.heap.size w w' := by
  obtain ⟨b, n⟩ := s
  have hf := fun W => failed_any ⟨b, n⟩ W
  simp only [Lv.cells] at hf ⊢
  have HF := Lib.hid hf
  clear hf
  have hb : Below w.heap.size w (w.alloc (.cells #[.bool b, I n] 69)) := (Below.refl _ _).alloc (Nat.le_refl _) _
  have HB := Lib.hid hb
  clear hb
  cases b
  · go_enter Try.func74, Try.ntmps74
    go_wp2_with fail
    refine (HF.out _).mono ?_
    rintro e w1 ⟨rfl, h1⟩
    go_wp2
    go_ret
    exact ⟨rfl, HB.out.trans (h1.mono HB.out.size)⟩
  · go_enter Try.func74, Try.ntmps74
    go_wp2_with fail
    go_ret
    exact ⟨rfl, HB.out⟩
theorem rseen_any (s : Lv) (w : World) : Calls Try.prog 56 #[.agg s.cells.toArray] w fun e w' => e = .returned (.bool (seen s)) ∧ Below w.heap.size w w' := by
  obtain ⟨b, n⟩ := s
  have hf := fun W => rfailed_any ⟨b, n⟩ W
  simp only [Lv.cells] at hf ⊢
  have HF := Lib.hid hf
  clear hf
  have hb : Below w.heap.size w (w.alloc (.cells #[.bool b, I n] 69)) := (Below.refl _ _).alloc (Nat.le_refl _) _
  have HB := Lib.hid hb
  clear hb
  cases b
  · go_enter Try.func56, Try.ntmps56
    go_wp2_with fail
    refine (HF.out _).mono ?_
    rintro e w1 ⟨rfl, h1⟩
    go_wp2
    go_ret
    exact ⟨rfl, HB.out.trans (h1.mono HB.out.size)⟩
  · go_enter Try.func56, Try.ntmps56
    go_wp2_with fail
    go_ret
    exact ⟨rfl, HB.out⟩
end Lvl
namespace Ph
open Go Go.RowKit
section
variable {P : Program} {ops : Array Oper} {md : Region.Mode} {D : Nat → World → Prop} {cs : List Nat}
/-- The first p of the chain have come up, and no other of it. -/
def Upto (cs : List Nat) (p : Nat) (L : Array Bool) : Prop := ∀ q c, cs[q]? = some c → L.getD c false = decide (q < p)
def Cl (D : Nat → World → Prop) (cs : List Nat) (L : Array Bool) (w : World) : Prop := ∃ p, p ≤ cs.length ∧ Upto cs p L ∧ D p w
def upon (P : Program) (C : World → Prop) (w : World) (v : Value) : Result Next → Prop
  | .ok (.value u) w' => w' = w ∧ u = v ∧ C w
  | .ok .skip w' => v = undef ∧ C w'
  | .ok (.enter f args) w' => w' = w ∧ Calls P f args w (fun e w'' => e = .returned v ∧ C w'')
  | _ => False
def Steps (P : Program) (md : Region.Mode) (ops : Array Oper) (D : Nat → World → Prop) (cs : List Nat) (i : Nat) (o : Oper) (a : Act) (v : Value) : Prop :=
  ∀ L w, L.size = ops.size → i ∈ Region.ready md ops L → Cl D cs L w → upon P (Cl D cs (L.setIfInBounds i true)) w v ((execOp a.eval o).run P w)
def Passes (md : Region.Mode) (ops : Array Oper) (D : Nat → World → Prop) (cs : List Nat) (i : Nat) : Prop :=
  ∀ L w, L.size = ops.size → i ∈ Region.ready md ops L → Cl D cs L w → Cl D cs (L.setIfInBounds i true) w
def pOp (P : Program) (md : Region.Mode) (ops : Array Oper) (D : Nat → World → Prop) (cs : List Nat) (i : Nat) (K : Act → Prop) (a : Act) : Prop :=
  match ops[i]? with
  | none => False
  | some o => if Region.wanted o (yielded ops a.tmps) then ∃ v, Steps P md ops D cs i o a v ∧ K (a.put o.dst v) else Passes md ops D cs i ∧ K (a.put o.dst undef)
theorem pOp_mono {i : Nat} {a : Act} {K K' : Act → Prop} (h : ∀ a, K a → K' a) (hh : pOp P md ops D cs i K a) : pOp P md ops D cs i K' a := by
  unfold pOp at *
  split
  · rename_i ho; simp only [ho] at hh
  · rename_i o ho
    simp only [ho] at hh
    split
    · rename_i hw; simp only [hw, if_true] at hh; exact ⟨hh.choose, hh.choose_spec.1, h _ hh.choose_spec.2⟩
    · rename_i hw; simp only [hw] at hh; exact ⟨hh.1, h _ hh.2⟩
def wpAnyP (P : Program) (md : Region.Mode) (ops : Array Oper) (D : Nat → World → Prop) (cs : List Nat) (Q : Array Bool → Act → Prop) : Nat → Array Bool → Act → Prop
  | 0, listed, a => Region.ready md ops listed = [] ∧ Q listed a
  | fuel + 1, listed, a =>
    Region.ready md ops listed ≠ [] ∧
    ∀ i ∈ Region.ready md ops listed, pOp P md ops D cs i (wpAnyP P md ops D cs Q fuel (listed.setIfInBounds i true)) a
theorem wpAny_of_ph {Q : Array Bool → Act → Prop} {Q' : Exit → Act → World → Prop} (hQ : ∀ L a w, Cl D cs L w → Q L a → Q' .normal a w) : ∀ (fuel : Nat) (listed : Array Bool) (a : Act) (w : World), listed.size = ops.size → Cl D cs listed w →
    wpAnyP P md ops D cs Q fuel listed a → wpAny P md ops Q' fuel listed a w
  | 0, _, _, _, _, hw, h => ⟨h.1, hQ _ _ _ hw h.2⟩
  | fuel + 1, listed, a, w, hsz, hw, h => ⟨fun h0 => absurd h0 h.1, fun i hi => by
      have h1 := h.2 i hi
      unfold pOp at h1
      unfold wpOp
      split
      · rename_i ho; simp only [ho] at h1
      · rename_i o ho
        simp only [ho] at h1
        split
        · rename_i hwt
          simp only [hwt, if_true] at h1
          obtain ⟨v, hst, hK⟩ := h1
          refine .inl ?_
          have h2 := hst listed w hsz hi hw
          unfold Oper.wp
          generalize (execOp a.eval o).run P w = r at *
          have hsz' : (listed.setIfInBounds i true).size = ops.size := by simpa using hsz
          cases r with
          | ok n w' =>
            cases n <;> simp only [upon] at h2 <;> simp only [Oper.upon]
            case value u =>
              obtain ⟨rfl, rfl, hC⟩ := h2
              exact wpAny_of_ph hQ fuel _ _ _ hsz' hC hK
            case skip =>
              obtain ⟨rfl, hC⟩ := h2
              exact wpAny_of_ph hQ fuel _ _ _ hsz' hC hK
            case enter f args =>
              obtain ⟨rfl, hc⟩ := h2
              exact hc.mono fun e w'' ⟨he, hC⟩ => by subst he; exact wpAny_of_ph hQ fuel _ _ _ hsz' hC hK
          | halt x w' => simp only [upon] at h2
        · rename_i hwt
          simp only [hwt] at h1
          exact wpAny_of_ph hQ fuel _ _ _ (by simpa using hsz) (h1.1 listed w hsz hi hw) h1.2⟩
def YieldsP (P : Program) (md : Region.Mode) (ops : Array Oper) (D : Nat → World → Prop) (cs : List Nat) (i : Nat) (o : Oper) (v : Value) (a : Act) : Prop :=
  (Region.wanted o (yielded ops a.tmps) = true ∧ Steps P md ops D cs i o a v) ∨ (Region.wanted o (yielded ops a.tmps) = false ∧ v = undef ∧ Passes md ops D cs i)
theorem YieldsP.pOp {i : Nat} {o : Oper} {v : Value} {a : Act} (hi : ops[i]? = some o) (hy : YieldsP P md ops D cs i o v a) {K : Act → Prop} (h : K (a.put o.dst v)) : pOp P md ops D cs i K a := by
  unfold Ph.pOp
  simp only [hi]
  rcases hy with ⟨hw, hv⟩ | ⟨hw, rfl, hp⟩
  · simp only [hw, if_true]; exact ⟨v, hv, h⟩
  · simp only [hw, Bool.false_eq_true, if_false]; exact ⟨hp, h⟩
theorem YieldsP.of_same {i : Nat} {o : Oper} {v : Value} {a a' : Act} (hy : YieldsP P md ops D cs i o v a) (he : execOp a'.eval o = execOp a.eval o)
    (hw : Region.wanted o (yielded ops a'.tmps) = Region.wanted o (yielded ops a.tmps)) : YieldsP P md ops D cs i o v a' := by
  unfold YieldsP Steps at *
  rw [he, hw]
  exact hy
theorem yieldsP_of_pOp {i : Nat} {o : Oper} {a : Act} {K : Act → Prop} (hi : ops[i]? = some o) (h : pOp P md ops D cs i K a) : ∃ v, YieldsP P md ops D cs i o v a ∧ K (a.put o.dst v) := by
  unfold pOp at h
  simp only [hi] at h
  by_cases hw : Region.wanted o (yielded ops a.tmps) = true
  · simp only [hw, if_true] at h
    obtain ⟨v, h1, h2⟩ := h
    exact ⟨v, .inl ⟨hw, h1⟩, h2⟩
  · simp only [hw] at h
    exact ⟨undef, .inr ⟨by simpa using hw, rfl, h.1⟩, h.2⟩
theorem pOp_put {i j : Nat} {oi oj : Oper} {v : Value} (hj : ops[j]? = some oj) (hap : oi.apart ops oj = true)
    (hsi : ∀ cs b, oi.op ≠ .select cs b) (hsj : ∀ cs b, oj.op ≠ .select cs b) {K : Act → Prop} {a : Act}
    (hy : YieldsP P md ops D cs i oi v a) (h : pOp P md ops D cs j K (a.put oi.dst v)) :
    pOp P md ops D cs j (fun a' => YieldsP P md ops D cs i oi v a' ∧ K (a'.put oi.dst v)) a := by
  obtain ⟨h1, h2, h3⟩ := Oper.apart_spec hap
  have keep : ∀ (a : Act), YieldsP P md ops D cs i oi v a → ∀ u, YieldsP P md ops D cs i oi v (a.put oj.dst u) := fun a hy u =>
    hy.of_same (execOp_put oi hsi a oj.dst u h3) (wanted_put oi a oj.dst u h3)
  unfold pOp at *
  simp only [hj] at *
  rw [wanted_put oj a oi.dst v h1] at h
  split
  · rename_i hw
    simp only [hw, if_true] at h
    obtain ⟨u, hu, hn⟩ := h
    refine ⟨u, ?_, keep a hy u, by rw [← Act.put_comm a v u h2]; exact hn⟩
    unfold Steps at *
    rwa [execOp_put oj hsj a oi.dst v h1] at hu
  · rename_i hw
    simp only [hw] at h
    exact ⟨h.1, keep a hy _, by rw [← Act.put_comm a v undef h2]; exact h.2⟩
theorem wpAnyP_first {Q : Array Bool → Act → Prop} {i : Nat} {oi : Oper} {v : Value} (hi : ops[i]? = some oi) (hsel : ∀ (j : Nat) (o : Oper) cs b, ops[j]? = some o → o.op ≠ .select cs b) :
    ∀ (fuel : Nat) (listed : Array Bool) (a : Act),
      (∀ j oj, ops[j]? = some oj → j ≠ i → listed.getD j true = false → (∀ e ∈ oj.after, Region.binds md e = true → e.on ≠ i) → oi.apart ops oj = true) →
      i ∈ Region.ready md ops listed → YieldsP P md ops D cs i oi v a →
      wpAnyP P md ops D cs Q fuel (listed.setIfInBounds i true) (a.put oi.dst v) → wpAnyP P md ops D cs Q (fuel + 1) listed a := by
  intro fuel
  induction fuel with
  | zero =>
    intro listed a _ hr hy H
    refine ⟨fun h => (by rw [h] at hr; cases hr), fun j hj => ?_⟩
    by_cases hji : j = i
    · subst hji; exact hy.pOp hi H
    · have := ready_mono hj hji
      rw [H.1] at this
      cases this
  | succ fuel ih =>
    intro listed a hfree hr hy H
    refine ⟨fun h => (by rw [h] at hr; cases hr), fun j hj => ?_⟩
    by_cases hji : j = i
    · subst hji; exact hy.pOp hi H
    · have h1 := H.2 j (ready_mono hj hji)
      obtain ⟨hjun, oj, hoj, hall⟩ := mem_ready.1 hj
      have hnot : ∀ e ∈ oj.after, Region.binds md e = true → e.on ≠ i := fun e he hb heq => by
        have h1 := hall e he hb
        have h0 := (mem_ready.1 hr).1
        rw [heq] at h1
        rcases Nat.lt_or_ge i listed.size with h' | h'
        · simp [h'] at h0 h1; rw [h0] at h1; cases h1
        · simp [Array.getElem?_eq_none h'] at h1
      have h2 := pOp_put hoj (hfree j oj hoj hji hjun hnot) (fun cs b => hsel i oi cs b hi) (fun cs b => hsel j oj cs b hoj) hy h1
      have hfree' : ∀ k ok, ops[k]? = some ok → k ≠ i → (listed.setIfInBounds j true).getD k true = false →
          (∀ e ∈ ok.after, Region.binds md e = true → e.on ≠ i) → oi.apart ops ok = true := fun k ok hk hki hun hno => by
        refine hfree k ok hk hki ?_ hno
        by_cases hjk : j = k
        · subst hjk; exact hjun
        · rw [getD_set_ne true hjk] at hun; exact hun
      refine pOp_mono (fun a' h3 => ih (listed.setIfInBounds j true) a' hfree' (ready_mono hr (Ne.symm hji)) h3.1 ?_) h2
      rw [Array.setIfInBounds_comm _ _ hji]
      exact h3.2
/-- A world, and how far the chain has come. -/
structure S (D : Nat → World → Prop) where
  ph : Nat
  world : World
  is : D ph world
/-- An operation that reads, the same value in every phase; a call may leave another world of the phase. -/
def Oper.calmUpon (P : Program) (C : World → Prop) (w : World) (v : Value) : Result Next → Prop
  | .ok (.value u) w' => w' = w ∧ u = v
  | .ok .skip w' => w' = w ∧ v = undef
  | .ok (.enter f args) w' => w' = w ∧ Calls P f args w (fun e w'' => e = .returned v ∧ C w'')
  | _ => False
def Oper.calm (P : Program) (o : Oper) (a : Act) (D : Nat → World → Prop) (next : Act → Prop) : Prop := ∃ v, (∀ p : S D, Oper.calmUpon P (D p.ph) p.world v ((execOp a.eval o).run P p.world)) ∧ next (a.put o.dst v)
/-- The chain's operation number p. -/
def Oper.linkUpon (P : Program) (C : World → Prop) (w : World) (v : Value) : Result Next → Prop
  | .ok .skip w' => v = undef ∧ C w'
  | .ok (.enter f args) w' => w' = w ∧ Calls P f args w (fun e w'' => e = .returned v ∧ C w'')
  | _ => False
def Oper.link (P : Program) (o : Oper) (a : Act) (C C' : World → Prop) (next : Act → Prop) : Prop := ∃ v, (∀ w, C w → Oper.linkUpon P C' w v ((execOp a.eval o).run P w)) ∧ next (a.put o.dst v)
/-- The lexical walk. -/
def wpPh (P : Program) (ops : Array Oper) (D : Nat → World → Prop) (cs : List Nat) (Q : Act → Prop) : Nat → List Oper → Act → Prop
  | _, [], a => Q a
  | k, o :: rest, a =>
    match cs.idxOf? k with
    | some p => Region.wanted o (yielded ops a.tmps) = true ∧ Oper.link P o a (D p) (D (p + 1)) (wpPh P ops D cs Q (k + 1) rest)
    | none => if Region.wanted o (yielded ops a.tmps) then Oper.calm P o a D (wpPh P ops D cs Q (k + 1) rest) else wpPh P ops D cs Q (k + 1) rest (a.put o.dst undef)
theorem upto_other {p k : Nat} {L : Array Bool} (hk : k ∉ cs) (h : Upto cs p L) : Upto cs p (L.setIfInBounds k true) := by
  intro q c hq
  have hne : k ≠ c := fun e => hk (by rw [e]; exact List.mem_of_getElem? hq)
  rw [getD_set_ne false hne]; exact h q c hq
theorem steps_of_calm {k : Nat} {o : Oper} {a : Act} {v : Value} (hk : k ∉ cs) (h : ∀ p : S D, Oper.calmUpon P (D p.ph) p.world v ((execOp a.eval o).run P p.world)) : Steps P md ops D cs k o a v := by
  intro L w _ _ ⟨p, hp, hat, hd⟩
  have h1 := h ⟨p, w, hd⟩
  simp only at h1
  generalize (execOp a.eval o).run P w = r at *
  cases r with
  | ok n w' =>
    cases n <;> simp only [Oper.calmUpon] at h1 <;> simp only [upon]
    case value u => exact ⟨h1.1, h1.2, p, hp, upto_other hk hat, hd⟩
    case skip => exact ⟨h1.2, p, hp, upto_other hk hat, by rw [h1.1]; exact hd⟩
    case enter f args => exact ⟨h1.1, h1.2.mono fun e w'' ⟨he, hd'⟩ => ⟨he, p, hp, upto_other hk hat, hd'⟩⟩
  | halt x w' => simp only [Oper.calmUpon] at h1
theorem passes_of {k : Nat} (hk : k ∉ cs) : Passes md ops D cs k := fun L w _ _ ⟨p, hp, hat, hd⟩ => ⟨p, hp, upto_other hk hat, hd⟩
def chainOk (md : Region.Mode) (ops : Array Oper) (cs : List Nat) : Bool :=
  decide cs.Nodup && (List.range cs.length).all fun p => decide (p = 0) || Region.waitsFor md ops (cs.getD p 0) (cs.getD (p - 1) 0)
theorem steps_of_link {k p : Nat} {o : Oper} {a : Act} {v : Value} (hc : chainOk md ops cs = true) (hk : cs[p]? = some k)
    (h : ∀ w, D p w → Oper.linkUpon P (D (p + 1)) w v ((execOp a.eval o).run P w)) : Steps P md ops D cs k o a v := by
  intro L w hsz hr ⟨p', hp, hat, hd⟩
  simp only [chainOk, Bool.and_eq_true, decide_eq_true_eq] at hc
  obtain ⟨hnd, hall⟩ := hc
  have hpl : p < cs.length := (List.getElem?_eq_some_iff.1 hk).1
  obtain ⟨hun, ok, hok, hedges⟩ := mem_ready.1 hr
  have hkl : k < L.size := by rw [hsz]; exact (Array.getElem?_eq_some_iff.1 hok).1
  have h1 := hat p k hk
  rw [getD_both hun] at h1
  have h2 : ¬ p < p' := fun hlt => by rw [decide_eq_true hlt] at h1; cases h1
  have h3 : p ≤ p' := by
    by_cases h0 : p = 0
    · omega
    · have h4 := List.all_eq_true.1 hall p (List.mem_range.2 hpl)
      simp only [Bool.or_eq_true, decide_eq_true_eq] at h4
      rcases h4 with h4 | h4
      · omega
      · rw [List.getD_eq_getElem?_getD, hk, Option.getD_some] at h4
        obtain ⟨oj, hoj, e, he, hb, hon⟩ := Region.waitsFor_spec h4
        have : oj = ok := Option.some.inj (hoj.symm.trans hok)
        subst this
        have h5 := hedges e he hb
        have h6 : cs[p - 1]? = some (cs.getD (p - 1) 0) := by
          rw [List.getD_eq_getElem?_getD, List.getElem?_eq_getElem (show p - 1 < cs.length by omega)]; rfl
        have h7 := hat (p - 1) _ h6
        rw [← hon, h5] at h7
        have := of_decide_eq_true h7.symm
        omega
  obtain rfl : p' = p := by omega
  have hnew : Upto cs (p' + 1) (L.setIfInBounds k true) := by
    intro q c hq
    by_cases hck : k = c
    · subst hck
      have hqp : q = p' := by
        have hql : q < cs.length := (List.getElem?_eq_some_iff.1 hq).1
        have e1 : cs[q] = cs[p'] := by
          have a1 := List.getElem?_eq_some_iff.1 hq
          have a2 := List.getElem?_eq_some_iff.1 hk
          rw [a1.2, a2.2]
        have h10 := List.pairwise_iff_getElem.1 hnd
        rcases Nat.lt_trichotomy q p' with h11 | h11 | h11
        · exact absurd e1 (h10 q p' hql hpl h11)
        · exact h11
        · exact absurd e1.symm (h10 p' q hpl hql h11)
      subst hqp
      rw [decide_eq_true (by omega)]
      simp [hkl]
    · rw [getD_set_ne false hck, hat q c hq]
      have hqp : q ≠ p' := fun e => by subst e; rw [hk] at hq; exact hck (Option.some.inj hq)
      by_cases h8 : q < p'
      · rw [decide_eq_true h8, decide_eq_true (by omega)]
      · rw [decide_eq_false h8, decide_eq_false (by omega)]
  have h9 := h w hd
  generalize (execOp a.eval o).run P w = r at *
  cases r with
  | ok n w' =>
    cases n <;> simp only [Oper.linkUpon] at h9 <;> simp only [upon]
    case skip => exact ⟨h9.1, p' + 1, by omega, hnew, h9.2⟩
    case enter f args => exact ⟨h9.1, h9.2.mono fun e w'' ⟨he, hd'⟩ => ⟨he, p' + 1, by omega, hnew, hd'⟩⟩
  | halt x w' => simp only [Oper.linkUpon] at h9
def lexFromP (md : Region.Mode) (ops : Array Oper) (cs : List Nat) : Nat → Nat → Array Bool → Bool
  | 0, _, listed => (Region.ready md ops listed).isEmpty && cs.all fun c => listed.getD c false
  | fuel + 1, k, listed => (Region.ready md ops listed).contains k && Region.free md ops listed k && lexFromP md ops cs fuel (k + 1) (listed.setIfInBounds k true)
theorem idxOf_some {k p : Nat} (h : cs.idxOf? k = some p) : cs[p]? = some k := by
  have h1 := List.findIdx?_eq_some_iff_getElem.1 (by simpa [List.idxOf?] using h)
  obtain ⟨hp, h2, _⟩ := h1
  rw [List.getElem?_eq_getElem hp]
  simpa using h2
theorem idxOf_none {k : Nat} (h : cs.idxOf? k = none) : k ∉ cs := by
  intro hm
  have h1 : ∀ x ∈ cs, ¬ x = k := by simpa [List.idxOf?] using h
  exact h1 k hm rfl
theorem wpAnyP_lex {Q : Act → Prop} (hs : Region.noSelect ops = true) (hc : chainOk md ops cs = true) : ∀ (l : List Oper) (k : Nat) (listed : Array Bool) (a : Act), (∀ j, l[j]? = ops[k + j]?) →
    lexFromP md ops cs l.length k listed = true → wpPh P ops D cs Q k l a → wpAnyP P md ops D cs (fun L a => (cs.all fun c => L.getD c false) = true ∧ Q a) l.length listed a
  | [], _, _, _, _, hB, h => by
    simp only [List.length_nil, lexFromP, Bool.and_eq_true] at hB
    exact ⟨by simpa using hB.1, hB.2, h⟩
  | o :: l, k, listed, a, hl, hB, h => by
    have h0 : ops[k]? = some o := by simpa using (hl 0).symm
    simp only [List.length_cons, lexFromP, Bool.and_eq_true] at hB
    obtain ⟨⟨hr, hf⟩, hB'⟩ := hB
    have hst : pOp P md ops D cs k (wpPh P ops D cs Q (k + 1) l) a := by
      unfold pOp
      simp only [h0]
      unfold wpPh at h
      split at h
      · rename_i p hp
        obtain ⟨hw, v, h1, h2⟩ := h
        rw [if_pos hw]
        exact ⟨v, steps_of_link hc (idxOf_some hp) h1, h2⟩
      · rename_i hp
        have hk := idxOf_none hp
        split
        · rename_i hw
          rw [if_pos hw] at h
          obtain ⟨v, h1, h2⟩ := h
          exact ⟨v, steps_of_calm hk h1, h2⟩
        · rename_i hw
          rw [if_neg hw] at h
          exact ⟨passes_of hk, h⟩
    obtain ⟨v, hy, hK⟩ := yieldsP_of_pOp h0 hst
    exact wpAnyP_first h0 (Region.noSelect_spec hs) l.length listed a (Region.free_spec h0 hf) (by simpa using hr) hy
      (wpAnyP_lex hs hc l (k + 1) _ _ (fun j => by have := hl (j + 1); simpa [Nat.add_assoc, Nat.add_comm 1 j] using this) hB' hK)
def okB (md : Region.Mode) (ops : Array Oper) (cs : List Nat) : Bool := Region.noSelect ops && chainOk md ops cs && lexFromP md ops cs ops.size 0 (Array.replicate ops.size false)
/-- **The law.** What stands behind the region is asked in every world in which the chain has come to its end. -/
theorem wp_region_ph {id : Nat} {Q : Exit → Act → World → Prop} {a : Act} {w : World} {l : List Oper} (D : Nat → World → Prop) (cs : List Nat) (hm : P.follows .mixedOrders = true) (hB : okB .any l.toArray cs = true) (hD : D 0 w.drew)
    (h : wpPh P l.toArray D cs (fun a' => ∀ w', D cs.length w' → Q .normal a' w') 0 l a) : (Code.region id l.toArray true).wp P Q a w := by
  simp only [okB, Bool.and_eq_true] at hB
  obtain ⟨⟨hs, hc⟩, hlex⟩ := hB
  have h1 := wpAnyP_lex (md := .any) hs hc l 0 (Array.replicate l.toArray.size false) a (by simp) (by simpa using hlex) h
  refine wp_region_any hm ?_
  refine wpAny_of_ph (D := D) (cs := cs) (Q := fun L a => (cs.all fun c => L.getD c false) = true ∧ ∀ w', D cs.length w' → Q .normal a w') (fun L a w ⟨p, hp, hat, hd⟩ ⟨hall, hq⟩ => ?_) _ _ _ _ (by simp) ⟨0, Nat.zero_le _, fun q c _ => by rw [getD_replicate_false]; simp, hD⟩ (by simpa using h1)
  have hpe : p = cs.length := by
    rcases Nat.lt_or_ge p cs.length with h2 | h2
    · have h3 := hat p _ (List.getElem?_eq_getElem h2)
      have h4 := List.all_eq_true.1 hall _ (List.getElem_mem h2)
      rw [h4] at h3
      have := of_decide_eq_true h3.symm
      omega
    · omega
  subst hpe
  exact hq w hd
/-! the walk, a step at a time -/
end
attribute [go_sem] Oper.calm Oper.calmUpon Oper.link Oper.linkUpon
end Ph
namespace Row
open Go Go.RowKit
open Tab
section
variable {P : Program}
theorem run_loadVar_lies (w : World) (y : Addr) (ty : TypeId) (cs : List Value) (d : TypeDesc) (hc : Lies w y cs) (hu : P.underlying ty = some d) (hd : d.isRow = true) (hi : (P.info? ty).map (·.size) = some cs.length) :
    (loadVar ty y).run P w = .ok (.agg cs.toArray) w := by
  have hl : (loadCells y cs.length).run P w = .ok cs.toArray w := run_loadCells_list (P := P) w y cs (fun j v hv => hc j v hv)
  cases hq : P.info? ty with
  | none => simp [hq] at hi
  | some i =>
    have hs : i.size = cs.length := by simpa [hq] using hi
    have hagg : (isAgg ty).run P w = .ok true w := by
      unfold isAgg
      rw [Sem.run_bind, run_underlying hu w]
      cases d <;> simp_all
    simp [loadVar, Sem.run_bind, hagg, sizeOf, typeInfo, hq, hs, hl]
theorem wp_load_lies {op : Oper} {a : Act} {w : World} {K : Act → World → Prop} {Q : Exit → Act → World → Prop} (ty : TypeId) (x : Operand) (ho : op.op = .load ty x)
    (y : Addr) (hx : a.eval x = .pointer (some y)) (cs : List Value) (d : TypeDesc) (hc : Lies w y cs) (hu : P.underlying ty = some d) (hd : d.isRow = true) (hi : (P.info? ty).map (·.size) = some cs.length)
    (h : K (a.put op.dst (.agg cs.toArray)) w) : op.wp P a w K Q := by
  unfold Oper.wp execOp
  simp only [ho, hx, Instr.loadAt, Instr.sureAddr, Sem.run_bind, Sem.run_pure, Result.andThen_ok, run_loadVar_lies w y ty cs d hc hu hd hi]
  exact h
theorem wpList_load_lies {ops : Array Oper} {rest : List Oper} {op : Oper} {a : Act} {w : World} {Q : Exit → Act → World → Prop} (hgd : op.guard = none) (ty : TypeId) (x : Operand) (ho : op.op = .load ty x)
    (y : Addr) (hx : a.eval x = .pointer (some y)) (cs : List Value) (d : TypeDesc) (hc : Lies w y cs) (hu : P.underlying ty = some d) (hd : d.isRow = true) (hi : (P.info? ty).map (·.size) = some cs.length)
    (h : wpList P ops Q rest (a.put op.dst (.agg cs.toArray)) w) : wpList P ops Q (op :: rest) a w :=
  wpList_plain hgd fun _ hK => wp_load_lies ty x ho y hx cs d hc hu hd hi (hK _ _ h)
/-- Behind a guard that says yes. -/
theorem wpList_load_g {ops : Array Oper} {rest : List Oper} {op : Oper} {a : Act} {w : World} {Q : Exit → Act → World → Prop} (ty : TypeId) (x : Operand) (ho : op.op = .load ty x) (hw : Region.wanted op (yielded ops a.tmps) = true)
    (y : Addr) (hx : a.eval x = .pointer (some y)) (cs : List Value) (d : TypeDesc) (hc : Lies w y cs) (hu : P.underlying ty = some d) (hd : d.isRow = true) (hi : (P.info? ty).map (·.size) = some cs.length)
    (h : wpList P ops Q rest (a.put op.dst (.agg cs.toArray)) w) : wpList P ops Q (op :: rest) a w :=
  BigFrame.wpList_want hw fun _ hK => wp_load_lies ty x ho y hx cs d hc hu hd hi (hK _ _ h)
/-- A whole row into the block that was made last. -/
theorem wpList_store_new {ops : Array Oper} {rest : List Oper} {op : Oper} {a : Act} {w : World} {Q : Exit → Act → World → Prop} (hgd : op.guard = none) (ty : TypeId) (x y : Operand) (ho : op.op = .store ty x y)
    (w0 : World) (old cells : Array Value) (hw : w = w0.alloc (.cells old ty)) (hx : a.eval x = .pointer (some ⟨w0.heap.size, 0, none⟩)) (hy : a.eval y = .agg cells) (hi : (P.info? ty).map (·.size) = some cells.size) (hold : old.size = cells.size) (h1 : cells.all (·.oneCell') = true)
    (h : wpList P ops Q rest (a.put op.dst undef) (w0.alloc (.cells cells ty))) : wpList P ops Q (op :: rest) a w := by
  subst hw
  refine wpList_store_row hgd ty x y ho w0.heap.size cells hx hy ty old (heap_alloc_new w0 _) hi hold h1 ?_
  rw [World.setRow_alloc_new]
  exact h
theorem lies_new (w : World) (cs : Array Value) (t : TypeId) : Lies (w.alloc (.cells cs t)) ⟨w.heap.size, 0, none⟩ cs.toList := fun j v hv => by
  rw [Addr.add_mid, cell_of_row _ _ _ _ _ _ (heap_alloc_new w _), Nat.zero_add]
  simpa using hv
theorem lies_of_block {w : World} {g : Nat} {cs : Array Value} {t : TypeId} {fr : Nat × Nat} (hg : w.heap[g]? = some (.cells cs t fr)) : Lies w ⟨g, 0, none⟩ cs.toList := fun j v hv => by
  rw [Addr.add_mid, cell_of_row _ _ _ _ _ _ hg, Nat.zero_add]
  simpa using hv
/-! ### two rows compared -/
/-- A store of a row into the middle of a block known whole. -/
theorem run_storeAt_at (w : World) (g o : Nat) (t ty : TypeId) (cur cells : Array Value) (hg : w.heap[g]? = some (.cells cur t (0, 0))) (hi : (P.info? ty).map (·.size) = some cells.size) (hl : o + cells.size ≤ cur.size) (h1 : cells.all (·.oneCell') = true) :
    (Instr.storeAt ty (.pointer (some ⟨g, o, none⟩)) (.agg cells)).run P w = .ok () (w.setRow g (cur.toList.take o ++ cells.toList ++ cur.toList.drop (o + cells.size)).toArray) := by
  have := run_storeCells_at P g o t cells.toList 0 cur w hg (by simpa using hl) (fun v hv => (Array.all_eq_true_iff_forall_mem.1 h1) v (by simpa using hv))
  cases hq : P.info? ty with
  | none => simp [hq] at hi
  | some i =>
    have hs : cells.size = i.size := by simp [hq] at hi; omega
    simp only [Nat.add_zero, Array.length_toList] at this
    simp [Instr.storeAt, Instr.sureAddr, storeVar, sizeOf, typeInfo, hq, Value.cells, hs]
    rw [← hs]
    simpa using this
/-- The class of a region whose calls leave all that is older alone. -/
abbrev Old (w : World) : Nat → World → Prop := fun _ w' => Below w.heap.size w w'
theorem Old.drew (w : World) : Old w 0 w.drew := (Below.refl _ _).drew
end
end Row
namespace Recs
open Go Go.ChangeShapes Go.WideShapes Go.Deep
def IsFlts (w : World) (a : Option Addr) (len cap : Nat) (Z : Nat → Nat) : Prop :=
  (a = none ∧ len = 0 ∧ cap = 0) ∨
  ∃ x, a = some x ∧ len ≤ cap ∧ cap ≤ maxLen ∧ ∀ i, i < len → w.cell? (x.add i) = some (.float .f64 (Z i)) ∧ (Lit.float .f64 (Z i)).wf = true
section
variable {H : Type} {enc : TypeId × Value → H} {P : Program} {w : World} {base : Nat} {spare : Nat → Bool} {held : Bool}
theorem trod_flt {t : TypeId} {fuel : Nat} {v : Value} {x : DataW H × List MemPlace} (ht : P.underlying t = some (.float .f64)) (h : DataW.trod enc P w base spare held fuel t [v] = some x) : ∃ b, v = .float .f64 b ∧ (Lit.float .f64 b).wf = true := by
  cases fuel with
  | zero => simp [DataW.trod] at h
  | succ n =>
    unfold DataW.trod at h
    rw [ht] at h
    split at h <;> simp_all
theorem open_flts {t e : TypeId} {fuel : Nat} {a : Option Addr} {len cap : Nat} {x : DataW H × List MemPlace} (ht : P.underlying t = some (.slice e)) (he : P.underlying e = some (.float .f64)) (hc : P.cellsOf e = 1)
    (h : DataW.trod enc P w base spare held fuel t [.slice a len cap] = some x) : ∃ Z, IsFlts w a len cap Z := by
  rcases Deep.open_slice1 ht hc h with ⟨h0, _⟩ | ⟨y, len', cap', m, n, V, D, Pl, hcs, _, hl, hm, hmm, _, hx⟩
  · simp only [List.cons.injEq, Value.slice.injEq, and_true] at h0
    exact ⟨fun _ => 0, .inl ⟨h0.1, h0.2.1, h0.2.2⟩⟩
  · simp only [List.cons.injEq, Value.slice.injEq, and_true] at hcs
    obtain ⟨rfl, rfl, rfl⟩ := hcs
    have hlm : len ≤ m := by rw [hmm]; split <;> omega
    have each : ∀ i, ∃ z : Nat, i < len → w.cell? (y.add i) = some (.float .f64 z) ∧ (Lit.float .f64 z).wf = true := by
      intro i
      by_cases hi : i < len
      · obtain ⟨h1, h2⟩ := hx i (by omega)
        obtain ⟨b, hb, hwf⟩ := trod_flt he h2
        exact ⟨b, fun _ => ⟨by rw [h1, hb], hwf⟩⟩
      · exact ⟨0, fun h => absurd h hi⟩
    exact ⟨fun i => Classical.choose (each i), .inr ⟨y, rfl, hl, hm, fun i hi => Classical.choose_spec (each i) hi⟩⟩
end
end Recs
namespace Lvl
open Go.ChangeShapes Go.WideShapes Go.ChangeAt Go.RowKit
open Tab Flat TabArg Go.Proofs.Fl
open Cnt (more ct)
theorem step_is {ph mo mf n n' : Int} {on off dl ex x : Nat} {b b' : Bool} (hx : x < 18446744073709551616) (h : stp on off ⟨b, n⟩ x = ⟨b', n'⟩) (w : World) :
    Calls Try.prog 73 #[.agg #[I ph, F on, F off, F dl, F ex, I mo, I mf], .agg #[.bool b, I n], .float .f64 x] w fun e w' => e = .returned (.agg #[.bool b', I n']) ∧ Below w.heap.size w w' := by
  have := step_any ⟨ph, on, off, dl, ex, mo, mf⟩ ⟨b, n⟩ x hx w
  rw [h] at this
  exact this
theorem rstep_is {ph mo mf n n' : Int} {on off dl ex x : Nat} {b b' : Bool} (hx : x < 18446744073709551616) (h : stp on off ⟨b, n⟩ x = ⟨b', n'⟩) (w : World) :
    Calls Try.prog 54 #[.agg #[I ph, F on, F off, F dl, F ex, I mo, I mf], .agg #[.bool b, I n], .float .f64 x] w fun e w' => e = .returned (.agg #[.bool b', I n']) ∧ Below w.heap.size w w' := by
  have := rstep_any ⟨ph, on, off, dl, ex, mo, mf⟩ ⟨b, n⟩ x hx w
  rw [h] at this
  exact this
theorem seen_is {b : Bool} {n : Int} (w : World) : Calls Try.prog 74 #[.agg #[.bool b, I n]] w fun e w' => e = .returned (.bool (seen ⟨b, n⟩)) ∧ Below w.heap.size w w' := seen_any ⟨b, n⟩ w
theorem rseen_is {b : Bool} {n : Int} (w : World) : Calls Try.prog 56 #[.agg #[.bool b, I n]] w fun e w' => e = .returned (.bool (seen ⟨b, n⟩)) ∧ Below w.heap.size w w' := rseen_any ⟨b, n⟩ w
theorem failed_is {b : Bool} {n : Int} (w : World) : Calls Try.prog 81 #[.agg #[.bool b, I n]] w fun e w' => e = .returned (.bool (failed ⟨b, n⟩)) ∧ Below w.heap.size w w' := failed_any ⟨b, n⟩ w
theorem rfailed_is {b : Bool} {n : Int} (w : World) : Calls Try.prog 60 #[.agg #[.bool b, I n]] w fun e w' => e = .returned (.bool (failed ⟨b, n⟩)) ∧ Below w.heap.size w w' := rfailed_any ⟨b, n⟩ w
/-- Behind a call that leaves the old as it was, and behind the making of one block. -/
theorem kept {u u1 : World} {g : Nat} {o : Obj} (h : Below u.heap.size u u1) (hg : u.heap[g]? = some o) : u1.heap[g]? = some o := by
  have : g < u.heap.size := by
    obtain ⟨h, _⟩ := Array.getElem?_eq_some_iff.1 hg
    exact h
  rw [h.block g this, hg]
theorem kept_alloc {u : World} {g : Nat} {o p : Obj} (hg : u.heap[g]? = some o) : (u.alloc p).heap[g]? = some o := by
  have : g < u.heap.size := by
    obtain ⟨h, _⟩ := Array.getElem?_eq_some_iff.1 hg
    exact h
  rw [Below.heap_alloc _ _ _ this, hg]
/-! two boxes at the start -/
structure B2 (w u : World) (dc sc : Array Value) : Prop where
  d : u.heap[w.heap.size]? = some (.cells dc 65 (0, 0))
  s : u.heap[w.heap.size + 1]? = some (.cells sc 69 (0, 0))
  bel : Below w.heap.size w u
theorem B2.below {w u u1 : World} {dc sc : Array Value} (h : B2 w u dc sc) (hb : Below u.heap.size u u1) : B2 w u1 dc sc := ⟨kept hb h.d, kept hb h.s, h.bel.trans (hb.mono h.bel.size)⟩
theorem B2.alloc {w u : World} {dc sc : Array Value} (h : B2 w u dc sc) (o : Obj) : B2 w (u.alloc o) dc sc := ⟨kept_alloc h.d, kept_alloc h.s, h.bel.alloc h.bel.size _⟩
/-! samples that came in -/
theorem flts_at {w : World} {a : Option Addr} {len cap : Nat} {Z : Nat → Nat} (h : Recs.IsFlts w a len cap Z) : ∃ x : Addr, (∀ q, q < len → a = some x ∧ w.cell? (x.add q) = some (.float .f64 (Z q)) ∧ Z q < 18446744073709551616) ∧ len ≤ cap ∧ cap ≤ maxLen := by
  rcases h with ⟨rfl, rfl, rfl⟩ | ⟨x, rfl, h1, h2, h3⟩
  · exact ⟨⟨0, 0, none⟩, fun q hq => by omega, Nat.le_refl _, Nat.zero_le _⟩
  · exact ⟨x, fun q hq => ⟨rfl, (h3 q hq).1, by simpa [Lit.wf] using (h3 q hq).2⟩, h1, h2⟩
theorem at_below {w u : World} {a : Addr} {v : Value} (h : w.cell? a = some v) (hb : Below w.heap.size w u) : u.cell? a = some v := by
  have := Lies.below (cs := [v]) (x := a) (fun j v' hv => by
    cases j with
    | zero => obtain rfl := Option.some.inj hv; rw [Tab.add_zero]; exact h
    | succ j => simp at hv) hb 0 v rfl
  rwa [Tab.add_zero] at this
/-! what a comparison tells -/
end Lvl
namespace Blk
open Go Go.RowKit Go.ChangeShapes Tab
abbrev Bl : Type := Nat × Array Value × TypeId
structure Bks (w : World) (L : List Bl) (u : World) : Prop where
  bel : Below w.heap.size w u
  low : ∀ x ∈ L, w.heap.size ≤ x.1
  blk : ∀ x ∈ L, u.heap[x.1]? = some (.cells x.2.1 x.2.2 (0, 0))
  apart : (L.map (·.1)).Nodup
section
variable {w u v : World} {L : List Bl}
theorem lt_of {g : Nat} {o : Obj} (hg : u.heap[g]? = some o) : g < u.heap.size := (Array.getElem?_eq_some_iff.1 hg).1
theorem Bks.nil (w : World) : Bks w [] w := ⟨Below.refl _ _, by simp, by simp, by simp⟩
theorem Bks.step (h : Bks w L u) (hb : Below u.heap.size u v) : Bks w L v :=
  ⟨h.bel.trans (hb.mono h.bel.size), h.low, fun x hx => (hb.block _ (lt_of (h.blk x hx))).trans (h.blk x hx), h.apart⟩
theorem Bks.drew (h : Bks w L u) : Bks w L u.drew := ⟨h.bel.drew, h.low, h.blk, h.apart⟩
theorem Bks.lt (h : Bks w L u) {x : Bl} (hx : x ∈ L) : x.1 < u.heap.size := lt_of (h.blk x hx)
theorem Bks.alloc (h : Bks w L u) (cs : Array Value) (t : TypeId) : Bks w ((u.heap.size, cs, t) :: L) (u.alloc (.cells cs t)) := by
  refine ⟨h.bel.alloc h.bel.size _, ?_, ?_, ?_⟩
  · intro x hx
    rcases List.mem_cons.1 hx with rfl | hx
    · exact h.bel.size
    · exact h.low x hx
  · intro x hx
    rcases List.mem_cons.1 hx with rfl | hx
    · exact heap_alloc_new u _
    · rw [Below.heap_alloc _ _ _ (h.lt hx)]; exact h.blk x hx
  · rw [List.map_cons, List.nodup_cons]
    refine ⟨fun hm => ?_, h.apart⟩
    obtain ⟨x, hx, e⟩ := List.mem_map.1 hm
    have := h.lt hx
    simp only at e
    omega
theorem Bks.at (h : Bks w L u) (i : Nat) {g : Nat} {cs : Array Value} {t : TypeId} (hi : L[i]? = some (g, cs, t)) : u.heap[g]? = some (.cells cs t (0, 0)) := h.blk (g, cs, t) (List.mem_of_getElem? hi)
theorem Bks.cell (h : Bks w L u) (i j : Nat) {g : Nat} {cs : Array Value} {t : TypeId} {v : Value} (hi : L[i]? = some (g, cs, t)) (hv : cs[j]? = some v) : u.cell? ⟨g, j, none⟩ = some v := by rw [cell_of_row _ _ _ _ _ _ (h.at i hi), hv]
theorem Bks.frozen (h : Bks w L u) (i j : Nat) {g : Nat} {cs : Array Value} {t : TypeId} (hi : L[i]? = some (g, cs, t)) : u.frozen? ⟨g, j, none⟩ = false := frozen_of_row _ _ _ _ _ (h.at i hi)
theorem Bks.ge (h : Bks w L u) (i : Nat) {g : Nat} {cs : Array Value} {t : TypeId} (hi : L[i]? = some (g, cs, t)) : w.heap.size ≤ g := h.low (g, cs, t) (List.mem_of_getElem? hi)
theorem nd_ne : ∀ {L : List Nat} {i j : Nat} {a b : Nat}, L.Nodup → L[i]? = some a → L[j]? = some b → i ≠ j → a ≠ b
  | [], _, _, _, _, _, h, _, _ => by simp at h
  | c :: L, 0, 0, _, _, _, _, _, h => absurd rfl h
  | c :: L, 0, j + 1, a, b, hn, hi, hj, _ => by
    simp at hi hj
    subst hi
    intro e
    subst e
    exact (List.nodup_cons.1 hn).1 (List.mem_of_getElem? hj)
  | c :: L, i + 1, 0, a, b, hn, hi, hj, _ => by
    simp at hi hj
    subst hj
    intro e
    subst e
    exact (List.nodup_cons.1 hn).1 (List.mem_of_getElem? hi)
  | c :: L, i + 1, j + 1, a, b, hn, hi, hj, h => nd_ne (List.nodup_cons.1 hn).2 (by simpa using hi) (by simpa using hj) (fun e => h (by rw [e]))
/-- A whole block is written anew. -/
theorem Bks.put (h : Bks w L u) (i : Nat) {g : Nat} {cs : Array Value} {t : TypeId} (hi : L[i]? = some (g, cs, t)) (cs' : Array Value) : Bks w (L.set i (g, cs', t)) (u.setRow g cs') := by
  have hlt : i < L.length := (List.getElem?_eq_some_iff.1 hi).1
  have hmap : (L.set i (g, cs', t)).map (·.1) = L.map (·.1) := by
    rw [List.map_set]
    apply List.ext_getElem?
    intro k
    rw [List.getElem?_set]
    split
    · rename_i e; subst e; rw [List.length_map, if_pos hlt, List.getElem?_map, hi]; rfl
    · rfl
  refine ⟨below_setRow h.bel (h.ge i hi) cs', ?_, ?_, by rw [hmap]; exact h.apart⟩
  · intro x hx
    rcases List.mem_or_eq_of_mem_set hx with hx | rfl
    · exact h.low x hx
    · exact h.ge i hi
  · intro x hx
    obtain ⟨k, hk⟩ := List.mem_iff_getElem?.1 hx
    rw [List.getElem?_set] at hk
    split at hk
    · rename_i e; subst e
      (try rw [if_pos hlt] at hk)
      obtain rfl := Option.some.inj hk
      exact setRow_heap _ _ _ _ _ _ (h.at i hi)
    · rename_i e
      have hne : x.1 ≠ g := nd_ne h.apart (i := k) (j := i) (by rw [List.getElem?_map, hk]; rfl) (by rw [List.getElem?_map, hi]; rfl) (fun e' => e e'.symm)
      rw [setRow_other _ _ _ _ hne]
      exact h.blk x (List.mem_of_getElem? hk)
/-- One cell of a block is written. -/
theorem Bks.set (h : Bks w L u) (i j : Nat) {g : Nat} {cs : Array Value} {t : TypeId} (hi : L[i]? = some (g, cs, t)) (v : Value) : Bks w (L.set i (g, cs.setIfInBounds j v, t)) (u.setCell ⟨g, j, none⟩ v) := by
  rw [setCell_eq_setRow u g j cs t (0, 0) v (h.at i hi)]
  exact h.put i hi _
/-- In a later world of the class 'below'. -/
theorem Bks.by (h : Bks w L u) (p : QB.By u.heap.size u) : Bks w L p.world := h.step p.below
theorem Bks.swap {a b : Bl} (h : Bks w (a :: b :: L) u) : Bks w (b :: a :: L) u :=
  ⟨h.bel, fun x hx => h.low x (by simp only [List.mem_cons] at hx ⊢; exact hx.elim (fun e => .inr (.inl e)) (fun e => e.elim .inl (fun e => .inr (.inr e)))), fun x hx => h.blk x (by simp only [List.mem_cons] at hx ⊢; exact hx.elim (fun e => .inr (.inl e)) (fun e => e.elim .inl (fun e => .inr (.inr e)))), by
    have := h.apart
    simp only [List.map_cons, List.nodup_cons, List.mem_cons, not_or] at this ⊢
    exact ⟨⟨fun e => this.1.1 e.symm, this.2.1⟩, this.1.2, this.2.2⟩⟩
/-- A block that is not asked for any more. -/
theorem Bks.drop {a : Bl} (h : Bks w (a :: L) u) : Bks w L u := ⟨h.bel, fun x hx => h.low x (List.mem_cons_of_mem _ hx), fun x hx => h.blk x (List.mem_cons_of_mem _ hx), (List.nodup_cons.1 h.apart).2⟩
end
end Blk
namespace Arg
open Go Go.RowKit Go.ChangeShapes Tab
section
variable {α : Type} {n : Nat} {f : α → List Value} {w u : World} {s : Sl} {l : List α}
/-- One-cell elements, in a later world. -/
theorem one_below {v : Value} {x : Addr} {q : Nat} (h : Lies w (x.add (q * 1)) [v]) (hb : Below w.heap.size w u) : u.cell? (x.add q) = some v := by
  have := Lies.below h hb 0 v rfl
  rwa [Tab.add_zero, Nat.mul_one] at this
end
end Arg
namespace Dly
open Go.ChangeShapes Go.WideShapes Go.ChangeAt Go.RowKit
open Tab Flat TabArg
open Cnt (more ct)
structure Tm where
  held : Int
  tail : Int
  out : Bool
deriving DecidableEq
def Tm.cells (s : Tm) : List Value := [I s.held, I s.tail, .bool s.out]
instance : Inhabited Tm := ⟨⟨0, 0, false⟩⟩
section
variable {H : Type} {enc : TypeId × Value → H} {P : Program} {w : World} {base : Nat} {spare : Nat → Bool} {held : Bool}
end
theorem infoT : (Try.prog.info? 73).map (·.size) = some 3 := by kernel_rfl
/-- One tick. -/
def tmr (d e : Int) (s : Tm) (i : Bool) : Tm :=
  let h := if i = true then more s.held else 0
  if ct d 0 9999 < h then ⟨h, ct e 0 9999, true⟩ else if s.out = true ∧ 0 < ct s.tail 0 9999 then ⟨h, ct s.tail 0 9999 - 1, true⟩ else ⟨h, 0, false⟩
/-! ### by dly.py -/
theorem limit_any (n : Int) (w : World) : Calls Try.prog 95 #[.int .i64 n] w fun e w' => e = .returned (.int .i64 (ct n 0 9999)) ∧ w = w' := by
  by_cases h1 : n < 0
  · have HE : Hid (ct n 0 9999 = 0) := Lib.hid (by unfold ct; rw [if_pos h1])
    have em : max n 0 = 0 := by omega
    go_enter Try.func95, Try.ntmps95
    go_wp2
    go_ret
    exact ⟨Cnt.ret_int HE.out.symm, rfl⟩
  by_cases h2 : 9999 < n
  · have HE : Hid (ct n 0 9999 = 9999) := Lib.hid (by unfold ct; rw [if_neg h1, if_pos h2])
    go_enter Try.func95, Try.ntmps95
    go_wp2
    go_ret
    exact ⟨Cnt.ret_int HE.out.symm, rfl⟩
  · have HE : Hid (ct n 0 9999 = n) := Lib.hid (by unfold ct; rw [if_neg h1, if_neg h2])
    go_enter Try.func95, Try.ntmps95
    go_wp2
    go_ret
    exact ⟨Cnt.ret_int HE.out.symm, rfl⟩
theorem oneMore_any (n : Int) (w : World) : Calls Try.prog 94 #[.int .i64 n] w fun e w' => e = .returned (.int .i64 (more n)) ∧ w = w' := by
  have h0 := Cnt.ct_lo (n := n) (a := 0) (b := 9999) (by decide)
  have h1 := Cnt.ct_hi (n := n) (a := 0) (b := 9999) (by decide)
  have e1 : IntKind.i64.wrap (ct n 0 9999 + 1) = ct n 0 9999 + 1 := by rw [IntKind.wrap_i64]; omega
  go_enter Try.func94, Try.ntmps94
  go_wp2_with (go_at_call 95; refine (limit_any _ _).mono ?_; rintro e w' ⟨rfl, rfl⟩)
  go_ret
  exact ⟨rfl, rfl⟩
theorem limit_is {n c : Int} (h : ct n 0 9999 = c) (w : World) : Calls Try.prog 95 #[.int .i64 n] w fun e w' => e = .returned (.int .i64 c) ∧ w = w' := by rw [← h]; exact limit_any n w
def fd (c : Int) (o : Bool) : Tm := if o = true ∧ 0 < c then ⟨0, c - 1, true⟩ else ⟨0, 0, false⟩
theorem fade_is {h t c : Int} {o : Bool} (hc : ct t 0 9999 = c) (w : World) : Calls Try.prog 96 #[.agg #[I h, I t, .bool o]] w fun e w' => e = .returned (.agg (fd c o).cells.toArray) ∧ Below w.heap.size w w' := by
  have c0 := Cnt.ct_lo (n := t) (a := 0) (b := 9999) (by decide)
  have c1 := Cnt.ct_hi (n := t) (a := 0) (b := 9999) (by decide)
  rw [hc] at c0 c1
  have HC := Lib.hid hc
  clear hc
  have h0 := ((Blk.Bks.nil w).alloc #[I h, I t, .bool o] 73).alloc #[I 0, I 0, .bool false] 73
  rw [show (w.alloc (.cells #[I h, I t, .bool o] 73)).heap.size = w.heap.size + 1 by simp] at h0
  cases o
  · go_enter Try.func96, Try.ntmps96
    go_upto_region 1 with fail
    generalize World.alloc (World.alloc w _) _ = u at h0 ⊢
    generalize hgz : w.heap.size + 1 = gz at h0 ⊢
    generalize w.heap.size = gs at h0 ⊢
    clear hgz
    have k1 : u.cell? ⟨gs, 1, none⟩ = some (I t) := h0.cell 1 1 rfl rfl
    have k2 : u.cell? ⟨gs, 2, none⟩ = some (.bool false) := h0.cell 1 2 rfl rfl
    have n1 := World.new_ne u _ k1
    have n2 := World.new_ne u _ k2
    have H0 := Lib.hid h0
    clear h0
    go_region_held3 (fun w' => w'.cell? ⟨gs, 1, none⟩ = some (I t) ∧ w'.cell? ⟨gs, 2, none⟩ = some (.bool false)) (go_keep)
      (first | (go_at_call 95; refine (limit_is HC.out _).mono ?_; rintro e w' ⟨rfl, rfl⟩))
    all_goals
      clear k1 k2 n1 n2
      first
        | (refine (show Exit.then _ _ Exit.normal _ (World.drew (World.alloc (World.alloc u (.cells #[I 0, I c, .bool false] 73)) (.cells #[I 0, I 0, .bool true] 73))) from ?_)
           have ha := ((H0.out.alloc #[I 0, I c, .bool false] 73).alloc #[I 0, I 0, .bool true] 73).drew
           rw [show (u.alloc (.cells #[I 0, I c, .bool false] 73)).heap.size = u.heap.size + 1 by simp] at ha
           generalize World.drew (World.alloc (World.alloc u (.cells #[I 0, I c, .bool false] 73)) (.cells #[I 0, I 0, .bool true] 73)) = v at ha ⊢
           generalize hgb : u.heap.size + 1 = gb at ha ⊢
           generalize u.heap.size = ga at ha ⊢
           clear hgb
           have HA := Lib.hid ha
           clear ha H0)
        | (refine (show Exit.then _ _ Exit.normal _ (World.drew (World.alloc (World.alloc u (.cells #[I 0, I 0, .bool true] 73)) (.cells #[I 0, I c, .bool false] 73))) from ?_)
           have ha := ((H0.out.alloc #[I 0, I 0, .bool true] 73).alloc #[I 0, I c, .bool false] 73).drew.swap
           rw [show (u.alloc (.cells #[I 0, I 0, .bool true] 73)).heap.size = u.heap.size + 1 by simp] at ha
           generalize World.drew (World.alloc (World.alloc u (.cells #[I 0, I 0, .bool true] 73)) (.cells #[I 0, I c, .bool false] 73)) = v at ha ⊢
           generalize hga : u.heap.size + 1 = ga at ha ⊢
           generalize u.heap.size = gb at ha ⊢
           clear hga
           have HA := Lib.hid ha
           clear ha H0)
      have k0_0 : v.cell? ⟨gb, 0, none⟩ = some (I 0) := HA.out.cell 0 0 rfl rfl
      have k0_1 : v.cell? ⟨gb, 1, none⟩ = some (I 0) := HA.out.cell 0 1 rfl rfl
      have k0_2 : v.cell? ⟨gb, 2, none⟩ = some (Value.bool true) := HA.out.cell 0 2 rfl rfl
      have k1_0 : v.cell? ⟨ga, 0, none⟩ = some (I 0) := HA.out.cell 1 0 rfl rfl
      have k1_1 : v.cell? ⟨ga, 1, none⟩ = some (I c) := HA.out.cell 1 1 rfl rfl
      have k1_2 : v.cell? ⟨ga, 2, none⟩ = some (Value.bool false) := HA.out.cell 1 2 rfl rfl
      go_wp2_with (refine wpList_store_row rfl 73 _ _ rfl gz #[I 0, I 0, Value.bool false] rfl rfl 73 _ (HA.out.at 2 rfl) infoT rfl (by simp [Value.oneCell']) ?_)
      have hput := HA.out.put 2 rfl #[I 0, I 0, Value.bool false]
      simp only [List.set_cons_succ, List.set_cons_zero] at hput
      generalize World.setRow _ gz _ = v2 at hput ⊢
      have HE := Lib.hid hput
      clear hput
      go_wp2_with fail
      (try simp only [Exit.inBlock, Exit.then])
      refine bodyPost_ret (v := .agg #[I 0, I 0, Value.bool false]) ?_ rfl ⟨rfl, HE.out.bel⟩
      exact results_cell_row rfl _ _ gz 73 _ (0, 0) _ rfl (HE.out.at 2 rfl) Try.underlying73 rfl infoT
  · rcases (show 0 = c ∨ 0 < c by omega) with e0 | e0
    · subst e0
      go_enter Try.func96, Try.ntmps96
      go_upto_region 1 with fail
      generalize World.alloc (World.alloc w _) _ = u at h0 ⊢
      generalize hgz : w.heap.size + 1 = gz at h0 ⊢
      generalize w.heap.size = gs at h0 ⊢
      clear hgz
      have k1 : u.cell? ⟨gs, 1, none⟩ = some (I t) := h0.cell 1 1 rfl rfl
      have k2 : u.cell? ⟨gs, 2, none⟩ = some (.bool true) := h0.cell 1 2 rfl rfl
      have n1 := World.new_ne u _ k1
      have n2 := World.new_ne u _ k2
      have H0 := Lib.hid h0
      clear h0
      go_region_held3 (fun w' => w'.cell? ⟨gs, 1, none⟩ = some (I t) ∧ w'.cell? ⟨gs, 2, none⟩ = some (.bool true)) (go_keep)
        (first | (go_at_call 95; refine (limit_is HC.out _).mono ?_; rintro e w' ⟨rfl, rfl⟩))
      all_goals
        clear k1 k2 n1 n2
        first
          | (refine (show Exit.then _ _ Exit.normal _ (World.drew (World.alloc (World.alloc u (.cells #[I 0, I 0, .bool true] 73)) (.cells #[I 0, I 0, .bool true] 73))) from ?_)
             have ha := ((H0.out.alloc #[I 0, I 0, .bool true] 73).alloc #[I 0, I 0, .bool true] 73).drew
             rw [show (u.alloc (.cells #[I 0, I 0, .bool true] 73)).heap.size = u.heap.size + 1 by simp] at ha
             generalize World.drew (World.alloc (World.alloc u (.cells #[I 0, I 0, .bool true] 73)) (.cells #[I 0, I 0, .bool true] 73)) = v at ha ⊢
             generalize hgb : u.heap.size + 1 = gb at ha ⊢
             generalize u.heap.size = ga at ha ⊢
             clear hgb
             have HA := Lib.hid ha
             clear ha H0)
          | (refine (show Exit.then _ _ Exit.normal _ (World.drew (World.alloc (World.alloc u (.cells #[I 0, I 0, .bool true] 73)) (.cells #[I 0, I 0, .bool true] 73))) from ?_)
             have ha := ((H0.out.alloc #[I 0, I 0, .bool true] 73).alloc #[I 0, I 0, .bool true] 73).drew.swap
             rw [show (u.alloc (.cells #[I 0, I 0, .bool true] 73)).heap.size = u.heap.size + 1 by simp] at ha
             generalize World.drew (World.alloc (World.alloc u (.cells #[I 0, I 0, .bool true] 73)) (.cells #[I 0, I 0, .bool true] 73)) = v at ha ⊢
             generalize hga : u.heap.size + 1 = ga at ha ⊢
             generalize u.heap.size = gb at ha ⊢
             clear hga
             have HA := Lib.hid ha
             clear ha H0)
        have k0_0 : v.cell? ⟨gb, 0, none⟩ = some (I 0) := HA.out.cell 0 0 rfl rfl
        have k0_1 : v.cell? ⟨gb, 1, none⟩ = some (I 0) := HA.out.cell 0 1 rfl rfl
        have k0_2 : v.cell? ⟨gb, 2, none⟩ = some (Value.bool true) := HA.out.cell 0 2 rfl rfl
        have k1_0 : v.cell? ⟨ga, 0, none⟩ = some (I 0) := HA.out.cell 1 0 rfl rfl
        have k1_1 : v.cell? ⟨ga, 1, none⟩ = some (I 0) := HA.out.cell 1 1 rfl rfl
        have k1_2 : v.cell? ⟨ga, 2, none⟩ = some (Value.bool true) := HA.out.cell 1 2 rfl rfl
        go_wp2_with (refine wpList_store_row rfl 73 _ _ rfl gz #[I 0, I 0, Value.bool false] rfl rfl 73 _ (HA.out.at 2 rfl) infoT rfl (by simp [Value.oneCell']) ?_)
        have hput := HA.out.put 2 rfl #[I 0, I 0, Value.bool false]
        simp only [List.set_cons_succ, List.set_cons_zero] at hput
        generalize World.setRow _ gz _ = v2 at hput ⊢
        have HE := Lib.hid hput
        clear hput
        go_wp2_with fail
        (try simp only [Exit.inBlock, Exit.then])
        refine bodyPost_ret (v := .agg #[I 0, I 0, Value.bool false]) ?_ rfl ⟨rfl, HE.out.bel⟩
        exact results_cell_row rfl _ _ gz 73 _ (0, 0) _ rfl (HE.out.at 2 rfl) Try.underlying73 rfl infoT
    · have HE0 : Hid (fd c true = ⟨0, c - 1, true⟩) := Lib.hid (by unfold fd; rw [if_pos ⟨rfl, e0⟩])
      go_enter Try.func96, Try.ntmps96
      go_upto_region 1 with fail
      generalize World.alloc (World.alloc w _) _ = u at h0 ⊢
      generalize hgz : w.heap.size + 1 = gz at h0 ⊢
      generalize w.heap.size = gs at h0 ⊢
      clear hgz
      have k1 : u.cell? ⟨gs, 1, none⟩ = some (I t) := h0.cell 1 1 rfl rfl
      have k2 : u.cell? ⟨gs, 2, none⟩ = some (.bool true) := h0.cell 1 2 rfl rfl
      have n1 := World.new_ne u _ k1
      have n2 := World.new_ne u _ k2
      have H0 := Lib.hid h0
      clear h0
      go_region_held3 (fun w' => w'.cell? ⟨gs, 1, none⟩ = some (I t) ∧ w'.cell? ⟨gs, 2, none⟩ = some (.bool true)) (go_keep)
        (first | (go_at_call 95; refine (limit_is HC.out _).mono ?_; rintro e w' ⟨rfl, rfl⟩))
      all_goals
        clear k1 k2 n1 n2
        first
          | (refine (show Exit.then _ _ Exit.normal _ (World.drew (World.alloc (World.alloc u (.cells #[I 0, I c, .bool true] 73)) (.cells #[I 0, I 0, .bool true] 73))) from ?_)
             have ha := ((H0.out.alloc #[I 0, I c, .bool true] 73).alloc #[I 0, I 0, .bool true] 73).drew
             rw [show (u.alloc (.cells #[I 0, I c, .bool true] 73)).heap.size = u.heap.size + 1 by simp] at ha
             generalize World.drew (World.alloc (World.alloc u (.cells #[I 0, I c, .bool true] 73)) (.cells #[I 0, I 0, .bool true] 73)) = v at ha ⊢
             generalize hgb : u.heap.size + 1 = gb at ha ⊢
             generalize u.heap.size = ga at ha ⊢
             clear hgb
             have HA := Lib.hid ha
             clear ha H0)
          | (refine (show Exit.then _ _ Exit.normal _ (World.drew (World.alloc (World.alloc u (.cells #[I 0, I 0, .bool true] 73)) (.cells #[I 0, I c, .bool true] 73))) from ?_)
             have ha := ((H0.out.alloc #[I 0, I 0, .bool true] 73).alloc #[I 0, I c, .bool true] 73).drew.swap
             rw [show (u.alloc (.cells #[I 0, I 0, .bool true] 73)).heap.size = u.heap.size + 1 by simp] at ha
             generalize World.drew (World.alloc (World.alloc u (.cells #[I 0, I 0, .bool true] 73)) (.cells #[I 0, I c, .bool true] 73)) = v at ha ⊢
             generalize hga : u.heap.size + 1 = ga at ha ⊢
             generalize u.heap.size = gb at ha ⊢
             clear hga
             have HA := Lib.hid ha
             clear ha H0)
        have k0_0 : v.cell? ⟨gb, 0, none⟩ = some (I 0) := HA.out.cell 0 0 rfl rfl
        have k0_1 : v.cell? ⟨gb, 1, none⟩ = some (I 0) := HA.out.cell 0 1 rfl rfl
        have k0_2 : v.cell? ⟨gb, 2, none⟩ = some (Value.bool true) := HA.out.cell 0 2 rfl rfl
        have k1_0 : v.cell? ⟨ga, 0, none⟩ = some (I 0) := HA.out.cell 1 0 rfl rfl
        have k1_1 : v.cell? ⟨ga, 1, none⟩ = some (I c) := HA.out.cell 1 1 rfl rfl
        have k1_2 : v.cell? ⟨ga, 2, none⟩ = some (Value.bool true) := HA.out.cell 1 2 rfl rfl
        have f1_1 : v.frozen? ⟨ga, 1, none⟩ = false := HA.out.frozen 1 1 rfl
        go_upto_region 5 with fail
        have hput := HA.out.set 1 1 rfl (I (c - 1))
        simp only [List.set_cons_succ, List.set_cons_zero] at hput
        generalize World.setCell _ _ _ = v2 at hput ⊢
        have HB := Lib.hid hput
        clear hput k0_0 k0_1 k0_2 k1_0 k1_1 k1_2 f1_1
        have k1_0 : v2.cell? ⟨ga, 0, none⟩ = some (I 0) := HB.out.cell 1 0 rfl rfl
        have k1_1 : v2.cell? ⟨ga, 1, none⟩ = some (I (c - 1)) := HB.out.cell 1 1 rfl rfl
        have k1_2 : v2.cell? ⟨ga, 2, none⟩ = some (Value.bool true) := HB.out.cell 1 2 rfl rfl
        go_wp2_with (refine wpList_store_row rfl 73 _ _ rfl gz #[I 0, I (c - 1), Value.bool true] rfl rfl 73 _ (HB.out.at 2 rfl) infoT rfl (by simp [Value.oneCell']) ?_)
        have hput := HB.out.put 2 rfl #[I 0, I (c - 1), Value.bool true]
        simp only [List.set_cons_succ, List.set_cons_zero] at hput
        generalize World.setRow _ gz _ = v3 at hput ⊢
        have HE := Lib.hid hput
        clear hput
        go_wp2_with fail
        (try simp only [Exit.inBlock, Exit.then])
        refine bodyPost_ret (v := .agg #[I 0, I (c - 1), Value.bool true]) ?_ rfl ⟨by rw [HE0.out]; rfl, HE.out.bel⟩
        exact results_cell_row rfl _ _ gz 73 _ (0, 0) _ rfl (HE.out.at 2 rfl) Try.underlying73 rfl infoT
theorem fd_held {c : Int} {o : Bool} : ∃ ft fo, fd c o = ⟨0, ft, fo⟩ := by unfold fd; split <;> exact ⟨_, _, rfl⟩
theorem fade_as {h t c ft : Int} {o fo : Bool} (hc : ct t 0 9999 = c) (hf : fd c o = ⟨0, ft, fo⟩) (w : World) : Calls Try.prog 96 #[.agg #[I h, I t, .bool o]] w fun e w' => e = .returned (.agg #[I 0, I ft, .bool fo]) ∧ Below w.heap.size w w' := by
  have := fade_is (h := h) hc (o := o) w
  rw [hf] at this
  exact this
theorem tmr_hi {d e h t hh : Int} {o i : Bool} (h1 : (if i = true then more h else 0) = hh) (h2 : ct d 0 9999 < hh) : tmr d e ⟨h, t, o⟩ i = ⟨hh, ct e 0 9999, true⟩ := by
  show (if ct d 0 9999 < (if i = true then more h else 0) then _ else _) = _
  rw [h1, if_pos h2]
theorem tmr_lo {d e h t hh ft : Int} {o i fo : Bool} (h1 : (if i = true then more h else 0) = hh) (h2 : ¬ ct d 0 9999 < hh) (hf : fd (ct t 0 9999) o = ⟨0, ft, fo⟩) : tmr d e ⟨h, t, o⟩ i = ⟨hh, ft, fo⟩ := by
  show (if ct d 0 9999 < (if i = true then more h else 0) then _ else _) = _
  rw [h1, if_neg h2]
  unfold fd at hf
  show (if o = true ∧ 0 < ct t 0 9999 then _ else _) = _
  split at hf <;> rename_i hx
  · rw [if_pos hx]; injection hf with a b c; rw [← b, ← c]
  · rw [if_neg hx]; injection hf with a b c; rw [← b, ← c]
theorem oneMore_is {n m : Int} (h : more n = m) (w : World) : Calls Try.prog 94 #[.int .i64 n] w fun e w' => e = .returned (.int .i64 m) ∧ w = w' := by rw [← h]; exact oneMore_any n w
theorem rmore_is {n m : Int} (h : more n = m) (w : World) : Calls Try.prog 79 #[.int .i64 n] w fun e w' => e = .returned (.int .i64 m) ∧ w = w' := by rw [← h]; exact Cnt.rmore_any n w
theorem rcut_is {n m : Int} (h : ct n 0 9999 = m) (w : World) : Calls Try.prog 80 #[.int .i64 n, .int .i64 0, .int .i64 9999] w fun e w' => e = .returned (.int .i64 m) ∧ w = w' := by rw [← h]; exact Cnt.rcut_any n 0 9999 w
end Dly
end Go.Proofs.Ytneaomdgjlmleaa
