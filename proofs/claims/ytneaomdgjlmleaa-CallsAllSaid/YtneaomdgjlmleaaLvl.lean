/- The contracts of package level and of the document's answers on it: what each returns, of any detector, any state and any sample. -/
import Derived.Test.YtneaomdgjlmleaaRows
import Derived.Test.YtneaomdgjlmleaaSk
import Derived.Test.YtneaomdgjlmleaaTabArg
import Derived.Test.YtneaomdgjlmleaaCnt
import Derived.Test.YtneaomdgjlmleaaQB
import Derived.StillTailTactics
import Derived.Deep.Cut
import Derived.Laws.Tables
import Derived.Laws.CopyOwn
import Derived.Laws.Rows
import Derived.WalkKit
import Derived.WalkLawsBesides
import Derived.ProofKit
import Derived.IntWalk
import Derived.Lib.Hide
namespace Go.Proofs.Ytneaomdgjlmleaa.Lvl
open Go.ChangeShapes Go.WideShapes Go.ChangeAt Go.RowKit
open Tab Flat TabArg Go.Proofs.Fl
open Cnt (more ct)
open Secs (bits_call ord_cases ord_nan isnan_t isnan_f isnan_any ret_bool ret_int ret_float)
set_option linter.unusedVariables false
set_option linter.unusedSimpArgs false
set_option maxRecDepth 100000

/-! a state -/
structure Lv where
  on : Bool
  bad : Int
deriving DecidableEq
def Lv.cells (s : Lv) : List Value := [.bool s.on, I s.bad]
theorem flL : flat Try.prog 4 69 = some [4, 3] := by kernel_rfl
section
variable {H : Type} {enc : TypeId × Value → H} {P : Program} {w : World} {base : Nat} {spare : Nat → Bool} {held : Bool}
theorem lv_el : ∀ {cs : List Value}, All2 (Tr enc Try.prog w base spare held) [4, 3] cs → ∃ d : Lv, cs = d.cells
  | [_, _], ⟨h0, h1, _⟩ => by
    obtain ⟨v0, rfl⟩ := tr_bool Try.underlying4 h0
    obtain ⟨v1, rfl⟩ := tr_int Try.underlying3 h1
    exact ⟨⟨v0, v1⟩, rfl⟩
end

/-! is a sample none? -/
abbrev M : Nat := 4696837146684686336
abbrev mM : Nat := 13920209183539462144
theorem keyM : key M = 4696837146684686336 := by decide
theorem keymM : key mM = -4696837146684686336 := by decide
theorem isnM : isn M = false := by decide
theorem isnmM : isn mM = false := by decide
def bad (x : Nat) : Bool := isn x || (decide (4696837146684686336 < key x) || decide (key x < -4696837146684686336))
/-! the two comparisons -/
def ge (x y : Nat) : Bool := match FloatKind.f64.format.order x y with | some .gt => true | some .eq => true | _ => false
def le (x y : Nat) : Bool := match FloatKind.f64.format.order x y with | some .lt => true | some .eq => true | _ => false
def stp (on off : Nat) (s : Lv) (x : Nat) : Lv := if bad x = true then ⟨s.on, more s.bad⟩ else if ge x on = true then ⟨true, 0⟩ else if le x off = true then ⟨false, 0⟩ else ⟨s.on, 0⟩
def failed (s : Lv) : Bool := decide (3 ≤ s.bad)
def seen (s : Lv) : Bool := s.on || failed s

theorem ge_cases {x y : Nat} {b : Bool} (h : ge x y = b) : (b = true ∧ (FloatKind.f64.format.order x y = some .gt ∨ FloatKind.f64.format.order x y = some .eq)) ∨ (b = false ∧ (FloatKind.f64.format.order x y = some .lt ∨ FloatKind.f64.format.order x y = none)) := by
  subst h
  unfold ge
  rcases FloatKind.f64.format.order x y with _ | _ | _ | _ <;> simp
theorem le_cases {x y : Nat} {b : Bool} (h : le x y = b) : (b = true ∧ (FloatKind.f64.format.order x y = some .lt ∨ FloatKind.f64.format.order x y = some .eq)) ∨ (b = false ∧ (FloatKind.f64.format.order x y = some .gt ∨ FloatKind.f64.format.order x y = none)) := by
  subst h
  unfold le
  rcases FloatKind.f64.format.order x y with _ | _ | _ | _ <;> simp
theorem ret_lv {a b : Lv} (h : a = b) : Ending.returned (.agg #[.bool a.on, I a.bad]) = .returned (.agg #[.bool b.on, I b.bad]) := by rw [h]

/-! the parts -/
theorem abs_key (x : Nat) : key (x % 9223372036854775808) = (rung x : Int) := by
  unfold key sg rung
  have h : x % 9223372036854775808 < 9223372036854775808 := Nat.mod_lt _ (by decide)
  rw [show x % 9223372036854775808 / 9223372036854775808 % 2 = 0 by omega]
  simp [Nat.mod_mod]
theorem abs_isn (x : Nat) : isn (x % 9223372036854775808) = isn x := by unfold isn rung; rw [Nat.mod_mod]
theorem bits_abs (x : Nat) (h : x < 18446744073709551616) : bits .andNot .u64 (x : Int) 9223372036854775808 = ((x % 9223372036854775808 : Nat) : Int) := by
  have := u64_andNot_nat x 9223372036854775808 h (by decide)
  rw [show ((9223372036854775808 : Nat) : Int) = 9223372036854775808 from rfl] at this
  rw [this]
  congr 1
  exact Nat.and_two_pow_sub_one_eq_mod x 63
theorem frombits_call (n : Int) (w : World) : (callFunc 63 #[.int .u64 n]).run Try.prog w = .ok (.value (.float .f64 n.toNat)) w := by
  rw [run_callFunc_extern (e := Extern.MathFloatBits.float64frombits) Try.func63 (by kernel_rfl) (by kernel_rfl) (by kernel_rfl) (by kernel_rfl)]
  rfl
theorem abs_any (x : Nat) (hx : x < 18446744073709551616) (w : World) : Calls Try.prog 102 #[.float .f64 x] w fun e w' => e = .returned (.float .f64 (x % 9223372036854775808)) ∧ w = w' := by
  have hb := bits_call x
  have hf := frombits_call
  have ha := bits_abs x hx
  have HX := Lib.hid hx
  clear hx
  go_enter Try.func102, Try.ntmps102
  go_wp2_with (simp only [hb, hf, ha])
  go_ret
  exact ⟨ret_float (by simp), rfl⟩
theorem isBad_any (x : Nat) (hx : x < 18446744073709551616) (w : World) : Calls Try.prog 91 #[.float .f64 x] w fun e w' => e = .returned (.bool (bad x)) ∧ w = w' := by
  have HX := Lib.hid hx
  clear hx
  cases hn : isn x
  · have HN := Lib.hid hn
    have ho := ord_cases (x % 9223372036854775808) 4696837146684686336 (by rw [abs_isn, hn]) isnM
    rw [abs_key, keyM] at ho
    have hk : bad x = decide (4696837146684686336 < (rung x : Int)) := by
      unfold bad key
      rw [hn, Bool.false_or, Bool.eq_iff_iff]
      cases sg x <;> simp <;> omega
    rcases ho with ⟨h, ho⟩ | ⟨h, ho⟩ | ⟨h, ho⟩
    · have HK : Hid (bad x = false) := Lib.hid (by rw [hk]; simp; omega)
      clear h hk hn
      go_enter Try.func91, Try.ntmps91
      go_wp2_with (first | (go_at_call 101; refine (isnan_f HN.out _).mono ?_; rintro e w' ⟨rfl, rfl⟩) | (go_at_call 102; refine (abs_any _ HX.out _).mono ?_; rintro e w' ⟨rfl, rfl⟩))
      go_ret
      exact ⟨ret_bool HK.out.symm, rfl⟩
    · have HK : Hid (bad x = false) := Lib.hid (by rw [hk]; simp; omega)
      clear h hk hn
      go_enter Try.func91, Try.ntmps91
      go_wp2_with (first | (go_at_call 101; refine (isnan_f HN.out _).mono ?_; rintro e w' ⟨rfl, rfl⟩) | (go_at_call 102; refine (abs_any _ HX.out _).mono ?_; rintro e w' ⟨rfl, rfl⟩))
      go_ret
      exact ⟨ret_bool HK.out.symm, rfl⟩
    · have HK : Hid (bad x = true) := Lib.hid (by rw [hk]; simp; omega)
      clear h hk hn
      go_enter Try.func91, Try.ntmps91
      go_wp2_with (first | (go_at_call 101; refine (isnan_f HN.out _).mono ?_; rintro e w' ⟨rfl, rfl⟩) | (go_at_call 102; refine (abs_any _ HX.out _).mono ?_; rintro e w' ⟨rfl, rfl⟩))
      go_ret
      exact ⟨ret_bool HK.out.symm, rfl⟩
  · have HN := Lib.hid hn
    have HK : Hid (bad x = true) := Lib.hid (by unfold bad; rw [hn]; rfl)
    clear hn
    go_enter Try.func91, Try.ntmps91
    go_wp2_with (first | (go_at_call 101; refine (isnan_t HN.out _).mono ?_; rintro e w' ⟨rfl, rfl⟩) | (go_at_call 102; refine (abs_any _ HX.out _).mono ?_; rintro e w' ⟨rfl, rfl⟩))
    go_ret
    exact ⟨ret_bool HK.out.symm, rfl⟩
theorem rbad_any (x : Nat) (w : World) : Calls Try.prog 78 #[.float .f64 x] w fun e w' => e = .returned (.bool (bad x)) ∧ w = w' := by
  cases hn : isn x
  · have h0 := ord_cases x mM hn isnmM
    have h1 := ord_cases x M hn isnM
    rw [keymM] at h0
    rw [keyM] at h1
    have hk : bad x = (decide (4696837146684686336 < key x) || decide (key x < -4696837146684686336)) := by unfold bad; rw [hn, Bool.false_or]
    rcases h0 with ⟨a, h0⟩ | ⟨a, h0⟩ | ⟨a, h0⟩ <;> rcases h1 with ⟨b, h1⟩ | ⟨b, h1⟩ | ⟨b, h1⟩ <;> first
      | omega
      | (have HK : Hid (bad x = true) := Lib.hid (by rw [hk]; simp; omega)
         clear a b hk hn
         go_enter Try.func78, Try.ntmps78
         go_wp2
         go_ret
         exact ⟨ret_bool HK.out.symm, rfl⟩)
      | (have HK : Hid (bad x = false) := Lib.hid (by rw [hk]; simp; omega)
         clear a b hk hn
         go_enter Try.func78, Try.ntmps78
         go_wp2
         go_ret
         exact ⟨ret_bool HK.out.symm, rfl⟩)
  · have h0 := ord_nan x mM (.inl hn)
    have h1 := ord_nan x M (.inl hn)
    have HK : Hid (bad x = true) := Lib.hid (by unfold bad; rw [hn]; rfl)
    clear hn
    go_enter Try.func78, Try.ntmps78
    go_wp2
    go_ret
    exact ⟨ret_bool HK.out.symm, rfl⟩
theorem oneMore_any (n : Int) (w : World) : Calls Try.prog 92 #[.int .i64 n] w fun e w' => e = .returned (.int .i64 (more n)) ∧ w = w' := by
  have e1 : IntKind.i64.wrap (n + 1) = n + 1 ∨ n < 0 ∨ 9999 < n := by rw [IntKind.wrap_i64]; omega
  by_cases h1 : n < 0
  · have HE : Hid (more n = 1) := Lib.hid (by unfold more ct; rw [if_pos h1]; rfl)
    have em : max n 0 = 0 := by omega
    go_enter Try.func92, Try.ntmps92
    go_wp2
    go_ret
    exact ⟨ret_int HE.out.symm, rfl⟩
  by_cases h2 : 9999 < n
  · have HE : Hid (more n = 10000) := Lib.hid (by unfold more ct; rw [if_neg h1, if_pos h2]; rfl)
    go_enter Try.func92, Try.ntmps92
    go_wp2
    go_ret
    exact ⟨ret_int HE.out.symm, rfl⟩
  · have HE : Hid (more n = n + 1) := Lib.hid (by unfold more ct; rw [if_neg h1, if_neg h2])
    go_enter Try.func92, Try.ntmps92
    go_wp2
    go_ret
    exact ⟨ret_int HE.out.symm, rfl⟩
/-! ### by lvl.py -/
theorem infoL : (Try.prog.info? 69).map (·.size) = some 2 := by kernel_rfl
structure B3 (w u : World) (dc sc zc : Array Value) : Prop where
  d : u.heap[w.heap.size]? = some (.cells dc 65 (0, 0))
  s : u.heap[w.heap.size + 1]? = some (.cells sc 69 (0, 0))
  r : u.heap[w.heap.size + 1 + 1]? = some (.cells zc 69 (0, 0))
  bel : Below w.heap.size w u
theorem B3.drew {w u : World} {dc sc zc : Array Value} (h : B3 w u dc sc zc) : B3 w u.drew dc sc zc := ⟨h.d, h.s, h.r, h.bel.drew⟩
theorem b3 (w : World) (dc sc zc : Array Value) : B3 w (((w.alloc (.cells dc 65)).alloc (.cells sc 69)).alloc (.cells zc 69)) dc sc zc := by
  have s1 : (w.alloc (.cells dc 65)).heap.size = w.heap.size + 1 := by simp
  have s2 : ((w.alloc (.cells dc 65)).alloc (.cells sc 69)).heap.size = w.heap.size + 1 + 1 := by simp
  have n1 := heap_alloc_new w (.cells dc 65)
  have n2 := heap_alloc_new (w.alloc (.cells dc 65)) (.cells sc 69)
  have n3 := heap_alloc_new ((w.alloc (.cells dc 65)).alloc (.cells sc 69)) (.cells zc 69)
  rw [s1] at n2
  rw [s2] at n3
  refine ⟨?_, ?_, n3, (((Below.refl _ _).alloc (Nat.le_refl _) _).alloc (by simp) _).alloc (by simp; omega) _⟩
  · rw [Below.heap_alloc _ _ _ (by rw [s2]; omega), Below.heap_alloc _ _ _ (by rw [s1]; omega)]; exact n1
  · rw [Below.heap_alloc _ _ _ (by rw [s2]; omega)]; exact n2
theorem below_row {B : Nat} {a w : World} (h : Below B a w) {g : Nat} (hg : B ≤ g) (cs : Array Value) : Below B a (w.setRow g cs) :=
  below_setRow h hg cs
set_option maxHeartbeats 4000000 in
theorem step_any (d : Det) (s : Lv) (x : Nat) (hx : x < 18446744073709551616) (w : World) : Calls Try.prog 73 #[.agg d.cells.toArray, .agg s.cells.toArray, .float .f64 x] w fun e w' => e = .returned (.agg (stp d.on d.off s x).cells.toArray) ∧ Below w.heap.size w w' := by
  obtain ⟨ph, on, off, dl, ex, mo, mf⟩ := d
  obtain ⟨b, n⟩ := s
  have HX := Lib.hid hx
  clear hx
  simp only [Det.cells, Lv.cells]
  have h3 := b3 w #[I ph, F on, F off, F dl, F ex, I mo, I mf] #[.bool b, I n] #[.bool false, I 0]
  cases hb : bad x
  · have HB := Lib.hid hb
    have h1 := ge_cases (x := x) (y := on) rfl
    have h2 := le_cases (x := x) (y := off) rfl
    have hg : stp on off ⟨b, n⟩ x = if ge x on = true then ⟨true, 0⟩ else if le x off = true then ⟨false, 0⟩ else ⟨b, 0⟩ := by unfold stp; rw [if_neg (by rw [hb]; simp)]
    clear hb
    rcases h1 with ⟨h1, ho | ho⟩ | ⟨h1, ho | ho⟩
    · have HE : Hid (stp on off ⟨b, n⟩ x = ⟨true, 0⟩) := Lib.hid (by rw [hg, if_pos h1])
      clear h1 h2 hg
      go_enter Try.func73, Try.ntmps73
      go_upto_region 1 with fail
      generalize World.alloc _ (.cells #[.bool false, I 0] 69) = u at h3 ⊢
      have H3 := Lib.hid h3
      clear h3
      have c0 : u.cell? ⟨w.heap.size + 1, 0, none⟩ = some (.bool b) := by rw [cell_of_row _ _ _ _ _ _ H3.out.s]; rfl
      have c1 : u.cell? ⟨w.heap.size + 1, 1, none⟩ = some (I n) := by rw [cell_of_row _ _ _ _ _ _ H3.out.s]; rfl
      have k1 : u.cell? ⟨w.heap.size, 1, none⟩ = some (F on) := by rw [cell_of_row _ _ _ _ _ _ H3.out.d]; rfl
      have k2 : u.cell? ⟨w.heap.size, 2, none⟩ = some (F off) := by rw [cell_of_row _ _ _ _ _ _ H3.out.d]; rfl
      go_wp2_with (first | (go_at_call 91; refine (isBad_any _ HX.out _).mono ?_; rintro e w' ⟨rfl, rfl⟩; rw [HB.out]) | (refine wpList_store_row rfl 69 _ _ rfl (w.heap.size + 1 + 1) #[.bool true, I 0] rfl rfl 69 _ H3.out.r infoL rfl (by simp [Value.oneCell']) ?_))
      have HG := Lib.hid (below_row H3.out.bel (g := w.heap.size + 1 + 1) (by omega) #[.bool true, I 0])
      have HK := Lib.hid (setRow_heap u (w.heap.size + 1 + 1) _ #[.bool true, I 0] _ _ H3.out.r)
      clear H3
      generalize World.setRow u (w.heap.size + 1 + 1) #[.bool true, I 0] = uz at HG HK ⊢
      go_wp2_with fail
      (try simp only [Exit.inBlock, Exit.then])
      refine bodyPost_ret (v := .agg #[.bool true, I 0]) ?_ rfl ⟨by rw [HE.out], HG.out⟩
      exact results_cell_row rfl _ _ (w.heap.size + 1 + 1) 69 _ (0, 0) _ rfl HK.out Try.underlying69 rfl infoL
    · have HE : Hid (stp on off ⟨b, n⟩ x = ⟨true, 0⟩) := Lib.hid (by rw [hg, if_pos h1])
      clear h1 h2 hg
      go_enter Try.func73, Try.ntmps73
      go_upto_region 1 with fail
      generalize World.alloc _ (.cells #[.bool false, I 0] 69) = u at h3 ⊢
      have H3 := Lib.hid h3
      clear h3
      have c0 : u.cell? ⟨w.heap.size + 1, 0, none⟩ = some (.bool b) := by rw [cell_of_row _ _ _ _ _ _ H3.out.s]; rfl
      have c1 : u.cell? ⟨w.heap.size + 1, 1, none⟩ = some (I n) := by rw [cell_of_row _ _ _ _ _ _ H3.out.s]; rfl
      have k1 : u.cell? ⟨w.heap.size, 1, none⟩ = some (F on) := by rw [cell_of_row _ _ _ _ _ _ H3.out.d]; rfl
      have k2 : u.cell? ⟨w.heap.size, 2, none⟩ = some (F off) := by rw [cell_of_row _ _ _ _ _ _ H3.out.d]; rfl
      go_wp2_with (first | (go_at_call 91; refine (isBad_any _ HX.out _).mono ?_; rintro e w' ⟨rfl, rfl⟩; rw [HB.out]) | (refine wpList_store_row rfl 69 _ _ rfl (w.heap.size + 1 + 1) #[.bool true, I 0] rfl rfl 69 _ H3.out.r infoL rfl (by simp [Value.oneCell']) ?_))
      have HG := Lib.hid (below_row H3.out.bel (g := w.heap.size + 1 + 1) (by omega) #[.bool true, I 0])
      have HK := Lib.hid (setRow_heap u (w.heap.size + 1 + 1) _ #[.bool true, I 0] _ _ H3.out.r)
      clear H3
      generalize World.setRow u (w.heap.size + 1 + 1) #[.bool true, I 0] = uz at HG HK ⊢
      go_wp2_with fail
      (try simp only [Exit.inBlock, Exit.then])
      refine bodyPost_ret (v := .agg #[.bool true, I 0]) ?_ rfl ⟨by rw [HE.out], HG.out⟩
      exact results_cell_row rfl _ _ (w.heap.size + 1 + 1) 69 _ (0, 0) _ rfl HK.out Try.underlying69 rfl infoL
    · rcases h2 with ⟨h2, hq | hq⟩ | ⟨h2, hq | hq⟩
      · have HE : Hid (stp on off ⟨b, n⟩ x = ⟨false, 0⟩) := Lib.hid (by rw [hg, if_neg (by rw [h1]; simp), if_pos h2])
        clear h1 h2 hg
        go_enter Try.func73, Try.ntmps73
        go_upto_region 1 with fail
        generalize World.alloc _ (.cells #[.bool false, I 0] 69) = u at h3 ⊢
        have H3 := Lib.hid h3
        clear h3
        have c0 : u.cell? ⟨w.heap.size + 1, 0, none⟩ = some (.bool b) := by rw [cell_of_row _ _ _ _ _ _ H3.out.s]; rfl
        have c1 : u.cell? ⟨w.heap.size + 1, 1, none⟩ = some (I n) := by rw [cell_of_row _ _ _ _ _ _ H3.out.s]; rfl
        have k1 : u.cell? ⟨w.heap.size, 1, none⟩ = some (F on) := by rw [cell_of_row _ _ _ _ _ _ H3.out.d]; rfl
        have k2 : u.cell? ⟨w.heap.size, 2, none⟩ = some (F off) := by rw [cell_of_row _ _ _ _ _ _ H3.out.d]; rfl
        go_wp2_with (first | (go_at_call 91; refine (isBad_any _ HX.out _).mono ?_; rintro e w' ⟨rfl, rfl⟩; rw [HB.out]) | (refine wpList_store_row rfl 69 _ _ rfl (w.heap.size + 1 + 1) #[.bool false, I 0] rfl rfl 69 _ H3.out.r infoL rfl (by simp [Value.oneCell']) ?_))
        have HG := Lib.hid (below_row H3.out.bel (g := w.heap.size + 1 + 1) (by omega) #[.bool false, I 0])
        have HK := Lib.hid (setRow_heap u (w.heap.size + 1 + 1) _ #[.bool false, I 0] _ _ H3.out.r)
        clear H3
        generalize World.setRow u (w.heap.size + 1 + 1) #[.bool false, I 0] = uz at HG HK ⊢
        go_wp2_with fail
        (try simp only [Exit.inBlock, Exit.then])
        refine bodyPost_ret (v := .agg #[.bool false, I 0]) ?_ rfl ⟨by rw [HE.out], HG.out⟩
        exact results_cell_row rfl _ _ (w.heap.size + 1 + 1) 69 _ (0, 0) _ rfl HK.out Try.underlying69 rfl infoL
      · have HE : Hid (stp on off ⟨b, n⟩ x = ⟨false, 0⟩) := Lib.hid (by rw [hg, if_neg (by rw [h1]; simp), if_pos h2])
        clear h1 h2 hg
        go_enter Try.func73, Try.ntmps73
        go_upto_region 1 with fail
        generalize World.alloc _ (.cells #[.bool false, I 0] 69) = u at h3 ⊢
        have H3 := Lib.hid h3
        clear h3
        have c0 : u.cell? ⟨w.heap.size + 1, 0, none⟩ = some (.bool b) := by rw [cell_of_row _ _ _ _ _ _ H3.out.s]; rfl
        have c1 : u.cell? ⟨w.heap.size + 1, 1, none⟩ = some (I n) := by rw [cell_of_row _ _ _ _ _ _ H3.out.s]; rfl
        have k1 : u.cell? ⟨w.heap.size, 1, none⟩ = some (F on) := by rw [cell_of_row _ _ _ _ _ _ H3.out.d]; rfl
        have k2 : u.cell? ⟨w.heap.size, 2, none⟩ = some (F off) := by rw [cell_of_row _ _ _ _ _ _ H3.out.d]; rfl
        go_wp2_with (first | (go_at_call 91; refine (isBad_any _ HX.out _).mono ?_; rintro e w' ⟨rfl, rfl⟩; rw [HB.out]) | (refine wpList_store_row rfl 69 _ _ rfl (w.heap.size + 1 + 1) #[.bool false, I 0] rfl rfl 69 _ H3.out.r infoL rfl (by simp [Value.oneCell']) ?_))
        have HG := Lib.hid (below_row H3.out.bel (g := w.heap.size + 1 + 1) (by omega) #[.bool false, I 0])
        have HK := Lib.hid (setRow_heap u (w.heap.size + 1 + 1) _ #[.bool false, I 0] _ _ H3.out.r)
        clear H3
        generalize World.setRow u (w.heap.size + 1 + 1) #[.bool false, I 0] = uz at HG HK ⊢
        go_wp2_with fail
        (try simp only [Exit.inBlock, Exit.then])
        refine bodyPost_ret (v := .agg #[.bool false, I 0]) ?_ rfl ⟨by rw [HE.out], HG.out⟩
        exact results_cell_row rfl _ _ (w.heap.size + 1 + 1) 69 _ (0, 0) _ rfl HK.out Try.underlying69 rfl infoL
      · have HE : Hid (stp on off ⟨b, n⟩ x = ⟨b, 0⟩) := Lib.hid (by rw [hg, if_neg (by rw [h1]; simp), if_neg (by rw [h2]; simp)])
        clear h1 h2 hg
        go_enter Try.func73, Try.ntmps73
        go_upto_region 1 with fail
        generalize World.alloc _ (.cells #[.bool false, I 0] 69) = u at h3 ⊢
        have H3 := Lib.hid h3
        clear h3
        have c0 : u.cell? ⟨w.heap.size + 1, 0, none⟩ = some (.bool b) := by rw [cell_of_row _ _ _ _ _ _ H3.out.s]; rfl
        have c1 : u.cell? ⟨w.heap.size + 1, 1, none⟩ = some (I n) := by rw [cell_of_row _ _ _ _ _ _ H3.out.s]; rfl
        have k1 : u.cell? ⟨w.heap.size, 1, none⟩ = some (F on) := by rw [cell_of_row _ _ _ _ _ _ H3.out.d]; rfl
        have k2 : u.cell? ⟨w.heap.size, 2, none⟩ = some (F off) := by rw [cell_of_row _ _ _ _ _ _ H3.out.d]; rfl
        go_wp2_with (first | (go_at_call 91; refine (isBad_any _ HX.out _).mono ?_; rintro e w' ⟨rfl, rfl⟩; rw [HB.out]) | (refine wpList_store_row rfl 69 _ _ rfl (w.heap.size + 1 + 1) #[.bool b, I 0] rfl rfl 69 _ H3.out.r infoL rfl (by simp [Value.oneCell']) ?_))
        have HG := Lib.hid (below_row H3.out.bel (g := w.heap.size + 1 + 1) (by omega) #[.bool b, I 0])
        have HK := Lib.hid (setRow_heap u (w.heap.size + 1 + 1) _ #[.bool b, I 0] _ _ H3.out.r)
        clear H3
        generalize World.setRow u (w.heap.size + 1 + 1) #[.bool b, I 0] = uz at HG HK ⊢
        go_wp2_with fail
        (try simp only [Exit.inBlock, Exit.then])
        refine bodyPost_ret (v := .agg #[.bool b, I 0]) ?_ rfl ⟨by rw [HE.out], HG.out⟩
        exact results_cell_row rfl _ _ (w.heap.size + 1 + 1) 69 _ (0, 0) _ rfl HK.out Try.underlying69 rfl infoL
      · have HE : Hid (stp on off ⟨b, n⟩ x = ⟨b, 0⟩) := Lib.hid (by rw [hg, if_neg (by rw [h1]; simp), if_neg (by rw [h2]; simp)])
        clear h1 h2 hg
        go_enter Try.func73, Try.ntmps73
        go_upto_region 1 with fail
        generalize World.alloc _ (.cells #[.bool false, I 0] 69) = u at h3 ⊢
        have H3 := Lib.hid h3
        clear h3
        have c0 : u.cell? ⟨w.heap.size + 1, 0, none⟩ = some (.bool b) := by rw [cell_of_row _ _ _ _ _ _ H3.out.s]; rfl
        have c1 : u.cell? ⟨w.heap.size + 1, 1, none⟩ = some (I n) := by rw [cell_of_row _ _ _ _ _ _ H3.out.s]; rfl
        have k1 : u.cell? ⟨w.heap.size, 1, none⟩ = some (F on) := by rw [cell_of_row _ _ _ _ _ _ H3.out.d]; rfl
        have k2 : u.cell? ⟨w.heap.size, 2, none⟩ = some (F off) := by rw [cell_of_row _ _ _ _ _ _ H3.out.d]; rfl
        go_wp2_with (first | (go_at_call 91; refine (isBad_any _ HX.out _).mono ?_; rintro e w' ⟨rfl, rfl⟩; rw [HB.out]) | (refine wpList_store_row rfl 69 _ _ rfl (w.heap.size + 1 + 1) #[.bool b, I 0] rfl rfl 69 _ H3.out.r infoL rfl (by simp [Value.oneCell']) ?_))
        have HG := Lib.hid (below_row H3.out.bel (g := w.heap.size + 1 + 1) (by omega) #[.bool b, I 0])
        have HK := Lib.hid (setRow_heap u (w.heap.size + 1 + 1) _ #[.bool b, I 0] _ _ H3.out.r)
        clear H3
        generalize World.setRow u (w.heap.size + 1 + 1) #[.bool b, I 0] = uz at HG HK ⊢
        go_wp2_with fail
        (try simp only [Exit.inBlock, Exit.then])
        refine bodyPost_ret (v := .agg #[.bool b, I 0]) ?_ rfl ⟨by rw [HE.out], HG.out⟩
        exact results_cell_row rfl _ _ (w.heap.size + 1 + 1) 69 _ (0, 0) _ rfl HK.out Try.underlying69 rfl infoL
    · rcases h2 with ⟨h2, hq | hq⟩ | ⟨h2, hq | hq⟩
      · have HE : Hid (stp on off ⟨b, n⟩ x = ⟨false, 0⟩) := Lib.hid (by rw [hg, if_neg (by rw [h1]; simp), if_pos h2])
        clear h1 h2 hg
        go_enter Try.func73, Try.ntmps73
        go_upto_region 1 with fail
        generalize World.alloc _ (.cells #[.bool false, I 0] 69) = u at h3 ⊢
        have H3 := Lib.hid h3
        clear h3
        have c0 : u.cell? ⟨w.heap.size + 1, 0, none⟩ = some (.bool b) := by rw [cell_of_row _ _ _ _ _ _ H3.out.s]; rfl
        have c1 : u.cell? ⟨w.heap.size + 1, 1, none⟩ = some (I n) := by rw [cell_of_row _ _ _ _ _ _ H3.out.s]; rfl
        have k1 : u.cell? ⟨w.heap.size, 1, none⟩ = some (F on) := by rw [cell_of_row _ _ _ _ _ _ H3.out.d]; rfl
        have k2 : u.cell? ⟨w.heap.size, 2, none⟩ = some (F off) := by rw [cell_of_row _ _ _ _ _ _ H3.out.d]; rfl
        go_wp2_with (first | (go_at_call 91; refine (isBad_any _ HX.out _).mono ?_; rintro e w' ⟨rfl, rfl⟩; rw [HB.out]) | (refine wpList_store_row rfl 69 _ _ rfl (w.heap.size + 1 + 1) #[.bool false, I 0] rfl rfl 69 _ H3.out.r infoL rfl (by simp [Value.oneCell']) ?_))
        have HG := Lib.hid (below_row H3.out.bel (g := w.heap.size + 1 + 1) (by omega) #[.bool false, I 0])
        have HK := Lib.hid (setRow_heap u (w.heap.size + 1 + 1) _ #[.bool false, I 0] _ _ H3.out.r)
        clear H3
        generalize World.setRow u (w.heap.size + 1 + 1) #[.bool false, I 0] = uz at HG HK ⊢
        go_wp2_with fail
        (try simp only [Exit.inBlock, Exit.then])
        refine bodyPost_ret (v := .agg #[.bool false, I 0]) ?_ rfl ⟨by rw [HE.out], HG.out⟩
        exact results_cell_row rfl _ _ (w.heap.size + 1 + 1) 69 _ (0, 0) _ rfl HK.out Try.underlying69 rfl infoL
      · have HE : Hid (stp on off ⟨b, n⟩ x = ⟨false, 0⟩) := Lib.hid (by rw [hg, if_neg (by rw [h1]; simp), if_pos h2])
        clear h1 h2 hg
        go_enter Try.func73, Try.ntmps73
        go_upto_region 1 with fail
        generalize World.alloc _ (.cells #[.bool false, I 0] 69) = u at h3 ⊢
        have H3 := Lib.hid h3
        clear h3
        have c0 : u.cell? ⟨w.heap.size + 1, 0, none⟩ = some (.bool b) := by rw [cell_of_row _ _ _ _ _ _ H3.out.s]; rfl
        have c1 : u.cell? ⟨w.heap.size + 1, 1, none⟩ = some (I n) := by rw [cell_of_row _ _ _ _ _ _ H3.out.s]; rfl
        have k1 : u.cell? ⟨w.heap.size, 1, none⟩ = some (F on) := by rw [cell_of_row _ _ _ _ _ _ H3.out.d]; rfl
        have k2 : u.cell? ⟨w.heap.size, 2, none⟩ = some (F off) := by rw [cell_of_row _ _ _ _ _ _ H3.out.d]; rfl
        go_wp2_with (first | (go_at_call 91; refine (isBad_any _ HX.out _).mono ?_; rintro e w' ⟨rfl, rfl⟩; rw [HB.out]) | (refine wpList_store_row rfl 69 _ _ rfl (w.heap.size + 1 + 1) #[.bool false, I 0] rfl rfl 69 _ H3.out.r infoL rfl (by simp [Value.oneCell']) ?_))
        have HG := Lib.hid (below_row H3.out.bel (g := w.heap.size + 1 + 1) (by omega) #[.bool false, I 0])
        have HK := Lib.hid (setRow_heap u (w.heap.size + 1 + 1) _ #[.bool false, I 0] _ _ H3.out.r)
        clear H3
        generalize World.setRow u (w.heap.size + 1 + 1) #[.bool false, I 0] = uz at HG HK ⊢
        go_wp2_with fail
        (try simp only [Exit.inBlock, Exit.then])
        refine bodyPost_ret (v := .agg #[.bool false, I 0]) ?_ rfl ⟨by rw [HE.out], HG.out⟩
        exact results_cell_row rfl _ _ (w.heap.size + 1 + 1) 69 _ (0, 0) _ rfl HK.out Try.underlying69 rfl infoL
      · have HE : Hid (stp on off ⟨b, n⟩ x = ⟨b, 0⟩) := Lib.hid (by rw [hg, if_neg (by rw [h1]; simp), if_neg (by rw [h2]; simp)])
        clear h1 h2 hg
        go_enter Try.func73, Try.ntmps73
        go_upto_region 1 with fail
        generalize World.alloc _ (.cells #[.bool false, I 0] 69) = u at h3 ⊢
        have H3 := Lib.hid h3
        clear h3
        have c0 : u.cell? ⟨w.heap.size + 1, 0, none⟩ = some (.bool b) := by rw [cell_of_row _ _ _ _ _ _ H3.out.s]; rfl
        have c1 : u.cell? ⟨w.heap.size + 1, 1, none⟩ = some (I n) := by rw [cell_of_row _ _ _ _ _ _ H3.out.s]; rfl
        have k1 : u.cell? ⟨w.heap.size, 1, none⟩ = some (F on) := by rw [cell_of_row _ _ _ _ _ _ H3.out.d]; rfl
        have k2 : u.cell? ⟨w.heap.size, 2, none⟩ = some (F off) := by rw [cell_of_row _ _ _ _ _ _ H3.out.d]; rfl
        go_wp2_with (first | (go_at_call 91; refine (isBad_any _ HX.out _).mono ?_; rintro e w' ⟨rfl, rfl⟩; rw [HB.out]) | (refine wpList_store_row rfl 69 _ _ rfl (w.heap.size + 1 + 1) #[.bool b, I 0] rfl rfl 69 _ H3.out.r infoL rfl (by simp [Value.oneCell']) ?_))
        have HG := Lib.hid (below_row H3.out.bel (g := w.heap.size + 1 + 1) (by omega) #[.bool b, I 0])
        have HK := Lib.hid (setRow_heap u (w.heap.size + 1 + 1) _ #[.bool b, I 0] _ _ H3.out.r)
        clear H3
        generalize World.setRow u (w.heap.size + 1 + 1) #[.bool b, I 0] = uz at HG HK ⊢
        go_wp2_with fail
        (try simp only [Exit.inBlock, Exit.then])
        refine bodyPost_ret (v := .agg #[.bool b, I 0]) ?_ rfl ⟨by rw [HE.out], HG.out⟩
        exact results_cell_row rfl _ _ (w.heap.size + 1 + 1) 69 _ (0, 0) _ rfl HK.out Try.underlying69 rfl infoL
      · have HE : Hid (stp on off ⟨b, n⟩ x = ⟨b, 0⟩) := Lib.hid (by rw [hg, if_neg (by rw [h1]; simp), if_neg (by rw [h2]; simp)])
        clear h1 h2 hg
        go_enter Try.func73, Try.ntmps73
        go_upto_region 1 with fail
        generalize World.alloc _ (.cells #[.bool false, I 0] 69) = u at h3 ⊢
        have H3 := Lib.hid h3
        clear h3
        have c0 : u.cell? ⟨w.heap.size + 1, 0, none⟩ = some (.bool b) := by rw [cell_of_row _ _ _ _ _ _ H3.out.s]; rfl
        have c1 : u.cell? ⟨w.heap.size + 1, 1, none⟩ = some (I n) := by rw [cell_of_row _ _ _ _ _ _ H3.out.s]; rfl
        have k1 : u.cell? ⟨w.heap.size, 1, none⟩ = some (F on) := by rw [cell_of_row _ _ _ _ _ _ H3.out.d]; rfl
        have k2 : u.cell? ⟨w.heap.size, 2, none⟩ = some (F off) := by rw [cell_of_row _ _ _ _ _ _ H3.out.d]; rfl
        go_wp2_with (first | (go_at_call 91; refine (isBad_any _ HX.out _).mono ?_; rintro e w' ⟨rfl, rfl⟩; rw [HB.out]) | (refine wpList_store_row rfl 69 _ _ rfl (w.heap.size + 1 + 1) #[.bool b, I 0] rfl rfl 69 _ H3.out.r infoL rfl (by simp [Value.oneCell']) ?_))
        have HG := Lib.hid (below_row H3.out.bel (g := w.heap.size + 1 + 1) (by omega) #[.bool b, I 0])
        have HK := Lib.hid (setRow_heap u (w.heap.size + 1 + 1) _ #[.bool b, I 0] _ _ H3.out.r)
        clear H3
        generalize World.setRow u (w.heap.size + 1 + 1) #[.bool b, I 0] = uz at HG HK ⊢
        go_wp2_with fail
        (try simp only [Exit.inBlock, Exit.then])
        refine bodyPost_ret (v := .agg #[.bool b, I 0]) ?_ rfl ⟨by rw [HE.out], HG.out⟩
        exact results_cell_row rfl _ _ (w.heap.size + 1 + 1) 69 _ (0, 0) _ rfl HK.out Try.underlying69 rfl infoL
  · have HB := Lib.hid hb
    have HE : Hid (stp on off ⟨b, n⟩ x = ⟨b, more n⟩) := Lib.hid (by unfold stp; rw [if_pos hb])
    clear hb
    go_enter Try.func73, Try.ntmps73
    go_upto_region 1 with fail
    generalize World.alloc _ (.cells #[.bool false, I 0] 69) = u at h3 ⊢
    have H3 := Lib.hid h3
    clear h3
    have c0 : u.cell? ⟨w.heap.size + 1, 0, none⟩ = some (.bool b) := by rw [cell_of_row _ _ _ _ _ _ H3.out.s]; rfl
    have c1 : u.cell? ⟨w.heap.size + 1, 1, none⟩ = some (I n) := by rw [cell_of_row _ _ _ _ _ _ H3.out.s]; rfl
    have k1 : u.cell? ⟨w.heap.size, 1, none⟩ = some (F on) := by rw [cell_of_row _ _ _ _ _ _ H3.out.d]; rfl
    have k2 : u.cell? ⟨w.heap.size, 2, none⟩ = some (F off) := by rw [cell_of_row _ _ _ _ _ _ H3.out.d]; rfl
    go_wp2_with (first | (go_at_call 91; refine (isBad_any _ HX.out _).mono ?_; rintro e w' ⟨rfl, rfl⟩; rw [HB.out]))

    refine QB.region_tail 6 (by kernel_rfl) (by kernel_rfl) ?_
    have h3 := H3.out.drew
    have d0 : u.drew.cell? ⟨w.heap.size + 1, 0, none⟩ = some (.bool b) := c0
    have d1 : u.drew.cell? ⟨w.heap.size + 1, 1, none⟩ = some (I n) := c1
    clear c0 c1 k1 k2 H3
    generalize World.drew u = v at h3 d0 d1 ⊢
    have H3 := Lib.hid h3
    clear h3
    simp only [List.take_succ_cons, List.take_zero, List.drop_succ_cons, List.drop_zero]
    repeat still_step
    still_call ((oneMore_any n v).mono fun e w' h => ⟨h.1, h.2.symm⟩)
    repeat still_step
    refine wpStill_nil ?_
    go_wp2_with (refine wpList_store_row rfl 69 _ _ rfl (w.heap.size + 1 + 1) #[.bool b, I (more n)] rfl rfl 69 _ H3.out.r infoL rfl (by simp [Value.oneCell']) ?_)
    have HG := Lib.hid (below_row H3.out.bel (g := w.heap.size + 1 + 1) (by omega) #[.bool b, I (more n)])
    have HK := Lib.hid (setRow_heap v (w.heap.size + 1 + 1) _ #[.bool b, I (more n)] _ _ H3.out.r)
    clear H3
    generalize World.setRow v (w.heap.size + 1 + 1) #[.bool b, I (more n)] = uz at HG HK ⊢
    go_wp2_with fail
    (try simp only [Exit.inBlock, Exit.then])
    refine bodyPost_ret (v := .agg #[.bool b, I (more n)]) ?_ rfl ⟨by rw [HE.out], HG.out⟩
    exact results_cell_row rfl _ _ (w.heap.size + 1 + 1) 69 _ (0, 0) _ rfl HK.out Try.underlying69 rfl infoL
set_option maxHeartbeats 4000000 in
theorem rstep_any (d : Det) (s : Lv) (x : Nat) (hx : x < 18446744073709551616) (w : World) : Calls Try.prog 54 #[.agg d.cells.toArray, .agg s.cells.toArray, .float .f64 x] w fun e w' => e = .returned (.agg (stp d.on d.off s x).cells.toArray) ∧ Below w.heap.size w w' := by
  obtain ⟨ph, on, off, dl, ex, mo, mf⟩ := d
  obtain ⟨b, n⟩ := s
  have HX := Lib.hid hx
  clear hx
  simp only [Det.cells, Lv.cells]
  have h3 := b3 w #[I ph, F on, F off, F dl, F ex, I mo, I mf] #[.bool b, I n] #[.bool false, I 0]
  cases hb : bad x
  · have HB := Lib.hid hb
    have h1 := ge_cases (x := x) (y := on) rfl
    have h2 := le_cases (x := x) (y := off) rfl
    have hg : stp on off ⟨b, n⟩ x = if ge x on = true then ⟨true, 0⟩ else if le x off = true then ⟨false, 0⟩ else ⟨b, 0⟩ := by unfold stp; rw [if_neg (by rw [hb]; simp)]
    clear hb
    rcases h1 with ⟨h1, ho | ho⟩ | ⟨h1, ho | ho⟩
    · have HE : Hid (stp on off ⟨b, n⟩ x = ⟨true, 0⟩) := Lib.hid (by rw [hg, if_pos h1])
      clear h1 h2 hg
      go_enter Try.func54, Try.ntmps54
      go_upto_region 1 with fail
      generalize World.alloc _ (.cells #[.bool false, I 0] 69) = u at h3 ⊢
      have H3 := Lib.hid h3
      clear h3
      have c0 : u.cell? ⟨w.heap.size + 1, 0, none⟩ = some (.bool b) := by rw [cell_of_row _ _ _ _ _ _ H3.out.s]; rfl
      have c1 : u.cell? ⟨w.heap.size + 1, 1, none⟩ = some (I n) := by rw [cell_of_row _ _ _ _ _ _ H3.out.s]; rfl
      have k1 : u.cell? ⟨w.heap.size, 1, none⟩ = some (F on) := by rw [cell_of_row _ _ _ _ _ _ H3.out.d]; rfl
      have k2 : u.cell? ⟨w.heap.size, 2, none⟩ = some (F off) := by rw [cell_of_row _ _ _ _ _ _ H3.out.d]; rfl
      go_wp2_with (first | (go_at_call 78; refine (rbad_any _ _).mono ?_; rintro e w' ⟨rfl, rfl⟩; rw [HB.out]) | (refine wpList_store_row rfl 69 _ _ rfl (w.heap.size + 1 + 1) #[.bool true, I 0] rfl rfl 69 _ H3.out.r infoL rfl (by simp [Value.oneCell']) ?_))
      have HG := Lib.hid (below_row H3.out.bel (g := w.heap.size + 1 + 1) (by omega) #[.bool true, I 0])
      have HK := Lib.hid (setRow_heap u (w.heap.size + 1 + 1) _ #[.bool true, I 0] _ _ H3.out.r)
      clear H3
      generalize World.setRow u (w.heap.size + 1 + 1) #[.bool true, I 0] = uz at HG HK ⊢
      go_wp2_with fail
      (try simp only [Exit.inBlock, Exit.then])
      refine bodyPost_ret (v := .agg #[.bool true, I 0]) ?_ rfl ⟨by rw [HE.out], HG.out⟩
      exact results_cell_row rfl _ _ (w.heap.size + 1 + 1) 69 _ (0, 0) _ rfl HK.out Try.underlying69 rfl infoL
    · have HE : Hid (stp on off ⟨b, n⟩ x = ⟨true, 0⟩) := Lib.hid (by rw [hg, if_pos h1])
      clear h1 h2 hg
      go_enter Try.func54, Try.ntmps54
      go_upto_region 1 with fail
      generalize World.alloc _ (.cells #[.bool false, I 0] 69) = u at h3 ⊢
      have H3 := Lib.hid h3
      clear h3
      have c0 : u.cell? ⟨w.heap.size + 1, 0, none⟩ = some (.bool b) := by rw [cell_of_row _ _ _ _ _ _ H3.out.s]; rfl
      have c1 : u.cell? ⟨w.heap.size + 1, 1, none⟩ = some (I n) := by rw [cell_of_row _ _ _ _ _ _ H3.out.s]; rfl
      have k1 : u.cell? ⟨w.heap.size, 1, none⟩ = some (F on) := by rw [cell_of_row _ _ _ _ _ _ H3.out.d]; rfl
      have k2 : u.cell? ⟨w.heap.size, 2, none⟩ = some (F off) := by rw [cell_of_row _ _ _ _ _ _ H3.out.d]; rfl
      go_wp2_with (first | (go_at_call 78; refine (rbad_any _ _).mono ?_; rintro e w' ⟨rfl, rfl⟩; rw [HB.out]) | (refine wpList_store_row rfl 69 _ _ rfl (w.heap.size + 1 + 1) #[.bool true, I 0] rfl rfl 69 _ H3.out.r infoL rfl (by simp [Value.oneCell']) ?_))
      have HG := Lib.hid (below_row H3.out.bel (g := w.heap.size + 1 + 1) (by omega) #[.bool true, I 0])
      have HK := Lib.hid (setRow_heap u (w.heap.size + 1 + 1) _ #[.bool true, I 0] _ _ H3.out.r)
      clear H3
      generalize World.setRow u (w.heap.size + 1 + 1) #[.bool true, I 0] = uz at HG HK ⊢
      go_wp2_with fail
      (try simp only [Exit.inBlock, Exit.then])
      refine bodyPost_ret (v := .agg #[.bool true, I 0]) ?_ rfl ⟨by rw [HE.out], HG.out⟩
      exact results_cell_row rfl _ _ (w.heap.size + 1 + 1) 69 _ (0, 0) _ rfl HK.out Try.underlying69 rfl infoL
    · rcases h2 with ⟨h2, hq | hq⟩ | ⟨h2, hq | hq⟩
      · have HE : Hid (stp on off ⟨b, n⟩ x = ⟨false, 0⟩) := Lib.hid (by rw [hg, if_neg (by rw [h1]; simp), if_pos h2])
        clear h1 h2 hg
        go_enter Try.func54, Try.ntmps54
        go_upto_region 1 with fail
        generalize World.alloc _ (.cells #[.bool false, I 0] 69) = u at h3 ⊢
        have H3 := Lib.hid h3
        clear h3
        have c0 : u.cell? ⟨w.heap.size + 1, 0, none⟩ = some (.bool b) := by rw [cell_of_row _ _ _ _ _ _ H3.out.s]; rfl
        have c1 : u.cell? ⟨w.heap.size + 1, 1, none⟩ = some (I n) := by rw [cell_of_row _ _ _ _ _ _ H3.out.s]; rfl
        have k1 : u.cell? ⟨w.heap.size, 1, none⟩ = some (F on) := by rw [cell_of_row _ _ _ _ _ _ H3.out.d]; rfl
        have k2 : u.cell? ⟨w.heap.size, 2, none⟩ = some (F off) := by rw [cell_of_row _ _ _ _ _ _ H3.out.d]; rfl
        go_wp2_with (first | (go_at_call 78; refine (rbad_any _ _).mono ?_; rintro e w' ⟨rfl, rfl⟩; rw [HB.out]) | (refine wpList_store_row rfl 69 _ _ rfl (w.heap.size + 1 + 1) #[.bool false, I 0] rfl rfl 69 _ H3.out.r infoL rfl (by simp [Value.oneCell']) ?_))
        have HG := Lib.hid (below_row H3.out.bel (g := w.heap.size + 1 + 1) (by omega) #[.bool false, I 0])
        have HK := Lib.hid (setRow_heap u (w.heap.size + 1 + 1) _ #[.bool false, I 0] _ _ H3.out.r)
        clear H3
        generalize World.setRow u (w.heap.size + 1 + 1) #[.bool false, I 0] = uz at HG HK ⊢
        go_wp2_with fail
        (try simp only [Exit.inBlock, Exit.then])
        refine bodyPost_ret (v := .agg #[.bool false, I 0]) ?_ rfl ⟨by rw [HE.out], HG.out⟩
        exact results_cell_row rfl _ _ (w.heap.size + 1 + 1) 69 _ (0, 0) _ rfl HK.out Try.underlying69 rfl infoL
      · have HE : Hid (stp on off ⟨b, n⟩ x = ⟨false, 0⟩) := Lib.hid (by rw [hg, if_neg (by rw [h1]; simp), if_pos h2])
        clear h1 h2 hg
        go_enter Try.func54, Try.ntmps54
        go_upto_region 1 with fail
        generalize World.alloc _ (.cells #[.bool false, I 0] 69) = u at h3 ⊢
        have H3 := Lib.hid h3
        clear h3
        have c0 : u.cell? ⟨w.heap.size + 1, 0, none⟩ = some (.bool b) := by rw [cell_of_row _ _ _ _ _ _ H3.out.s]; rfl
        have c1 : u.cell? ⟨w.heap.size + 1, 1, none⟩ = some (I n) := by rw [cell_of_row _ _ _ _ _ _ H3.out.s]; rfl
        have k1 : u.cell? ⟨w.heap.size, 1, none⟩ = some (F on) := by rw [cell_of_row _ _ _ _ _ _ H3.out.d]; rfl
        have k2 : u.cell? ⟨w.heap.size, 2, none⟩ = some (F off) := by rw [cell_of_row _ _ _ _ _ _ H3.out.d]; rfl
        go_wp2_with (first | (go_at_call 78; refine (rbad_any _ _).mono ?_; rintro e w' ⟨rfl, rfl⟩; rw [HB.out]) | (refine wpList_store_row rfl 69 _ _ rfl (w.heap.size + 1 + 1) #[.bool false, I 0] rfl rfl 69 _ H3.out.r infoL rfl (by simp [Value.oneCell']) ?_))
        have HG := Lib.hid (below_row H3.out.bel (g := w.heap.size + 1 + 1) (by omega) #[.bool false, I 0])
        have HK := Lib.hid (setRow_heap u (w.heap.size + 1 + 1) _ #[.bool false, I 0] _ _ H3.out.r)
        clear H3
        generalize World.setRow u (w.heap.size + 1 + 1) #[.bool false, I 0] = uz at HG HK ⊢
        go_wp2_with fail
        (try simp only [Exit.inBlock, Exit.then])
        refine bodyPost_ret (v := .agg #[.bool false, I 0]) ?_ rfl ⟨by rw [HE.out], HG.out⟩
        exact results_cell_row rfl _ _ (w.heap.size + 1 + 1) 69 _ (0, 0) _ rfl HK.out Try.underlying69 rfl infoL
      · have HE : Hid (stp on off ⟨b, n⟩ x = ⟨b, 0⟩) := Lib.hid (by rw [hg, if_neg (by rw [h1]; simp), if_neg (by rw [h2]; simp)])
        clear h1 h2 hg
        go_enter Try.func54, Try.ntmps54
        go_upto_region 1 with fail
        generalize World.alloc _ (.cells #[.bool false, I 0] 69) = u at h3 ⊢
        have H3 := Lib.hid h3
        clear h3
        have c0 : u.cell? ⟨w.heap.size + 1, 0, none⟩ = some (.bool b) := by rw [cell_of_row _ _ _ _ _ _ H3.out.s]; rfl
        have c1 : u.cell? ⟨w.heap.size + 1, 1, none⟩ = some (I n) := by rw [cell_of_row _ _ _ _ _ _ H3.out.s]; rfl
        have k1 : u.cell? ⟨w.heap.size, 1, none⟩ = some (F on) := by rw [cell_of_row _ _ _ _ _ _ H3.out.d]; rfl
        have k2 : u.cell? ⟨w.heap.size, 2, none⟩ = some (F off) := by rw [cell_of_row _ _ _ _ _ _ H3.out.d]; rfl
        go_wp2_with (first | (go_at_call 78; refine (rbad_any _ _).mono ?_; rintro e w' ⟨rfl, rfl⟩; rw [HB.out]) | (refine wpList_store_row rfl 69 _ _ rfl (w.heap.size + 1 + 1) #[.bool b, I 0] rfl rfl 69 _ H3.out.r infoL rfl (by simp [Value.oneCell']) ?_))
        have HG := Lib.hid (below_row H3.out.bel (g := w.heap.size + 1 + 1) (by omega) #[.bool b, I 0])
        have HK := Lib.hid (setRow_heap u (w.heap.size + 1 + 1) _ #[.bool b, I 0] _ _ H3.out.r)
        clear H3
        generalize World.setRow u (w.heap.size + 1 + 1) #[.bool b, I 0] = uz at HG HK ⊢
        go_wp2_with fail
        (try simp only [Exit.inBlock, Exit.then])
        refine bodyPost_ret (v := .agg #[.bool b, I 0]) ?_ rfl ⟨by rw [HE.out], HG.out⟩
        exact results_cell_row rfl _ _ (w.heap.size + 1 + 1) 69 _ (0, 0) _ rfl HK.out Try.underlying69 rfl infoL
      · have HE : Hid (stp on off ⟨b, n⟩ x = ⟨b, 0⟩) := Lib.hid (by rw [hg, if_neg (by rw [h1]; simp), if_neg (by rw [h2]; simp)])
        clear h1 h2 hg
        go_enter Try.func54, Try.ntmps54
        go_upto_region 1 with fail
        generalize World.alloc _ (.cells #[.bool false, I 0] 69) = u at h3 ⊢
        have H3 := Lib.hid h3
        clear h3
        have c0 : u.cell? ⟨w.heap.size + 1, 0, none⟩ = some (.bool b) := by rw [cell_of_row _ _ _ _ _ _ H3.out.s]; rfl
        have c1 : u.cell? ⟨w.heap.size + 1, 1, none⟩ = some (I n) := by rw [cell_of_row _ _ _ _ _ _ H3.out.s]; rfl
        have k1 : u.cell? ⟨w.heap.size, 1, none⟩ = some (F on) := by rw [cell_of_row _ _ _ _ _ _ H3.out.d]; rfl
        have k2 : u.cell? ⟨w.heap.size, 2, none⟩ = some (F off) := by rw [cell_of_row _ _ _ _ _ _ H3.out.d]; rfl
        go_wp2_with (first | (go_at_call 78; refine (rbad_any _ _).mono ?_; rintro e w' ⟨rfl, rfl⟩; rw [HB.out]) | (refine wpList_store_row rfl 69 _ _ rfl (w.heap.size + 1 + 1) #[.bool b, I 0] rfl rfl 69 _ H3.out.r infoL rfl (by simp [Value.oneCell']) ?_))
        have HG := Lib.hid (below_row H3.out.bel (g := w.heap.size + 1 + 1) (by omega) #[.bool b, I 0])
        have HK := Lib.hid (setRow_heap u (w.heap.size + 1 + 1) _ #[.bool b, I 0] _ _ H3.out.r)
        clear H3
        generalize World.setRow u (w.heap.size + 1 + 1) #[.bool b, I 0] = uz at HG HK ⊢
        go_wp2_with fail
        (try simp only [Exit.inBlock, Exit.then])
        refine bodyPost_ret (v := .agg #[.bool b, I 0]) ?_ rfl ⟨by rw [HE.out], HG.out⟩
        exact results_cell_row rfl _ _ (w.heap.size + 1 + 1) 69 _ (0, 0) _ rfl HK.out Try.underlying69 rfl infoL
    · rcases h2 with ⟨h2, hq | hq⟩ | ⟨h2, hq | hq⟩
      · have HE : Hid (stp on off ⟨b, n⟩ x = ⟨false, 0⟩) := Lib.hid (by rw [hg, if_neg (by rw [h1]; simp), if_pos h2])
        clear h1 h2 hg
        go_enter Try.func54, Try.ntmps54
        go_upto_region 1 with fail
        generalize World.alloc _ (.cells #[.bool false, I 0] 69) = u at h3 ⊢
        have H3 := Lib.hid h3
        clear h3
        have c0 : u.cell? ⟨w.heap.size + 1, 0, none⟩ = some (.bool b) := by rw [cell_of_row _ _ _ _ _ _ H3.out.s]; rfl
        have c1 : u.cell? ⟨w.heap.size + 1, 1, none⟩ = some (I n) := by rw [cell_of_row _ _ _ _ _ _ H3.out.s]; rfl
        have k1 : u.cell? ⟨w.heap.size, 1, none⟩ = some (F on) := by rw [cell_of_row _ _ _ _ _ _ H3.out.d]; rfl
        have k2 : u.cell? ⟨w.heap.size, 2, none⟩ = some (F off) := by rw [cell_of_row _ _ _ _ _ _ H3.out.d]; rfl
        go_wp2_with (first | (go_at_call 78; refine (rbad_any _ _).mono ?_; rintro e w' ⟨rfl, rfl⟩; rw [HB.out]) | (refine wpList_store_row rfl 69 _ _ rfl (w.heap.size + 1 + 1) #[.bool false, I 0] rfl rfl 69 _ H3.out.r infoL rfl (by simp [Value.oneCell']) ?_))
        have HG := Lib.hid (below_row H3.out.bel (g := w.heap.size + 1 + 1) (by omega) #[.bool false, I 0])
        have HK := Lib.hid (setRow_heap u (w.heap.size + 1 + 1) _ #[.bool false, I 0] _ _ H3.out.r)
        clear H3
        generalize World.setRow u (w.heap.size + 1 + 1) #[.bool false, I 0] = uz at HG HK ⊢
        go_wp2_with fail
        (try simp only [Exit.inBlock, Exit.then])
        refine bodyPost_ret (v := .agg #[.bool false, I 0]) ?_ rfl ⟨by rw [HE.out], HG.out⟩
        exact results_cell_row rfl _ _ (w.heap.size + 1 + 1) 69 _ (0, 0) _ rfl HK.out Try.underlying69 rfl infoL
      · have HE : Hid (stp on off ⟨b, n⟩ x = ⟨false, 0⟩) := Lib.hid (by rw [hg, if_neg (by rw [h1]; simp), if_pos h2])
        clear h1 h2 hg
        go_enter Try.func54, Try.ntmps54
        go_upto_region 1 with fail
        generalize World.alloc _ (.cells #[.bool false, I 0] 69) = u at h3 ⊢
        have H3 := Lib.hid h3
        clear h3
        have c0 : u.cell? ⟨w.heap.size + 1, 0, none⟩ = some (.bool b) := by rw [cell_of_row _ _ _ _ _ _ H3.out.s]; rfl
        have c1 : u.cell? ⟨w.heap.size + 1, 1, none⟩ = some (I n) := by rw [cell_of_row _ _ _ _ _ _ H3.out.s]; rfl
        have k1 : u.cell? ⟨w.heap.size, 1, none⟩ = some (F on) := by rw [cell_of_row _ _ _ _ _ _ H3.out.d]; rfl
        have k2 : u.cell? ⟨w.heap.size, 2, none⟩ = some (F off) := by rw [cell_of_row _ _ _ _ _ _ H3.out.d]; rfl
        go_wp2_with (first | (go_at_call 78; refine (rbad_any _ _).mono ?_; rintro e w' ⟨rfl, rfl⟩; rw [HB.out]) | (refine wpList_store_row rfl 69 _ _ rfl (w.heap.size + 1 + 1) #[.bool false, I 0] rfl rfl 69 _ H3.out.r infoL rfl (by simp [Value.oneCell']) ?_))
        have HG := Lib.hid (below_row H3.out.bel (g := w.heap.size + 1 + 1) (by omega) #[.bool false, I 0])
        have HK := Lib.hid (setRow_heap u (w.heap.size + 1 + 1) _ #[.bool false, I 0] _ _ H3.out.r)
        clear H3
        generalize World.setRow u (w.heap.size + 1 + 1) #[.bool false, I 0] = uz at HG HK ⊢
        go_wp2_with fail
        (try simp only [Exit.inBlock, Exit.then])
        refine bodyPost_ret (v := .agg #[.bool false, I 0]) ?_ rfl ⟨by rw [HE.out], HG.out⟩
        exact results_cell_row rfl _ _ (w.heap.size + 1 + 1) 69 _ (0, 0) _ rfl HK.out Try.underlying69 rfl infoL
      · have HE : Hid (stp on off ⟨b, n⟩ x = ⟨b, 0⟩) := Lib.hid (by rw [hg, if_neg (by rw [h1]; simp), if_neg (by rw [h2]; simp)])
        clear h1 h2 hg
        go_enter Try.func54, Try.ntmps54
        go_upto_region 1 with fail
        generalize World.alloc _ (.cells #[.bool false, I 0] 69) = u at h3 ⊢
        have H3 := Lib.hid h3
        clear h3
        have c0 : u.cell? ⟨w.heap.size + 1, 0, none⟩ = some (.bool b) := by rw [cell_of_row _ _ _ _ _ _ H3.out.s]; rfl
        have c1 : u.cell? ⟨w.heap.size + 1, 1, none⟩ = some (I n) := by rw [cell_of_row _ _ _ _ _ _ H3.out.s]; rfl
        have k1 : u.cell? ⟨w.heap.size, 1, none⟩ = some (F on) := by rw [cell_of_row _ _ _ _ _ _ H3.out.d]; rfl
        have k2 : u.cell? ⟨w.heap.size, 2, none⟩ = some (F off) := by rw [cell_of_row _ _ _ _ _ _ H3.out.d]; rfl
        go_wp2_with (first | (go_at_call 78; refine (rbad_any _ _).mono ?_; rintro e w' ⟨rfl, rfl⟩; rw [HB.out]) | (refine wpList_store_row rfl 69 _ _ rfl (w.heap.size + 1 + 1) #[.bool b, I 0] rfl rfl 69 _ H3.out.r infoL rfl (by simp [Value.oneCell']) ?_))
        have HG := Lib.hid (below_row H3.out.bel (g := w.heap.size + 1 + 1) (by omega) #[.bool b, I 0])
        have HK := Lib.hid (setRow_heap u (w.heap.size + 1 + 1) _ #[.bool b, I 0] _ _ H3.out.r)
        clear H3
        generalize World.setRow u (w.heap.size + 1 + 1) #[.bool b, I 0] = uz at HG HK ⊢
        go_wp2_with fail
        (try simp only [Exit.inBlock, Exit.then])
        refine bodyPost_ret (v := .agg #[.bool b, I 0]) ?_ rfl ⟨by rw [HE.out], HG.out⟩
        exact results_cell_row rfl _ _ (w.heap.size + 1 + 1) 69 _ (0, 0) _ rfl HK.out Try.underlying69 rfl infoL
      · have HE : Hid (stp on off ⟨b, n⟩ x = ⟨b, 0⟩) := Lib.hid (by rw [hg, if_neg (by rw [h1]; simp), if_neg (by rw [h2]; simp)])
        clear h1 h2 hg
        go_enter Try.func54, Try.ntmps54
        go_upto_region 1 with fail
        generalize World.alloc _ (.cells #[.bool false, I 0] 69) = u at h3 ⊢
        have H3 := Lib.hid h3
        clear h3
        have c0 : u.cell? ⟨w.heap.size + 1, 0, none⟩ = some (.bool b) := by rw [cell_of_row _ _ _ _ _ _ H3.out.s]; rfl
        have c1 : u.cell? ⟨w.heap.size + 1, 1, none⟩ = some (I n) := by rw [cell_of_row _ _ _ _ _ _ H3.out.s]; rfl
        have k1 : u.cell? ⟨w.heap.size, 1, none⟩ = some (F on) := by rw [cell_of_row _ _ _ _ _ _ H3.out.d]; rfl
        have k2 : u.cell? ⟨w.heap.size, 2, none⟩ = some (F off) := by rw [cell_of_row _ _ _ _ _ _ H3.out.d]; rfl
        go_wp2_with (first | (go_at_call 78; refine (rbad_any _ _).mono ?_; rintro e w' ⟨rfl, rfl⟩; rw [HB.out]) | (refine wpList_store_row rfl 69 _ _ rfl (w.heap.size + 1 + 1) #[.bool b, I 0] rfl rfl 69 _ H3.out.r infoL rfl (by simp [Value.oneCell']) ?_))
        have HG := Lib.hid (below_row H3.out.bel (g := w.heap.size + 1 + 1) (by omega) #[.bool b, I 0])
        have HK := Lib.hid (setRow_heap u (w.heap.size + 1 + 1) _ #[.bool b, I 0] _ _ H3.out.r)
        clear H3
        generalize World.setRow u (w.heap.size + 1 + 1) #[.bool b, I 0] = uz at HG HK ⊢
        go_wp2_with fail
        (try simp only [Exit.inBlock, Exit.then])
        refine bodyPost_ret (v := .agg #[.bool b, I 0]) ?_ rfl ⟨by rw [HE.out], HG.out⟩
        exact results_cell_row rfl _ _ (w.heap.size + 1 + 1) 69 _ (0, 0) _ rfl HK.out Try.underlying69 rfl infoL
  · have HB := Lib.hid hb
    have HE : Hid (stp on off ⟨b, n⟩ x = ⟨b, more n⟩) := Lib.hid (by unfold stp; rw [if_pos hb])
    clear hb
    go_enter Try.func54, Try.ntmps54
    go_upto_region 1 with fail
    generalize World.alloc _ (.cells #[.bool false, I 0] 69) = u at h3 ⊢
    have H3 := Lib.hid h3
    clear h3
    have c0 : u.cell? ⟨w.heap.size + 1, 0, none⟩ = some (.bool b) := by rw [cell_of_row _ _ _ _ _ _ H3.out.s]; rfl
    have c1 : u.cell? ⟨w.heap.size + 1, 1, none⟩ = some (I n) := by rw [cell_of_row _ _ _ _ _ _ H3.out.s]; rfl
    have k1 : u.cell? ⟨w.heap.size, 1, none⟩ = some (F on) := by rw [cell_of_row _ _ _ _ _ _ H3.out.d]; rfl
    have k2 : u.cell? ⟨w.heap.size, 2, none⟩ = some (F off) := by rw [cell_of_row _ _ _ _ _ _ H3.out.d]; rfl
    go_wp2_with (first | (go_at_call 78; refine (rbad_any _ _).mono ?_; rintro e w' ⟨rfl, rfl⟩; rw [HB.out]))

    refine QB.region_tail 6 (by kernel_rfl) (by kernel_rfl) ?_
    have h3 := H3.out.drew
    have d0 : u.drew.cell? ⟨w.heap.size + 1, 0, none⟩ = some (.bool b) := c0
    have d1 : u.drew.cell? ⟨w.heap.size + 1, 1, none⟩ = some (I n) := c1
    clear c0 c1 k1 k2 H3
    generalize World.drew u = v at h3 d0 d1 ⊢
    have H3 := Lib.hid h3
    clear h3
    simp only [List.take_succ_cons, List.take_zero, List.drop_succ_cons, List.drop_zero]
    repeat still_step
    still_call ((Cnt.rmore_any n v).mono fun e w' h => ⟨h.1, h.2.symm⟩)
    repeat still_step
    refine wpStill_nil ?_
    go_wp2_with (refine wpList_store_row rfl 69 _ _ rfl (w.heap.size + 1 + 1) #[.bool b, I (more n)] rfl rfl 69 _ H3.out.r infoL rfl (by simp [Value.oneCell']) ?_)
    have HG := Lib.hid (below_row H3.out.bel (g := w.heap.size + 1 + 1) (by omega) #[.bool b, I (more n)])
    have HK := Lib.hid (setRow_heap v (w.heap.size + 1 + 1) _ #[.bool b, I (more n)] _ _ H3.out.r)
    clear H3
    generalize World.setRow v (w.heap.size + 1 + 1) #[.bool b, I (more n)] = uz at HG HK ⊢
    go_wp2_with fail
    (try simp only [Exit.inBlock, Exit.then])
    refine bodyPost_ret (v := .agg #[.bool b, I (more n)]) ?_ rfl ⟨by rw [HE.out], HG.out⟩
    exact results_cell_row rfl _ _ (w.heap.size + 1 + 1) 69 _ (0, 0) _ rfl HK.out Try.underlying69 rfl infoL
theorem failed_any (s : Lv) (w : World) : Calls Try.prog 81 #[.agg s.cells.toArray] w fun e w' => e = .returned (.bool (failed s)) ∧ Below w.heap.size w w' := by
  obtain ⟨b, n⟩ := s
  simp only [Lv.cells]
  have hb : Below w.heap.size w (w.alloc (.cells #[.bool b, I n] 69)) := (Below.refl _ _).alloc (Nat.le_refl _) _
  have HB := Lib.hid hb
  clear hb
  go_enter Try.func81, Try.ntmps81
  go_wp2
  go_ret
  exact ⟨rfl, HB.out⟩
theorem rfailed_any (s : Lv) (w : World) : Calls Try.prog 60 #[.agg s.cells.toArray] w fun e w' => e = .returned (.bool (failed s)) ∧ Below w.heap.size w w' := by
  obtain ⟨b, n⟩ := s
  simp only [Lv.cells]
  have hb : Below w.heap.size w (w.alloc (.cells #[.bool b, I n] 69)) := (Below.refl _ _).alloc (Nat.le_refl _) _
  have HB := Lib.hid hb
  clear hb
  go_enter Try.func60, Try.ntmps60
  go_wp2
  go_ret
  exact ⟨rfl, HB.out⟩
theorem seen_any (s : Lv) (w : World) : Calls Try.prog 74 #[.agg s.cells.toArray] w fun e w' => e = .returned (.bool (seen s)) ∧ Below w.heap.size w w' := by
  obtain ⟨b, n⟩ := s
  have hf := fun W => failed_any ⟨b, n⟩ W
  simp only [Lv.cells] at hf ⊢
  have HF := Lib.hid hf
  clear hf
  have hb : Below w.heap.size w (w.alloc (.cells #[.bool b, I n] 69)) := (Below.refl _ _).alloc (Nat.le_refl _) _
  have HB := Lib.hid hb
  clear hb
  cases b
  · go_enter Try.func74, Try.ntmps74
    go_wp2_with fail
    refine (HF.out _).mono ?_
    rintro e w1 ⟨rfl, h1⟩
    go_wp2
    go_ret
    exact ⟨rfl, HB.out.trans (h1.mono HB.out.size)⟩
  · go_enter Try.func74, Try.ntmps74
    go_wp2_with fail
    go_ret
    exact ⟨rfl, HB.out⟩
theorem rseen_any (s : Lv) (w : World) : Calls Try.prog 56 #[.agg s.cells.toArray] w fun e w' => e = .returned (.bool (seen s)) ∧ Below w.heap.size w w' := by
  obtain ⟨b, n⟩ := s
  have hf := fun W => rfailed_any ⟨b, n⟩ W
  simp only [Lv.cells] at hf ⊢
  have HF := Lib.hid hf
  clear hf
  have hb : Below w.heap.size w (w.alloc (.cells #[.bool b, I n] 69)) := (Below.refl _ _).alloc (Nat.le_refl _) _
  have HB := Lib.hid hb
  clear hb
  cases b
  · go_enter Try.func56, Try.ntmps56
    go_wp2_with fail
    refine (HF.out _).mono ?_
    rintro e w1 ⟨rfl, h1⟩
    go_wp2
    go_ret
    exact ⟨rfl, HB.out.trans (h1.mono HB.out.size)⟩
  · go_enter Try.func56, Try.ntmps56
    go_wp2_with fail
    go_ret
    exact ⟨rfl, HB.out⟩
end Go.Proofs.Ytneaomdgjlmleaa.Lvl
