/- wire.Reader's next: the number in the next bytes, or the Fault that it raises. -/
import Derived.Test.YtmffgdgnaafbpaaRd
import Derived.Laws.StructEq
namespace Go.Proofs.Ytmffgdgnaafbpaa.Nx
open Go.ChangeShapes Go.WideShapes Go.ChangeAt Go.RowKit
open B Put Rd
set_option linter.unusedVariables false

/-- Bytes as a number, the most significant one first. -/
def be (l : List Nat) : Nat := l.foldl (fun a x => 256 * a + x) 0
theorem be_snoc (l : List Nat) (x : Nat) : be (l ++ [x]) = 256 * be l + x := by unfold be; rw [List.foldl_append]; rfl
theorem be_cons (l : List Nat) (x : Nat) : be (x :: l) = x * 256 ^ l.length + be l := by
  have h : ∀ (m : List Nat) (a : Nat), m.foldl (fun a x => 256 * a + x) a = a * 256 ^ m.length + m.foldl (fun a x => 256 * a + x) 0 := by
    intro m
    induction m with
    | nil => intro a; simp
    | cons y m ih =>
      intro a
      rw [List.foldl_cons, List.foldl_cons, ih (256 * a + y), ih (256 * 0 + y), List.length_cons, Nat.pow_succ]
      rw [Nat.mul_zero, Nat.zero_add, Nat.add_mul, Nat.mul_comm 256 a, Nat.mul_assoc a 256, Nat.mul_comm 256 (256 ^ m.length)]
      omega
  unfold be
  rw [List.foldl_cons, h l]
  simp
theorem be_lt (l : List Nat) (h : ∀ x ∈ l, x < 256) : be l < 256 ^ l.length := by
  induction l with
  | nil => decide
  | cons x l ih =>
    rw [be_cons, List.length_cons, Nat.pow_succ]
    have h1 := ih fun y hy => h y (List.mem_cons_of_mem _ hy)
    have h2 := h x (List.mem_cons_self ..)
    have h3 : x * 256 ^ l.length ≤ 255 * 256 ^ l.length := Nat.mul_le_mul_right _ (by omega)
    omega
/-- The number in the s bytes from place k on. -/
def val (l : List Nat) (k s : Nat) : Nat := be ((l.drop k).take s)
theorem val_zero (l : List Nat) (k : Nat) : val l k 0 = 0 := rfl
theorem val_succ (l : List Nat) (k s : Nat) (h : k + s < l.length) : val l k (s + 1) = 256 * val l k s + l.getD (k + s) 0 := by
  unfold val
  rw [List.take_succ_eq_append_getElem (by rw [List.length_drop]; omega), be_snoc, List.getElem_drop]
  rw [List.getD_eq_getElem?_getD, List.getElem?_eq_getElem (by omega), Option.getD_some]
theorem val_lt (l : List Nat) (k s : Nat) (h : ∀ x ∈ l, x < 256) : val l k s < 256 ^ s := by
  have h1 := be_lt ((l.drop k).take s) fun x hx => h x (List.mem_of_mem_drop (List.mem_of_mem_take hx))
  refine Nat.lt_of_lt_of_le h1 (Nat.pow_le_pow_right (by decide) ?_)
  rw [List.length_take]; omega

theorem or_step (v y : Nat) (hv : v < 72057594037927936) (hy : y < 256) : bits .or .u64 (IntKind.u64.wrap ((v : Int) * 256)) (y : Int) = ((256 * v + y : Nat) : Int) := by
  have h1 : IntKind.u64.wrap ((v : Int) * 256) = ((256 * v : Nat) : Int) := by rw [IntKind.wrap_u64]; omega
  rw [h1, u64_or_nat _ _ (by omega) (by omega)]
  congr 1
  have h2 : 256 * v = v <<< 8 := by rw [Nat.shiftLeft_eq]; omega
  rw [h2, Nat.shiftLeft_add_eq_or_of_lt (show y < 2 ^ 8 by omega)]
theorem val_small (l : List Nat) (k s : Nat) (h : ∀ x ∈ l, x < 256) (hs : s < 8) : val l k s < 72057594037927936 :=
  Nat.lt_of_lt_of_le (val_lt l k s h) (by rw [show 72057594037927936 = 256 ^ 7 from rfl]; exact Nat.pow_le_pow_right (by decide) (by omega))
theorem val_step (l : List Nat) (k q : Nat) (hq : k + q < l.length) (h8 : q < 8) (h : ∀ x ∈ l, x < 256) :
    bits .or .u64 (IntKind.u64.wrap ((val l k q : Nat) * 256 : Int)) (l.getD (k + q) 0 : Nat) = (val l k (q + 1) : Nat) := by
  rw [val_succ l k q hq, or_step _ _ (val_small l k q h h8)]
  rw [List.getD_eq_getElem?_getD, List.getElem?_eq_getElem hq]
  exact h _ (List.getElem_mem hq)

abbrev fault (code fat : Int) : Value := .iface 35 (.agg #[.int .i64 code, .int .i64 fat])

set_option maxHeartbeats 1000000 in
theorem next_dead (g : Nat) (ad : Option Addr) (cap : Nat) (l : List Nat) (k s : Nat) (code fat : Int) (w : World) (h : Rd w g ad cap l k code fat) (hne : code ≠ 0) :
    Calls Try.prog 31 #[.pointer (some ⟨g, 0, none⟩), .int .i64 s] w fun e w' => e = .panicked [{ v := fault code fat, recovered := false }] ∧ w = w' := by
  have h2 := h.c2
  have h3 := h.c3
  have hpan : ∀ (u : TypeId) (v : Value) (w : World), (Instr.panic (.iface u v)).run Try.prog w = .halt (.panic (.iface u v)) w := fun _ _ _ => rfl
  clear h
  go_enter Try.func31, Try.ntmps31
  go_wp2
  exact ⟨rfl, rfl, rfl⟩
set_option maxHeartbeats 1000000 in
theorem next_end (g : Nat) (ad : Option Addr) (cap : Nat) (l : List Nat) (k s : Nat) (w : World) (h : Rd w g ad cap l k 0 0) (hl : l.length ≤ 10000) (hk : k ≤ l.length) (hs : l.length < k + s) :
    Calls Try.prog 31 #[.pointer (some ⟨g, 0, none⟩), .int .i64 s] w fun e w' => e = .panicked [{ v := fault 2 l.length, recovered := false }] ∧ ∃ n, w' = w.drewN n := by
  have h0 := h.c0
  have h2 := h.c2
  have h3 := h.c3
  have hpan : ∀ (u : TypeId) (v : Value) (w : World), (Instr.panic (.iface u v)).run Try.prog w = .halt (.panic (.iface u v)) w := fun _ _ _ => rfl
  have HR := Lib.hid h
  clear h
  go_enter Try.func31, Try.ntmps31
  go_wp2_with fail
  refine (left_any g ad cap l k 0 0 _ HR.out hl hk).mono ?_
  rintro e w1 ⟨rfl, n, rfl⟩
  have ht : decide ((s : Int) > (l.length : Int) - (k : Int)) = true := decide_eq_true (by omega)
  go_wp2
  exact ⟨rfl, rfl, _, rfl⟩
set_option maxHeartbeats 1000000 in
theorem next_ok (g : Nat) (ad : Option Addr) (cap : Nat) (l : List Nat) (k s : Nat) (w : World) (h : Rd w g ad cap l k 0 0) (hl : l.length ≤ 10000) (hs : k + s ≤ l.length) (h8 : s ≤ 8) :
    Calls Try.prog 31 #[.pointer (some ⟨g, 0, none⟩), .int .i64 s] w fun e w' => e = .returned (.int .u64 (val l k s : Nat)) ∧ ∃ n, w' = w.drewN n := by
  have h0 := h.c0
  have h1 := h.c1
  have h2 := h.c2
  have h3 := h.c3
  have h9 := h.cap_le
  have HR := Lib.hid h
  clear h
  by_cases hs0 : s = 0
  · subst hs0
    go_enter Try.func31, Try.ntmps31
    go_wp2_with fail
    refine (left_any g ad cap l k 0 0 _ HR.out hl (by omega)).mono ?_
    rintro e w1 ⟨rfl, n, rfl⟩
    have ht : decide ((0 : Int) > (l.length : Int) - (k : Int)) = false := decide_eq_false (by omega)
    go_wp2
    go_quiet (fail)
    generalize (if cap = k then ad else Option.map (fun x => x.add k) ad) = y
    go_wp2
    refine wp_loop_rounds 1 ?_
    rw [rounds_succ]
    go_wp2
    go_ret
    exact ⟨rfl, n + nq, by simp [World.drewN]⟩
  · go_enter Try.func31, Try.ntmps31
    go_wp2_with fail
    refine (left_any g ad cap l k 0 0 _ HR.out hl (by omega)).mono ?_
    rintro e w1 ⟨rfl, n, rfl⟩
    have ht : decide ((s : Int) > (l.length : Int) - (k : Int)) = false := decide_eq_false (by omega)
    obtain ⟨x, rfl, hcl⟩ := HR.out.row.cells (k := k) (by omega)
    have Hcl := Lib.hid hcl
    clear hcl
    have hck : ¬ cap = k := by omega
    have hkc : k ≤ cap := by omega
    have hksc : k + s ≤ cap := by omega
    go_wp2
    go_quiet (fail)
    go_wp2
    have Hlt := Lib.hid HR.out.row.2.1
    clear h0 h1 h2 h3 ht
    go_loop [5, 46] (fun t i => ∃ q : Nat, q ≤ s ∧ i = .int .i64 q ∧ t = .int .u64 (val l k q : Nat)) (fun _ i => s - (intOf i).toNat)
    case atStart => exact ⟨0, Nat.zero_le _, rfl, rfl⟩
    case round =>
      obtain ⟨q, hq, rfl, rfl⟩ := hrel
      by_cases hlt : q < s
      · have hcell : w.cell? ((x.add k).add q) = some (.int .u8 (l.getD (k + q) 0 : Nat)) := by rw [addr_add]; exact Hcl.out _ (by omega)
        have hy : l.getD (k + q) 0 < 256 := HR.out.row.lt _ (by omega)
        have hv := val_step l k q (by omega) (by omega) Hlt.out
        have hqk : q < k + s - k := by omega
        generalize l.getD (k + q) 0 = y at hcell hv hy
        generalize hv1 : val l k (q + 1) = v1 at hv
        have Hv1 := Lib.hid hv1
        clear hv1
        generalize val l k q = v0 at hv
        go_wp2
        go_round
        case rel => exact ⟨.int .u64 (v1 : Int), .int .u8 (y : Int), .int .i64 ((q : Int) + 1), ⟨q + 1, by omega, by go_num, by rw [Hv1.out]⟩, rfl, rfl, rfl⟩
        case measure => simp [intOf]; omega
      · obtain rfl : q = s := by omega
        go_wp2
        go_ret
        exact ⟨rfl, n + nq, by simp [World.drewN]⟩
end Go.Proofs.Ytmffgdgnaafbpaa.Nx
