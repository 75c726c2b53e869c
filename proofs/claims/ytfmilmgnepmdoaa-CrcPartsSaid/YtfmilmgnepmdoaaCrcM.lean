/- The plain mathematics of the checksum: a table's element is eight doublings of 256 times its number; the sum byte by byte over the table; the document's own sum bit by bit; both are linear. No condition beyond the numbers' ranges. -/
import Derived.Laws.BitsLemmas
namespace Go.Proofs.Ytfmilmgnepmdoaa.CrcM

/-- One doubling. -/
def dbl (c : Nat) : Nat := (2 * c % 65536) ^^^ (if c / 32768 % 2 = 1 then 4129 else 0)
def dbl8 (c : Nat) : Nat := dbl (dbl (dbl (dbl (dbl (dbl (dbl (dbl c)))))))
def tab (i : Nat) : Nat := dbl8 (256 * i)
/-- One byte, by the table. -/
def step (c x : Nat) : Nat := (256 * c % 65536) ^^^ tab (c / 256 ^^^ x)
def crc (c : Nat) (l : List Nat) : Nat := l.foldl step c
/-- One bit, as the document's own answer has it. -/
def bitStep (c b : Nat) : Nat := if c / 32768 ≠ b then (2 * c % 65536) ^^^ 4129 else 2 * c % 65536

theorem dbl_lt (c : Nat) : dbl c < 65536 := by
  unfold dbl
  refine Nat.xor_lt_two_pow (n := 16) (Nat.mod_lt _ (by decide)) ?_
  split <;> decide
theorem tab_lt (i : Nat) : tab i < 65536 := dbl_lt _
theorem step_lt (c x : Nat) : step c x < 65536 := Nat.xor_lt_two_pow (n := 16) (Nat.mod_lt _ (by decide)) (tab_lt _)
theorem crc_lt (c : Nat) (l : List Nat) (h : c < 65536) : crc c l < 65536 := by
  induction l generalizing c with
  | nil => exact h
  | cons x l ih => exact ih _ (step_lt c x)

/-! ### linear -/
theorem mul_xor (a b n : Nat) : 2 ^ n * (a ^^^ b) = 2 ^ n * a ^^^ 2 ^ n * b := by
  rw [Nat.mul_comm, Nat.mul_comm _ a, Nat.mul_comm _ b, ← Nat.shiftLeft_eq, ← Nat.shiftLeft_eq, ← Nat.shiftLeft_eq, Nat.shiftLeft_xor_distrib]
theorem x4 (a b c d : Nat) : (a ^^^ b) ^^^ (c ^^^ d) = (a ^^^ c) ^^^ (b ^^^ d) := by
  rw [Nat.xor_assoc, Nat.xor_assoc, ← Nat.xor_assoc b, Nat.xor_comm b c, Nat.xor_assoc c]
theorem dbl_xor (a b : Nat) : dbl (a ^^^ b) = dbl a ^^^ dbl b := by
  have h1 : 2 * (a ^^^ b) % 65536 = (2 * a % 65536) ^^^ (2 * b % 65536) := by
    have e := mul_xor a b 1
    rw [Nat.pow_one] at e
    rw [e]
    exact Nat.xor_mod_two_pow (n := 16)
  have h2 : (a ^^^ b) / 32768 = a / 32768 ^^^ b / 32768 := Nat.xor_div_two_pow (n := 15)
  unfold dbl
  rw [h1, h2, x4]
  congr 1
  have h3 := @Nat.xor_mod_two_eq_one (a / 32768) (b / 32768)
  by_cases p : a / 32768 % 2 = 1 <;> by_cases q : b / 32768 % 2 = 1 <;> simp [h3, p, q]
theorem dbl8_xor (a b : Nat) : dbl8 (a ^^^ b) = dbl8 a ^^^ dbl8 b := by
  unfold dbl8; simp only [dbl_xor]
theorem tab_xor (i j : Nat) : tab (i ^^^ j) = tab i ^^^ tab j := by
  unfold tab
  rw [show 256 = 2 ^ 8 from rfl, mul_xor, dbl8_xor]
theorem tab_zero : tab 0 = 0 := by decide +kernel

/-! ### the table's rule -/
theorem tab_rule : ∀ i, i < 256 → tab i = if i % 2 = 1 then dbl (tab (i / 2)) ^^^ 4129 else dbl (tab (i / 2)) := by decide +kernel
theorem tab_odd (i : Nat) (h : i < 256) (ho : i % 2 = 1) : tab i = dbl (tab (i / 2)) ^^^ 4129 := by rw [tab_rule i h, if_pos ho]
theorem tab_even (i : Nat) (h : i < 256) (ho : ¬ i % 2 = 1) : tab i = dbl (tab (i / 2)) := by rw [tab_rule i h, if_neg ho]

/-! ### bit by bit -/
theorem split_c (c : Nat) : c = 256 * (c / 256) ^^^ c % 256 := by
  have h1 := Nat.two_pow_add_eq_or_of_lt (i := 8) (b := c % 256) (Nat.mod_lt _ (by decide)) (c / 256)
  have h2 : 256 * (c / 256) &&& c % 256 = 0 := by
    apply Nat.eq_of_testBit_eq
    intro i
    rw [Nat.testBit_and, show 256 * (c / 256) = 2 ^ 8 * (c / 256) from rfl, Nat.testBit_two_pow_mul, show c % 256 = c % 2 ^ 8 from rfl, Nat.testBit_mod_two_pow]
    rw [Nat.zero_testBit]
    by_cases h : 8 ≤ i
    · rw [decide_eq_false (show ¬ i < 8 by omega), Bool.false_and, Bool.and_false]
    · rw [decide_eq_false h, Bool.false_and, Bool.false_and]
  have h3 := Nat.div_add_mod c 256
  apply Nat.eq_of_testBit_eq
  intro i
  rw [Nat.testBit_xor]
  have h4 : c.testBit i = (256 * (c / 256) ||| c % 256).testBit i := by
    rw [← show 2 ^ 8 * (c / 256) + c % 256 = 256 * (c / 256) ||| c % 256 from h1, show 2 ^ 8 * (c / 256) + c % 256 = c from h3]
  have h5 : (256 * (c / 256) &&& c % 256).testBit i = false := by rw [h2]; exact Nat.zero_testBit i
  rw [h4, Nat.testBit_or]
  rw [Nat.testBit_and] at h5
  clear h4 h1 h2 h3
  generalize (256 * (c / 256)).testBit i = p at h5 ⊢
  generalize (c % 256).testBit i = q at h5 ⊢
  cases p <;> cases q <;> simp at h5 ⊢
theorem low8 : ∀ i, i < 256 → dbl8 i = 256 * i := by decide +kernel
theorem dbl8_eq (c : Nat) (h : c < 65536) : dbl8 c = tab (c / 256) ^^^ 256 * (c % 256) := by
  have h1 := split_c c
  rw [show dbl8 c = dbl8 (256 * (c / 256) ^^^ c % 256) by rw [← h1], dbl8_xor, low8 _ (Nat.mod_lt _ (by decide))]
  rfl
theorem step_eq (c x : Nat) (h : c < 65536) : step c x = dbl8 c ^^^ tab x := by
  rw [dbl8_eq c h]
  unfold step
  rw [tab_xor, Nat.xor_comm (tab _) (256 * _), Nat.xor_assoc, show 256 * c % 65536 = 256 * (c % 256) by omega]
theorem bit_eq (c b : Nat) (h : c < 65536) (hb : b < 2) : bitStep c b = dbl c ^^^ (if b = 1 then 4129 else 0) := by
  unfold bitStep dbl
  have h1 : c / 32768 = 0 ∨ c / 32768 = 1 := by omega
  have h2 : b = 0 ∨ b = 1 := by omega
  rcases h1 with h1 | h1 <;> rcases h2 with rfl | rfl <;> simp [h1, Nat.xor_assoc]
def bits8 (c x : Nat) : Nat → Nat
  | 0 => c
  | n + 1 => bitStep (bits8 c x n) (x / 2 ^ (7 - n) % 2)
theorem bit_lt (c b : Nat) : bitStep c b < 65536 := by
  unfold bitStep
  have : 2 * c % 65536 < 65536 := Nat.mod_lt _ (by decide)
  split
  · exact Nat.xor_lt_two_pow (n := 16) this (by decide)
  · exact this
theorem bits8_lt (c x n : Nat) (h : c < 65536) : bits8 c x n < 65536 := by
  cases n with
  | zero => exact h
  | succ n => exact bit_lt _ _
def dbls (c : Nat) : Nat → Nat
  | 0 => c
  | n + 1 => dbl (dbls c n)
theorem bits8_xor (c x n : Nat) (h : c < 65536) : bits8 c x n = dbls c n ^^^ bits8 0 x n := by
  induction n with
  | zero => simp [bits8, dbls]
  | succ n ih =>
    show bitStep _ _ = dbl _ ^^^ bitStep _ _
    rw [bit_eq _ _ (bits8_lt c x n h) (Nat.mod_lt _ (by decide)), bit_eq _ _ (bits8_lt 0 x n (by decide)) (Nat.mod_lt _ (by decide)), ih, dbl_xor, Nat.xor_assoc]
theorem bits8_tab : ∀ x, x < 256 → bits8 0 x 8 = tab x := by decide +kernel
theorem bits8_step (c x : Nat) (h : c < 65536) (hx : x < 256) : bits8 c x 8 = step c x := by
  rw [bits8_xor c x 8 h, bits8_tab x hx, step_eq c x h]; rfl

/-! ### parts, lists laid over one another, the sum's own sum -/
theorem crc_append (c : Nat) (l m : List Nat) : crc c (l ++ m) = crc (crc c l) m := List.foldl_append
theorem crc_snoc (c : Nat) (l : List Nat) (x : Nat) : crc c (l ++ [x]) = step (crc c l) x := by rw [crc_append]; rfl
theorem step_xor3 (a b c x y z : Nat) (ha : a < 65536) (hb : b < 65536) (hc : c < 65536) : step (a ^^^ b ^^^ c) (x ^^^ y ^^^ z) = step a x ^^^ step b y ^^^ step c z := by
  have h1 : a ^^^ b < 65536 := Nat.xor_lt_two_pow (n := 16) ha hb
  rw [step_eq _ _ (Nat.xor_lt_two_pow (n := 16) h1 hc), step_eq a x ha, step_eq b y hb, step_eq c z hc, dbl8_xor, dbl8_xor, tab_xor, tab_xor, x4 (dbl8 a ^^^ dbl8 b) (dbl8 c) (tab x ^^^ tab y) (tab z), x4 (dbl8 a) (dbl8 b) (tab x) (tab y)]
def over (a b c : List Nat) : Nat → List Nat
  | 0 => []
  | n + 1 => over a b c n ++ [a.getD n 0 ^^^ b.getD n 0 ^^^ c.getD n 0]
theorem take_snoc (l : List Nat) (k : Nat) (h : k < l.length) : l.take (k + 1) = l.take k ++ [l.getD k 0] := by
  rw [List.take_succ_eq_append_getElem h, List.getD_eq_getElem?_getD, List.getElem?_eq_getElem h]; rfl
theorem over_len (a b c : List Nat) (n : Nat) : (over a b c n).length = n := by
  induction n with
  | zero => rfl
  | succ n ih => show (_ ++ [_]).length = _; rw [List.length_append, ih]; rfl
theorem crc_over (a b c : List Nat) (n : Nat) (ha : n ≤ a.length) (hb : n ≤ b.length) (hc : n ≤ c.length) :
    crc 65535 (over a b c n) = crc 65535 (a.take n) ^^^ crc 65535 (b.take n) ^^^ crc 65535 (c.take n) := by
  induction n with
  | zero => rw [List.take_zero, List.take_zero, List.take_zero]; show crc 65535 [] = _; decide
  | succ n ih =>
    show crc 65535 (over a b c n ++ [_]) = _
    rw [crc_snoc, take_snoc a n (by omega), take_snoc b n (by omega), take_snoc c n (by omega), crc_snoc, crc_snoc, crc_snoc, ih (by omega) (by omega) (by omega)]
    exact step_xor3 _ _ _ _ _ _ (crc_lt _ _ (by decide)) (crc_lt _ _ (by decide)) (crc_lt _ _ (by decide))
theorem over_set (a b c m : List Nat) (k : Nat) (hk : k < m.length) (h : m.take k = over a b c k) : (m.set k (a.getD k 0 ^^^ b.getD k 0 ^^^ c.getD k 0)).take (k + 1) = over a b c (k + 1) := by
  rw [take_snoc _ k (by rw [List.length_set]; exact hk), List.take_set_of_le (Nat.le_refl k), h, List.getD_eq_getElem?_getD, List.getElem?_set_self hk]; rfl
theorem set_lt (m : List Nat) (k y : Nat) (hy : y < 256) (h : ∀ x ∈ m, x < 256) : ∀ x ∈ m.set k y, x < 256 := by
  intro x hx
  rcases List.mem_or_eq_of_mem_set hx with h' | h'
  · exact h x h'
  · rw [h']; exact hy
theorem crc_own (l : List Nat) : crc 65535 (l ++ [crc 65535 l / 256, crc 65535 l % 256]) = 0 := by
  rw [crc_append]
  have h := crc_lt 65535 l (by decide)
  generalize crc 65535 l = c at h ⊢
  show step (step c (c / 256)) (c % 256) = 0
  have h1 : step c (c / 256) = 256 * (c % 256) := by
    unfold step
    rw [Nat.xor_self, tab_zero, Nat.xor_zero]; omega
  rw [h1]
  unfold step
  rw [show 256 * (c % 256) / 256 = c % 256 by omega, Nat.xor_self, tab_zero, Nat.xor_zero]; omega

/-! ### an odd number of bits -/
def par (n : Nat) : Bool := ((((n.testBit 0 ^^ n.testBit 1) ^^ (n.testBit 2 ^^ n.testBit 3)) ^^ ((n.testBit 4 ^^ n.testBit 5) ^^ (n.testBit 6 ^^ n.testBit 7))) ^^ (((n.testBit 8 ^^ n.testBit 9) ^^ (n.testBit 10 ^^ n.testBit 11)) ^^ ((n.testBit 12 ^^ n.testBit 13) ^^ (n.testBit 14 ^^ n.testBit 15))))
theorem b4 (a b c d : Bool) : ((a ^^ b) ^^ (c ^^ d)) = ((a ^^ c) ^^ (b ^^ d)) := by cases a <;> cases b <;> cases c <;> cases d <;> rfl
theorem par_xor (a b : Nat) : par (a ^^^ b) = (par a ^^ par b) := by
  unfold par
  simp only [Nat.testBit_xor]
  simp only [b4 (a.testBit _) (b.testBit _), b4 (a.testBit _ ^^ a.testBit _) (b.testBit _ ^^ b.testBit _), b4 ((a.testBit _ ^^ a.testBit _) ^^ (a.testBit _ ^^ a.testBit _)), b4 (((a.testBit _ ^^ a.testBit _) ^^ (a.testBit _ ^^ a.testBit _)) ^^ _)]
theorem par_tab : ∀ i, i < 256 → par (tab i) = par i := by decide +kernel
theorem par_high : ∀ i, i < 256 → par (256 * i) = par i := by decide +kernel
theorem par_step (c x : Nat) (h : c < 65536) (hx : x < 256) : par (step c x) = (par c ^^ par x) := by
  have h1 := split_c c
  have h2 : c / 256 < 256 := by omega
  have h3 : c % 256 < 256 := Nat.mod_lt _ (by decide)
  have h4 : par c = (par (c / 256) ^^ par (c % 256)) := by
    rw [show par c = par (256 * (c / 256) ^^^ c % 256) by rw [← h1], par_xor, par_high _ h2]
  unfold step
  rw [par_xor, show 256 * c % 65536 = 256 * (c % 256) by omega, par_high _ h3, par_tab _ (Nat.xor_lt_two_pow (n := 8) h2 hx), par_xor, h4]
  cases par (c / 256) <;> cases par (c % 256) <;> cases par x <;> rfl
def parL (l : List Nat) : Bool := l.foldl (fun s x => s ^^ par x) false
theorem fold_par (l : List Nat) (s : Bool) : l.foldl (fun s x => s ^^ par x) s = (s ^^ parL l) := by
  unfold parL
  induction l generalizing s with
  | nil => simp
  | cons x l ih => rw [List.foldl_cons, List.foldl_cons, ih, ih (false ^^ par x)]; cases s <;> cases par x <;> simp
theorem parL_cons (x : Nat) (l : List Nat) : parL (x :: l) = (par x ^^ parL l) := by
  show l.foldl _ (false ^^ par x) = _
  rw [fold_par]; simp
theorem par_crc (c : Nat) (l : List Nat) (h : c < 65536) (hl : ∀ x ∈ l, x < 256) : par (crc c l) = (par c ^^ parL l) := by
  induction l generalizing c with
  | nil => simp [crc, parL]
  | cons x l ih =>
    show par (crc (step c x) l) = _
    rw [ih _ (step_lt c x) (fun y hy => hl y (List.mem_cons_of_mem _ hy)), par_step c x h (hl x (List.mem_cons_self ..)), parL_cons]
    cases par c <;> cases par x <;> cases parL l <;> rfl
theorem par_bit : ∀ k, k < 8 → par (2 ^ k) = true := by decide +kernel
theorem parL_set (l : List Nat) (i k : Nat) (hi : i < l.length) (hk : k < 8) : parL (l.set i (l.getD i 0 ^^^ 2 ^ k)) = !parL l := by
  induction l generalizing i with
  | nil => simp at hi
  | cons x l ih =>
    cases i with
    | zero => rw [List.set_cons_zero, parL_cons, parL_cons, List.getD_cons_zero, par_xor, par_bit k hk]; cases par x <;> cases parL l <;> rfl
    | succ i => rw [List.set_cons_succ, parL_cons, parL_cons, List.getD_cons_succ, ih i (by simpa using hi)]; cases par x <;> cases parL l <;> rfl
/-- Bit n of a list of bytes, changed. -/
def turn (l : List Nat) (n : Nat) : List Nat := l.set (n / 8) (l.getD (n / 8) 0 ^^^ 2 ^ (n % 8))
theorem turn_len (l : List Nat) (n : Nat) : (turn l n).length = l.length := List.length_set
theorem turn_par (l : List Nat) (n : Nat) (h : n < 8 * l.length) : parL (turn l n) = !parL l := parL_set l _ _ (by omega) (by omega)
theorem turn_lt (l : List Nat) (n : Nat) (hl : ∀ x ∈ l, x < 256) : ∀ x ∈ turn l n, x < 256 := by
  intro x hx
  unfold turn at hx
  rcases List.mem_or_eq_of_mem_set hx with h | h
  · exact hl x h
  · rw [h]
    refine Nat.xor_lt_two_pow (n := 8) ?_ (Nat.pow_lt_pow_right (by decide) (by omega))
    rw [List.getD_eq_getElem?_getD]
    by_cases hi : n / 8 < l.length
    · rw [List.getElem?_eq_getElem hi]; exact hl _ (List.getElem_mem hi)
    · rw [List.getElem?_eq_none (by omega)]; decide
theorem turned (l m : List Nat) (h : parL m = !parL l) (hl : ∀ x ∈ l, x < 256) (hm : ∀ x ∈ m, x < 256) : l ≠ m ∧ crc 65535 m ≠ crc 65535 l := by
  refine ⟨fun e => by subst e; cases parL l <;> simp at h, fun e => ?_⟩
  have h1 := par_crc 65535 l (by decide) hl
  rw [← e, par_crc 65535 m (by decide) hm, h] at h1
  cases parL l <;> cases par 65535 <;> simp at h1
end Go.Proofs.Ytfmilmgnepmdoaa.CrcM
