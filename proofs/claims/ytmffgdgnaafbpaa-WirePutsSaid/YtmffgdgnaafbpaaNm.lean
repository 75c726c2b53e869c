/- wire.Reader's Num, Float and Bool, by the closures' contracts. -/
import Derived.Test.YtmffgdgnaafbpaaNum
namespace Go.Proofs.Ytmffgdgnaafbpaa.Nm
open Go.ChangeShapes Go.WideShapes Go.ChangeAt Go.RowKit
open B Put Rd Nx Num
set_option linter.unusedVariables false

/-- How many bytes have been read, and the Fault. -/
structure St where
  k : Nat
  code : Int
  fat : Int
/-- What a call of size bytes reads: the number, and the state behind it. -/
def num (l : List Nat) (s : St) (size : Nat) (low high : Int) : Int × St :=
  if s.code ≠ 0 then (0, s)
  else if l.length < s.k + size then (0, ⟨s.k, 2, l.length⟩)
  else if (val l s.k size : Int) < low ∨ high < (val l s.k size : Int) then (0, ⟨s.k, 4, s.k⟩)
  else (val l s.k size, ⟨s.k + size, 0, 0⟩)
def flt (l : List Nat) (s : St) : Nat × St :=
  if s.code ≠ 0 then (0, s)
  else if l.length < s.k + 8 then (0, ⟨s.k, 2, l.length⟩)
  else (val l s.k 8, ⟨s.k + 8, 0, 0⟩)
abbrev Rs (w : World) (g : Nat) (ad : Option Addr) (cap : Nat) (l : List Nat) (s : St) : Prop := Rd w g ad cap l s.k s.code s.fat

set_option maxHeartbeats 1000000 in
theorem num_dead (g : Nat) (ad : Option Addr) (cap : Nat) (l : List Nat) (k : Nat) (code fat : Int) (size low high : Int) (w : World) (h : Rd w g ad cap l k code fat) (hne : code ≠ 0) :
    Calls Try.prog 14 #[.pointer (some ⟨g, 0, none⟩), .int .i64 size, .int .i64 low, .int .i64 high] w fun e w' => e = .returned (.int .i64 0) ∧ Rd w' g ad cap l k code fat ∧ But g w w' := by
  have hmf : ∀ (fn : Fn) (first cap : Array Value) (w : World), (Instr.makeFunc fn first cap).run Try.prog w = .ok (.func fn first cap) w := fun _ _ _ _ => rfl
  have hpan : ∀ (u : TypeId) (v : Value) (w : World), (Instr.panic (.iface u v)).run Try.prog w = .halt (.panic (.iface u v)) w := fun _ _ _ => rfl
  have HR := Lib.hid h
  clear h
  go_enter_defers Try.func14, Try.ntmps14
  go_wp2_with fail
  refine (limit_any size 7 _).mono ?_
  rintro e w' ⟨rfl, rfl⟩
  have hb1 := (Below.refl w.heap.size w).alloc (Nat.le_refl _) (.cells #[.pointer (some ⟨g, 0, none⟩)] 30)
  have hbox : (w.alloc (.cells #[.pointer (some ⟨g, 0, none⟩)] 30)).cell? ⟨w.heap.size, 0, none⟩ = some (.pointer (some ⟨g, 0, none⟩)) := by simp
  have hlt1 : w.heap.size < (w.alloc (.cells #[.pointer (some ⟨g, 0, none⟩)] 30)).heap.size := by simp
  have hgl : g < w.heap.size := HR.out.lt
  have HR1 := Lib.hid (HR.out.below hb1)
  have HB1 := Lib.hid hb1
  generalize w.alloc (.cells #[.pointer (some ⟨g, 0, none⟩)] 30) = w1 at hbox hlt1 HR1 HB1 ⊢
  clear hb1
  have hs7 := lim_le size 7
  generalize hsz : lim size 7 = sz at hs7 ⊢
  have HSZ := Lib.hid hsz
  clear hsz
  go_wp2_with fail
  refine (next_dead g ad cap l k sz code fat _ HR1.out hne).mono ?_
  rintro e w' ⟨rfl, rfl⟩
  go_wp2
  have HR2 := HR1
  have HB2 := HB1
  have hbox2 : (w1).cell? ⟨w.heap.size, 0, none⟩ = some (.pointer (some ⟨g, 0, none⟩)) := hbox
  refine leaves_cons (f := 29) (args := #[.pointer (some ⟨w.heap.size, 0, none⟩)]) (by simp) (by simp [go_sem]) ?_
  refine (num_panic w.heap.size g ad cap l k code fat code fat (w1) hbox2 HR2.out).mono ?_
  rintro e u' w'' ⟨rfl, rfl, hb, hr⟩
  simp [Leaves, settle, results, Try.results14, go_sem]
  exact ⟨hr, (But.of HB2.out).trans hb⟩
set_option maxHeartbeats 1000000 in
theorem num_end (g : Nat) (ad : Option Addr) (cap : Nat) (l : List Nat) (k : Nat) (size low high : Int) (w : World) (h : Rd w g ad cap l k 0 0) (hl : l.length ≤ 10000) (hk : k ≤ l.length) (hs : l.length < k + (lim size 7)) :
    Calls Try.prog 14 #[.pointer (some ⟨g, 0, none⟩), .int .i64 size, .int .i64 low, .int .i64 high] w fun e w' => e = .returned (.int .i64 0) ∧ Rd w' g ad cap l k 2 l.length ∧ But g w w' := by
  have hmf : ∀ (fn : Fn) (first cap : Array Value) (w : World), (Instr.makeFunc fn first cap).run Try.prog w = .ok (.func fn first cap) w := fun _ _ _ _ => rfl
  have hpan : ∀ (u : TypeId) (v : Value) (w : World), (Instr.panic (.iface u v)).run Try.prog w = .halt (.panic (.iface u v)) w := fun _ _ _ => rfl
  have HR := Lib.hid h
  clear h
  go_enter_defers Try.func14, Try.ntmps14
  go_wp2_with fail
  refine (limit_any size 7 _).mono ?_
  rintro e w' ⟨rfl, rfl⟩
  have hb1 := (Below.refl w.heap.size w).alloc (Nat.le_refl _) (.cells #[.pointer (some ⟨g, 0, none⟩)] 30)
  have hbox : (w.alloc (.cells #[.pointer (some ⟨g, 0, none⟩)] 30)).cell? ⟨w.heap.size, 0, none⟩ = some (.pointer (some ⟨g, 0, none⟩)) := by simp
  have hlt1 : w.heap.size < (w.alloc (.cells #[.pointer (some ⟨g, 0, none⟩)] 30)).heap.size := by simp
  have hgl : g < w.heap.size := HR.out.lt
  have HR1 := Lib.hid (HR.out.below hb1)
  have HB1 := Lib.hid hb1
  generalize w.alloc (.cells #[.pointer (some ⟨g, 0, none⟩)] 30) = w1 at hbox hlt1 HR1 HB1 ⊢
  clear hb1
  have hs7 := lim_le size 7
  generalize hsz : lim size 7 = sz at hs hs7 ⊢
  have HSZ := Lib.hid hsz
  clear hsz
  go_wp2_with fail
  refine (next_end g ad cap l k sz _ HR1.out hl hk hs).mono ?_
  rintro e w' ⟨rfl, n, rfl⟩
  go_wp2
  have hdr : Below w1.heap.size w1 (w1.drewN n) := below_drewN (Below.refl _ _) n
  have HR2 := Lib.hid (HR1.out.below hdr)
  have HB2 := Lib.hid (chain HB1.out hdr)
  have hbox2 : (w1.drewN n).cell? ⟨w.heap.size, 0, none⟩ = some (.pointer (some ⟨g, 0, none⟩)) := hbox
  refine leaves_cons (f := 29) (args := #[.pointer (some ⟨w.heap.size, 0, none⟩)]) (by simp) (by simp [go_sem]) ?_
  refine (num_panic w.heap.size g ad cap l k 0 0 2 l.length (w1.drewN n) hbox2 HR2.out).mono ?_
  rintro e u' w'' ⟨rfl, rfl, hb, hr⟩
  simp [Leaves, settle, results, Try.results14, go_sem]
  exact ⟨hr, (But.of HB2.out).trans hb⟩
set_option maxHeartbeats 1000000 in
theorem float_dead (g : Nat) (ad : Option Addr) (cap : Nat) (l : List Nat) (k : Nat) (code fat : Int) (w : World) (h : Rd w g ad cap l k code fat) (hne : code ≠ 0) :
    Calls Try.prog 17 #[.pointer (some ⟨g, 0, none⟩)] w fun e w' => e = .returned (.float .f64 0) ∧ Rd w' g ad cap l k code fat ∧ But g w w' := by
  have hmf : ∀ (fn : Fn) (first cap : Array Value) (w : World), (Instr.makeFunc fn first cap).run Try.prog w = .ok (.func fn first cap) w := fun _ _ _ _ => rfl
  have hpan : ∀ (u : TypeId) (v : Value) (w : World), (Instr.panic (.iface u v)).run Try.prog w = .halt (.panic (.iface u v)) w := fun _ _ _ => rfl
  have HR := Lib.hid h
  clear h
  go_enter_defers Try.func17, Try.ntmps17
  go_wp2_with fail
  have hb1 := (Below.refl w.heap.size w).alloc (Nat.le_refl _) (.cells #[.pointer (some ⟨g, 0, none⟩)] 30)
  have hbox : (w.alloc (.cells #[.pointer (some ⟨g, 0, none⟩)] 30)).cell? ⟨w.heap.size, 0, none⟩ = some (.pointer (some ⟨g, 0, none⟩)) := by simp
  have hlt1 : w.heap.size < (w.alloc (.cells #[.pointer (some ⟨g, 0, none⟩)] 30)).heap.size := by simp
  have hgl : g < w.heap.size := HR.out.lt
  have HR1 := Lib.hid (HR.out.below hb1)
  have HB1 := Lib.hid hb1
  generalize w.alloc (.cells #[.pointer (some ⟨g, 0, none⟩)] 30) = w1 at hbox hlt1 HR1 HB1 ⊢
  clear hb1
  go_wp2_with fail
  refine (next_dead g ad cap l k 8 code fat _ HR1.out hne).mono ?_
  rintro e w' ⟨rfl, rfl⟩
  go_wp2
  have HR2 := HR1
  have HB2 := HB1
  have hbox2 : (w1).cell? ⟨w.heap.size, 0, none⟩ = some (.pointer (some ⟨g, 0, none⟩)) := hbox
  refine leaves_cons (f := 35) (args := #[.pointer (some ⟨w.heap.size, 0, none⟩)]) (by simp) (by simp [go_sem]) ?_
  refine (float_panic w.heap.size g ad cap l k code fat code fat (w1) hbox2 HR2.out).mono ?_
  rintro e u' w'' ⟨rfl, rfl, hb, hr⟩
  simp [Leaves, settle, results, Try.results17, go_sem]
  exact ⟨hr, (But.of HB2.out).trans hb⟩
set_option maxHeartbeats 1000000 in
theorem float_end (g : Nat) (ad : Option Addr) (cap : Nat) (l : List Nat) (k : Nat) (w : World) (h : Rd w g ad cap l k 0 0) (hl : l.length ≤ 10000) (hk : k ≤ l.length) (hs : l.length < k + 8) :
    Calls Try.prog 17 #[.pointer (some ⟨g, 0, none⟩)] w fun e w' => e = .returned (.float .f64 0) ∧ Rd w' g ad cap l k 2 l.length ∧ But g w w' := by
  have hmf : ∀ (fn : Fn) (first cap : Array Value) (w : World), (Instr.makeFunc fn first cap).run Try.prog w = .ok (.func fn first cap) w := fun _ _ _ _ => rfl
  have hpan : ∀ (u : TypeId) (v : Value) (w : World), (Instr.panic (.iface u v)).run Try.prog w = .halt (.panic (.iface u v)) w := fun _ _ _ => rfl
  have HR := Lib.hid h
  clear h
  go_enter_defers Try.func17, Try.ntmps17
  go_wp2_with fail
  have hb1 := (Below.refl w.heap.size w).alloc (Nat.le_refl _) (.cells #[.pointer (some ⟨g, 0, none⟩)] 30)
  have hbox : (w.alloc (.cells #[.pointer (some ⟨g, 0, none⟩)] 30)).cell? ⟨w.heap.size, 0, none⟩ = some (.pointer (some ⟨g, 0, none⟩)) := by simp
  have hlt1 : w.heap.size < (w.alloc (.cells #[.pointer (some ⟨g, 0, none⟩)] 30)).heap.size := by simp
  have hgl : g < w.heap.size := HR.out.lt
  have HR1 := Lib.hid (HR.out.below hb1)
  have HB1 := Lib.hid hb1
  generalize w.alloc (.cells #[.pointer (some ⟨g, 0, none⟩)] 30) = w1 at hbox hlt1 HR1 HB1 ⊢
  clear hb1
  go_wp2_with fail
  refine (next_end g ad cap l k 8 _ HR1.out hl hk hs).mono ?_
  rintro e w' ⟨rfl, n, rfl⟩
  go_wp2
  have hdr : Below w1.heap.size w1 (w1.drewN n) := below_drewN (Below.refl _ _) n
  have HR2 := Lib.hid (HR1.out.below hdr)
  have HB2 := Lib.hid (chain HB1.out hdr)
  have hbox2 : (w1.drewN n).cell? ⟨w.heap.size, 0, none⟩ = some (.pointer (some ⟨g, 0, none⟩)) := hbox
  refine leaves_cons (f := 35) (args := #[.pointer (some ⟨w.heap.size, 0, none⟩)]) (by simp) (by simp [go_sem]) ?_
  refine (float_panic w.heap.size g ad cap l k 0 0 2 l.length (w1.drewN n) hbox2 HR2.out).mono ?_
  rintro e u' w'' ⟨rfl, rfl, hb, hr⟩
  simp [Leaves, settle, results, Try.results17, go_sem]
  exact ⟨hr, (But.of HB2.out).trans hb⟩
set_option maxHeartbeats 1000000 in
theorem num_below (g : Nat) (ad : Option Addr) (cap : Nat) (l : List Nat) (k : Nat) (size low high : Int) (w : World) (h : Rd w g ad cap l k 0 0) (hl : l.length ≤ 10000) (hs : k + lim size 7 ≤ l.length) (hlow : (val l k (lim size 7) : Int) < low) :
    Calls Try.prog 14 #[.pointer (some ⟨g, 0, none⟩), .int .i64 size, .int .i64 low, .int .i64 high] w fun e w' => e = .returned (.int .i64 0) ∧ Rd w' g ad cap l k 4 k ∧ But g w w' := by
  have hmf : ∀ (fn : Fn) (first cap : Array Value) (w : World), (Instr.makeFunc fn first cap).run Try.prog w = .ok (.func fn first cap) w := fun _ _ _ _ => rfl
  have hpan : ∀ (u : TypeId) (v : Value) (w : World), (Instr.panic (.iface u v)).run Try.prog w = .halt (.panic (.iface u v)) w := fun _ _ _ => rfl
  have HR := Lib.hid h
  clear h
  go_enter_defers Try.func14, Try.ntmps14
  go_wp2_with fail
  refine (limit_any size 7 _).mono ?_
  rintro e w' ⟨rfl, rfl⟩
  have hb1 := (Below.refl w.heap.size w).alloc (Nat.le_refl _) (.cells #[.pointer (some ⟨g, 0, none⟩)] 30)
  have hbox : (w.alloc (.cells #[.pointer (some ⟨g, 0, none⟩)] 30)).cell? ⟨w.heap.size, 0, none⟩ = some (.pointer (some ⟨g, 0, none⟩)) := by simp
  have hlt1 : w.heap.size < (w.alloc (.cells #[.pointer (some ⟨g, 0, none⟩)] 30)).heap.size := by simp
  have hgl : g < w.heap.size := HR.out.lt
  have HR1 := Lib.hid (HR.out.below hb1)
  have HB1 := Lib.hid hb1
  generalize w.alloc (.cells #[.pointer (some ⟨g, 0, none⟩)] 30) = w1 at hbox hlt1 HR1 HB1 ⊢
  clear hb1
  have hs7 := lim_le size 7
  generalize hsz : lim size 7 = sz at hs hs7 hlow ⊢
  have HSZ := Lib.hid hsz
  clear hsz
  go_wp2_with fail
  refine (next_ok g ad cap l k sz _ HR1.out hl hs (by omega)).mono ?_
  rintro e w' ⟨rfl, n, rfl⟩
  have hv56 : val l k sz < 72057594037927936 := val_small l k sz HR1.out.row.2.1 (by omega)
  generalize hval : val l k sz = v at hv56 hlow ⊢
  have HV := Lib.hid hval
  clear hval
  have hw : wrap64 (v : Int) = v := by unfold wrap64; omega
  have hw2 : IntKind.i64.wrap (v : Int) = v := by rw [IntKind.wrap_i64]; omega
  have hlo : decide ((v : Int) < low) = true := decide_eq_true (by omega)
  have hdr : Below w1.heap.size w1 (w1.drewN n) := below_drewN (Below.refl _ _) n
  have HR2 := Lib.hid (HR1.out.below hdr)
  have HB2 := Lib.hid (chain HB1.out hdr)
  have hc1 := HR2.out.c1
  go_wp2
  have hbox2 : (w1.drewN n).cell? ⟨w.heap.size, 0, none⟩ = some (.pointer (some ⟨g, 0, none⟩)) := hbox
  refine leaves_cons (f := 29) (args := #[.pointer (some ⟨w.heap.size, 0, none⟩)]) (by simp) (by simp [go_sem]) ?_
  refine (num_panic w.heap.size g ad cap l k 0 0 4 k (w1.drewN n) hbox2 HR2.out).mono ?_
  rintro e u' w'' ⟨rfl, rfl, hb, hr⟩
  simp [Leaves, settle, results, Try.results14, go_sem]
  exact ⟨hr, (But.of HB2.out).trans hb⟩
set_option maxHeartbeats 1000000 in
theorem num_above (g : Nat) (ad : Option Addr) (cap : Nat) (l : List Nat) (k : Nat) (size low high : Int) (w : World) (h : Rd w g ad cap l k 0 0) (hl : l.length ≤ 10000) (hs : k + lim size 7 ≤ l.length) (hlow : ¬ (val l k (lim size 7) : Int) < low) (hhigh : high < (val l k (lim size 7) : Int)) :
    Calls Try.prog 14 #[.pointer (some ⟨g, 0, none⟩), .int .i64 size, .int .i64 low, .int .i64 high] w fun e w' => e = .returned (.int .i64 0) ∧ Rd w' g ad cap l k 4 k ∧ But g w w' := by
  have hmf : ∀ (fn : Fn) (first cap : Array Value) (w : World), (Instr.makeFunc fn first cap).run Try.prog w = .ok (.func fn first cap) w := fun _ _ _ _ => rfl
  have hpan : ∀ (u : TypeId) (v : Value) (w : World), (Instr.panic (.iface u v)).run Try.prog w = .halt (.panic (.iface u v)) w := fun _ _ _ => rfl
  have HR := Lib.hid h
  clear h
  go_enter_defers Try.func14, Try.ntmps14
  go_wp2_with fail
  refine (limit_any size 7 _).mono ?_
  rintro e w' ⟨rfl, rfl⟩
  have hb1 := (Below.refl w.heap.size w).alloc (Nat.le_refl _) (.cells #[.pointer (some ⟨g, 0, none⟩)] 30)
  have hbox : (w.alloc (.cells #[.pointer (some ⟨g, 0, none⟩)] 30)).cell? ⟨w.heap.size, 0, none⟩ = some (.pointer (some ⟨g, 0, none⟩)) := by simp
  have hlt1 : w.heap.size < (w.alloc (.cells #[.pointer (some ⟨g, 0, none⟩)] 30)).heap.size := by simp
  have hgl : g < w.heap.size := HR.out.lt
  have HR1 := Lib.hid (HR.out.below hb1)
  have HB1 := Lib.hid hb1
  generalize w.alloc (.cells #[.pointer (some ⟨g, 0, none⟩)] 30) = w1 at hbox hlt1 HR1 HB1 ⊢
  clear hb1
  have hs7 := lim_le size 7
  generalize hsz : lim size 7 = sz at hs hs7 hlow hhigh ⊢
  have HSZ := Lib.hid hsz
  clear hsz
  go_wp2_with fail
  refine (next_ok g ad cap l k sz _ HR1.out hl hs (by omega)).mono ?_
  rintro e w' ⟨rfl, n, rfl⟩
  have hv56 : val l k sz < 72057594037927936 := val_small l k sz HR1.out.row.2.1 (by omega)
  generalize hval : val l k sz = v at hv56 hlow hhigh ⊢
  have HV := Lib.hid hval
  clear hval
  have hw : wrap64 (v : Int) = v := by unfold wrap64; omega
  have hw2 : IntKind.i64.wrap (v : Int) = v := by rw [IntKind.wrap_i64]; omega
  have hlo : decide ((v : Int) < low) = false := decide_eq_false (by omega)
  have hhi : decide ((v : Int) > high) = true := decide_eq_true (by omega)
  have hdr : Below w1.heap.size w1 (w1.drewN n) := below_drewN (Below.refl _ _) n
  have HR2 := Lib.hid (HR1.out.below hdr)
  have HB2 := Lib.hid (chain HB1.out hdr)
  have hc1 := HR2.out.c1
  go_wp2
  have hbox2 : (w1.drewN n).cell? ⟨w.heap.size, 0, none⟩ = some (.pointer (some ⟨g, 0, none⟩)) := hbox
  refine leaves_cons (f := 29) (args := #[.pointer (some ⟨w.heap.size, 0, none⟩)]) (by simp) (by simp [go_sem]) ?_
  refine (num_panic w.heap.size g ad cap l k 0 0 4 k (w1.drewN n) hbox2 HR2.out).mono ?_
  rintro e u' w'' ⟨rfl, rfl, hb, hr⟩
  simp [Leaves, settle, results, Try.results14, go_sem]
  exact ⟨hr, (But.of HB2.out).trans hb⟩
set_option maxHeartbeats 1000000 in
theorem num_ok (g : Nat) (ad : Option Addr) (cap : Nat) (l : List Nat) (k : Nat) (size low high : Int) (w : World) (h : Rd w g ad cap l k 0 0) (hl : l.length ≤ 10000) (hs : k + lim size 7 ≤ l.length) (hlow : ¬ (val l k (lim size 7) : Int) < low) (hhigh : ¬ high < (val l k (lim size 7) : Int)) :
    Calls Try.prog 14 #[.pointer (some ⟨g, 0, none⟩), .int .i64 size, .int .i64 low, .int .i64 high] w fun e w' => e = .returned (.int .i64 (val l k (lim size 7) : Nat)) ∧ Rd w' g ad cap l (k + lim size 7) 0 0 ∧ But g w w' := by
  have hmf : ∀ (fn : Fn) (first cap : Array Value) (w : World), (Instr.makeFunc fn first cap).run Try.prog w = .ok (.func fn first cap) w := fun _ _ _ _ => rfl
  have hpan : ∀ (u : TypeId) (v : Value) (w : World), (Instr.panic (.iface u v)).run Try.prog w = .halt (.panic (.iface u v)) w := fun _ _ _ => rfl
  have HR := Lib.hid h
  clear h
  go_enter_defers Try.func14, Try.ntmps14
  go_wp2_with fail
  refine (limit_any size 7 _).mono ?_
  rintro e w' ⟨rfl, rfl⟩
  have hb1 := (Below.refl w.heap.size w).alloc (Nat.le_refl _) (.cells #[.pointer (some ⟨g, 0, none⟩)] 30)
  have hbox : (w.alloc (.cells #[.pointer (some ⟨g, 0, none⟩)] 30)).cell? ⟨w.heap.size, 0, none⟩ = some (.pointer (some ⟨g, 0, none⟩)) := by simp
  have hlt1 : w.heap.size < (w.alloc (.cells #[.pointer (some ⟨g, 0, none⟩)] 30)).heap.size := by simp
  have hgl : g < w.heap.size := HR.out.lt
  have HR1 := Lib.hid (HR.out.below hb1)
  have HB1 := Lib.hid hb1
  generalize w.alloc (.cells #[.pointer (some ⟨g, 0, none⟩)] 30) = w1 at hbox hlt1 HR1 HB1 ⊢
  clear hb1
  have hs7 := lim_le size 7
  generalize hsz : lim size 7 = sz at hs hs7 hlow hhigh ⊢
  have HSZ := Lib.hid hsz
  clear hsz
  go_wp2_with fail
  refine (next_ok g ad cap l k sz _ HR1.out hl hs (by omega)).mono ?_
  rintro e w' ⟨rfl, n, rfl⟩
  have hv56 : val l k sz < 72057594037927936 := val_small l k sz HR1.out.row.2.1 (by omega)
  generalize hval : val l k sz = v at hv56 hlow hhigh ⊢
  have HV := Lib.hid hval
  clear hval
  have hw : wrap64 (v : Int) = v := by unfold wrap64; omega
  have hw2 : IntKind.i64.wrap (v : Int) = v := by rw [IntKind.wrap_i64]; omega
  have hlo : decide ((v : Int) < low) = false := decide_eq_false (by omega)
  have hhi : decide ((v : Int) > high) = false := decide_eq_false (by omega)
  have hdr : Below w1.heap.size w1 (w1.drewN n) := below_drewN (Below.refl _ _) n
  have HR2 := Lib.hid (HR1.out.below hdr)
  have HB2 := Lib.hid (chain HB1.out hdr)
  have hc1 := HR2.out.c1
  have hz1 := HR2.out.fz 1
  go_wp2
  have hbox2 : ((w1.drewN n).setCell ⟨g, 1, none⟩ (.int .i64 ((k : Int) + sz))).cell? ⟨w.heap.size, 0, none⟩ = some (.pointer (some ⟨g, 0, none⟩)) := by
    rw [World.cell?_setCell_other _ _ _ _ (by first | (simp; done) | (simp; omega))]; exact hbox
  have hset : But g (w1.drewN n) ((w1.drewN n).setCell ⟨g, 1, none⟩ (.int .i64 ((k : Int) + sz))) := But.set g 1 _ _
  have hmv : Rd ((w1.drewN n).setCell ⟨g, 1, none⟩ (.int .i64 ((k : Int) + sz))) g ad cap l (k + sz) 0 0 := by
    have h := Rd.moves HR2.out (k + sz)
    rw [Int.natCast_add] at h; exact h
  refine leaves_cons (f := 29) (args := #[.pointer (some ⟨w.heap.size, 0, none⟩)]) (by simp) (by simp [go_sem]) ?_
  refine (num_idle w.heap.size g _ hbox2).mono ?_
  rintro e u' w'' ⟨rfl, rfl, hb⟩
  simp [Leaves, settle, results, Try.results14, go_sem]
  try rw [HSZ.out]
  exact ⟨HV.out.symm ▸ rfl, hmv.below hb, ((But.of HB2.out).trans hset).trans (But.of hb)⟩
set_option maxHeartbeats 1000000 in
theorem float_ok (g : Nat) (ad : Option Addr) (cap : Nat) (l : List Nat) (k : Nat) (w : World) (h : Rd w g ad cap l k 0 0) (hl : l.length ≤ 10000) (hs : k + 8 ≤ l.length) :
    Calls Try.prog 17 #[.pointer (some ⟨g, 0, none⟩)] w fun e w' => e = .returned (.float .f64 (val l k 8)) ∧ Rd w' g ad cap l (k + 8) 0 0 ∧ But g w w' := by
  have hmf : ∀ (fn : Fn) (first cap : Array Value) (w : World), (Instr.makeFunc fn first cap).run Try.prog w = .ok (.func fn first cap) w := fun _ _ _ _ => rfl
  have hpan : ∀ (u : TypeId) (v : Value) (w : World), (Instr.panic (.iface u v)).run Try.prog w = .halt (.panic (.iface u v)) w := fun _ _ _ => rfl
  have HR := Lib.hid h
  clear h
  have hfb := frombits_call
  go_enter_defers Try.func17, Try.ntmps17
  go_wp2_with fail
  have hb1 := (Below.refl w.heap.size w).alloc (Nat.le_refl _) (.cells #[.pointer (some ⟨g, 0, none⟩)] 30)
  have hbox : (w.alloc (.cells #[.pointer (some ⟨g, 0, none⟩)] 30)).cell? ⟨w.heap.size, 0, none⟩ = some (.pointer (some ⟨g, 0, none⟩)) := by simp
  have hlt1 : w.heap.size < (w.alloc (.cells #[.pointer (some ⟨g, 0, none⟩)] 30)).heap.size := by simp
  have hgl : g < w.heap.size := HR.out.lt
  have HR1 := Lib.hid (HR.out.below hb1)
  have HB1 := Lib.hid hb1
  generalize w.alloc (.cells #[.pointer (some ⟨g, 0, none⟩)] 30) = w1 at hbox hlt1 HR1 HB1 ⊢
  clear hb1
  go_wp2_with fail
  refine (next_ok g ad cap l k 8 _ HR1.out hl hs (by omega)).mono ?_
  rintro e w' ⟨rfl, n, rfl⟩
  generalize hval : val l k 8 = v
  have HV := Lib.hid hval
  clear hval
  have hdr : Below w1.heap.size w1 (w1.drewN n) := below_drewN (Below.refl _ _) n
  have HR2 := Lib.hid (HR1.out.below hdr)
  have HB2 := Lib.hid (chain HB1.out hdr)
  have hc1 := HR2.out.c1
  have hz1 := HR2.out.fz 1
  go_wp2
  have hbox2 : ((w1.drewN n).setCell ⟨g, 1, none⟩ (.int .i64 ((k : Int) + 8))).cell? ⟨w.heap.size, 0, none⟩ = some (.pointer (some ⟨g, 0, none⟩)) := by
    rw [World.cell?_setCell_other _ _ _ _ (by first | (simp; done) | (simp; omega))]; exact hbox
  have hset : But g (w1.drewN n) ((w1.drewN n).setCell ⟨g, 1, none⟩ (.int .i64 ((k : Int) + 8))) := But.set g 1 _ _
  have hmv : Rd ((w1.drewN n).setCell ⟨g, 1, none⟩ (.int .i64 ((k : Int) + 8))) g ad cap l (k + 8) 0 0 := by
    have h := Rd.moves HR2.out (k + 8)
    rw [Int.natCast_add] at h; exact h
  refine leaves_cons (f := 35) (args := #[.pointer (some ⟨w.heap.size, 0, none⟩)]) (by simp) (by simp [go_sem]) ?_
  refine (float_idle w.heap.size g _ hbox2).mono ?_
  rintro e u' w'' ⟨rfl, rfl, hb⟩
  simp [Leaves, settle, results, Try.results17, go_sem]
  try rw [HSZ.out]
  exact ⟨HV.out.symm ▸ rfl, hmv.below hb, ((But.of HB2.out).trans hset).trans (But.of hb)⟩

def Good (l : List Nat) (s : St) : Prop := s.k ≤ l.length ∧ (s.code = 0 → s.fat = 0)
theorem num_good (l : List Nat) (s : St) (size : Nat) (low high : Int) (h : Good l s) : Good l (num l s size low high).2 := by
  unfold num
  split
  · exact h
  · split
    · exact ⟨h.1, fun e => by simp at e⟩
    · split
      · exact ⟨h.1, fun e => by simp at e⟩
      · exact ⟨by simp; omega, fun _ => rfl⟩
theorem flt_good (l : List Nat) (s : St) (h : Good l s) : Good l (flt l s).2 := by
  unfold flt
  split
  · exact h
  · split
    · exact ⟨h.1, fun e => by simp at e⟩
    · exact ⟨by simp; omega, fun _ => rfl⟩
theorem num_any (g : Nat) (ad : Option Addr) (cap : Nat) (l : List Nat) (s : St) (size low high : Int) (w : World) (h : Rs w g ad cap l s) (hl : l.length ≤ 10000) (hg : Good l s) :
    Calls Try.prog 14 #[.pointer (some ⟨g, 0, none⟩), .int .i64 size, .int .i64 low, .int .i64 high] w fun e w' =>
      e = .returned (.int .i64 (num l s (lim size 7) low high).1) ∧ Rs w' g ad cap l (num l s (lim size 7) low high).2 ∧ But g w w' := by
  obtain ⟨k, code, fat⟩ := s
  unfold num
  by_cases h0 : code ≠ 0
  · rw [if_pos h0]; exact num_dead g ad cap l k code fat size low high w h h0
  · rw [if_neg h0]
    obtain rfl : code = 0 := by omega
    obtain rfl : fat = 0 := hg.2 rfl
    by_cases h1 : l.length < k + lim size 7
    · rw [if_pos h1]; exact num_end g ad cap l k size low high w h hl hg.1 h1
    · rw [if_neg h1]
      by_cases h2 : (val l k (lim size 7) : Int) < low
      · rw [if_pos (.inl h2)]; exact num_below g ad cap l k size low high w h hl (by omega) h2
      · by_cases h3 : high < (val l k (lim size 7) : Int)
        · rw [if_pos (.inr h3)]; exact num_above g ad cap l k size low high w h hl (by omega) h2 h3
        · rw [if_neg (by rintro (h | h) <;> contradiction)]; exact num_ok g ad cap l k size low high w h hl (by omega) h2 h3
theorem float_any (g : Nat) (ad : Option Addr) (cap : Nat) (l : List Nat) (s : St) (w : World) (h : Rs w g ad cap l s) (hl : l.length ≤ 10000) (hg : Good l s) :
    Calls Try.prog 17 #[.pointer (some ⟨g, 0, none⟩)] w fun e w' =>
      e = .returned (.float .f64 (flt l s).1) ∧ Rs w' g ad cap l (flt l s).2 ∧ But g w w' := by
  obtain ⟨k, code, fat⟩ := s
  unfold flt
  by_cases h0 : code ≠ 0
  · rw [if_pos h0]; exact float_dead g ad cap l k code fat w h h0
  · rw [if_neg h0]
    obtain rfl : code = 0 := by omega
    obtain rfl : fat = 0 := hg.2 rfl
    by_cases h1 : l.length < k + 8
    · rw [if_pos h1]; exact float_end g ad cap l k w h hl hg.1 h1
    · rw [if_neg h1]; exact float_ok g ad cap l k w h hl (by omega)
set_option maxHeartbeats 1000000 in
theorem bool_any (g : Nat) (ad : Option Addr) (cap : Nat) (l : List Nat) (s : St) (w : World) (h : Rs w g ad cap l s) (hl : l.length ≤ 10000) (hg : Good l s) :
    Calls Try.prog 19 #[.pointer (some ⟨g, 0, none⟩)] w fun e w' =>
      e = .returned (.bool (decide ((num l s 1 0 1).1 = 1))) ∧ Rs w' g ad cap l (num l s 1 0 1).2 ∧ But g w w' := by
  have h1 := num_any g ad cap l s 1 0 1 w h hl hg
  rw [show lim 1 7 = 1 from rfl] at h1
  generalize num l s 1 0 1 = r at h1
  clear h hg
  go_enter Try.func19, Try.ntmps19
  go_wp2_with fail
  refine h1.mono ?_
  rintro e w' ⟨rfl, hr, hb⟩
  have HR := Lib.hid hr
  clear hr h1
  go_wp2
  go_ret
  exact ⟨rfl, HR.out, hb⟩
end Go.Proofs.Ytmffgdgnaafbpaa.Nm
