/- The document's own Reader: Ok, bits, Num, Float, Bool. -/
import Derived.Test.YtmffgdgnaafbpaaNm
namespace Go.Proofs.Ytmffgdgnaafbpaa.Rf
open Go.ChangeShapes Go.WideShapes Go.ChangeAt Go.RowKit
open B Put Rd Nx Num Nm
set_option linter.unusedVariables false

theorem ok_any (g : Nat) (ad : Option Addr) (cap : Nat) (l : List Nat) (k : Nat) (code fat : Int) (w : World) (h : Rd w g ad cap l k code fat) :
    Calls Try.prog 32 #[.pointer (some ⟨g, 0, none⟩)] w fun e w' => e = .returned (.bool (decide (code = 0))) ∧ w = w' := by
  have h2 := h.c2
  clear h
  go_enter Try.func32, Try.ntmps32
  go_wp2
  go_ret
  exact ⟨rfl, rfl⟩
set_option maxHeartbeats 1000000 in
theorem bits_end (g : Nat) (ad : Option Addr) (cap : Nat) (l : List Nat) (k s : Nat) (w : World) (h : Rd w g ad cap l k 0 0) (hl : l.length ≤ 10000) (hk : k ≤ l.length) (hs : l.length < k + s) (h8 : s ≤ 8) :
    Calls Try.prog 33 #[.pointer (some ⟨g, 0, none⟩), .int .i64 s] w fun e w' => e = .returned (.int .u64 0) ∧ Rd w' g ad cap l k 2 l.length ∧ But g w w' := by
  have h0 := h.c0
  have h1 := h.c1
  have h2 := h.c2
  have h3 := h.c3
  have h4 := h.fz 2
  have h5 := h.fz 3
  have HR := Lib.hid h
  have ht : ((l.length : Int) - (k : Int) < (s : Int)) := by omega
  clear h
  go_enter Try.func33, Try.ntmps33
  go_wp2
  go_quiet (fail)
  have hdr : Below w.heap.size w (w.drewN nq) := below_drewN (Below.refl _ _) nq
  have HR2 := Lib.hid (HR.out.below hdr)
  have hset : But g (w.drewN nq) (((w.drewN nq).setCell ⟨g, 2, none⟩ (.int .i64 2)).setCell ⟨g, 3, none⟩ (.int .i64 l.length)) := (But.set g 2 _ _).trans (But.set g 3 _ _)
  have hgo : But g w (((w.drewN nq).setCell ⟨g, 2, none⟩ (.int .i64 2)).setCell ⟨g, 3, none⟩ (.int .i64 l.length)) := (But.of hdr).trans hset
  have hk := Rd.keeps HR2.out 2 l.length
  go_wp2
  go_ret
  exact ⟨rfl, hk, hgo⟩
set_option maxHeartbeats 1000000 in
theorem bits_ok (g : Nat) (ad : Option Addr) (cap : Nat) (l : List Nat) (k s : Nat) (w : World) (h : Rd w g ad cap l k 0 0) (hl : l.length ≤ 10000) (hs : k + s ≤ l.length) (h8 : s ≤ 8) :
    Calls Try.prog 33 #[.pointer (some ⟨g, 0, none⟩), .int .i64 s] w fun e w' => e = .returned (.int .u64 (val l k s : Nat)) ∧ ∃ n, w' = w.drewN n := by
  have h0 := h.c0
  have h1 := h.c1
  have HR := Lib.hid h
  have ht : ¬ ((l.length : Int) - (k : Int) < (s : Int)) := by omega
  clear h
  go_enter Try.func33, Try.ntmps33
  go_wp2
  go_quiet (fail)
  go_wp2
  go_loopw [5, 6] (fun t i wr => ∃ q : Nat, q ≤ s ∧ i = .int .i64 q ∧ t = .int .u64 (val l k q : Nat) ∧ ∃ n, wr = w.drewN n) (fun _ i _ => s - (intOf i).toNat)
  case atStart => exact ⟨0, Nat.zero_le _, rfl, rfl, _, rfl⟩
  case round =>
    obtain ⟨q, hq, rfl, rfl, n, rfl⟩ := hrel
    by_cases hlt : q < s
    · obtain ⟨x, rfl, hcl⟩ := HR.out.row.cells (k := k + q) (by omega)
      have hcell : w.cell? (x.add (k + q)) = some (.int .u8 (l.getD (k + q) 0 : Nat)) := hcl _ (by omega)
      clear hcl
      have hy : l.getD (k + q) 0 < 256 := HR.out.row.lt _ (by omega)
      have hv := val_step l k q (by omega) (by omega) HR.out.row.2.1
      have hqk : k + q < l.length := by omega
      generalize l.getD (k + q) 0 = y at hcell hv hy
      generalize hv1 : val l k (q + 1) = v1 at hv
      have Hv1 := Lib.hid hv1
      clear hv1
      generalize val l k q = v0 at hv
      go_wp2
      go_quiet (fail)
      go_wp2
      go_roundw
      case rel => exact ⟨q + 1, by omega, by go_num, by rw [Hv1.out], n + nq, by simp [World.drewN]⟩
      case measure => simp [intOf]; omega
    · obtain rfl : q = s := by omega
      go_wp2
      go_ret
      exact ⟨rfl, _, rfl⟩
set_option maxHeartbeats 1000000 in
theorem num_dead (g : Nat) (ad : Option Addr) (cap : Nat) (l : List Nat) (k : Nat) (code fat : Int) (size low high : Int) (w : World) (h : Rd w g ad cap l k code fat) (hne : code ≠ 0) :
    Calls Try.prog 15 #[.pointer (some ⟨g, 0, none⟩), .int .i64 size, .int .i64 low, .int .i64 high] w fun e w' => e = .returned (.int .i64 0) ∧ Rd w' g ad cap l k code fat ∧ But g w w' := by
  have HR := Lib.hid h
  clear h
  go_enter Try.func15, Try.ntmps15
  go_wp2_with fail
  refine (ok_any g ad cap l k code fat (_) HR.out).mono ?_
  rintro e w' ⟨rfl, rfl⟩
  rw [show decide (code = 0) = false from decide_eq_false hne]
  go_wp2
  go_ret
  exact ⟨rfl, HR.out, But.refl _ _⟩
set_option maxHeartbeats 1000000 in
theorem num_end (g : Nat) (ad : Option Addr) (cap : Nat) (l : List Nat) (k : Nat) (size low high : Int) (w : World) (h : Rd w g ad cap l k 0 0) (hl : l.length ≤ 10000) (hk : k ≤ l.length) (hs : l.length < k + (lim size 7)) :
    Calls Try.prog 15 #[.pointer (some ⟨g, 0, none⟩), .int .i64 size, .int .i64 low, .int .i64 high] w fun e w' => e = .returned (.int .i64 0) ∧ Rd w' g ad cap l k 2 l.length ∧ But g w w' := by
  have HR := Lib.hid h
  clear h
  go_enter Try.func15, Try.ntmps15
  go_wp2_with fail
  refine (ok_any g ad cap l k 0 0 (_) HR.out).mono ?_
  rintro e w' ⟨rfl, rfl⟩
  rw [show decide ((0 : Int) = 0) = true from rfl]
  go_wp2_with fail
  refine (cut_any size 7 _).mono ?_
  rintro e w' ⟨rfl, rfl⟩
  have hs7 := lim_le size 7
  generalize hsz : lim size 7 = sz at hs hs7 ⊢
  have HSZ := Lib.hid hsz
  clear hsz
  go_wp2_with fail
  refine (bits_end g ad cap l k sz _ HR.out hl hk hs (by omega)).mono ?_
  rintro e w1 ⟨rfl, hr1, hb1⟩
  have HR1 := Lib.hid hr1
  clear hr1
  have hw : wrap64 0 = 0 := by unfold wrap64; omega
  go_wp2_with fail
  refine (ok_any g ad cap l k 2 l.length (_) HR1.out).mono ?_
  rintro e w' ⟨rfl, rfl⟩
  rw [show decide ((2 : Int) = 0) = false from decide_eq_false (by decide)]
  go_wp2_with fail
  refine (ok_any g ad cap l k 2 l.length (_) HR1.out).mono ?_
  rintro e w' ⟨rfl, rfl⟩
  rw [show decide ((2 : Int) = 0) = false from decide_eq_false (by decide)]
  go_wp2
  go_ret
  exact ⟨rfl, HR1.out, hb1⟩
set_option maxHeartbeats 1000000 in
theorem num_below (g : Nat) (ad : Option Addr) (cap : Nat) (l : List Nat) (k : Nat) (size low high : Int) (w : World) (h : Rd w g ad cap l k 0 0) (hl : l.length ≤ 10000) (hs : k + lim size 7 ≤ l.length) (hlow : (val l k (lim size 7) : Int) < low) :
    Calls Try.prog 15 #[.pointer (some ⟨g, 0, none⟩), .int .i64 size, .int .i64 low, .int .i64 high] w fun e w' => e = .returned (.int .i64 0) ∧ Rd w' g ad cap l k 4 k ∧ But g w w' := by
  have HR := Lib.hid h
  clear h
  go_enter Try.func15, Try.ntmps15
  go_wp2_with fail
  refine (ok_any g ad cap l k 0 0 (_) HR.out).mono ?_
  rintro e w' ⟨rfl, rfl⟩
  rw [show decide ((0 : Int) = 0) = true from rfl]
  go_wp2_with fail
  refine (cut_any size 7 _).mono ?_
  rintro e w' ⟨rfl, rfl⟩
  have hs7 := lim_le size 7
  generalize hsz : lim size 7 = sz at hs hs7 hlow ⊢
  have HSZ := Lib.hid hsz
  clear hsz
  go_wp2_with fail
  refine (bits_ok g ad cap l k sz _ HR.out hl hs (by omega)).mono ?_
  rintro e w' ⟨rfl, n, rfl⟩
  have hv56 : val l k sz < 72057594037927936 := val_small l k sz HR.out.row.2.1 (by omega)
  generalize hval : val l k sz = v at hv56 hlow ⊢
  have HV := Lib.hid hval
  clear hval
  have hw : wrap64 (v : Int) = v := by unfold wrap64; omega
  have hw2 : IntKind.i64.wrap (v : Int) = v := by rw [IntKind.wrap_i64]; omega
  have hlo : decide ((v : Int) < low) = true := decide_eq_true (by omega)
  have hdr : Below w.heap.size w (w.drewN n) := below_drewN (Below.refl _ _) n
  have HR2 := Lib.hid (HR.out.below hdr)
  go_wp2_with fail
  refine (ok_any g ad cap l k 0 0 (_) HR2.out).mono ?_
  rintro e w' ⟨rfl, rfl⟩
  rw [show decide ((0 : Int) = 0) = true from rfl]
  have h1 := HR2.out.c1
  have h2 := HR2.out.c2
  have h3 := HR2.out.c3
  have h4 := HR2.out.fz 2
  have h5 := HR2.out.fz 3
  have hset : But g (w.drewN n) (((w.drewN n).setCell ⟨g, 2, none⟩ (.int .i64 4)).setCell ⟨g, 3, none⟩ (.int .i64 k)) := (But.set g 2 _ _).trans (But.set g 3 _ _)
  have Hgo := Lib.hid ((But.of hdr).trans hset)
  have Hk := Lib.hid (Rd.keeps HR2.out 4 k)
  clear hset
  go_wp2_with fail
  refine (ok_any g ad cap l k 4 k (_) Hk.out).mono ?_
  rintro e w' ⟨rfl, rfl⟩
  rw [show decide ((4 : Int) = 0) = false from decide_eq_false (by decide)]
  go_wp2
  go_ret
  exact ⟨rfl, Hk.out, Hgo.out⟩
set_option maxHeartbeats 1000000 in
theorem num_above (g : Nat) (ad : Option Addr) (cap : Nat) (l : List Nat) (k : Nat) (size low high : Int) (w : World) (h : Rd w g ad cap l k 0 0) (hl : l.length ≤ 10000) (hs : k + lim size 7 ≤ l.length) (hlow : ¬ (val l k (lim size 7) : Int) < low) (hhigh : high < (val l k (lim size 7) : Int)) :
    Calls Try.prog 15 #[.pointer (some ⟨g, 0, none⟩), .int .i64 size, .int .i64 low, .int .i64 high] w fun e w' => e = .returned (.int .i64 0) ∧ Rd w' g ad cap l k 4 k ∧ But g w w' := by
  have HR := Lib.hid h
  clear h
  go_enter Try.func15, Try.ntmps15
  go_wp2_with fail
  refine (ok_any g ad cap l k 0 0 (_) HR.out).mono ?_
  rintro e w' ⟨rfl, rfl⟩
  rw [show decide ((0 : Int) = 0) = true from rfl]
  go_wp2_with fail
  refine (cut_any size 7 _).mono ?_
  rintro e w' ⟨rfl, rfl⟩
  have hs7 := lim_le size 7
  generalize hsz : lim size 7 = sz at hs hs7 hlow hhigh ⊢
  have HSZ := Lib.hid hsz
  clear hsz
  go_wp2_with fail
  refine (bits_ok g ad cap l k sz _ HR.out hl hs (by omega)).mono ?_
  rintro e w' ⟨rfl, n, rfl⟩
  have hv56 : val l k sz < 72057594037927936 := val_small l k sz HR.out.row.2.1 (by omega)
  generalize hval : val l k sz = v at hv56 hlow hhigh ⊢
  have HV := Lib.hid hval
  clear hval
  have hw : wrap64 (v : Int) = v := by unfold wrap64; omega
  have hw2 : IntKind.i64.wrap (v : Int) = v := by rw [IntKind.wrap_i64]; omega
  have hlo : decide ((v : Int) < low) = false := decide_eq_false (by omega)
  have hhi : decide ((v : Int) > high) = true := decide_eq_true (by omega)
  have hdr : Below w.heap.size w (w.drewN n) := below_drewN (Below.refl _ _) n
  have HR2 := Lib.hid (HR.out.below hdr)
  go_wp2_with fail
  refine (ok_any g ad cap l k 0 0 (_) HR2.out).mono ?_
  rintro e w' ⟨rfl, rfl⟩
  rw [show decide ((0 : Int) = 0) = true from rfl]
  have h1 := HR2.out.c1
  have h2 := HR2.out.c2
  have h3 := HR2.out.c3
  have h4 := HR2.out.fz 2
  have h5 := HR2.out.fz 3
  have hset : But g (w.drewN n) (((w.drewN n).setCell ⟨g, 2, none⟩ (.int .i64 4)).setCell ⟨g, 3, none⟩ (.int .i64 k)) := (But.set g 2 _ _).trans (But.set g 3 _ _)
  have Hgo := Lib.hid ((But.of hdr).trans hset)
  have Hk := Lib.hid (Rd.keeps HR2.out 4 k)
  clear hset
  go_wp2_with fail
  refine (ok_any g ad cap l k 4 k (_) Hk.out).mono ?_
  rintro e w' ⟨rfl, rfl⟩
  rw [show decide ((4 : Int) = 0) = false from decide_eq_false (by decide)]
  go_wp2
  go_ret
  exact ⟨rfl, Hk.out, Hgo.out⟩
set_option maxHeartbeats 1000000 in
theorem num_ok (g : Nat) (ad : Option Addr) (cap : Nat) (l : List Nat) (k : Nat) (size low high : Int) (w : World) (h : Rd w g ad cap l k 0 0) (hl : l.length ≤ 10000) (hs : k + (lim size 7) ≤ l.length) (hlow : ¬ (val l k (lim size 7) : Int) < low) (hhigh : ¬ high < (val l k (lim size 7) : Int)) :
    Calls Try.prog 15 #[.pointer (some ⟨g, 0, none⟩), .int .i64 size, .int .i64 low, .int .i64 high] w fun e w' => e = .returned (.int .i64 (val l k (lim size 7) : Nat)) ∧ Rd w' g ad cap l (k + lim size 7) 0 0 ∧ But g w w' := by
  have HR := Lib.hid h
  clear h
  go_enter Try.func15, Try.ntmps15
  go_wp2_with fail
  refine (ok_any g ad cap l k 0 0 (_) HR.out).mono ?_
  rintro e w' ⟨rfl, rfl⟩
  rw [show decide ((0 : Int) = 0) = true from rfl]
  go_wp2_with fail
  refine (cut_any size 7 _).mono ?_
  rintro e w' ⟨rfl, rfl⟩
  have hs7 := lim_le size 7
  generalize hsz : lim size 7 = sz at hs hs7 hlow hhigh ⊢
  have HSZ := Lib.hid hsz
  clear hsz
  go_wp2_with fail
  refine (bits_ok g ad cap l k sz _ HR.out hl hs (by omega)).mono ?_
  rintro e w' ⟨rfl, n, rfl⟩
  have hv56 : val l k sz < 72057594037927936 := val_small l k sz HR.out.row.2.1 (by omega)
  generalize hval : val l k sz = v at hv56 hlow hhigh ⊢
  have HV := Lib.hid hval
  clear hval
  have hw : wrap64 (v : Int) = v := by unfold wrap64; omega
  have hw2 : IntKind.i64.wrap (v : Int) = v := by rw [IntKind.wrap_i64]; omega
  have hlo : decide ((v : Int) < low) = false := decide_eq_false (by omega)
  have hhi : decide ((v : Int) > high) = false := decide_eq_false (by omega)
  have hdr : Below w.heap.size w (w.drewN n) := below_drewN (Below.refl _ _) n
  have HR2 := Lib.hid (HR.out.below hdr)
  go_wp2_with fail
  refine (ok_any g ad cap l k 0 0 (_) HR2.out).mono ?_
  rintro e w' ⟨rfl, rfl⟩
  rw [show decide ((0 : Int) = 0) = true from rfl]
  go_wp2_with fail
  refine (ok_any g ad cap l k 0 0 (_) HR2.out).mono ?_
  rintro e w' ⟨rfl, rfl⟩
  rw [show decide ((0 : Int) = 0) = true from rfl]
  have h1 := HR2.out.c1
  have h4 := HR2.out.fz 1
  have hset : But g (w.drewN n) ((w.drewN n).setCell ⟨g, 1, none⟩ (.int .i64 ((k : Int) + sz))) := But.set g 1 _ _
  have Hgo := Lib.hid ((But.of hdr).trans hset)
  have hmv : Rd ((w.drewN n).setCell ⟨g, 1, none⟩ (.int .i64 ((k : Int) + sz))) g ad cap l (k + sz) 0 0 := by
    have h := Rd.moves HR2.out (k + sz)
    rw [Int.natCast_add] at h; exact h
  have Hmv := Lib.hid hmv
  clear hset hmv
  go_wp2
  go_ret
  try rw [HSZ.out]
  exact ⟨HV.out.symm ▸ rfl, Hmv.out, Hgo.out⟩
set_option maxHeartbeats 1000000 in
theorem float_dead (g : Nat) (ad : Option Addr) (cap : Nat) (l : List Nat) (k : Nat) (code fat : Int) (w : World) (h : Rd w g ad cap l k code fat) (hne : code ≠ 0) :
    Calls Try.prog 18 #[.pointer (some ⟨g, 0, none⟩)] w fun e w' => e = .returned (.float .f64 0) ∧ Rd w' g ad cap l k code fat ∧ But g w w' := by
  have HR := Lib.hid h
  clear h
  go_enter Try.func18, Try.ntmps18
  go_wp2_with fail
  refine (ok_any g ad cap l k code fat (_) HR.out).mono ?_
  rintro e w' ⟨rfl, rfl⟩
  rw [show decide (code = 0) = false from decide_eq_false hne]
  go_wp2
  go_ret
  exact ⟨rfl, HR.out, But.refl _ _⟩
set_option maxHeartbeats 1000000 in
theorem float_end (g : Nat) (ad : Option Addr) (cap : Nat) (l : List Nat) (k : Nat) (w : World) (h : Rd w g ad cap l k 0 0) (hl : l.length ≤ 10000) (hk : k ≤ l.length) (hs : l.length < k + 8) :
    Calls Try.prog 18 #[.pointer (some ⟨g, 0, none⟩)] w fun e w' => e = .returned (.float .f64 0) ∧ Rd w' g ad cap l k 2 l.length ∧ But g w w' := by
  have HR := Lib.hid h
  clear h
  go_enter Try.func18, Try.ntmps18
  go_wp2_with fail
  refine (ok_any g ad cap l k 0 0 (_) HR.out).mono ?_
  rintro e w' ⟨rfl, rfl⟩
  rw [show decide ((0 : Int) = 0) = true from rfl]
  go_wp2_with fail
  refine (bits_end g ad cap l k 8 _ HR.out hl hk hs (by omega)).mono ?_
  rintro e w1 ⟨rfl, hr1, hb1⟩
  have HR1 := Lib.hid hr1
  clear hr1
  have hw : wrap64 0 = 0 := by unfold wrap64; omega
  go_wp2_with fail
  refine (ok_any g ad cap l k 2 l.length (_) HR1.out).mono ?_
  rintro e w' ⟨rfl, rfl⟩
  rw [show decide ((2 : Int) = 0) = false from decide_eq_false (by decide)]
  go_wp2
  go_ret
  exact ⟨rfl, HR1.out, hb1⟩
set_option maxHeartbeats 1000000 in
theorem float_ok (g : Nat) (ad : Option Addr) (cap : Nat) (l : List Nat) (k : Nat) (w : World) (h : Rd w g ad cap l k 0 0) (hl : l.length ≤ 10000) (hs : k + 8 ≤ l.length) :
    Calls Try.prog 18 #[.pointer (some ⟨g, 0, none⟩)] w fun e w' => e = .returned (.float .f64 (val l k 8)) ∧ Rd w' g ad cap l (k + 8) 0 0 ∧ But g w w' := by
  have HR := Lib.hid h
  clear h
  have hfb := frombits_call
  go_enter Try.func18, Try.ntmps18
  go_wp2_with fail
  refine (ok_any g ad cap l k 0 0 (_) HR.out).mono ?_
  rintro e w' ⟨rfl, rfl⟩
  rw [show decide ((0 : Int) = 0) = true from rfl]
  go_wp2_with fail
  refine (bits_ok g ad cap l k 8 _ HR.out hl hs (by omega)).mono ?_
  rintro e w' ⟨rfl, n, rfl⟩
  generalize hval : val l k 8 = v
  have HV := Lib.hid hval
  clear hval
  have hdr : Below w.heap.size w (w.drewN n) := below_drewN (Below.refl _ _) n
  have HR2 := Lib.hid (HR.out.below hdr)
  go_wp2_with fail
  refine (ok_any g ad cap l k 0 0 (_) HR2.out).mono ?_
  rintro e w' ⟨rfl, rfl⟩
  rw [show decide ((0 : Int) = 0) = true from rfl]
  have h1 := HR2.out.c1
  have h4 := HR2.out.fz 1
  have hset : But g (w.drewN n) ((w.drewN n).setCell ⟨g, 1, none⟩ (.int .i64 ((k : Int) + 8))) := But.set g 1 _ _
  have Hgo := Lib.hid ((But.of hdr).trans hset)
  have hmv : Rd ((w.drewN n).setCell ⟨g, 1, none⟩ (.int .i64 ((k : Int) + 8))) g ad cap l (k + 8) 0 0 := by
    have h := Rd.moves HR2.out (k + 8)
    rw [Int.natCast_add] at h; exact h
  have Hmv := Lib.hid hmv
  clear hset hmv
  go_wp2
  go_ret
  try rw [HSZ.out]
  exact ⟨HV.out.symm ▸ rfl, Hmv.out, Hgo.out⟩
theorem num_any (g : Nat) (ad : Option Addr) (cap : Nat) (l : List Nat) (s : St) (size low high : Int) (w : World) (h : Rs w g ad cap l s) (hl : l.length ≤ 10000) (hg : Nm.Good l s) :
    Calls Try.prog 15 #[.pointer (some ⟨g, 0, none⟩), .int .i64 size, .int .i64 low, .int .i64 high] w fun e w' =>
      e = .returned (.int .i64 (num l s (lim size 7) low high).1) ∧ Rs w' g ad cap l (num l s (lim size 7) low high).2 ∧ But g w w' := by
  obtain ⟨k, code, fat⟩ := s
  unfold num
  by_cases h0 : code ≠ 0
  · rw [if_pos h0]; exact num_dead g ad cap l k code fat size low high w h h0
  · rw [if_neg h0]
    obtain rfl : code = 0 := by omega
    obtain rfl : fat = 0 := hg.2 rfl
    by_cases h1 : l.length < k + lim size 7
    · rw [if_pos h1]; exact num_end g ad cap l k size low high w h hl hg.1 h1
    · rw [if_neg h1]
      by_cases h2 : (val l k (lim size 7) : Int) < low
      · rw [if_pos (.inl h2)]; exact num_below g ad cap l k size low high w h hl (by omega) h2
      · by_cases h3 : high < (val l k (lim size 7) : Int)
        · rw [if_pos (.inr h3)]; exact num_above g ad cap l k size low high w h hl (by omega) h2 h3
        · rw [if_neg (by rintro (h | h) <;> contradiction)]; exact num_ok g ad cap l k size low high w h hl (by omega) h2 h3
theorem float_any (g : Nat) (ad : Option Addr) (cap : Nat) (l : List Nat) (s : St) (w : World) (h : Rs w g ad cap l s) (hl : l.length ≤ 10000) (hg : Nm.Good l s) :
    Calls Try.prog 18 #[.pointer (some ⟨g, 0, none⟩)] w fun e w' =>
      e = .returned (.float .f64 (flt l s).1) ∧ Rs w' g ad cap l (flt l s).2 ∧ But g w w' := by
  obtain ⟨k, code, fat⟩ := s
  unfold flt
  by_cases h0 : code ≠ 0
  · rw [if_pos h0]; exact float_dead g ad cap l k code fat w h h0
  · rw [if_neg h0]
    obtain rfl : code = 0 := by omega
    obtain rfl : fat = 0 := hg.2 rfl
    by_cases h1 : l.length < k + 8
    · rw [if_pos h1]; exact float_end g ad cap l k w h hl hg.1 h1
    · rw [if_neg h1]; exact float_ok g ad cap l k w h hl (by omega)
set_option maxHeartbeats 1000000 in
theorem bool_any (g : Nat) (ad : Option Addr) (cap : Nat) (l : List Nat) (s : St) (w : World) (h : Rs w g ad cap l s) (hl : l.length ≤ 10000) (hg : Nm.Good l s) :
    Calls Try.prog 20 #[.pointer (some ⟨g, 0, none⟩)] w fun e w' =>
      e = .returned (.bool (decide ((num l s 1 0 1).1 = 1))) ∧ Rs w' g ad cap l (num l s 1 0 1).2 ∧ But g w w' := by
  have h1 := num_any g ad cap l s 1 0 1 w h hl hg
  rw [show lim 1 7 = 1 from rfl] at h1
  generalize num l s 1 0 1 = r at h1
  clear h hg
  go_enter Try.func20, Try.ntmps20
  go_wp2_with fail
  refine h1.mono ?_
  rintro e w' ⟨rfl, hr, hb⟩
  have HR := Lib.hid hr
  clear hr h1
  go_wp2
  go_ret
  exact ⟨rfl, HR.out, hb⟩
end Go.Proofs.Ytmffgdgnaafbpaa.Rf
