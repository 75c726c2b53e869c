/- Package detect and the document's own answer on it: the small functions. -/
import Derived.Test.YtbmcendlpeaaeaaRows
import Derived.Test.YtbmcendlpeaaeaaLvW
import Derived.Test.YtbmcendlpeaaeaaDlyS
import Derived.Test.YtbmcendlpeaaeaaDig
import Derived.Test.YtbmcendlpeaaeaaBlk
import Derived.Test.YtbmcendlpeaaeaaQT
import Derived.Test.YtbmcendlpeaaeaaPw
import Derived.BigQuiet
import Derived.LoopTactic
namespace Go.Proofs.Ytbmcendlpeaaeaa.Dtc
open Go.ChangeShapes Go.WideShapes Go.ChangeAt Go.RowKit
open Tab Flat TabArg Go.Proofs.Fl
open Lvl (Lv stp failed)
open Dig (Wd wat stk)
open Dly (Tm tmr)
open Secs (quo_holds ret_int)
set_option linter.unusedVariables false
set_option linter.unusedSimpArgs false
structure Ch where
  lv : Lv
  wd : Wd
  tm : Tm
deriving DecidableEq
def Ch.cells (c : Ch) : List Value := [.bool c.lv.on, I c.lv.bad, I c.wd.on, I c.wd.off, I c.tm.held, I c.tm.tail, .bool c.tm.out]
theorem Ch.one (c : Ch) : c.cells.toArray.all (·.oneCell') = true := by simp [Ch.cells, Value.oneCell']
theorem Ch.inj {c d : Ch} (h : c.cells = d.cells) : c = d := by
  obtain ⟨⟨a0, a1⟩, ⟨a2, a3⟩, a4, a5, a6⟩ := c
  obtain ⟨⟨b0, b1⟩, ⟨b2, b3⟩, b4, b5, b6⟩ := d
  simp [Ch.cells] at h
  simp [h]
def zCh : Ch := ⟨⟨false, 0⟩, ⟨0, 0⟩, ⟨0, 0, false⟩⟩
instance : Inhabited Ch := ⟨zCh⟩
abbrev chT : List TypeId := [4, 3, 3, 3, 3, 3, 4]
theorem flC : flat Try.prog 5 63 = some chT := by kernel_rfl
section
variable {H : Type} {enc : TypeId × Value → H} {P : Program} {w : World} {base : Nat} {spare : Nat → Bool} {held : Bool}
theorem ch_el : ∀ {cs : List Value}, All2 (Tr enc Try.prog w base spare held) chT cs → ∃ c : Ch, cs = c.cells
  | [_, _, _, _, _, _, _], ⟨h0, h1, h2, h3, h4, h5, h6, _⟩ => by
    obtain ⟨v0, rfl⟩ := tr_bool Try.underlying4 h0
    obtain ⟨v1, rfl⟩ := tr_int Try.underlying3 h1
    obtain ⟨v2, rfl⟩ := tr_int Try.underlying3 h2
    obtain ⟨v3, rfl⟩ := tr_int Try.underlying3 h3
    obtain ⟨v4, rfl⟩ := tr_int Try.underlying3 h4
    obtain ⟨v5, rfl⟩ := tr_int Try.underlying3 h5
    obtain ⟨v6, rfl⟩ := tr_bool Try.underlying4 h6
    exact ⟨⟨⟨v0, v1⟩, ⟨v2, v3⟩, ⟨v4, v5, v6⟩⟩, rfl⟩
end
theorem infoC : (Try.prog.info? 63).map (·.size) = some 7 := by kernel_rfl
theorem infoD : (Try.prog.info? 53).map (·.size) = some 7 := by kernel_rfl
/-- a time of a table, in ticks: 0 for what is none -/
def tkv (s : Nat) : Int := if ok s = true then (tk s : Int) else 0
/-- one detector, one tick -/
def chn (d : Det) (c : Ch) (x : Nat) : Ch :=
  ⟨stp d.on d.off c.lv x, wat c.wd (Lvl.seen (stp d.on d.off c.lv x)), tmr (tkv d.delay) (tkv d.extend) c.tm (Lvl.seen (stp d.on d.off c.lv x))⟩
def out (d : Det) (c : Ch) : Bool := c.tm.out || (failed c.lv || stk d.maxOn d.maxOff c.wd)
abbrev NAN : Nat := 9221120237041090561
theorem nan_any (w : World) : Calls Try.prog 16 #[] w fun e w' => e = .returned (.float .f64 NAN) ∧ w = w' := by
  have hf := Lvl.frombits_call
  go_enter Try.func16, Try.ntmps16
  go_wp2_with (simp only [hf])
  go_ret
  exact ⟨rfl, rfl⟩
theorem ticks_is {x : Nat} {n : Int} (h : tkv x = n) (w : World) : Calls Try.prog 47 #[.float .f64 x] w fun e w' => e = .returned (.int .i64 n) ∧ w = w' := by
  subst h
  cases hk : ok x
  · have HK := Lib.hid hk
    have HE : Hid (tkv x = 0) := Lib.hid (by unfold tkv; rw [if_neg (by rw [hk]; simp)])
    clear hk
    go_enter Try.func47, Try.ntmps47
    go_wp2_with (go_at_call 68; refine (Secs.ticks_no quo_holds HK.out _).mono ?_; rintro e w' ⟨rfl, rfl⟩)
    go_ret
    exact ⟨ret_int HE.out.symm, rfl⟩
  · have HK := Lib.hid hk
    have HE : Hid (tkv x = (tk x : Int)) := Lib.hid (by unfold tkv; rw [if_pos hk])
    clear hk
    go_enter Try.func47, Try.ntmps47
    go_wp2_with (go_at_call 68; refine (Secs.ticks_yes quo_holds HK.out _).mono ?_; rintro e w' ⟨rfl, rfl⟩)
    go_ret
    exact ⟨ret_int HE.out.symm, rfl⟩
theorem rticks_is {x : Nat} {n : Int} {b : Bool} (h : tkv x = n) (hb : ok x = b) (w : World) : Calls Try.prog 23 #[.float .f64 x] w fun e w' => e = .returned (.tuple #[.int .i64 n, .bool b]) ∧ w = w' := by
  subst h hb
  cases hk : ok x
  · have HE : tkv x = 0 := by unfold tkv; rw [if_neg (by rw [hk]; simp)]
    rw [HE]; exact Secs.rticks_no hk w
  · have HE : tkv x = (tk x : Int) := by unfold tkv; rw [if_pos hk]
    rw [HE]; exact Secs.rticks_yes hk w
set_option maxHeartbeats 4000000 in
theorem elc_is {a : Option Addr} {cap len i : Nat} {l : List Ch} {w : World} {b : Bool} {n wa wb h t : Int} {o : Bool} (hr : RowOf 7 Ch.cells w ⟨a, cap⟩ l) (hn : l.length = len) (hc : l.getD i zCh = ⟨⟨b, n⟩, ⟨wa, wb⟩, h, t, o⟩) :
    Calls Try.prog 21 #[.slice a len cap, .int .i64 (i : Int), .agg #[.bool false, I 0, I 0, I 0, I 0, I 0, .bool false]] w fun e w' => e = .returned (.agg #[.bool b, I n, I wa, I wb, I h, I t, .bool o]) ∧ Below w.heap.size w w' := by
  have h0 := ((Blk.Bks.nil w).alloc #[.bool false, I 0, I 0, I 0, I 0, I 0, .bool false] 63).alloc #[.bool false, I 0, I 0, I 0, I 0, I 0, .bool false] 63
  rw [show (w.alloc (.cells #[.bool false, I 0, I 0, I 0, I 0, I 0, .bool false] 63)).heap.size = w.heap.size + 1 by simp] at h0
  have hlen := hr.len
  unfold maxLen at hlen
  rw [hn] at hlen
  by_cases hi : i < len
  · obtain ⟨y, hy, hl⟩ := hr.at (i := i) (v := l.getD i zCh) (by rw [List.getD_eq_getElem?_getD, List.getElem?_eq_getElem (by omega)]; rfl)
    obtain rfl : a = some y := hy
    rw [hc] at hl
    have HR := Lib.hid hl
    clear hl hr hc hn
    go_enter Try.func21, Try.ntmps21
    go_upto_region 1 with fail
    generalize World.alloc (World.alloc w _) _ = u at h0 ⊢
    generalize hgr : w.heap.size + 1 = gr at h0 ⊢
    generalize w.heap.size = gm at h0 ⊢
    clear hgr
    have H0 := Lib.hid h0
    clear h0
    have HL : Hid (Lies u (y.add (i * 7)) (Ch.cells ⟨⟨b, n⟩, ⟨wa, wb⟩, h, t, o⟩)) := Lib.hid (HR.out.below H0.out.bel)
    go_wp2_with (first | (refine Row.wpList_load_lies rfl 63 _ rfl (y.add (i * 7)) rfl (Ch.cells ⟨⟨b, n⟩, ⟨wa, wb⟩, h, t, o⟩) _ HL.out Try.underlying63 rfl infoC ?_) | (refine wpList_store_row rfl 63 _ _ rfl gr #[.bool b, I n, I wa, I wb, I h, I t, .bool o] rfl rfl 63 _ (H0.out.at 0 rfl) infoC rfl (by simp [Value.oneCell']) ?_))
    have hput := H0.out.put 0 rfl #[.bool b, I n, I wa, I wb, I h, I t, .bool o]
    simp only [List.set_cons_zero] at hput
    generalize World.setRow _ gr _ = u2 at hput ⊢
    have HG := Lib.hid hput
    clear hput
    go_wp2_with fail
    (try simp only [Exit.inBlock, Exit.then])
    refine bodyPost_ret (v := .agg #[.bool b, I n, I wa, I wb, I h, I t, .bool o]) ?_ rfl ⟨rfl, HG.out.bel⟩
    exact results_cell_row rfl _ _ gr 63 _ (0, 0) _ rfl (HG.out.at 0 rfl) Try.underlying63 rfl infoC
  · rw [List.getD_eq_getElem?_getD, List.getElem?_eq_none (by omega)] at hc
    have hc : zCh = _ := hc
    unfold zCh at hc
    injection hc with e1 e2 e3
    injection e1 with e11 e12
    injection e2 with e21 e22
    injection e3 with e31 e32 e33
    subst e11 e12 e21 e22 e31 e32 e33
    clear hr hn
    go_enter Try.func21, Try.ntmps21
    go_upto_region 1 with fail
    generalize World.alloc (World.alloc w _) _ = u at h0 ⊢
    generalize hgr : w.heap.size + 1 = gr at h0 ⊢
    generalize w.heap.size = gm at h0 ⊢
    clear hgr
    have H0 := Lib.hid h0
    clear h0
    have k1_0 : u.cell? ⟨gm, 0, none⟩ = some (Value.bool false) := H0.out.cell 1 0 rfl rfl
    have k1_1 : u.cell? ⟨gm, 1, none⟩ = some (I 0) := H0.out.cell 1 1 rfl rfl
    have k1_2 : u.cell? ⟨gm, 2, none⟩ = some (I 0) := H0.out.cell 1 2 rfl rfl
    have k1_3 : u.cell? ⟨gm, 3, none⟩ = some (I 0) := H0.out.cell 1 3 rfl rfl
    have k1_4 : u.cell? ⟨gm, 4, none⟩ = some (I 0) := H0.out.cell 1 4 rfl rfl
    have k1_5 : u.cell? ⟨gm, 5, none⟩ = some (I 0) := H0.out.cell 1 5 rfl rfl
    have k1_6 : u.cell? ⟨gm, 6, none⟩ = some (Value.bool false) := H0.out.cell 1 6 rfl rfl
    go_wp2_with (first | (refine wpList_store_row rfl 63 _ _ rfl gr #[.bool false, I 0, I 0, I 0, I 0, I 0, .bool false] rfl rfl 63 _ (H0.out.at 0 rfl) infoC rfl (by simp [Value.oneCell']) ?_))
    have hput := H0.out.put 0 rfl #[.bool false, I 0, I 0, I 0, I 0, I 0, .bool false]
    simp only [List.set_cons_zero] at hput
    generalize World.setRow _ gr _ = u2 at hput ⊢
    have HG := Lib.hid hput
    clear hput
    go_wp2_with fail
    (try simp only [Exit.inBlock, Exit.then])
    refine bodyPost_ret (v := .agg #[.bool false, I 0, I 0, I 0, I 0, I 0, .bool false]) ?_ rfl ⟨rfl, HG.out.bel⟩
    exact results_cell_row rfl _ _ gr 63 _ (0, 0) _ rfl (HG.out.at 0 rfl) Try.underlying63 rfl infoC
theorem elf_in {y : Addr} {cap len i x : Nat} {w : World} (hi : i < len) (hl : len ≤ cap) (hcap : cap ≤ maxLen) (hc : w.cell? (y.add i) = some (F x)) (z : Nat) :
    Calls Try.prog 22 #[.slice (some y) len cap, .int .i64 (i : Int), .float .f64 z] w fun e w' => e = .returned (.float .f64 x) ∧ w = w' := by
  unfold maxLen at hcap
  go_enter Try.func22, Try.ntmps22
  go_wp2
  go_ret
  exact ⟨rfl, rfl⟩
theorem elf_out {a : Option Addr} {cap len i : Nat} {w : World} (hi : len ≤ i) (z : Nat) :
    Calls Try.prog 22 #[.slice a len cap, .int .i64 (i : Int), .float .f64 z] w fun e w' => e = .returned (.float .f64 z) ∧ w = w' := by
  have hi2 : ¬ i < len := by omega
  go_enter Try.func22, Try.ntmps22
  go_wp2
  go_ret
  exact ⟨rfl, rfl⟩
end Go.Proofs.Ytbmcendlpeaaeaa.Dtc
