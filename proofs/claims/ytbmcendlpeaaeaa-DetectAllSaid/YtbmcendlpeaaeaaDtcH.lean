/- Package detect: Here, and the document's own Here: the set of the phases that are called. -/
import Derived.Test.YtbmcendlpeaaeaaDtcT
import Derived.Test.YtbmcendlpeaaeaaRefS
import Derived.BigQuiet
namespace Go.Proofs.Ytbmcendlpeaaeaa.Dtc
open Go.ChangeShapes Go.WideShapes Go.ChangeAt Go.RowKit
open Tab Flat TabArg Copy Go.Proofs.Fl
open Lvl (Lv stp failed)
open Dig (Wd wat stk)
open Dly (Tm tmr)
set_option linter.unusedVariables false
set_option linter.unusedSimpArgs false
set_option maxRecDepth 100000
/-- Whom the first q detectors call. -/
def her (ds : List Det) (l : List Ch) : Nat → Nat
  | 0 => 0
  | q + 1 => if out (ds.getD q default) (l.getD q zCh) = true then SetM.withN (her ds l q : Nat) (ds.getD q default).phase else her ds l q
theorem her_lt (ds : List Det) (l : List Ch) : ∀ q, her ds l q < 256
  | 0 => by show 0 < 256; decide
  | q + 1 => by unfold her; split; exact SetM.with_lt _ _; exact her_lt ds l q
theorem or_with (s : Nat) (p : Int) (h : s < 256) : bits .or .i64 (s : Int) (SetM.bit p) = (SetM.withN (s : Nat) p : Int) := by
  show IntKind.i64.wrap ((BitVec.ofInt 64 (s : Int) ||| BitVec.ofInt 64 (SetM.bit p : Int)).toNat : Nat) = _
  rw [BitVec.toNat_or, SetM.toNat_ofNat s h, SetM.toNat_ofNat _ (SetM.bit_lt p), SetM.wrap_small _ (Nat.or_lt_two_pow (n := 8) h (SetM.bit_lt p))]
  unfold SetM.withN
  rw [SetM.low_nat s h]
/-- A whole row is loaded in a walk by a class. -/
theorem wpQuiet_load {P : Program} {C : World → Prop} {ops : Array Oper} {Q : Act → Prop} {a : Act} {o : Oper} {rest : List Oper} (hw : Region.wanted o (yielded ops a.tmps) = true) (ty : TypeId) (x : Operand) (ho : o.op = .load ty x) (y : Addr) (hx : a.eval x = .pointer (some y))
    (cs : List Value) (d : TypeDesc) (hc : ∀ w, C w → Lies w y cs) (hu : P.underlying ty = some d) (hd : d.isRow = true) (hi : (P.info? ty).map (·.size) = some cs.length) (h : wpQuiet P ops C Q rest (a.put o.dst (.agg cs.toArray))) : wpQuiet P ops C Q (o :: rest) a :=
  wpQuiet_step fun K hK => by
    rw [if_pos hw]
    refine ⟨_, fun w hw' => ?_, hK _ h⟩
    unfold Oper.quietAt execOp
    simp only [ho, hx, Instr.loadAt, Instr.sureAddr, Sem.run_bind, Sem.run_pure, Result.andThen_ok, Row.run_loadVar_lies w y ty cs d (hc w hw') hu hd hi]
    exact ⟨rfl, rfl⟩
set_option maxHeartbeats 8000000 in
theorem here_any {T : Tab} {hd : Hd} {w : World} (ht : IsTab w hd T) {a : Option Addr} {cap : Nat} {l : List Ch} (hl : RowOf 7 Ch.cells w ⟨a, cap⟩ l) :
    Calls Try.prog 12 #[.agg (T.cells hd).toArray, .slice a l.length cap] w fun e w' => e = .returned (.int .i64 (her T.dets l (min T.dets.length l.length) : Nat)) ∧ Below w.heap.size w w' := by
  have CK := Lib.hid (cells_ok ht)
  have HR := Lib.hid ht.dets
  have HL := Lib.hid hl
  have hll := hl.len
  have hdd := ht.dets.len
  have q113 := CK.out.d
  generalize (T.cells hd).toArray = tc at *
  obtain ⟨sg, ⟨da, dcap⟩, sr, sb⟩ := hd
  generalize T.dets = ds at *
  have HLT := Lib.hid (her_lt ds l)
  have HS : Hid (∀ (q : Nat) (d : Det) (c : Ch) (r : Bool), ds[q]? = some d → l[q]? = some c → out d c = r → her ds l (q + 1) = if r = true then SetM.withN (her ds l q : Nat) d.phase else her ds l q) := Lib.hid (fun q d c r h1 h2 h3 => by
    show (if out (ds.getD q default) (l.getD q zCh) = true then _ else _) = _
    rw [List.getD_eq_getElem?_getD (l := ds), List.getD_eq_getElem?_getD (l := l), h1, h2, Option.getD_some, Option.getD_some, h3])
  have H0 : Hid (her ds l 0 = 0) := Lib.hid rfl
  generalize her ds l = hh at *
  generalize hn : ds.length = n at *
  have HN := Lib.hid hn
  generalize hn1 : l.length = n1 at *
  have HN1 := Lib.hid hn1
  unfold maxLen at hll hdd
  obtain ⟨hl1, hl2⟩ := hll
  obtain ⟨hd1, hd2⟩ := hdd
  clear hn hn1 CK ht hl
  have h0 := (Blk.Bks.nil w).alloc tc 31
  obtain ⟨m, hm⟩ : ∃ m, min n n1 = m := ⟨_, rfl⟩
  have hm1 : m ≤ n := by omega
  have hm2 : m ≤ n1 := by omega
  rw [hm]
  go_enter Try.func12, Try.ntmps12
  go_upto_region 1 with fail
  generalize World.alloc w _ = u at h0 ⊢
  generalize w.heap.size = gt at h0 ⊢
  have HB0 := Lib.hid h0
  clear h0
  have k113 : u.cell? ⟨gt, 113, none⟩ = some (.slice da n dcap) := HB0.out.cell 0 113 rfl q113
  rcases Nat.lt_or_ge n1 n with hx | hx
  · have HM : Hid ((n1 : Int) = (m : Int)) := Lib.hid (by omega)
    clear hm
    go_upto_region 3 with fail
    rw [HM.out]
    clear k113 hx HM
    go_wp2_with fail
    go_loopw [5, 14] (fun v i wr => ∃ (q : Nat), q ≤ m ∧ i = .int .i64 q ∧ v = .int .i64 (hh q : Nat) ∧ Blk.Bks w [(gt, tc, 31)] wr) (fun _ i _ => m - (intOf i).toNat)
    case atStart => exact ⟨0, by omega, rfl, by rw [H0.out]; rfl, HB0.out⟩
    case round =>
      clear HB0
      obtain ⟨q, hq, rfl, rfl, hB⟩ := hrel
      have HB := Lib.hid hB
      clear hB
      have k113 : wr.cell? ⟨gt, 113, none⟩ = some (.slice da n dcap) := HB.out.cell 0 113 rfl q113
      by_cases hlt : q < m
      · obtain ⟨d, hd⟩ : ∃ d, ds[q]? = some d := ⟨_, List.getElem?_eq_getElem (by rw [HN.out]; omega)⟩
        obtain ⟨c, hc⟩ : ∃ c, l[q]? = some c := ⟨_, List.getElem?_eq_getElem (by rw [HN1.out]; omega)⟩
        obtain ⟨y, hy, hly⟩ := HR.out.at hd
        obtain ⟨z, hz, hlz⟩ := HL.out.at hc
        obtain rfl : da = some y := hy
        obtain rfl : a = some z := hz
        obtain ⟨r, hr⟩ : ∃ r, out d c = r := ⟨_, rfl⟩
        have HST := Lib.hid (HS.out q d c r hd hc hr)
        have HLQ := Lib.hid (HLT.out q)
        clear HS hd hc H0
        obtain ⟨ph, on, off, dl, ex, mo, mf⟩ := d
        obtain ⟨⟨b, n'⟩, ⟨wa, wb⟩, h, t, o⟩ := c
        dsimp only at HST
        have HRR := Lib.hid hr
        have HLY := Lib.hid (Lies.below hly HB.out.bel)
        have HLZ := Lib.hid hlz
        clear hly hlz hr
        go_upto_region 6 with (first | (refine Row.wpList_load_lies rfl 53 _ rfl (y.add (q * 7)) rfl (Det.cells ⟨ph, on, off, dl, ex, mo, mf⟩) _ HLY.out Try.underlying53 rfl infoD ?_) | (refine Row.wpList_store_new rfl 53 _ _ rfl _ _ #[I ph, F on, F off, F dl, F ex, I mo, I mf] rfl rfl rfl infoD rfl (by simp [Value.oneCell']) ?_))
        have hr := HB.out.alloc #[I ph, F on, F off, F dl, F ex, I mo, I mf] 53
        generalize World.alloc wr _ = W1 at hr ⊢
        generalize wr.heap.size = gd at hr ⊢
        have HB1 := Lib.hid hr
        clear hr HLY k113 HB
        have HZQ : Hid (∀ w', (∃ p : QB.By W1.heap.size W1, w' = p.world) → Lies w' (z.add (q * 7)) (Ch.cells ⟨⟨b, n'⟩, ⟨wa, wb⟩, h, t, o⟩)) := Lib.hid (fun w' ⟨p, e⟩ => by rw [e]; exact Lies.below HLZ.out (HB1.out.by p).bel)
        have k0_0 : ∀ p : QB.By W1.heap.size W1, p.world.cell? ⟨gd, 0, none⟩ = some (I ph) := fun p => (HB1.out.by p).cell 0 0 rfl rfl
        have k0_1 : ∀ p : QB.By W1.heap.size W1, p.world.cell? ⟨gd, 1, none⟩ = some (F on) := fun p => (HB1.out.by p).cell 0 1 rfl rfl
        have k0_2 : ∀ p : QB.By W1.heap.size W1, p.world.cell? ⟨gd, 2, none⟩ = some (F off) := fun p => (HB1.out.by p).cell 0 2 rfl rfl
        have k0_3 : ∀ p : QB.By W1.heap.size W1, p.world.cell? ⟨gd, 3, none⟩ = some (F dl) := fun p => (HB1.out.by p).cell 0 3 rfl rfl
        have k0_4 : ∀ p : QB.By W1.heap.size W1, p.world.cell? ⟨gd, 4, none⟩ = some (F ex) := fun p => (HB1.out.by p).cell 0 4 rfl rfl
        have k0_5 : ∀ p : QB.By W1.heap.size W1, p.world.cell? ⟨gd, 5, none⟩ = some (I mo) := fun p => (HB1.out.by p).cell 0 5 rfl rfl
        have k0_6 : ∀ p : QB.By W1.heap.size W1, p.world.cell? ⟨gd, 6, none⟩ = some (I mf) := fun p => (HB1.out.by p).cell 0 6 rfl rfl
        have hqn : q < n1 := by omega
        refine QB.region_below W1.heap.size (by kernel_rfl) (by kernel_rfl) ?_
        quiet_step (fail)
        quiet_step (fail)
        quiet_step (fail)
        quiet_step (fail)
        refine wpQuiet_load rfl 63 _ rfl (z.add (q * 7)) rfl (Ch.cells ⟨⟨b, n'⟩, ⟨wa, wb⟩, h, t, o⟩) _ HZQ.out Try.underlying63 rfl infoC ?_
        dsimp only [Act.put, Ch.cells]
        simp only [List.setIfInBounds_toArray, List.set_cons_zero, List.set_cons_succ]
        quiet_step ((go_at_call 28; exact QB.call_of (Nat.le_refl _) (fun b => calls_is HRR.out _)))
        refine wpQuiet_nil ?_
        intro _ hw'
        obtain ⟨p, rfl⟩ := hw'
        have HB2 := Lib.hid (HB1.out.by p)
        clear HB1 HZQ k0_0 k0_1 k0_2 k0_3 k0_4 k0_5 k0_6
        generalize p.world = W2 at HB2 ⊢
        cases r
        · have HB3 := Lib.hid HB2.out.drop
          simp only [Bool.false_eq_true, if_false] at HST
          go_wp2
          go_roundw
          case rel => exact ⟨q + 1, by omega, by go_num, by rw [HST.out], HB3.out⟩
          case measure => simp [intOf]; omega
        · have kp : W2.cell? ⟨gd, 0, none⟩ = some (I ph) := HB2.out.cell 0 0 rfl rfl
          have HB3 := Lib.hid HB2.out.drop
          rw [if_pos rfl] at HST
          have HOR := Lib.hid (or_with (hh q) ph HLQ.out)
          go_wp2_with (go_at_call 29; refine (bit_any _ _).mono ?_; rintro e w' ⟨rfl, rfl⟩)
          go_roundw
          case rel => exact ⟨q + 1, by omega, by go_num, by rw [HST.out, HOR.out], HB3.out⟩
          case measure => simp [intOf]; omega
      · obtain rfl : q = m := by omega
        have HBB := Lib.hid HB.out.bel
        go_wp2
        go_ret
        exact ⟨rfl, HBB.out⟩
  · have HM : Hid ((n : Int) = (m : Int)) := Lib.hid (by omega)
    clear hm
    go_upto_region 3 with fail
    rw [HM.out]
    clear k113 hx HM
    go_wp2_with fail
    go_loopw [5, 14] (fun v i wr => ∃ (q : Nat), q ≤ m ∧ i = .int .i64 q ∧ v = .int .i64 (hh q : Nat) ∧ Blk.Bks w [(gt, tc, 31)] wr) (fun _ i _ => m - (intOf i).toNat)
    case atStart => exact ⟨0, by omega, rfl, by rw [H0.out]; rfl, HB0.out⟩
    case round =>
      clear HB0
      obtain ⟨q, hq, rfl, rfl, hB⟩ := hrel
      have HB := Lib.hid hB
      clear hB
      have k113 : wr.cell? ⟨gt, 113, none⟩ = some (.slice da n dcap) := HB.out.cell 0 113 rfl q113
      by_cases hlt : q < m
      · obtain ⟨d, hd⟩ : ∃ d, ds[q]? = some d := ⟨_, List.getElem?_eq_getElem (by rw [HN.out]; omega)⟩
        obtain ⟨c, hc⟩ : ∃ c, l[q]? = some c := ⟨_, List.getElem?_eq_getElem (by rw [HN1.out]; omega)⟩
        obtain ⟨y, hy, hly⟩ := HR.out.at hd
        obtain ⟨z, hz, hlz⟩ := HL.out.at hc
        obtain rfl : da = some y := hy
        obtain rfl : a = some z := hz
        obtain ⟨r, hr⟩ : ∃ r, out d c = r := ⟨_, rfl⟩
        have HST := Lib.hid (HS.out q d c r hd hc hr)
        have HLQ := Lib.hid (HLT.out q)
        clear HS hd hc H0
        obtain ⟨ph, on, off, dl, ex, mo, mf⟩ := d
        obtain ⟨⟨b, n'⟩, ⟨wa, wb⟩, h, t, o⟩ := c
        dsimp only at HST
        have HRR := Lib.hid hr
        have HLY := Lib.hid (Lies.below hly HB.out.bel)
        have HLZ := Lib.hid hlz
        clear hly hlz hr
        go_upto_region 6 with (first | (refine Row.wpList_load_lies rfl 53 _ rfl (y.add (q * 7)) rfl (Det.cells ⟨ph, on, off, dl, ex, mo, mf⟩) _ HLY.out Try.underlying53 rfl infoD ?_) | (refine Row.wpList_store_new rfl 53 _ _ rfl _ _ #[I ph, F on, F off, F dl, F ex, I mo, I mf] rfl rfl rfl infoD rfl (by simp [Value.oneCell']) ?_))
        have hr := HB.out.alloc #[I ph, F on, F off, F dl, F ex, I mo, I mf] 53
        generalize World.alloc wr _ = W1 at hr ⊢
        generalize wr.heap.size = gd at hr ⊢
        have HB1 := Lib.hid hr
        clear hr HLY k113 HB
        have HZQ : Hid (∀ w', (∃ p : QB.By W1.heap.size W1, w' = p.world) → Lies w' (z.add (q * 7)) (Ch.cells ⟨⟨b, n'⟩, ⟨wa, wb⟩, h, t, o⟩)) := Lib.hid (fun w' ⟨p, e⟩ => by rw [e]; exact Lies.below HLZ.out (HB1.out.by p).bel)
        have k0_0 : ∀ p : QB.By W1.heap.size W1, p.world.cell? ⟨gd, 0, none⟩ = some (I ph) := fun p => (HB1.out.by p).cell 0 0 rfl rfl
        have k0_1 : ∀ p : QB.By W1.heap.size W1, p.world.cell? ⟨gd, 1, none⟩ = some (F on) := fun p => (HB1.out.by p).cell 0 1 rfl rfl
        have k0_2 : ∀ p : QB.By W1.heap.size W1, p.world.cell? ⟨gd, 2, none⟩ = some (F off) := fun p => (HB1.out.by p).cell 0 2 rfl rfl
        have k0_3 : ∀ p : QB.By W1.heap.size W1, p.world.cell? ⟨gd, 3, none⟩ = some (F dl) := fun p => (HB1.out.by p).cell 0 3 rfl rfl
        have k0_4 : ∀ p : QB.By W1.heap.size W1, p.world.cell? ⟨gd, 4, none⟩ = some (F ex) := fun p => (HB1.out.by p).cell 0 4 rfl rfl
        have k0_5 : ∀ p : QB.By W1.heap.size W1, p.world.cell? ⟨gd, 5, none⟩ = some (I mo) := fun p => (HB1.out.by p).cell 0 5 rfl rfl
        have k0_6 : ∀ p : QB.By W1.heap.size W1, p.world.cell? ⟨gd, 6, none⟩ = some (I mf) := fun p => (HB1.out.by p).cell 0 6 rfl rfl
        have hqn : q < n1 := by omega
        refine QB.region_below W1.heap.size (by kernel_rfl) (by kernel_rfl) ?_
        quiet_step (fail)
        quiet_step (fail)
        quiet_step (fail)
        quiet_step (fail)
        refine wpQuiet_load rfl 63 _ rfl (z.add (q * 7)) rfl (Ch.cells ⟨⟨b, n'⟩, ⟨wa, wb⟩, h, t, o⟩) _ HZQ.out Try.underlying63 rfl infoC ?_
        dsimp only [Act.put, Ch.cells]
        simp only [List.setIfInBounds_toArray, List.set_cons_zero, List.set_cons_succ]
        quiet_step ((go_at_call 28; exact QB.call_of (Nat.le_refl _) (fun b => calls_is HRR.out _)))
        refine wpQuiet_nil ?_
        intro _ hw'
        obtain ⟨p, rfl⟩ := hw'
        have HB2 := Lib.hid (HB1.out.by p)
        clear HB1 HZQ k0_0 k0_1 k0_2 k0_3 k0_4 k0_5 k0_6
        generalize p.world = W2 at HB2 ⊢
        cases r
        · have HB3 := Lib.hid HB2.out.drop
          simp only [Bool.false_eq_true, if_false] at HST
          go_wp2
          go_roundw
          case rel => exact ⟨q + 1, by omega, by go_num, by rw [HST.out], HB3.out⟩
          case measure => simp [intOf]; omega
        · have kp : W2.cell? ⟨gd, 0, none⟩ = some (I ph) := HB2.out.cell 0 0 rfl rfl
          have HB3 := Lib.hid HB2.out.drop
          rw [if_pos rfl] at HST
          have HOR := Lib.hid (or_with (hh q) ph HLQ.out)
          go_wp2_with (go_at_call 29; refine (bit_any _ _).mono ?_; rintro e w' ⟨rfl, rfl⟩)
          go_roundw
          case rel => exact ⟨q + 1, by omega, by go_num, by rw [HST.out, HOR.out], HB3.out⟩
          case measure => simp [intOf]; omega
      · obtain rfl : q = m := by omega
        have HBB := Lib.hid HB.out.bel
        go_wp2
        go_ret
        exact ⟨rfl, HBB.out⟩
set_option maxHeartbeats 8000000 in
theorem rhere_any {T : Tab} {hd : Hd} {w : World} (ht : IsTab w hd T) {a : Option Addr} {cap : Nat} {l : List Ch} (hl : RowOf 7 Ch.cells w ⟨a, cap⟩ l) :
    Calls Try.prog 13 #[.agg (T.cells hd).toArray, .slice a l.length cap] w fun e w' => e = .returned (.int .i64 (her T.dets l (min T.dets.length l.length) : Nat)) ∧ Below w.heap.size w w' := by
  have CK := Lib.hid (cells_ok ht)
  have HR := Lib.hid ht.dets
  have HL := Lib.hid hl
  have hll := hl.len
  have hdd := ht.dets.len
  have q113 := CK.out.d
  generalize (T.cells hd).toArray = tc at *
  obtain ⟨sg, ⟨da, dcap⟩, sr, sb⟩ := hd
  generalize T.dets = ds at *
  have HLT := Lib.hid (her_lt ds l)
  have HS : Hid (∀ (q : Nat) (d : Det) (c : Ch) (r : Bool), ds[q]? = some d → l[q]? = some c → out d c = r → her ds l (q + 1) = if r = true then SetM.withN (her ds l q : Nat) d.phase else her ds l q) := Lib.hid (fun q d c r h1 h2 h3 => by
    show (if out (ds.getD q default) (l.getD q zCh) = true then _ else _) = _
    rw [List.getD_eq_getElem?_getD (l := ds), List.getD_eq_getElem?_getD (l := l), h1, h2, Option.getD_some, Option.getD_some, h3])
  have H0 : Hid (her ds l 0 = 0) := Lib.hid rfl
  generalize her ds l = hh at *
  generalize hn : ds.length = n at *
  have HN := Lib.hid hn
  generalize hn1 : l.length = n1 at *
  have HN1 := Lib.hid hn1
  unfold maxLen at hll hdd
  obtain ⟨hl1, hl2⟩ := hll
  obtain ⟨hd1, hd2⟩ := hdd
  clear hn hn1 CK ht hl
  have h0 := (Blk.Bks.nil w).alloc tc 31
  obtain ⟨m, hm⟩ : ∃ m, min n n1 = m := ⟨_, rfl⟩
  have hm1 : m ≤ n := by omega
  have hm2 : m ≤ n1 := by omega
  have hm3 : n ≤ m ∨ n1 ≤ m := by omega
  rw [hm]
  clear hm
  go_enter Try.func13, Try.ntmps13
  go_upto_region 1 with fail
  generalize World.alloc w _ = u at h0 ⊢
  generalize w.heap.size = gt at h0 ⊢
  have HB0 := Lib.hid h0
  clear h0
  go_wp2_with fail
  go_loopw [5, 6] (fun v i wr => ∃ (q : Nat), q ≤ m ∧ i = .int .i64 q ∧ v = .int .i64 (hh q : Nat) ∧ Blk.Bks w [(gt, tc, 31)] wr) (fun _ i _ => m - (intOf i).toNat)
  case atStart => exact ⟨0, by omega, rfl, by rw [H0.out]; rfl, HB0.out⟩
  case round =>
    clear HB0
    obtain ⟨q, hq, rfl, rfl, hB⟩ := hrel
    have HB := Lib.hid hB
    clear hB
    have k113 : wr.cell? ⟨gt, 113, none⟩ = some (.slice da n dcap) := HB.out.cell 0 113 rfl q113
    by_cases hlt : q < m
    · have hqn : q < n := by omega
      have hqn1 : q < n1 := by omega
      obtain ⟨d, hd⟩ : ∃ d, ds[q]? = some d := ⟨_, List.getElem?_eq_getElem (by rw [HN.out]; omega)⟩
      obtain ⟨c, hc⟩ : ∃ c, l[q]? = some c := ⟨_, List.getElem?_eq_getElem (by rw [HN1.out]; omega)⟩
      obtain ⟨y, hy, hly⟩ := HR.out.at hd
      obtain ⟨z, hz, hlz⟩ := HL.out.at hc
      obtain rfl : da = some y := hy
      obtain rfl : a = some z := hz
      obtain ⟨r, hr⟩ : ∃ r, out d c = r := ⟨_, rfl⟩
      have HST := Lib.hid (HS.out q d c r hd hc hr)
      have HLQ := Lib.hid (HLT.out q)
      clear HS hd hc H0
      obtain ⟨ph, on, off, dl, ex, mo, mf⟩ := d
      obtain ⟨⟨b, n'⟩, ⟨wa, wb⟩, h, t, o⟩ := c
      dsimp only at HST
      have HRR := Lib.hid hr
      have HLY := Lib.hid (Lies.below hly HB.out.bel)
      have HLZ := Lib.hid hlz
      clear hly hlz hr
      go_upto_region 6 with (first | (refine Row.wpList_load_lies rfl 53 _ rfl (y.add (q * 7)) rfl (Det.cells ⟨ph, on, off, dl, ex, mo, mf⟩) _ HLY.out Try.underlying53 rfl infoD ?_) | (refine Row.wpList_store_new rfl 53 _ _ rfl _ _ #[I ph, F on, F off, F dl, F ex, I mo, I mf] rfl rfl rfl infoD rfl (by simp [Value.oneCell']) ?_))
      have hr := HB.out.alloc #[I ph, F on, F off, F dl, F ex, I mo, I mf] 53
      generalize World.alloc wr _ = W1 at hr ⊢
      generalize wr.heap.size = gd at hr ⊢
      have HB1 := Lib.hid hr
      clear hr HLY k113 HB
      unfold out at HRR
      dsimp only at HRR
      have hr := HRR.out
      clear HRR
      obtain ⟨fl, hf⟩ : ∃ r, failed ⟨b, n'⟩ = r := ⟨_, rfl⟩
      obtain ⟨sk, hk⟩ : ∃ r, stk mo mf ⟨wa, wb⟩ = r := ⟨_, rfl⟩
      rw [hf, hk] at hr
      have HF := Lib.hid hf
      have HK := Lib.hid hk
      clear hf hk
      cases o
      · cases fl
        · obtain rfl : sk = r := by simpa using hr
          have k0_0 : ∀ p : QB.By W1.heap.size W1, p.world.cell? ⟨gd, 0, none⟩ = some (I ph) := fun p => (HB1.out.by p).cell 0 0 rfl rfl
          have k0_1 : ∀ p : QB.By W1.heap.size W1, p.world.cell? ⟨gd, 1, none⟩ = some (F on) := fun p => (HB1.out.by p).cell 0 1 rfl rfl
          have k0_2 : ∀ p : QB.By W1.heap.size W1, p.world.cell? ⟨gd, 2, none⟩ = some (F off) := fun p => (HB1.out.by p).cell 0 2 rfl rfl
          have k0_3 : ∀ p : QB.By W1.heap.size W1, p.world.cell? ⟨gd, 3, none⟩ = some (F dl) := fun p => (HB1.out.by p).cell 0 3 rfl rfl
          have k0_4 : ∀ p : QB.By W1.heap.size W1, p.world.cell? ⟨gd, 4, none⟩ = some (F ex) := fun p => (HB1.out.by p).cell 0 4 rfl rfl
          have k0_5 : ∀ p : QB.By W1.heap.size W1, p.world.cell? ⟨gd, 5, none⟩ = some (I mo) := fun p => (HB1.out.by p).cell 0 5 rfl rfl
          have k0_6 : ∀ p : QB.By W1.heap.size W1, p.world.cell? ⟨gd, 6, none⟩ = some (I mf) := fun p => (HB1.out.by p).cell 0 6 rfl rfl
          have z0 : ∀ p : QB.By W1.heap.size W1, p.world.cell? (z.add (q * 7)) = some (Value.bool b) := fun p => by have := Lies.below HLZ.out (HB1.out.by p).bel 0 _ rfl; rwa [Tab.add_zero] at this
          have z1 : ∀ p : QB.By W1.heap.size W1, p.world.cell? ⟨(z.add (q * 7)).block, (z.add (q * 7)).off + 1, none⟩ = some (I n') := fun p => by have := Lies.below HLZ.out (HB1.out.by p).bel 1 _ rfl; simpa [Addr.add] using this
          have z2 : ∀ p : QB.By W1.heap.size W1, p.world.cell? ⟨(z.add (q * 7)).block, (z.add (q * 7)).off + 2, none⟩ = some (I wa) := fun p => by have := Lies.below HLZ.out (HB1.out.by p).bel 2 _ rfl; simpa [Addr.add] using this
          have z3 : ∀ p : QB.By W1.heap.size W1, p.world.cell? ⟨(z.add (q * 7)).block, (z.add (q * 7)).off + 3, none⟩ = some (I wb) := fun p => by have := Lies.below HLZ.out (HB1.out.by p).bel 3 _ rfl; simpa [Addr.add] using this
          have z4 : ∀ p : QB.By W1.heap.size W1, p.world.cell? ⟨(z.add (q * 7)).block, (z.add (q * 7)).off + 4, none⟩ = some (I h) := fun p => by have := Lies.below HLZ.out (HB1.out.by p).bel 4 _ rfl; simpa [Addr.add] using this
          have z5 : ∀ p : QB.By W1.heap.size W1, p.world.cell? ⟨(z.add (q * 7)).block, (z.add (q * 7)).off + 5, none⟩ = some (I t) := fun p => by have := Lies.below HLZ.out (HB1.out.by p).bel 5 _ rfl; simpa [Addr.add] using this
          have z6 : ∀ p : QB.By W1.heap.size W1, p.world.cell? ⟨(z.add (q * 7)).block, (z.add (q * 7)).off + 6, none⟩ = some (Value.bool false) := fun p => by have := Lies.below HLZ.out (HB1.out.by p).bel 6 _ rfl; simpa [Addr.add] using this
          refine QB.region_below W1.heap.size (by kernel_rfl) (by kernel_rfl) ?_
          dsimp only [Act.put]
          repeat (go_big_quiet_step (first
            | (go_at_call 30; exact QB.call_of (Nat.le_refl _) (fun b => (HF.out ▸ Lvl.rfailed_is _)))
            | (go_at_call 31; exact QB.call_of (Nat.le_refl _) (fun b => Dig.rstuck_is HK.out _))))
          cases sk
          · refine wpQuiet_nil ?_
            intro _ hw'
            obtain ⟨p, rfl⟩ := hw'
            have HB2 := Lib.hid (HB1.out.by p)
            clear HB1 z0 z1 z2 z3 z4 z5 z6 k0_0 k0_1 k0_2 k0_3 k0_4 k0_5 k0_6
            generalize p.world = W2 at HB2 ⊢
            have HB3 := Lib.hid HB2.out.drop
            simp only [Bool.false_eq_true, if_false] at HST
            go_wp2
            go_roundw
            case rel => exact ⟨q + 1, by omega, by go_num, by rw [HST.out], HB3.out⟩
            case measure => simp [intOf]; omega
          · refine wpQuiet_nil ?_
            intro _ hw'
            obtain ⟨p, rfl⟩ := hw'
            have HB2 := Lib.hid (HB1.out.by p)
            clear HB1 z0 z1 z2 z3 z4 z5 z6 k0_0 k0_1 k0_2 k0_3 k0_4 k0_5 k0_6
            generalize p.world = W2 at HB2 ⊢
            have kp : W2.cell? ⟨gd, 0, none⟩ = some (I ph) := HB2.out.cell 0 0 rfl rfl
            rw [if_pos rfl] at HST
            go_wp2_with fail
            refine (RefS.rwith_any _ _ _).mono ?_
            rintro e W3 ⟨rfl, b3⟩
            have HB3 := Lib.hid (HB2.out.step b3).drop
            clear kp b3 HB2
            go_wp2
            go_roundw
            case rel => exact ⟨q + 1, by omega, by go_num, by rw [HST.out], HB3.out⟩
            case measure => simp [intOf]; omega
        · obtain rfl : true = r := by simpa using hr
          have k0_0 : ∀ p : QB.By W1.heap.size W1, p.world.cell? ⟨gd, 0, none⟩ = some (I ph) := fun p => (HB1.out.by p).cell 0 0 rfl rfl
          have k0_1 : ∀ p : QB.By W1.heap.size W1, p.world.cell? ⟨gd, 1, none⟩ = some (F on) := fun p => (HB1.out.by p).cell 0 1 rfl rfl
          have k0_2 : ∀ p : QB.By W1.heap.size W1, p.world.cell? ⟨gd, 2, none⟩ = some (F off) := fun p => (HB1.out.by p).cell 0 2 rfl rfl
          have k0_3 : ∀ p : QB.By W1.heap.size W1, p.world.cell? ⟨gd, 3, none⟩ = some (F dl) := fun p => (HB1.out.by p).cell 0 3 rfl rfl
          have k0_4 : ∀ p : QB.By W1.heap.size W1, p.world.cell? ⟨gd, 4, none⟩ = some (F ex) := fun p => (HB1.out.by p).cell 0 4 rfl rfl
          have k0_5 : ∀ p : QB.By W1.heap.size W1, p.world.cell? ⟨gd, 5, none⟩ = some (I mo) := fun p => (HB1.out.by p).cell 0 5 rfl rfl
          have k0_6 : ∀ p : QB.By W1.heap.size W1, p.world.cell? ⟨gd, 6, none⟩ = some (I mf) := fun p => (HB1.out.by p).cell 0 6 rfl rfl
          have z0 : ∀ p : QB.By W1.heap.size W1, p.world.cell? (z.add (q * 7)) = some (Value.bool b) := fun p => by have := Lies.below HLZ.out (HB1.out.by p).bel 0 _ rfl; rwa [Tab.add_zero] at this
          have z1 : ∀ p : QB.By W1.heap.size W1, p.world.cell? ⟨(z.add (q * 7)).block, (z.add (q * 7)).off + 1, none⟩ = some (I n') := fun p => by have := Lies.below HLZ.out (HB1.out.by p).bel 1 _ rfl; simpa [Addr.add] using this
          have z2 : ∀ p : QB.By W1.heap.size W1, p.world.cell? ⟨(z.add (q * 7)).block, (z.add (q * 7)).off + 2, none⟩ = some (I wa) := fun p => by have := Lies.below HLZ.out (HB1.out.by p).bel 2 _ rfl; simpa [Addr.add] using this
          have z3 : ∀ p : QB.By W1.heap.size W1, p.world.cell? ⟨(z.add (q * 7)).block, (z.add (q * 7)).off + 3, none⟩ = some (I wb) := fun p => by have := Lies.below HLZ.out (HB1.out.by p).bel 3 _ rfl; simpa [Addr.add] using this
          have z4 : ∀ p : QB.By W1.heap.size W1, p.world.cell? ⟨(z.add (q * 7)).block, (z.add (q * 7)).off + 4, none⟩ = some (I h) := fun p => by have := Lies.below HLZ.out (HB1.out.by p).bel 4 _ rfl; simpa [Addr.add] using this
          have z5 : ∀ p : QB.By W1.heap.size W1, p.world.cell? ⟨(z.add (q * 7)).block, (z.add (q * 7)).off + 5, none⟩ = some (I t) := fun p => by have := Lies.below HLZ.out (HB1.out.by p).bel 5 _ rfl; simpa [Addr.add] using this
          have z6 : ∀ p : QB.By W1.heap.size W1, p.world.cell? ⟨(z.add (q * 7)).block, (z.add (q * 7)).off + 6, none⟩ = some (Value.bool false) := fun p => by have := Lies.below HLZ.out (HB1.out.by p).bel 6 _ rfl; simpa [Addr.add] using this
          refine QB.region_below W1.heap.size (by kernel_rfl) (by kernel_rfl) ?_
          dsimp only [Act.put]
          repeat (go_big_quiet_step (first
            | (go_at_call 30; exact QB.call_of (Nat.le_refl _) (fun b => (HF.out ▸ Lvl.rfailed_is _)))
            | (go_at_call 31; exact QB.call_of (Nat.le_refl _) (fun b => Dig.rstuck_is HK.out _))))
          refine wpQuiet_nil ?_
          intro _ hw'
          obtain ⟨p, rfl⟩ := hw'
          have HB2 := Lib.hid (HB1.out.by p)
          clear HB1 z0 z1 z2 z3 z4 z5 z6 k0_0 k0_1 k0_2 k0_3 k0_4 k0_5 k0_6
          generalize p.world = W2 at HB2 ⊢
          have kp : W2.cell? ⟨gd, 0, none⟩ = some (I ph) := HB2.out.cell 0 0 rfl rfl
          rw [if_pos rfl] at HST
          go_wp2_with fail
          refine (RefS.rwith_any _ _ _).mono ?_
          rintro e W3 ⟨rfl, b3⟩
          have HB3 := Lib.hid (HB2.out.step b3).drop
          clear kp b3 HB2
          go_wp2
          go_roundw
          case rel => exact ⟨q + 1, by omega, by go_num, by rw [HST.out], HB3.out⟩
          case measure => simp [intOf]; omega
      · obtain rfl : true = r := by simpa using hr
        have k0_0 : ∀ p : QB.By W1.heap.size W1, p.world.cell? ⟨gd, 0, none⟩ = some (I ph) := fun p => (HB1.out.by p).cell 0 0 rfl rfl
        have k0_1 : ∀ p : QB.By W1.heap.size W1, p.world.cell? ⟨gd, 1, none⟩ = some (F on) := fun p => (HB1.out.by p).cell 0 1 rfl rfl
        have k0_2 : ∀ p : QB.By W1.heap.size W1, p.world.cell? ⟨gd, 2, none⟩ = some (F off) := fun p => (HB1.out.by p).cell 0 2 rfl rfl
        have k0_3 : ∀ p : QB.By W1.heap.size W1, p.world.cell? ⟨gd, 3, none⟩ = some (F dl) := fun p => (HB1.out.by p).cell 0 3 rfl rfl
        have k0_4 : ∀ p : QB.By W1.heap.size W1, p.world.cell? ⟨gd, 4, none⟩ = some (F ex) := fun p => (HB1.out.by p).cell 0 4 rfl rfl
        have k0_5 : ∀ p : QB.By W1.heap.size W1, p.world.cell? ⟨gd, 5, none⟩ = some (I mo) := fun p => (HB1.out.by p).cell 0 5 rfl rfl
        have k0_6 : ∀ p : QB.By W1.heap.size W1, p.world.cell? ⟨gd, 6, none⟩ = some (I mf) := fun p => (HB1.out.by p).cell 0 6 rfl rfl
        have z0 : ∀ p : QB.By W1.heap.size W1, p.world.cell? (z.add (q * 7)) = some (Value.bool b) := fun p => by have := Lies.below HLZ.out (HB1.out.by p).bel 0 _ rfl; rwa [Tab.add_zero] at this
        have z1 : ∀ p : QB.By W1.heap.size W1, p.world.cell? ⟨(z.add (q * 7)).block, (z.add (q * 7)).off + 1, none⟩ = some (I n') := fun p => by have := Lies.below HLZ.out (HB1.out.by p).bel 1 _ rfl; simpa [Addr.add] using this
        have z2 : ∀ p : QB.By W1.heap.size W1, p.world.cell? ⟨(z.add (q * 7)).block, (z.add (q * 7)).off + 2, none⟩ = some (I wa) := fun p => by have := Lies.below HLZ.out (HB1.out.by p).bel 2 _ rfl; simpa [Addr.add] using this
        have z3 : ∀ p : QB.By W1.heap.size W1, p.world.cell? ⟨(z.add (q * 7)).block, (z.add (q * 7)).off + 3, none⟩ = some (I wb) := fun p => by have := Lies.below HLZ.out (HB1.out.by p).bel 3 _ rfl; simpa [Addr.add] using this
        have z4 : ∀ p : QB.By W1.heap.size W1, p.world.cell? ⟨(z.add (q * 7)).block, (z.add (q * 7)).off + 4, none⟩ = some (I h) := fun p => by have := Lies.below HLZ.out (HB1.out.by p).bel 4 _ rfl; simpa [Addr.add] using this
        have z5 : ∀ p : QB.By W1.heap.size W1, p.world.cell? ⟨(z.add (q * 7)).block, (z.add (q * 7)).off + 5, none⟩ = some (I t) := fun p => by have := Lies.below HLZ.out (HB1.out.by p).bel 5 _ rfl; simpa [Addr.add] using this
        have z6 : ∀ p : QB.By W1.heap.size W1, p.world.cell? ⟨(z.add (q * 7)).block, (z.add (q * 7)).off + 6, none⟩ = some (Value.bool true) := fun p => by have := Lies.below HLZ.out (HB1.out.by p).bel 6 _ rfl; simpa [Addr.add] using this
        refine QB.region_below W1.heap.size (by kernel_rfl) (by kernel_rfl) ?_
        dsimp only [Act.put]
        repeat (go_big_quiet_step (first
          | (go_at_call 30; exact QB.call_of (Nat.le_refl _) (fun b => (HF.out ▸ Lvl.rfailed_is _)))
          | (go_at_call 31; exact QB.call_of (Nat.le_refl _) (fun b => Dig.rstuck_is HK.out _))))
        refine wpQuiet_nil ?_
        intro _ hw'
        obtain ⟨p, rfl⟩ := hw'
        have HB2 := Lib.hid (HB1.out.by p)
        clear HB1 z0 z1 z2 z3 z4 z5 z6 k0_0 k0_1 k0_2 k0_3 k0_4 k0_5 k0_6
        generalize p.world = W2 at HB2 ⊢
        have kp : W2.cell? ⟨gd, 0, none⟩ = some (I ph) := HB2.out.cell 0 0 rfl rfl
        rw [if_pos rfl] at HST
        go_wp2_with fail
        refine (RefS.rwith_any _ _ _).mono ?_
        rintro e W3 ⟨rfl, b3⟩
        have HB3 := Lib.hid (HB2.out.step b3).drop
        clear kp b3 HB2
        go_wp2
        go_roundw
        case rel => exact ⟨q + 1, by omega, by go_num, by rw [HST.out], HB3.out⟩
        case measure => simp [intOf]; omega
    · obtain rfl : q = m := by omega
      have HBB := Lib.hid HB.out.bel
      rcases Nat.lt_or_ge q n with hx | hx
      · have hx2 : ¬ q < n1 := by omega
        go_wp2
        go_ret
        exact ⟨rfl, HBB.out⟩
      · have hx2 : ¬ q < n := by omega
        go_wp2
        go_ret
        exact ⟨rfl, HBB.out⟩
end Go.Proofs.Ytbmcendlpeaaeaa.Dtc
