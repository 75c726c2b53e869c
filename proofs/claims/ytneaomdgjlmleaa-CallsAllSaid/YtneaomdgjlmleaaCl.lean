/- Package calls: contracts of where with each of its rules, of Held, Step and Want: at any table, any calls, any sets. -/
import Derived.Test.YtneaomdgjlmleaaRows
import Derived.Test.YtneaomdgjlmleaaOn
import Derived.Test.YtneaomdgjlmleaaSetP
import Derived.Test.YtneaomdgjlmleaaPhx
import Derived.Test.YtneaomdgjlmleaaRow
import Derived.Test.YtneaomdgjlmleaaBlk
import Derived.Test.YtneaomdgjlmleaaQT
import Derived.Test.YtneaomdgjlmleaaPw
import Derived.Test.YtneaomdgjlmleaaTabArg
import Derived.Test.YtneaomdgjlmleaaLvW
import Derived.Shelf.Abstract
import Derived.Deep.Cut
namespace Go.Proofs.Ytneaomdgjlmleaa.Cl
open Go.ChangeShapes Go.WideShapes Go.ChangeAt Go.RowKit
open Tab PlaceM OnS Phx
open May (infoP St)
open SetP (with_any has_any)
set_option linter.unusedVariables false
set_option linter.unusedSimpArgs false
set_option maxRecDepth 100000
/-- The phases that are On and that the rule holds for. -/
def whTo (r : Nat → Ph → Bool) : Nat → List Ph → List Int
  | _, [] => []
  | i, p :: l => (if (p.on && r i p) = true then [(i : Int)] else []) ++ whTo r (i + 1) l
theorem wh_append (r : Nat → Ph → Bool) : ∀ (i : Nat) (l m : List Ph), whTo r i (l ++ m) = whTo r i l ++ whTo r (i + l.length) m
  | i, [], m => rfl
  | i, p :: l, m => by
    rw [List.cons_append, whTo, whTo, wh_append r (i + 1) l m, List.append_assoc, List.length_cons, show i + 1 + l.length = i + (l.length + 1) by omega]
theorem wh_step {r : Nat → Ph → Bool} {l : List Ph} {q : Nat} {p : Ph} (h : l[q]? = some p) : whTo r 0 (l.take (q + 1)) = whTo r 0 (l.take q) ++ (if (p.on && r q p) = true then [(q : Int)] else []) := by
  have hi : q < l.length := (List.getElem?_eq_some_iff.1 h).1
  rw [PlaceM.take_succ h, wh_append, List.length_take, Nat.min_eq_left (by omega), Nat.zero_add]
  simp [whTo]
theorem wh_with {r : Nat → Ph → Bool} {l : List Ph} {q : Nat} {p : Ph} (h : l[q]? = some p) (hp : p.on = true) (hr : r q p = true) : SetM.withN (SetM.of (whTo r 0 (l.take q)) : Nat) q = SetM.of (whTo r 0 (l.take (q + 1))) := by
  rw [wh_step h, hp, hr, Bool.and_true, if_pos rfl, SetM.with_of]
theorem wh_skip {r : Nat → Ph → Bool} {l : List Ph} {q : Nat} {p : Ph} (h : l[q]? = some p) (hp : (p.on && r q p) = false) : SetM.of (whTo r 0 (l.take (q + 1))) = SetM.of (whTo r 0 (l.take q)) := by
  rw [wh_step h, hp]; simp
theorem mem_wh {r : Nat → Ph → Bool} {x : Int} : ∀ {i : Nat} {l : List Ph}, x ∈ whTo r i l ↔ ∃ (q : Nat) (p : Ph), x = ((i + q : Nat) : Int) ∧ l[q]? = some p ∧ (p.on && r (i + q) p) = true
  | i, [] => by simp [whTo]
  | i, u :: l => by
    rw [whTo, List.mem_append, mem_wh]
    constructor
    · rintro (h | ⟨q, p, rfl, hq, hp⟩)
      · split at h
        · rename_i hc
          simp at h
          exact ⟨0, u, by simpa using h, rfl, by simpa using hc⟩
        · simp at h
      · exact ⟨q + 1, p, by rw [Nat.add_right_comm, Nat.add_assoc], by simpa using hq, by rw [show i + (q + 1) = i + 1 + q by omega]; exact hp⟩
    · rintro ⟨q, p, rfl, hq, hp⟩
      cases q with
      | zero =>
        simp at hq
        subst hq
        rw [Nat.add_zero] at hp
        exact .inl (by rw [if_pos hp]; simp)
      | succ q =>
        exact .inr ⟨q, p, by rw [Nat.add_right_comm, Nat.add_assoc], by simpa using hq, by rw [show i + 1 + q = i + (q + 1) by omega]; exact hp⟩
/-- Their set. -/
def whS (r : Nat → Ph → Bool) (T : Tab) : Nat := SetM.of (whTo r 0 T.phases)
theorem wh_lt (r : Nat → Ph → Bool) (T : Tab) : whS r T < 256 := SetM.of_lt _
/-- What is in it. -/
theorem wh_test {r : Nat → Ph → Bool} {T : Tab} (h8 : T.phases.length = 8) {k : Nat} {p : Ph} (hp : T.phases[k]? = some p) : (whS r T).testBit k = (p.on && r k p) := by
  have hk : k < 8 := by have := (List.getElem?_eq_some_iff.1 hp).1; omega
  unfold whS
  rw [SetM.of_test, Bool.eq_iff_iff, decide_eq_true_iff, mem_wh]
  constructor
  · rintro ⟨⟨q, u, hq, hu, hc⟩, _⟩
    obtain rfl : k = q := by omega
    rw [Nat.zero_add] at hc
    obtain rfl := Option.some.inj (hp.symm.trans hu)
    exact hc
  · intro hc
    exact ⟨⟨k, p, by rw [Nat.zero_add], hp, by rw [Nat.zero_add]; exact hc⟩, hk⟩
theorem infoC2 : (Try.prog.info? 33).map (·.size) = some 2 := by kernel_rfl
theorem ret_int {k : IntKind} {a b : Int} (h : a = b) : Ending.returned (.int k a) = .returned (.int k b) := by rw [h]
theorem ret_bool {a b : Bool} (h : a = b) : Ending.returned (.bool a) = .returned (.bool b) := by rw [h]
set_option maxHeartbeats 4000000 in
theorem where1_any (T : Tab) (h : Hd) (w : World) (ht : IsTab w h T) (F : FuncId) (en : ∀ (args : Array Value) (w : World), (callFunc F args).run Try.prog w = .ok (.enter F args) w) (c1 : Nat) (r : Nat → Ph → Bool)
    (HR : Hid (∀ W (q : Nat) (u : Ph), Below w.heap.size w W → Calls Try.prog F #[.int .i64 q, .agg u.cells.toArray, .pointer (some ⟨c1, 0, none⟩)] W fun e w' => e = .returned (.bool (r q u)) ∧ Below W.heap.size W w')) :
    Calls Try.prog 34 #[.agg (T.cells h).toArray, .func (.func F) #[] #[.pointer (some ⟨c1, 0, none⟩)]] w fun e w' => e = .returned (.int .i64 (whS r T : Nat)) ∧ Below w.heap.size w w' := by
  have C := Lib.hid (cells_ok ht)
  generalize (T.cells h).toArray = cs at C ⊢
  have hsz := C.out.size
  have L8 := Lib.hid ht.ph
  have S0 := Lib.hid (St.box (cs := cs) ht)
  have RS : Hid ((whS r T : Nat) = SetM.of (whTo r 0 T.phases)) := Lib.hid rfl
  have IX : Hid (∀ (q : Nat) u, T.phases[q]? = some u → ∀ W, Sem.run Try.prog (Instr.index 24 (.agg (T.phases.flatMap Ph.cells).toArray) (.int .i64 q)) W = .ok (.agg u.cells.toArray) W) := Lib.hid (fun q u hu W => idx_phase L8.out hu W)
  have LI : Hid ((Try.prog.info? 24).map (·.size) = some (T.phases.flatMap Ph.cells).length) := Lib.hid (by rw [ph_len, L8.out]; exact infoPs)
  generalize whS r T = res at RS ⊢
  clear ht
  go_enter Try.func34, Try.ntmps34
  go_upto_region 1 with fail
  generalize w.alloc (.cells cs 31) = w1 at S0 ⊢
  clear hsz
  have LT : Hid (Lies w1 ⟨w.heap.size, 0, none⟩ (T.phases.flatMap Ph.cells)) := Lib.hid (lies_take S0.out.blk 104 _ C.out.phases)
  generalize T.phases.flatMap Ph.cells = fl at IX LI LT
  go_wp2_with (refine Row.wpList_load_g 24 _ rfl (by first | rfl | go_simp) ⟨w.heap.size, 0, none⟩ rfl fl _ LT.out Try.underlying24 rfl LI.out ?_)
  go_loopw [5, 10] (fun v g wr => ∃ q : Nat, q ≤ 8 ∧ g = .int .i64 q ∧ v = .int .i64 (SetM.of (whTo r 0 (T.phases.take q)) : Nat) ∧ Below w1.heap.size w1 wr) (fun _ g _ => 8 - (intOf g).toNat)
  case atStart => exact ⟨0, by omega, rfl, rfl, Below.refl _ _⟩
  case round =>
    obtain ⟨q, hq, rfl, rfl, hbel⟩ := hrel
    have HB := Lib.hid hbel
    clear hbel
    by_cases hlt : q < 8
    · have hv : T.phases[q]? = some (T.phases[q]'(by rw [L8.out]; exact hlt)) := List.getElem?_eq_getElem _
      generalize T.phases[q]'(by rw [L8.out]; exact hlt) = u at hv
      have HV := Lib.hid hv
      have hidx := IX.out q u hv
      clear hv
      have hsz := HB.out.size
      go_upto_region 5 with (refine Row.wpList_store_new rfl 23 _ _ rfl wr _ u.cells.toArray rfl rfl rfl infoP rfl (Ph.one _) ?_)
      clear hidx
      have hbn : Below w1.heap.size w1 (wr.alloc (.cells u.cells.toArray 23)) := HB.out.alloc hsz _
      have hg := Row.lies_of_block (heap_alloc_new wr (.cells u.cells.toArray 23))
      have HL := Lib.hid hg
      have HN := Lib.hid hbn
      clear hg hbn HB
      generalize wr.alloc (.cells u.cells.toArray 23) = w4 at HL HN ⊢
      generalize wr.heap.size = b4 at HL ⊢
      have c0 : w4.cell? ⟨b4, 0, none⟩ = some (.bool u.on) := by
        have := HL.out 0 _ rfl
        rwa [Tab.add_zero] at this
      cases hon : u.on with
      | true =>
        rw [hon] at c0
        have hcall := HR.out w4 q u (S0.out.bel.trans (HN.out.mono S0.out.bel.size))
        cases hr : r q u with
        | true =>
          rw [hr] at hcall
          have HS := Lib.hid (wh_with HV.out hon hr)
          clear hon hr
          generalize SetM.of (whTo r 0 (T.phases.take q)) = s0 at HS ⊢
          go_wp2_with (refine Row.wpList_load_g 23 _ rfl (by first | rfl | go_simp) ⟨b4, 0, none⟩ rfl u.cells _ HL.out Try.underlying23 rfl infoP ?_)
          refine hcall.mono ?_
          rintro e w5 ⟨rfl, hb5⟩
          go_wp2_with (go_at_call 64; refine (with_any _ _ _).mono ?_; rintro e w' ⟨rfl, rfl⟩)
          have HN5 := Lib.hid (HN.out.trans (hb5.mono HN.out.size))
          clear hb5 hcall
          go_roundw
          case rel => exact ⟨q + 1, by omega, by go_num, by rw [← HS.out], HN5.out⟩
          case measure => simp [intOf]; omega
        | false =>
          rw [hr] at hcall
          have HS := Lib.hid (wh_skip (r := r) HV.out (by rw [hon, hr]; rfl))
          clear hon hr
          generalize SetM.of (whTo r 0 (T.phases.take q)) = s0 at HS ⊢
          go_wp2_with (refine Row.wpList_load_g 23 _ rfl (by first | rfl | go_simp) ⟨b4, 0, none⟩ rfl u.cells _ HL.out Try.underlying23 rfl infoP ?_)
          refine hcall.mono ?_
          rintro e w5 ⟨rfl, hb5⟩
          go_wp2_with (go_at_call 64; refine (with_any _ _ _).mono ?_; rintro e w' ⟨rfl, rfl⟩)
          have HN5 := Lib.hid (HN.out.trans (hb5.mono HN.out.size))
          clear hb5 hcall
          go_roundw
          case rel => exact ⟨q + 1, by omega, by go_num, by rw [← HS.out], HN5.out⟩
          case measure => simp [intOf]; omega
      | false =>
        rw [hon] at c0
        have HS := Lib.hid (wh_skip (r := r) HV.out (by rw [hon]; rfl))
        clear hon
        generalize SetM.of (whTo r 0 (T.phases.take q)) = s0 at HS ⊢
        go_wp2
        go_roundw
        case rel => exact ⟨q + 1, by omega, by go_num, by rw [← HS.out], HN.out⟩
        case measure => simp [intOf]; omega
    · have HE : Hid (SetM.of (whTo r 0 (T.phases.take q)) = res) := Lib.hid (by rw [RS.out, List.take_of_length_le (by rw [L8.out]; omega)])
      have HF : Hid (Below w.heap.size w wr) := Lib.hid (S0.out.bel.trans (HB.out.mono S0.out.bel.size))
      generalize SetM.of (whTo r 0 (T.phases.take q)) = s0 at HE ⊢
      go_wp2
      go_ret
      exact ⟨ret_int (by rw [HE.out]), HF.out⟩
set_option maxHeartbeats 4000000 in
theorem where2_any (T : Tab) (h : Hd) (w : World) (ht : IsTab w h T) (F : FuncId) (en : ∀ (args : Array Value) (w : World), (callFunc F args).run Try.prog w = .ok (.enter F args) w) (c1 c2 : Nat) (r : Nat → Ph → Bool)
    (HR : Hid (∀ W (q : Nat) (u : Ph), Below w.heap.size w W → Calls Try.prog F #[.int .i64 q, .agg u.cells.toArray, .pointer (some ⟨c1, 0, none⟩), .pointer (some ⟨c2, 0, none⟩)] W fun e w' => e = .returned (.bool (r q u)) ∧ Below W.heap.size W w')) :
    Calls Try.prog 34 #[.agg (T.cells h).toArray, .func (.func F) #[] #[.pointer (some ⟨c1, 0, none⟩), .pointer (some ⟨c2, 0, none⟩)]] w fun e w' => e = .returned (.int .i64 (whS r T : Nat)) ∧ Below w.heap.size w w' := by
  have C := Lib.hid (cells_ok ht)
  generalize (T.cells h).toArray = cs at C ⊢
  have hsz := C.out.size
  have L8 := Lib.hid ht.ph
  have S0 := Lib.hid (St.box (cs := cs) ht)
  have RS : Hid ((whS r T : Nat) = SetM.of (whTo r 0 T.phases)) := Lib.hid rfl
  have IX : Hid (∀ (q : Nat) u, T.phases[q]? = some u → ∀ W, Sem.run Try.prog (Instr.index 24 (.agg (T.phases.flatMap Ph.cells).toArray) (.int .i64 q)) W = .ok (.agg u.cells.toArray) W) := Lib.hid (fun q u hu W => idx_phase L8.out hu W)
  have LI : Hid ((Try.prog.info? 24).map (·.size) = some (T.phases.flatMap Ph.cells).length) := Lib.hid (by rw [ph_len, L8.out]; exact infoPs)
  generalize whS r T = res at RS ⊢
  clear ht
  go_enter Try.func34, Try.ntmps34
  go_upto_region 1 with fail
  generalize w.alloc (.cells cs 31) = w1 at S0 ⊢
  clear hsz
  have LT : Hid (Lies w1 ⟨w.heap.size, 0, none⟩ (T.phases.flatMap Ph.cells)) := Lib.hid (lies_take S0.out.blk 104 _ C.out.phases)
  generalize T.phases.flatMap Ph.cells = fl at IX LI LT
  go_wp2_with (refine Row.wpList_load_g 24 _ rfl (by first | rfl | go_simp) ⟨w.heap.size, 0, none⟩ rfl fl _ LT.out Try.underlying24 rfl LI.out ?_)
  go_loopw [5, 10] (fun v g wr => ∃ q : Nat, q ≤ 8 ∧ g = .int .i64 q ∧ v = .int .i64 (SetM.of (whTo r 0 (T.phases.take q)) : Nat) ∧ Below w1.heap.size w1 wr) (fun _ g _ => 8 - (intOf g).toNat)
  case atStart => exact ⟨0, by omega, rfl, rfl, Below.refl _ _⟩
  case round =>
    obtain ⟨q, hq, rfl, rfl, hbel⟩ := hrel
    have HB := Lib.hid hbel
    clear hbel
    by_cases hlt : q < 8
    · have hv : T.phases[q]? = some (T.phases[q]'(by rw [L8.out]; exact hlt)) := List.getElem?_eq_getElem _
      generalize T.phases[q]'(by rw [L8.out]; exact hlt) = u at hv
      have HV := Lib.hid hv
      have hidx := IX.out q u hv
      clear hv
      have hsz := HB.out.size
      go_upto_region 5 with (refine Row.wpList_store_new rfl 23 _ _ rfl wr _ u.cells.toArray rfl rfl rfl infoP rfl (Ph.one _) ?_)
      clear hidx
      have hbn : Below w1.heap.size w1 (wr.alloc (.cells u.cells.toArray 23)) := HB.out.alloc hsz _
      have hg := Row.lies_of_block (heap_alloc_new wr (.cells u.cells.toArray 23))
      have HL := Lib.hid hg
      have HN := Lib.hid hbn
      clear hg hbn HB
      generalize wr.alloc (.cells u.cells.toArray 23) = w4 at HL HN ⊢
      generalize wr.heap.size = b4 at HL ⊢
      have c0 : w4.cell? ⟨b4, 0, none⟩ = some (.bool u.on) := by
        have := HL.out 0 _ rfl
        rwa [Tab.add_zero] at this
      cases hon : u.on with
      | true =>
        rw [hon] at c0
        have hcall := HR.out w4 q u (S0.out.bel.trans (HN.out.mono S0.out.bel.size))
        cases hr : r q u with
        | true =>
          rw [hr] at hcall
          have HS := Lib.hid (wh_with HV.out hon hr)
          clear hon hr
          generalize SetM.of (whTo r 0 (T.phases.take q)) = s0 at HS ⊢
          go_wp2_with (refine Row.wpList_load_g 23 _ rfl (by first | rfl | go_simp) ⟨b4, 0, none⟩ rfl u.cells _ HL.out Try.underlying23 rfl infoP ?_)
          refine hcall.mono ?_
          rintro e w5 ⟨rfl, hb5⟩
          go_wp2_with (go_at_call 64; refine (with_any _ _ _).mono ?_; rintro e w' ⟨rfl, rfl⟩)
          have HN5 := Lib.hid (HN.out.trans (hb5.mono HN.out.size))
          clear hb5 hcall
          go_roundw
          case rel => exact ⟨q + 1, by omega, by go_num, by rw [← HS.out], HN5.out⟩
          case measure => simp [intOf]; omega
        | false =>
          rw [hr] at hcall
          have HS := Lib.hid (wh_skip (r := r) HV.out (by rw [hon, hr]; rfl))
          clear hon hr
          generalize SetM.of (whTo r 0 (T.phases.take q)) = s0 at HS ⊢
          go_wp2_with (refine Row.wpList_load_g 23 _ rfl (by first | rfl | go_simp) ⟨b4, 0, none⟩ rfl u.cells _ HL.out Try.underlying23 rfl infoP ?_)
          refine hcall.mono ?_
          rintro e w5 ⟨rfl, hb5⟩
          go_wp2_with (go_at_call 64; refine (with_any _ _ _).mono ?_; rintro e w' ⟨rfl, rfl⟩)
          have HN5 := Lib.hid (HN.out.trans (hb5.mono HN.out.size))
          clear hb5 hcall
          go_roundw
          case rel => exact ⟨q + 1, by omega, by go_num, by rw [← HS.out], HN5.out⟩
          case measure => simp [intOf]; omega
      | false =>
        rw [hon] at c0
        have HS := Lib.hid (wh_skip (r := r) HV.out (by rw [hon]; rfl))
        clear hon
        generalize SetM.of (whTo r 0 (T.phases.take q)) = s0 at HS ⊢
        go_wp2
        go_roundw
        case rel => exact ⟨q + 1, by omega, by go_num, by rw [← HS.out], HN.out⟩
        case measure => simp [intOf]; omega
    · have HE : Hid (SetM.of (whTo r 0 (T.phases.take q)) = res) := Lib.hid (by rw [RS.out, List.take_of_length_le (by rw [L8.out]; omega)])
      have HF : Hid (Below w.heap.size w wr) := Lib.hid (S0.out.bel.trans (HB.out.mono S0.out.bel.size))
      generalize SetM.of (whTo r 0 (T.phases.take q)) = s0 at HE ⊢
      go_wp2
      go_ret
      exact ⟨ret_int (by rw [HE.out]), HF.out⟩
set_option maxHeartbeats 4000000 in
theorem where3_any (T : Tab) (h : Hd) (w : World) (ht : IsTab w h T) (F : FuncId) (en : ∀ (args : Array Value) (w : World), (callFunc F args).run Try.prog w = .ok (.enter F args) w) (c1 c2 c3 : Nat) (r : Nat → Ph → Bool)
    (HR : Hid (∀ W (q : Nat) (u : Ph), Below w.heap.size w W → Calls Try.prog F #[.int .i64 q, .agg u.cells.toArray, .pointer (some ⟨c1, 0, none⟩), .pointer (some ⟨c2, 0, none⟩), .pointer (some ⟨c3, 0, none⟩)] W fun e w' => e = .returned (.bool (r q u)) ∧ Below W.heap.size W w')) :
    Calls Try.prog 34 #[.agg (T.cells h).toArray, .func (.func F) #[] #[.pointer (some ⟨c1, 0, none⟩), .pointer (some ⟨c2, 0, none⟩), .pointer (some ⟨c3, 0, none⟩)]] w fun e w' => e = .returned (.int .i64 (whS r T : Nat)) ∧ Below w.heap.size w w' := by
  have C := Lib.hid (cells_ok ht)
  generalize (T.cells h).toArray = cs at C ⊢
  have hsz := C.out.size
  have L8 := Lib.hid ht.ph
  have S0 := Lib.hid (St.box (cs := cs) ht)
  have RS : Hid ((whS r T : Nat) = SetM.of (whTo r 0 T.phases)) := Lib.hid rfl
  have IX : Hid (∀ (q : Nat) u, T.phases[q]? = some u → ∀ W, Sem.run Try.prog (Instr.index 24 (.agg (T.phases.flatMap Ph.cells).toArray) (.int .i64 q)) W = .ok (.agg u.cells.toArray) W) := Lib.hid (fun q u hu W => idx_phase L8.out hu W)
  have LI : Hid ((Try.prog.info? 24).map (·.size) = some (T.phases.flatMap Ph.cells).length) := Lib.hid (by rw [ph_len, L8.out]; exact infoPs)
  generalize whS r T = res at RS ⊢
  clear ht
  go_enter Try.func34, Try.ntmps34
  go_upto_region 1 with fail
  generalize w.alloc (.cells cs 31) = w1 at S0 ⊢
  clear hsz
  have LT : Hid (Lies w1 ⟨w.heap.size, 0, none⟩ (T.phases.flatMap Ph.cells)) := Lib.hid (lies_take S0.out.blk 104 _ C.out.phases)
  generalize T.phases.flatMap Ph.cells = fl at IX LI LT
  go_wp2_with (refine Row.wpList_load_g 24 _ rfl (by first | rfl | go_simp) ⟨w.heap.size, 0, none⟩ rfl fl _ LT.out Try.underlying24 rfl LI.out ?_)
  go_loopw [5, 10] (fun v g wr => ∃ q : Nat, q ≤ 8 ∧ g = .int .i64 q ∧ v = .int .i64 (SetM.of (whTo r 0 (T.phases.take q)) : Nat) ∧ Below w1.heap.size w1 wr) (fun _ g _ => 8 - (intOf g).toNat)
  case atStart => exact ⟨0, by omega, rfl, rfl, Below.refl _ _⟩
  case round =>
    obtain ⟨q, hq, rfl, rfl, hbel⟩ := hrel
    have HB := Lib.hid hbel
    clear hbel
    by_cases hlt : q < 8
    · have hv : T.phases[q]? = some (T.phases[q]'(by rw [L8.out]; exact hlt)) := List.getElem?_eq_getElem _
      generalize T.phases[q]'(by rw [L8.out]; exact hlt) = u at hv
      have HV := Lib.hid hv
      have hidx := IX.out q u hv
      clear hv
      have hsz := HB.out.size
      go_upto_region 5 with (refine Row.wpList_store_new rfl 23 _ _ rfl wr _ u.cells.toArray rfl rfl rfl infoP rfl (Ph.one _) ?_)
      clear hidx
      have hbn : Below w1.heap.size w1 (wr.alloc (.cells u.cells.toArray 23)) := HB.out.alloc hsz _
      have hg := Row.lies_of_block (heap_alloc_new wr (.cells u.cells.toArray 23))
      have HL := Lib.hid hg
      have HN := Lib.hid hbn
      clear hg hbn HB
      generalize wr.alloc (.cells u.cells.toArray 23) = w4 at HL HN ⊢
      generalize wr.heap.size = b4 at HL ⊢
      have c0 : w4.cell? ⟨b4, 0, none⟩ = some (.bool u.on) := by
        have := HL.out 0 _ rfl
        rwa [Tab.add_zero] at this
      cases hon : u.on with
      | true =>
        rw [hon] at c0
        have hcall := HR.out w4 q u (S0.out.bel.trans (HN.out.mono S0.out.bel.size))
        cases hr : r q u with
        | true =>
          rw [hr] at hcall
          have HS := Lib.hid (wh_with HV.out hon hr)
          clear hon hr
          generalize SetM.of (whTo r 0 (T.phases.take q)) = s0 at HS ⊢
          go_wp2_with (refine Row.wpList_load_g 23 _ rfl (by first | rfl | go_simp) ⟨b4, 0, none⟩ rfl u.cells _ HL.out Try.underlying23 rfl infoP ?_)
          refine hcall.mono ?_
          rintro e w5 ⟨rfl, hb5⟩
          go_wp2_with (go_at_call 64; refine (with_any _ _ _).mono ?_; rintro e w' ⟨rfl, rfl⟩)
          have HN5 := Lib.hid (HN.out.trans (hb5.mono HN.out.size))
          clear hb5 hcall
          go_roundw
          case rel => exact ⟨q + 1, by omega, by go_num, by rw [← HS.out], HN5.out⟩
          case measure => simp [intOf]; omega
        | false =>
          rw [hr] at hcall
          have HS := Lib.hid (wh_skip (r := r) HV.out (by rw [hon, hr]; rfl))
          clear hon hr
          generalize SetM.of (whTo r 0 (T.phases.take q)) = s0 at HS ⊢
          go_wp2_with (refine Row.wpList_load_g 23 _ rfl (by first | rfl | go_simp) ⟨b4, 0, none⟩ rfl u.cells _ HL.out Try.underlying23 rfl infoP ?_)
          refine hcall.mono ?_
          rintro e w5 ⟨rfl, hb5⟩
          go_wp2_with (go_at_call 64; refine (with_any _ _ _).mono ?_; rintro e w' ⟨rfl, rfl⟩)
          have HN5 := Lib.hid (HN.out.trans (hb5.mono HN.out.size))
          clear hb5 hcall
          go_roundw
          case rel => exact ⟨q + 1, by omega, by go_num, by rw [← HS.out], HN5.out⟩
          case measure => simp [intOf]; omega
      | false =>
        rw [hon] at c0
        have HS := Lib.hid (wh_skip (r := r) HV.out (by rw [hon]; rfl))
        clear hon
        generalize SetM.of (whTo r 0 (T.phases.take q)) = s0 at HS ⊢
        go_wp2
        go_roundw
        case rel => exact ⟨q + 1, by omega, by go_num, by rw [← HS.out], HN.out⟩
        case measure => simp [intOf]; omega
    · have HE : Hid (SetM.of (whTo r 0 (T.phases.take q)) = res) := Lib.hid (by rw [RS.out, List.take_of_length_le (by rw [L8.out]; omega)])
      have HF : Hid (Below w.heap.size w wr) := Lib.hid (S0.out.bel.trans (HB.out.mono S0.out.bel.size))
      generalize SetM.of (whTo r 0 (T.phases.take q)) = s0 at HE ⊢
      go_wp2
      go_ret
      exact ⟨ret_int (by rw [HE.out]), HF.out⟩
/-- The rules. -/
def rHeld (here : Int) (q : Nat) (u : Ph) : Bool := SetM.has here q || u.recall == 2
def rCar (green car here : Int) (q : Nat) (u : Ph) : Bool := !SetM.has green q && (SetM.has car q || (u.lock && SetM.has here q) || (u.recall == 1 || u.recall == 2))
def rFoot (walk foot push : Int) (q : Nat) (u : Ph) : Bool := decide (0 < u.walk) && !SetM.has walk q && (SetM.has foot q || SetM.has push q || u.recall == 3)
def rWant (car foot held : Int) (q : Nat) (u : Ph) : Bool := SetM.has car q || SetM.has held q || (SetM.has foot q && decide (0 < u.walk))
/-- What a block holds, then and later. -/
abbrev Keeps (W : World) (b j : Nat) (x : Int) : Prop := Hid (∀ W', Below W.heap.size W W' → W'.cell? ⟨b, j, none⟩ = some (I x))
theorem Keeps.next {W V : World} {b j : Nat} {x : Int} (h : Keeps W b j x) (hb : Below W.heap.size W V) : Keeps V b j x := Lib.hid (fun W' hw => h.out W' (hb.trans (hw.mono hb.size)))
theorem walks_any (u : Ph) (W : World) : Calls Try.prog 41 #[.agg u.cells.toArray] W fun e w' => e = .returned (.bool (decide (0 < u.walk))) ∧ Below W.heap.size W w' := by
  have h0 := (Blk.Bks.nil W).alloc u.cells.toArray 23
  go_enter Try.func41, Try.ntmps41
  go_upto_region 1 with fail
  generalize World.alloc W _ = v at h0 ⊢
  generalize W.heap.size = g at h0 ⊢
  have H0 := Lib.hid h0
  clear h0
  have k8 : v.cell? ⟨g, 8, none⟩ = some (I u.walk) := H0.out.cell 0 8 rfl rfl
  go_wp2
  go_ret
  exact ⟨rfl, H0.out.bel⟩
theorem recalled_any (u : Ph) (W : World) : Calls Try.prog 39 #[.agg u.cells.toArray] W fun e w' => e = .returned (.bool (u.recall == 1 || u.recall == 2)) ∧ Below W.heap.size W w' := by
  have h0 := (Blk.Bks.nil W).alloc u.cells.toArray 23
  cases h1 : (u.recall == 1) with
  | true =>
    have HB : Hid ((true || u.recall == 2) = true) := Lib.hid rfl
    go_enter Try.func39, Try.ntmps39
    go_upto_region 1 with fail
    generalize World.alloc W _ = v at h0 ⊢
    generalize W.heap.size = g at h0 ⊢
    have H0 := Lib.hid h0
    clear h0
    have k10 : v.cell? ⟨g, 10, none⟩ = some (I u.recall) := H0.out.cell 0 10 rfl rfl
    go_wp2
    go_ret
    exact ⟨ret_bool (by first | rfl | simp), H0.out.bel⟩
  | false =>
    have HB : Hid ((false || u.recall == 2) = (u.recall == 2)) := Lib.hid rfl
    go_enter Try.func39, Try.ntmps39
    go_upto_region 1 with fail
    generalize World.alloc W _ = v at h0 ⊢
    generalize W.heap.size = g at h0 ⊢
    have H0 := Lib.hid h0
    clear h0
    have k10 : v.cell? ⟨g, 10, none⟩ = some (I u.recall) := H0.out.cell 0 10 rfl rfl
    go_wp2
    go_ret
    exact ⟨ret_bool (by rw [HB.out]), H0.out.bel⟩
set_option maxHeartbeats 2000000 in
theorem held1_is {here : Int} {W : World} {b1 : Nat} (Khere : Keeps W b1 0 here) (q : Nat) (u : Ph) :
    Calls Try.prog 35 #[.int .i64 q, .agg u.cells.toArray, .pointer (some ⟨b1, 0, none⟩)] W fun e w' => e = .returned (.bool (rHeld here q u)) ∧ Below W.heap.size W w' := by
  have h0 := (Blk.Bks.nil W).alloc u.cells.toArray 23
  obtain ⟨r, hr⟩ : ∃ r, rHeld here q u = r := ⟨_, rfl⟩
  rw [hr]
  unfold rHeld at hr
  cases hh : SetM.has here q with
  | true =>
    rw [hh] at hr
    have HR := Lib.hid hr
    clear hr
    go_enter Try.func35, Try.ntmps35
    go_upto_region 1 with fail
    generalize World.alloc W _ = v at h0 ⊢
    generalize W.heap.size = g at h0 ⊢
    have H0 := Lib.hid h0
    clear h0
    have k_here := Khere.out v H0.out.bel
    have k10 : v.cell? ⟨g, 10, none⟩ = some (I u.recall) := H0.out.cell 0 10 rfl rfl
    go_wp2_with (go_at_call 36; refine (has_any _ _ _).mono ?_; rintro e w' ⟨rfl, rfl⟩; first | rw [hh])
    go_ret
    exact ⟨ret_bool (by rw [← HR.out]; first | rfl | simp), H0.out.bel⟩
  | false =>
    rw [hh] at hr
    have HR := Lib.hid hr
    clear hr
    go_enter Try.func35, Try.ntmps35
    go_upto_region 1 with fail
    generalize World.alloc W _ = v at h0 ⊢
    generalize W.heap.size = g at h0 ⊢
    have H0 := Lib.hid h0
    clear h0
    have k_here := Khere.out v H0.out.bel
    have k10 : v.cell? ⟨g, 10, none⟩ = some (I u.recall) := H0.out.cell 0 10 rfl rfl
    go_wp2_with (go_at_call 36; refine (has_any _ _ _).mono ?_; rintro e w' ⟨rfl, rfl⟩; first | rw [hh])
    go_ret
    exact ⟨ret_bool (by rw [← HR.out]; first | rfl | simp), H0.out.bel⟩
set_option maxHeartbeats 2000000 in
theorem want1_is {car foot held : Int} {W : World} {b1 b2 : Nat} (Kcar : Keeps W b1 0 car) (Kfoot : Keeps W b1 1 foot) (Kheld : Keeps W b2 0 held) (q : Nat) (u : Ph) :
    Calls Try.prog 42 #[.int .i64 q, .agg u.cells.toArray, .pointer (some ⟨b1, 0, none⟩), .pointer (some ⟨b2, 0, none⟩)] W fun e w' => e = .returned (.bool (rWant car foot held q u)) ∧ Below W.heap.size W w' := by
  have h0 := (Blk.Bks.nil W).alloc u.cells.toArray 23
  obtain ⟨r, hr⟩ : ∃ r, rWant car foot held q u = r := ⟨_, rfl⟩
  rw [hr]
  unfold rWant at hr
  cases hc : SetM.has car q with
  | true =>
    rw [hc] at hr
    have HR := Lib.hid hr
    clear hr
    go_enter Try.func42, Try.ntmps42
    go_upto_region 1 with fail
    generalize World.alloc W _ = v at h0 ⊢
    generalize W.heap.size = g at h0 ⊢
    have H0 := Lib.hid h0
    clear h0
    have k_car := Kcar.out v H0.out.bel
    have k_foot := Kfoot.out v H0.out.bel
    have k_held := Kheld.out v H0.out.bel
    go_wp2_with (go_at_call 36; refine (has_any _ _ _).mono ?_; rintro e w' ⟨rfl, rfl⟩; first | rw [hc])
    go_ret
    exact ⟨ret_bool (by rw [← HR.out]; first | rfl | simp), H0.out.bel⟩
  | false =>
    rw [hc] at hr
    cases hh : SetM.has held q with
    | true =>
      rw [hh] at hr
      have HR := Lib.hid hr
      clear hr
      go_enter Try.func42, Try.ntmps42
      go_upto_region 1 with fail
      generalize World.alloc W _ = v at h0 ⊢
      generalize W.heap.size = g at h0 ⊢
      have H0 := Lib.hid h0
      clear h0
      have k_car := Kcar.out v H0.out.bel
      have k_foot := Kfoot.out v H0.out.bel
      have k_held := Kheld.out v H0.out.bel
      go_wp2_with (go_at_call 36; refine (has_any _ _ _).mono ?_; rintro e w' ⟨rfl, rfl⟩; first | rw [hc] | rw [hh])
      go_ret
      exact ⟨ret_bool (by rw [← HR.out]; first | rfl | simp), H0.out.bel⟩
    | false =>
      rw [hh] at hr
      cases hf : SetM.has foot q with
      | true =>
        rw [hf] at hr
        have HR := Lib.hid hr
        clear hr
        go_enter Try.func42, Try.ntmps42
        go_upto_region 1 with fail
        generalize World.alloc W _ = v at h0 ⊢
        generalize W.heap.size = g at h0 ⊢
        have H0 := Lib.hid h0
        clear h0
        have k_car := Kcar.out v H0.out.bel
        have k_foot := Kfoot.out v H0.out.bel
        have k_held := Kheld.out v H0.out.bel
        go_wp2_with (first | (go_at_call 36; refine (has_any _ _ _).mono ?_; rintro e w' ⟨rfl, rfl⟩; first | rw [hc] | rw [hh] | rw [hf]) | (refine Row.wpList_load_g 23 _ rfl (by first | rfl | go_simp) ⟨g, 0, none⟩ rfl u.cells _ (by have := Row.lies_of_block (H0.out.at 0 rfl); simpa using this) Try.underlying23 rfl infoP ?_) | (go_at_call 41; refine (walks_any _ _).mono ?_; rintro e w2 ⟨rfl, hb2⟩))
        go_ret
        exact ⟨ret_bool (by rw [← HR.out]; first | rfl | simp), H0.out.bel.trans (hb2.mono H0.out.bel.size)⟩
      | false =>
        rw [hf] at hr
        have HR := Lib.hid hr
        clear hr
        go_enter Try.func42, Try.ntmps42
        go_upto_region 1 with fail
        generalize World.alloc W _ = v at h0 ⊢
        generalize W.heap.size = g at h0 ⊢
        have H0 := Lib.hid h0
        clear h0
        have k_car := Kcar.out v H0.out.bel
        have k_foot := Kfoot.out v H0.out.bel
        have k_held := Kheld.out v H0.out.bel
        go_wp2_with (go_at_call 36; refine (has_any _ _ _).mono ?_; rintro e w' ⟨rfl, rfl⟩; first | rw [hc] | rw [hh] | rw [hf])
        go_ret
        exact ⟨ret_bool (by rw [← HR.out]; first | rfl | simp), H0.out.bel⟩
set_option maxHeartbeats 2000000 in
theorem step1_is {green car here : Int} {W : World} {b1 b2 b3 : Nat} (Kgreen : Keeps W b1 0 green) (Kcar : Keeps W b2 0 car) (Khere : Keeps W b3 0 here) (q : Nat) (u : Ph) :
    Calls Try.prog 38 #[.int .i64 q, .agg u.cells.toArray, .pointer (some ⟨b1, 0, none⟩), .pointer (some ⟨b2, 0, none⟩), .pointer (some ⟨b3, 0, none⟩)] W fun e w' => e = .returned (.bool (rCar green car here q u)) ∧ Below W.heap.size W w' := by
  have h0 := (Blk.Bks.nil W).alloc u.cells.toArray 23
  obtain ⟨r, hr⟩ : ∃ r, rCar green car here q u = r := ⟨_, rfl⟩
  rw [hr]
  unfold rCar at hr
  cases hg : SetM.has green q with
  | true =>
    rw [hg] at hr
    have HR := Lib.hid hr
    clear hr
    go_enter Try.func38, Try.ntmps38
    go_upto_region 1 with fail
    generalize World.alloc W _ = v at h0 ⊢
    generalize W.heap.size = g at h0 ⊢
    have H0 := Lib.hid h0
    clear h0
    have k_green := Kgreen.out v H0.out.bel
    have k_car := Kcar.out v H0.out.bel
    have k_here := Khere.out v H0.out.bel
    have k11 : v.cell? ⟨g, 11, none⟩ = some (.bool u.lock) := H0.out.cell 0 11 rfl rfl
    go_wp2_with (go_at_call 36; refine (has_any _ _ _).mono ?_; rintro e w' ⟨rfl, rfl⟩; first | rw [hg])
    go_ret
    exact ⟨ret_bool (by rw [← HR.out]; first | rfl | simp), H0.out.bel⟩
  | false =>
    rw [hg] at hr
    cases hc : SetM.has car q with
    | true =>
      rw [hc] at hr
      have HR := Lib.hid hr
      clear hr
      go_enter Try.func38, Try.ntmps38
      go_upto_region 1 with fail
      generalize World.alloc W _ = v at h0 ⊢
      generalize W.heap.size = g at h0 ⊢
      have H0 := Lib.hid h0
      clear h0
      have k_green := Kgreen.out v H0.out.bel
      have k_car := Kcar.out v H0.out.bel
      have k_here := Khere.out v H0.out.bel
      have k11 : v.cell? ⟨g, 11, none⟩ = some (.bool u.lock) := H0.out.cell 0 11 rfl rfl
      go_wp2_with (go_at_call 36; refine (has_any _ _ _).mono ?_; rintro e w' ⟨rfl, rfl⟩; first | rw [hg] | rw [hc])
      go_ret
      exact ⟨ret_bool (by rw [← HR.out]; first | rfl | simp), H0.out.bel⟩
    | false =>
      rw [hc] at hr
      cases hl : u.lock with
      | true =>
        rw [hl] at hr
        cases hh : SetM.has here q with
        | true =>
          rw [hh] at hr
          have HR := Lib.hid hr
          clear hr
          go_enter Try.func38, Try.ntmps38
          go_upto_region 1 with fail
          generalize World.alloc W _ = v at h0 ⊢
          generalize W.heap.size = g at h0 ⊢
          have H0 := Lib.hid h0
          clear h0
          have k_green := Kgreen.out v H0.out.bel
          have k_car := Kcar.out v H0.out.bel
          have k_here := Khere.out v H0.out.bel
          have k11 : v.cell? ⟨g, 11, none⟩ = some (.bool u.lock) := H0.out.cell 0 11 rfl rfl
          rw [hl] at k11
          go_wp2_with (go_at_call 36; refine (has_any _ _ _).mono ?_; rintro e w' ⟨rfl, rfl⟩; first | rw [hg] | rw [hc] | rw [hh])
          go_ret
          exact ⟨ret_bool (by rw [← HR.out]; first | rfl | simp), H0.out.bel⟩
        | false =>
          rw [hh] at hr
          have HR := Lib.hid hr
          clear hr
          go_enter Try.func38, Try.ntmps38
          go_upto_region 1 with fail
          generalize World.alloc W _ = v at h0 ⊢
          generalize W.heap.size = g at h0 ⊢
          have H0 := Lib.hid h0
          clear h0
          have k_green := Kgreen.out v H0.out.bel
          have k_car := Kcar.out v H0.out.bel
          have k_here := Khere.out v H0.out.bel
          have k11 : v.cell? ⟨g, 11, none⟩ = some (.bool u.lock) := H0.out.cell 0 11 rfl rfl
          rw [hl] at k11
          go_wp2_with (first | (go_at_call 36; refine (has_any _ _ _).mono ?_; rintro e w' ⟨rfl, rfl⟩; first | rw [hg] | rw [hc] | rw [hh]) | (refine Row.wpList_load_g 23 _ rfl (by first | rfl | go_simp) ⟨g, 0, none⟩ rfl u.cells _ (by have := Row.lies_of_block (H0.out.at 0 rfl); simpa using this) Try.underlying23 rfl infoP ?_) | (go_at_call 39; refine (recalled_any _ _).mono ?_; rintro e w2 ⟨rfl, hb2⟩))
          go_ret
          exact ⟨ret_bool (by rw [← HR.out]; first | rfl | simp), H0.out.bel.trans (hb2.mono H0.out.bel.size)⟩
      | false =>
        rw [hl] at hr
        have HR := Lib.hid hr
        clear hr
        go_enter Try.func38, Try.ntmps38
        go_upto_region 1 with fail
        generalize World.alloc W _ = v at h0 ⊢
        generalize W.heap.size = g at h0 ⊢
        have H0 := Lib.hid h0
        clear h0
        have k_green := Kgreen.out v H0.out.bel
        have k_car := Kcar.out v H0.out.bel
        have k_here := Khere.out v H0.out.bel
        have k11 : v.cell? ⟨g, 11, none⟩ = some (.bool u.lock) := H0.out.cell 0 11 rfl rfl
        rw [hl] at k11
        go_wp2_with (first | (go_at_call 36; refine (has_any _ _ _).mono ?_; rintro e w' ⟨rfl, rfl⟩; first | rw [hg] | rw [hc]) | (refine Row.wpList_load_g 23 _ rfl (by first | rfl | go_simp) ⟨g, 0, none⟩ rfl u.cells _ (by have := Row.lies_of_block (H0.out.at 0 rfl); simpa using this) Try.underlying23 rfl infoP ?_) | (go_at_call 39; refine (recalled_any _ _).mono ?_; rintro e w2 ⟨rfl, hb2⟩))
        go_ret
        exact ⟨ret_bool (by rw [← HR.out]; first | rfl | simp), H0.out.bel.trans (hb2.mono H0.out.bel.size)⟩
set_option maxHeartbeats 2000000 in
theorem step2_is {walk foot push : Int} {W : World} {b1 b2 b3 : Nat} (Kwalk : Keeps W b1 0 walk) (Kfoot : Keeps W b2 1 foot) (Kpush : Keeps W b3 0 push) (q : Nat) (u : Ph) :
    Calls Try.prog 40 #[.int .i64 q, .agg u.cells.toArray, .pointer (some ⟨b1, 0, none⟩), .pointer (some ⟨b2, 0, none⟩), .pointer (some ⟨b3, 0, none⟩)] W fun e w' => e = .returned (.bool (rFoot walk foot push q u)) ∧ Below W.heap.size W w' := by
  have h0 := (Blk.Bks.nil W).alloc u.cells.toArray 23
  obtain ⟨r, hr⟩ : ∃ r, rFoot walk foot push q u = r := ⟨_, rfl⟩
  rw [hr]
  unfold rFoot at hr
  cases hk : decide (0 < u.walk) with
  | true =>
    rw [hk] at hr
    cases hg : SetM.has walk q with
    | true =>
      rw [hg] at hr
      have HR := Lib.hid hr
      clear hr
      go_enter Try.func40, Try.ntmps40
      go_upto_region 1 with fail
      generalize World.alloc W _ = v at h0 ⊢
      generalize W.heap.size = g at h0 ⊢
      have H0 := Lib.hid h0
      clear h0
      go_wp2_with (refine Row.wpList_load_g 23 _ rfl (by first | rfl | go_simp) ⟨g, 0, none⟩ rfl u.cells _ (by have := Row.lies_of_block (H0.out.at 0 rfl); simpa using this) Try.underlying23 rfl infoP ?_)
      refine (walks_any _ _).mono ?_
      rintro e v2 ⟨rfl, hb2⟩
      rw [hk]
      have H2 := Lib.hid (H0.out.step hb2)
      clear hb2 H0
      have H0 := H2
      have k_walk := Kwalk.out v2 H0.out.bel
      have k_foot := Kfoot.out v2 H0.out.bel
      have k_push := Kpush.out v2 H0.out.bel
      have k10 : v2.cell? ⟨g, 10, none⟩ = some (I u.recall) := H0.out.cell 0 10 rfl rfl
      go_wp2_with (go_at_call 36; refine (has_any _ _ _).mono ?_; rintro e w' ⟨rfl, rfl⟩; first | rw [hg])
      go_ret
      exact ⟨ret_bool (by rw [← HR.out]; first | rfl | simp), H0.out.bel⟩
    | false =>
      rw [hg] at hr
      cases hc : SetM.has foot q with
      | true =>
        rw [hc] at hr
        have HR := Lib.hid hr
        clear hr
        go_enter Try.func40, Try.ntmps40
        go_upto_region 1 with fail
        generalize World.alloc W _ = v at h0 ⊢
        generalize W.heap.size = g at h0 ⊢
        have H0 := Lib.hid h0
        clear h0
        go_wp2_with (refine Row.wpList_load_g 23 _ rfl (by first | rfl | go_simp) ⟨g, 0, none⟩ rfl u.cells _ (by have := Row.lies_of_block (H0.out.at 0 rfl); simpa using this) Try.underlying23 rfl infoP ?_)
        refine (walks_any _ _).mono ?_
        rintro e v2 ⟨rfl, hb2⟩
        rw [hk]
        have H2 := Lib.hid (H0.out.step hb2)
        clear hb2 H0
        have H0 := H2
        have k_walk := Kwalk.out v2 H0.out.bel
        have k_foot := Kfoot.out v2 H0.out.bel
        have k_push := Kpush.out v2 H0.out.bel
        have k10 : v2.cell? ⟨g, 10, none⟩ = some (I u.recall) := H0.out.cell 0 10 rfl rfl
        go_wp2_with (go_at_call 36; refine (has_any _ _ _).mono ?_; rintro e w' ⟨rfl, rfl⟩; first | rw [hg] | rw [hc])
        go_ret
        exact ⟨ret_bool (by rw [← HR.out]; first | rfl | simp), H0.out.bel⟩
      | false =>
        rw [hc] at hr
        cases hp : SetM.has push q with
        | true =>
          rw [hp] at hr
          have HR := Lib.hid hr
          clear hr
          go_enter Try.func40, Try.ntmps40
          go_upto_region 1 with fail
          generalize World.alloc W _ = v at h0 ⊢
          generalize W.heap.size = g at h0 ⊢
          have H0 := Lib.hid h0
          clear h0
          go_wp2_with (refine Row.wpList_load_g 23 _ rfl (by first | rfl | go_simp) ⟨g, 0, none⟩ rfl u.cells _ (by have := Row.lies_of_block (H0.out.at 0 rfl); simpa using this) Try.underlying23 rfl infoP ?_)
          refine (walks_any _ _).mono ?_
          rintro e v2 ⟨rfl, hb2⟩
          rw [hk]
          have H2 := Lib.hid (H0.out.step hb2)
          clear hb2 H0
          have H0 := H2
          have k_walk := Kwalk.out v2 H0.out.bel
          have k_foot := Kfoot.out v2 H0.out.bel
          have k_push := Kpush.out v2 H0.out.bel
          have k10 : v2.cell? ⟨g, 10, none⟩ = some (I u.recall) := H0.out.cell 0 10 rfl rfl
          go_wp2_with (go_at_call 36; refine (has_any _ _ _).mono ?_; rintro e w' ⟨rfl, rfl⟩; first | rw [hg] | rw [hc] | rw [hp])
          go_ret
          exact ⟨ret_bool (by rw [← HR.out]; first | rfl | simp), H0.out.bel⟩
        | false =>
          rw [hp] at hr
          have HR := Lib.hid hr
          clear hr
          go_enter Try.func40, Try.ntmps40
          go_upto_region 1 with fail
          generalize World.alloc W _ = v at h0 ⊢
          generalize W.heap.size = g at h0 ⊢
          have H0 := Lib.hid h0
          clear h0
          go_wp2_with (refine Row.wpList_load_g 23 _ rfl (by first | rfl | go_simp) ⟨g, 0, none⟩ rfl u.cells _ (by have := Row.lies_of_block (H0.out.at 0 rfl); simpa using this) Try.underlying23 rfl infoP ?_)
          refine (walks_any _ _).mono ?_
          rintro e v2 ⟨rfl, hb2⟩
          rw [hk]
          have H2 := Lib.hid (H0.out.step hb2)
          clear hb2 H0
          have H0 := H2
          have k_walk := Kwalk.out v2 H0.out.bel
          have k_foot := Kfoot.out v2 H0.out.bel
          have k_push := Kpush.out v2 H0.out.bel
          have k10 : v2.cell? ⟨g, 10, none⟩ = some (I u.recall) := H0.out.cell 0 10 rfl rfl
          go_wp2_with (go_at_call 36; refine (has_any _ _ _).mono ?_; rintro e w' ⟨rfl, rfl⟩; first | rw [hg] | rw [hc] | rw [hp])
          go_ret
          exact ⟨ret_bool (by rw [← HR.out]; first | rfl | simp), H0.out.bel⟩
  | false =>
    rw [hk] at hr
    have HR := Lib.hid hr
    clear hr
    go_enter Try.func40, Try.ntmps40
    go_upto_region 1 with fail
    generalize World.alloc W _ = v at h0 ⊢
    generalize W.heap.size = g at h0 ⊢
    have H0 := Lib.hid h0
    clear h0
    go_wp2_with (refine Row.wpList_load_g 23 _ rfl (by first | rfl | go_simp) ⟨g, 0, none⟩ rfl u.cells _ (by have := Row.lies_of_block (H0.out.at 0 rfl); simpa using this) Try.underlying23 rfl infoP ?_)
    refine (walks_any _ _).mono ?_
    rintro e v2 ⟨rfl, hb2⟩
    rw [hk]
    have H2 := Lib.hid (H0.out.step hb2)
    clear hb2 H0
    have H0 := H2
    have k_walk := Kwalk.out v2 H0.out.bel
    have k_foot := Kfoot.out v2 H0.out.bel
    have k_push := Kpush.out v2 H0.out.bel
    have k10 : v2.cell? ⟨g, 10, none⟩ = some (I u.recall) := H0.out.cell 0 10 rfl rfl
    go_wp2_with (go_at_call 36; refine (has_any _ _ _).mono ?_; rintro e w' ⟨rfl, rfl⟩; first | rw [rfl])
    go_ret
    exact ⟨ret_bool (by rw [← HR.out]; first | rfl | simp), H0.out.bel⟩
end Go.Proofs.Ytneaomdgjlmleaa.Cl
