/- wire.Reader's Num, Float and Bool: a Fault that is raised is recovered by the deferred function and kept. -/
import Derived.Test.YtmffgdgnaafbpaaNx
import Derived.Orders
namespace Go.Proofs.Ytmffgdgnaafbpaa.Num
open Go.ChangeShapes Go.WideShapes Go.ChangeAt Go.RowKit
open B Put Rd Nx
set_option linter.unusedVariables false

/-- A region that draws its order, in a deferred function that may recover. -/
theorem wpS_region_draw {P : Program} {Q : Exit → Act → List Frame → World → Prop} {a : Act} {cs : List Frame} {w : World} {id : Nat} {ops : Array Oper}
    (h : ∀ t, wpOpsS P ops Q (Region.schedule (P.follows .mixedOrders) ops t) a cs { w with drawn := w.drawn + 1 }) : (Code.region id ops true).wpS P Q a cs w :=
  fun b k hb hr => let ⟨e, a', cs', w', q, r⟩ := wp_opsS _ a cs _ (h _) b k hb hr; ⟨e, a', cs', w', q, .of_steps (.one step_region_draw) r⟩

theorem assert_ok (v : Value) (w : World) : (Instr.typeAssert (.iface 35 v) 20 35 true).run Try.prog w = .ok (.tuple #[v, .bool true]) w := by
  simp [Instr.typeAssert, run_underlying Try.underlying35, go_sem, Result.andThen]
theorem assert_nil (w : World) : (Instr.typeAssert .nilIface 20 35 true).run Try.prog w = .ok (.tuple #[.agg #[.int .i64 0, .int .i64 0], .bool false]) w := by
  have hz : (Try.prog.info? 35).map (·.zero) = some (some (.agg #[.int .i64 0, .int .i64 0])) := by kernel_rfl
  obtain ⟨j, hj, hz'⟩ := Option.map_eq_some_iff.1 hz
  simp [Instr.typeAssert, run_underlying Try.underlying35, go_sem, Result.andThen, typeInfo, zeroValue, hj, hz']
theorem Rd.keeps {w : World} {g : Nat} {ad : Option Addr} {cap : Nat} {l : List Nat} {k : Nat} {c0 f0 : Int} (h : Rd w g ad cap l k c0 f0) (code fat : Int) :
    Rd ((w.setCell ⟨g, 2, none⟩ (.int .i64 code)).setCell ⟨g, 3, none⟩ (.int .i64 fat)) g ad cap l k code fat := by
  have hb : But g w ((w.setCell ⟨g, 2, none⟩ (.int .i64 code)).setCell ⟨g, 3, none⟩ (.int .i64 fat)) := (But.set g 2 w _).trans (But.set g 3 _ _)
  refine ⟨Nat.lt_of_lt_of_le h.lt hb.size, hb.row h.row h.off, h.off, ?_, ?_, ?_, ?_, fun i => ?_, h.cap_le⟩
  · simp [World.cell?_setCell_other, h.c0]
  · simp [World.cell?_setCell_other, h.c1]
  · simp [World.cell?_setCell_other, World.cell?_setCell_same, h.c2]
  · simp [World.cell?_setCell_other, World.cell?_setCell_same, h.c3]
  · simp [h.fz]
theorem Rd.moves {w : World} {g : Nat} {ad : Option Addr} {cap : Nat} {l : List Nat} {k : Nat} {c0 f0 : Int} (h : Rd w g ad cap l k c0 f0) (k' : Nat) :
    Rd (w.setCell ⟨g, 1, none⟩ (.int .i64 k')) g ad cap l k' c0 f0 := by
  have hb : But g w (w.setCell ⟨g, 1, none⟩ (.int .i64 k')) := But.set g 1 w _
  refine ⟨Nat.lt_of_lt_of_le h.lt hb.size, hb.row h.row h.off, h.off, ?_, ?_, ?_, ?_, fun i => ?_, h.cap_le⟩
  · simp [World.cell?_setCell_other, h.c0]
  · simp [World.cell?_setCell_same, h.c1]
  · simp [World.cell?_setCell_other, h.c2]
  · simp [World.cell?_setCell_other, h.c3]
  · simp [h.fz]
set_option maxHeartbeats 1000000 in
theorem keep_nil (g : Nat) (w : World) :
    Calls Try.prog 30 #[.pointer (some ⟨g, 0, none⟩), .nilIface] w fun e w' => e = .returned (.tuple #[]) ∧ Below w.heap.size w w' := by
  have ha := assert_ok
  have hb := assert_nil
  go_enter Try.func30, Try.ntmps30
  go_wp2
  go_end0
  exact ⟨rfl, (Below.refl _ _).alloc (Nat.le_refl _) _⟩
set_option maxHeartbeats 1000000 in
theorem keep_fault (g : Nat) (ad : Option Addr) (cap : Nat) (l : List Nat) (k : Nat) (c0 f0 code fat : Int) (w : World) (h : Rd w g ad cap l k c0 f0) :
    Calls Try.prog 30 #[.pointer (some ⟨g, 0, none⟩), fault code fat] w fun e w' => e = .returned (.tuple #[]) ∧ But g w w' ∧ Rd w' g ad cap l k code fat := by
  have h0 := h.c0
  have h1 := h.c1
  have h2 := h.c2
  have h3 := h.c3
  have h4 := h.fz 2
  have h5 := h.fz 3
  have hg := h.lt
  have HR := Lib.hid h
  clear h
  have ha := assert_ok
  have hb := assert_nil
  go_enter Try.func30, Try.ntmps30
  go_wp2
  have hk := Rd.keeps HR.out code fat
  have hb2 : But g w ((w.setCell ⟨g, 2, none⟩ (.int .i64 code)).setCell ⟨g, 3, none⟩ (.int .i64 fat)) := (But.set g 2 w _).trans (But.set g 3 _ _)
  have hb3 := (Below.refl _ ((w.setCell ⟨g, 2, none⟩ (.int .i64 code)).setCell ⟨g, 3, none⟩ (.int .i64 fat))).alloc (Nat.le_refl _) (.cells #[.int .i64 code, .int .i64 fat] 35)
  go_end0
  exact ⟨rfl, hb2.trans (But.of hb3), hk.below hb3⟩
set_option maxHeartbeats 1000000 in
theorem num_panic (b g : Nat) (ad : Option Addr) (cap : Nat) (l : List Nat) (k : Nat) (c0 f0 code fat : Int) (w : World) (hbox : w.cell? ⟨b, 0, none⟩ = some (.pointer (some ⟨g, 0, none⟩))) (h : Rd w g ad cap l k c0 f0) :
    CallsD Try.prog 29 #[.pointer (some ⟨b, 0, none⟩)] (.panicking [{ v := fault code fat, recovered := false }]) w fun e u' w' =>
      e = .returned (.tuple #[]) ∧ u' = .panicking [{ v := fault code fat, recovered := true }] ∧ But g w w' ∧ Rd w' g ad cap l k code fat := by
  refine callsD_of_wpS Try.func29 rfl fun c₀ cs hu => ?_
  apply wpS_region_draw
  intro t
  have hm : Try.prog.follows .mixedOrders = true := rfl
  have hd := h.below (w' := w.drew) ((Below.refl _ _).drew)
  have hbd : But g w w.drew := But.of ((Below.refl _ _).drew)
  rcases Nat.mod_two_eq_zero_or_one t with ht | ht
  all_goals
    simp [Region.schedule, hm, Region.linearise, Region.linearise.go, Region.binds, List.range, List.range.loop, ht, Nat.mod_one]
    simp [wpOpsS, go_sem, recoverD, hu, hbox]
    refine (keep_fault g ad cap l k c0 f0 code fat _ hd).mono ?_
    rintro e w' ⟨rfl, hb, hr⟩
    simp [bodyPostS, results, Try.results29]
    exact ⟨hbd.trans hb, hr⟩
set_option maxHeartbeats 1000000 in
theorem num_idle (b g : Nat) (w : World) (hbox : w.cell? ⟨b, 0, none⟩ = some (.pointer (some ⟨g, 0, none⟩))) :
    CallsD Try.prog 29 #[.pointer (some ⟨b, 0, none⟩)] .returning w fun e u' w' => e = .returned (.tuple #[]) ∧ u' = .returning ∧ Below w.heap.size w w' := by
  refine callsD_of_wpS Try.func29 rfl fun c₀ cs hu => ?_
  apply wpS_region_draw
  intro t
  have hm : Try.prog.follows .mixedOrders = true := rfl
  rcases Nat.mod_two_eq_zero_or_one t with ht | ht
  all_goals
    simp [Region.schedule, hm, Region.linearise, Region.linearise.go, Region.binds, List.range, List.range.loop, ht, Nat.mod_one]
    simp [wpOpsS, go_sem, recoverD, hu, hbox]
    refine (keep_nil g _).mono ?_
    rintro e w' ⟨rfl, hb⟩
    have hgo : Below w.heap.size w w' := ((Below.refl _ _).drew).trans hb
    simp [bodyPostS, results, Try.results29]
    cases c₀
    simp_all
set_option maxHeartbeats 1000000 in
theorem float_panic (b g : Nat) (ad : Option Addr) (cap : Nat) (l : List Nat) (k : Nat) (c0 f0 code fat : Int) (w : World) (hbox : w.cell? ⟨b, 0, none⟩ = some (.pointer (some ⟨g, 0, none⟩))) (h : Rd w g ad cap l k c0 f0) :
    CallsD Try.prog 35 #[.pointer (some ⟨b, 0, none⟩)] (.panicking [{ v := fault code fat, recovered := false }]) w fun e u' w' =>
      e = .returned (.tuple #[]) ∧ u' = .panicking [{ v := fault code fat, recovered := true }] ∧ But g w w' ∧ Rd w' g ad cap l k code fat := by
  refine callsD_of_wpS Try.func35 rfl fun c₀ cs hu => ?_
  apply wpS_region_draw
  intro t
  have hm : Try.prog.follows .mixedOrders = true := rfl
  have hd := h.below (w' := w.drew) ((Below.refl _ _).drew)
  have hbd : But g w w.drew := But.of ((Below.refl _ _).drew)
  rcases Nat.mod_two_eq_zero_or_one t with ht | ht
  all_goals
    simp [Region.schedule, hm, Region.linearise, Region.linearise.go, Region.binds, List.range, List.range.loop, ht, Nat.mod_one]
    simp [wpOpsS, go_sem, recoverD, hu, hbox]
    refine (keep_fault g ad cap l k c0 f0 code fat _ hd).mono ?_
    rintro e w' ⟨rfl, hb, hr⟩
    simp [bodyPostS, results, Try.results35]
    exact ⟨hbd.trans hb, hr⟩
set_option maxHeartbeats 1000000 in
theorem float_idle (b g : Nat) (w : World) (hbox : w.cell? ⟨b, 0, none⟩ = some (.pointer (some ⟨g, 0, none⟩))) :
    CallsD Try.prog 35 #[.pointer (some ⟨b, 0, none⟩)] .returning w fun e u' w' => e = .returned (.tuple #[]) ∧ u' = .returning ∧ Below w.heap.size w w' := by
  refine callsD_of_wpS Try.func35 rfl fun c₀ cs hu => ?_
  apply wpS_region_draw
  intro t
  have hm : Try.prog.follows .mixedOrders = true := rfl
  rcases Nat.mod_two_eq_zero_or_one t with ht | ht
  all_goals
    simp [Region.schedule, hm, Region.linearise, Region.linearise.go, Region.binds, List.range, List.range.loop, ht, Nat.mod_one]
    simp [wpOpsS, go_sem, recoverD, hu, hbox]
    refine (keep_nil g _).mono ?_
    rintro e w' ⟨rfl, hb⟩
    have hgo : Below w.heap.size w w' := ((Below.refl _ _).drew).trans hb
    simp [bodyPostS, results, Try.results35]
    cases c₀
    simp_all

end Go.Proofs.Ytmffgdgnaafbpaa.Num
