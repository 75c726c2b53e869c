/- 8 texts in one file, in build order. -/
import Derived.Test.YtjgpljnbeolapaaPart03
import Derived.Test.YtjgpljnbeolapaaPart07
import Derived.Test.YtjgpljnbeolapaaPart08
import Derived.Deep.Cut
import Derived.Test.YtjgpljnbeolapaaPart01
import Derived.Test.YtjgpljnbeolapaaRows
import Derived.Test.YtjgpljnbeolapaaPart02
import Derived.Test.YtjgpljnbeolapaaPart05
import Derived.RangeFuncCalls
import Derived.OrdersIn
import Derived.TacticsIn
import Derived.RangeFuncNested
import Derived.RangeFuncBound
import Derived.RangeFuncLeaves
import Derived.RangeFuncBox
import Derived.Shelf.Abstract
import Derived.Shelf.RegionOpen
import Derived.WalkKit
import Derived.OwnWalkIn
import Derived.TacticsInMore
import Derived.LoopNIn
import Derived.LoopIn
import Derived.Maps.AppendAt
import Derived.ProofKit
set_option linter.unusedVariables false
set_option linter.unusedSimpArgs false
set_option linter.unusedSectionVars false
set_option maxHeartbeats 8000000
set_option maxRecDepth 100000
namespace Go.Proofs.Ytjgpljnbeolapaa
namespace Rg
open Go Go.ChangeShapes Go.WideShapes Go.ChangeAt Go.RowKit
open Tab Flat TabArg QL Ru PlanM
open ChkM (cfAt)
open Clear (phAt)
open PlaceM (where_ spots Spt)
open May (infoP)
theorem first_one {q : Int} (h0 : 0 ≤ q) (h8 : q < 8) : SetM.first ((SetM.of [q] : Nat) : Int) = q := by
  rcases RefS.eight h0 h8 with rfl | rfl | rfl | rfl | rfl | rfl | rfl | rfl <;> decide +kernel
theorem next_spec {l : List Int} {a want : Int} (h : 0 ≤ nextIn l a want) : ∃ i : Nat, nextIn l a want = i ∧ i < l.length ∧ a < (i : Int) ∧ SetM.has want (l.getD i 0) = true ∧ ∀ j, j < i → ¬ (a < (j : Int) ∧ SetM.has want (l.getD j 0) = true) := by
  unfold nextIn at h ⊢
  cases hf : (List.range l.length).find? (fun i : Nat => decide (a < (i : Int)) && SetM.has want (l.getD i 0)) with
  | none => rw [hf] at h; exact absurd h (by decide)
  | some i =>
    rw [List.find?_range_eq_some] at hf
    obtain ⟨h1, h2, h3⟩ := hf
    rw [Bool.and_eq_true, decide_eq_true_eq] at h1
    refine ⟨i, rfl, List.mem_range.1 h2, h1.1, h1.2, fun j hj hh => ?_⟩
    have := h3 j hj
    rw [decide_eq_true hh.1, hh.2] at this
    cases this
theorem now_next {T : Tab} {g : Int} {k : Nat} {i : Nat} {want : Int} (hi : i < (ringAt T g k).length) (h : SetM.has want ((ringAt T g k).getD i 0) = true) : nowS T g k i = (ringAt T g k).getD i 0 := by
  have h8 := has_range h
  unfold nowS
  rw [if_pos ⟨by omega, by omega⟩, Int.toNat_natCast, first_one h8.1 h8.2]
theorem ln_valid (T : Tab) (r : Rg) (want : Int) (k : Nat) : 0 ≤ (lnS T r want k).x → 0 ≤ (lnS T r want k).t ∧ (lnS T r want k).t < 8 := fun h => by
  obtain ⟨i, h1, h2, h3, h4, _⟩ := next_spec h
  show 0 ≤ nowS T r.g k (nextS T r.g k (r.at k) want) ∧ nowS T r.g k (nextS T r.g k (r.at k) want) < 8
  have e : nextS T r.g k (r.at k) want = i := h1
  rw [e, now_next h2 h4]
  exact has_range h4
def rqS (r : Rg) (b0 b1 : Bool) (x0 x1 : Int) : Nat → Rg
  | 0 => r
  | 1 => if b0 then r.put 0 x0 else r
  | _ => if b1 then (if b0 then r.put 0 x0 else r).put 1 x1 else (if b0 then r.put 0 x0 else r)
def sqS (b0 b1 : Bool) (t0 t1 : Int) : Nat → Int
  | 0 => 0
  | 1 => if b0 then (SetM.withN 0 t0 : Nat) else 0
  | _ => stS b0 b1 t0 t1
theorem rq2 (r : Rg) (b0 b1 : Bool) (x0 x1 : Int) : rqS r b0 b1 x0 x1 2 = atS r b0 b1 x0 x1 := by cases b0 <;> cases b1 <;> rfl
theorem rq_step (r : Rg) (b0 b1 : Bool) (x0 x1 : Int) {q : Nat} (hq : q < 2) : rqS r b0 b1 x0 x1 (q + 1) = if (if q = 0 then b0 else b1) then (rqS r b0 b1 x0 x1 q).put q (if q = 0 then x0 else x1) else rqS r b0 b1 x0 x1 q := by
  match q, hq with
  | 0, _ => rfl
  | 1, _ => rfl
theorem sq_step (b0 b1 : Bool) (t0 t1 : Int) {q : Nat} (hq : q < 2) : sqS b0 b1 t0 t1 (q + 1) = if (if q = 0 then b0 else b1) then ((SetM.withN (sqS b0 b1 t0 t1 q) (if q = 0 then t0 else t1) : Nat) : Int) else sqS b0 b1 t0 t1 q := by
  match q, hq with
  | 0, _ => rfl
  | 1, _ => cases b0 <;> cases b1 <;> rfl
theorem results_rtt {P : Program} {fn : Func} {p u x : Tmp} {ty : TypeId} (h : fn.results = #[.cell p ty, .tmp u, .tmp x]) (tmps : Array Value) (w : World) (g : Nat) (t : TypeId) (cs : Array Value) (fr : Nat × Nat) (d : TypeDesc)
    (hp : tmps.getD p undef = .pointer (some ⟨g, 0, none⟩)) (hg : w.heap[g]? = some (.cells cs t fr))
    (hu : P.underlying ty = some d) (hd : (match d with | .struct _ | .array _ _ => true | _ => false) = true) (hi : (P.info? ty).map (·.size) = some cs.size) :
    (results fn tmps).run P w = .ok (.tuple #[.agg cs, tmps.getD u undef, tmps.getD x undef]) w := by
  have hr := run_loadVar_row w g t ty cs fr d hg hu hd hi
  have hp' : tmps[p]?.getD undef = .pointer (some ⟨g, 0, none⟩) := by simpa using hp
  simp [results, h, hp', asAddr, hr]
theorem builtL2 (l0 l1 : Ln) : Try.prog.built 101 [(0, .agg l0.cells.toArray), (1, .agg l1.cells.toArray)] = some (Ln.cells l0 ++ Ln.cells l1).toArray := by kernel_rfl
theorem one_l2 (l0 l1 : Ln) : (Ln.cells l0 ++ Ln.cells l1).toArray.all (·.oneCell') = true := by simp [Ln.cells, Value.oneCell']
theorem zeroK : ∃ Z : List Value, Z.length = 234 ∧ (Try.prog.info? 96).map (fun i => (i.zero, i.size)) = some (some (.agg Z.toArray), 234) :=
  ⟨((Try.prog.info? 96).bind (·.zero)).elim [] (fun v => v.cells.toList), by kernel_rfl, by kernel_rfl⟩
theorem step_any (T : Tab) (hd : Hd) (r : Rg) (rs : List Ru) (want : Int) (w : World) (ht : IsTab w hd T) (h8 : rs.length = 8) (hg : 0 ≤ r.g ∧ r.g < T.groups.length) (few : T.groups.length ≤ 1000) : Calls Try.prog 12 #[.agg (T.cells hd).toArray, .agg r.cells.toArray, .agg (runsC rs).toArray, .int .i64 want] w fun e w' => e = .returned (.tuple #[.agg (stepS T r rs want).r.cells.toArray, I (stepS T r rs want).st, I (stepS T r rs want).en]) ∧ Below w.heap.size w w' := by
  have h1 : (T.cells hd).length = 131 := by have := (cells_ok ht).size; rwa [List.size_toArray] at this
  have h2 : (runsC rs).length = 96 := by rw [runs_len, h8]
  have IA : (Try.prog.info? 32).map (·.size) = some (T.cells hd).length := by rw [h1]; exact PlanW.infoT
  have IR : (Try.prog.info? 46).map (·.size) = some (runsC rs).length := by rw [h2]; exact infoRs
  have O1 := one_tab ht
  have O2 := one_runs rs
  obtain ⟨gr, hgr⟩ : ∃ x, gS rs = x := ⟨_, rfl⟩
  obtain ⟨bu, hbu⟩ : ∃ x, bS rs = x := ⟨_, rfl⟩
  obtain ⟨L0, hL0⟩ : ∃ x, lnS T r want 0 = x := ⟨_, rfl⟩
  obtain ⟨L1, hL1⟩ : ∃ x, lnS T r want 1 = x := ⟨_, rfl⟩
  have V0 := ln_valid T r want 0
  have V1 := ln_valid T r want 1
  rw [hL0] at V0
  rw [hL1] at V1
  have TG : Hid (∀ W, Below w.heap.size w W → Calls Try.prog 37 #[.agg (runsC rs).toArray, .func (.func 38) #[] #[]] W fun e w' => e = .returned (I gr) ∧ Below W.heap.size W w') := Lib.hid (fun W hb => by rw [← hgr]; exact thoseG rs h8 W)
  have TU : Hid (∀ W, Below w.heap.size w W → Calls Try.prog 37 #[.agg (runsC rs).toArray, .func (.func 39) #[] #[]] W fun e w' => e = .returned (I bu) ∧ Below W.heap.size W w') := Lib.hid (fun W hb => by rw [← hbu]; exact thoseB rs h8 W)
  have AC : Hid (∀ W, Below w.heap.size w W → Calls Try.prog 40 #[.agg (kC (T.cells hd) r (runsC rs) want gr bu).toArray] W fun e w' => e = .returned (.agg (Rg.cells (acrS T r want bu)).toArray) ∧ Below W.heap.size W w') := Lib.hid (fun W hb => across_any T hd r rs want gr bu W (ht.below hb) h8 few)
  have LA0 : Hid (∀ W, Below w.heap.size w W → Calls Try.prog 41 #[.agg (kC (T.cells hd) r (runsC rs) want gr bu).toArray, .int .i64 0] W fun e w' => e = .returned (.agg L0.cells.toArray) ∧ Below W.heap.size W w') := Lib.hid (fun W hb => by rw [← hL0]; exact lane_any T hd r rs want gr bu 0 W (ht.below hb) h8 hg (by omega))
  have LA1 : Hid (∀ W, Below w.heap.size w W → Calls Try.prog 41 #[.agg (kC (T.cells hd) r (runsC rs) want gr bu).toArray, .int .i64 1] W fun e w' => e = .returned (.agg L1.cells.toArray) ∧ Below W.heap.size W w') := Lib.hid (fun W hb => by rw [← hL1]; exact lane_any T hd r rs want gr bu 1 W (ht.below hb) h8 hg (by omega))
  obtain ⟨bf, hbf⟩ : ∃ f : Ln → Bool, f = begS T rs bu := ⟨_, rfl⟩
  obtain ⟨ef, hef⟩ : ∃ f : Ln → Bool, f = endS T rs want gr := ⟨_, rfl⟩
  obtain ⟨sf, hsf⟩ : ∃ f : Ln → Bool, f = setS rs gr bu := ⟨_, rfl⟩
  obtain ⟨oo, hoo⟩ : ∃ x, othS want gr = x := ⟨_, rfl⟩
  have BG : Hid (∀ l : Ln, (0 ≤ l.x → 0 ≤ l.t ∧ l.t < 8) → ∀ W, Below w.heap.size w W → Calls Try.prog 42 #[.agg (kC (T.cells hd) r (runsC rs) want gr bu).toArray, .agg l.cells.toArray] W fun e w' => e = .returned (.bool (bf l)) ∧ Below W.heap.size W w') := Lib.hid (fun l hl W hb => by rw [hbf]; exact begs_any T hd r rs want gr bu l W (ht.below hb) h8 hl)
  have EN : Hid (∀ l : Ln, ∀ W, Below w.heap.size w W → Calls Try.prog 44 #[.agg (kC (T.cells hd) r (runsC rs) want gr bu).toArray, .agg l.cells.toArray] W fun e w' => e = .returned (.bool (ef l)) ∧ Below W.heap.size W w') := Lib.hid (fun l W hb => by rw [hef]; exact ends_any T hd r rs want gr bu l W (ht.below hb) h8)
  have SE : Hid (∀ W, Below w.heap.size w W → Calls Try.prog 45 #[.agg (kC (T.cells hd) r (runsC rs) want gr bu).toArray, .agg (Ln.cells L0 ++ Ln.cells L1).toArray] W fun e w' => e = .returned (.bool (sf L0 && sf L1)) ∧ Below W.heap.size W w') := Lib.hid (fun W hb => by rw [hsf]; exact settled_any T hd r rs want gr bu L0 L1 W (ht.below hb) h8)
  have OT : Hid (∀ W, Below w.heap.size w W → Calls Try.prog 46 #[.agg (kC (T.cells hd) r (runsC rs) want gr bu).toArray] W fun e w' => e = .returned (.bool oo) ∧ Below W.heap.size W w') := Lib.hid (fun W hb => by rw [← hoo]; exact oth_any _ r _ want gr bu h1 h2 W)
  have HR : Hid (stepS T r rs want = if r.cr then ⟨acrS T r want bu, 0, 0⟩ else if bits .or .i64 (stS (bf L0) (bf L1) L0.t L1.t) (stS (ef L0) (ef L1) L0.n L1.n) = 0 ∧ (sf L0 = true ∧ sf L1 = true) ∧ oo = true then ⟨⟨r.g, (atS r (bf L0) (bf L1) L0.x L1.x).a0, (atS r (bf L0) (bf L1) L0.x L1.x).a1, true⟩, stS (bf L0) (bf L1) L0.t L1.t, gr⟩ else ⟨atS r (bf L0) (bf L1) L0.x L1.x, stS (bf L0) (bf L1) L0.t L1.t, stS (ef L0) (ef L1) L0.n L1.n⟩) := Lib.hid (by
    unfold stepS stepL
    rw [hgr, hbu, hL0, hL1, hbf, hef, hsf, hoo]
    rfl)
  generalize stepS T r rs want = res at HR ⊢
  obtain ⟨ac, hac⟩ : ∃ x, acrS T r want bu = x := ⟨_, rfl⟩
  rw [hac] at HR AC
  have BK := Lib.hid (builtK (r := r) want gr bu h1 h2)
  have OK := Lib.hid (one_k (r := r) want gr bu O1 O2)
  have KL := Lib.hid (kC_len (r := r) (want := want) (gr := gr) (bu := bu) h1 h2)
  generalize T.cells hd = tc at *
  generalize runsC rs = rc at *
  have H12 := Lib.hid h1
  have H22 := Lib.hid h2
  clear ht h8 hg few hgr hbu hL0 hL1 hbf hef hsf hoo hac h1 h2 O1 O2
  have hVV0 := Lib.hid V0
  have hVV1 := Lib.hid V1
  clear V0 V1
  have hn0 := Blk.Bks.nil w
  have hn1 := hn0.alloc tc.toArray 32
  have hn2 := hn1.alloc r.cells.toArray 36
  rw [show (w.alloc (.cells tc.toArray 32)).heap.size = w.heap.size + 1 by simp] at hn2
  have hn3 := hn2.alloc rc.toArray 46
  rw [show ((w.alloc (.cells tc.toArray 32)).alloc (.cells r.cells.toArray 36)).heap.size = w.heap.size + 1 + 1 by simp] at hn3
  have hn4 := hn3.alloc #[I 0, I 0, I 0, .bool false] 36
  rw [show (((w.alloc (.cells tc.toArray 32)).alloc (.cells r.cells.toArray 36)).alloc (.cells rc.toArray 46)).heap.size = w.heap.size + 1 + 1 + 1 by simp] at hn4
  clear hn0
  clear hn1
  clear hn2
  clear hn3
  go_enter Try.func12, Try.ntmps12
  go_upto_region 1 with fail
  generalize World.alloc (World.alloc (World.alloc (World.alloc w _) _) _) _ = v at hn4 ⊢
  generalize hg3 : w.heap.size + 1 + 1 + 1 = gz at hn4 ⊢
  generalize hg2 : w.heap.size + 1 + 1 = gn at hn4 ⊢
  generalize hg1 : w.heap.size + 1 = gr0 at hn4 ⊢
  generalize hg0 : w.heap.size = gt at hn4 ⊢
  clear hg0 hg1 hg2 hg3
  have H0 := Lib.hid hn4
  clear hn4
  have LT : Hid (∀ W, Below v.heap.size v W → Lies W ⟨gt, 0, none⟩ tc) := Lib.hid (fun W hb => by have := (H0.out.step hb).lies 3 rfl; simpa using this)
  have LR : Hid (∀ W, Below v.heap.size v W → Lies W ⟨gr0, 0, none⟩ r.cells) := Lib.hid (fun W hb => by have := (H0.out.step hb).lies 2 rfl; simpa using this)
  have LN : Hid (∀ W, Below v.heap.size v W → Lies W ⟨gn, 0, none⟩ rc) := Lib.hid (fun W hb => by have := (H0.out.step hb).lies 1 rfl; simpa using this)
  have HV := Lib.hid H0.out.bel
  obtain ⟨ZK, hzk, hZI⟩ : ∃ Z : List Value, Z.length = 234 ∧ (Try.prog.info? 96).map (fun i => (i.zero, i.size)) = some (some (.agg Z.toArray), 234) := zeroK
  have hz := (zero_of_info hZI).1
  go_cut [11] from 15 to 35 (fun t11 wx => ∃ gk, t11 = .pointer (some ⟨gk, 0, none⟩) ∧ Blk.Bks w [(gk, (kC tc r rc want gr bu).toArray, 96), (gz, #[I 0, I 0, I 0, .bool false], 36), (gn, rc.toArray, 46), (gr0, r.cells.toArray, 36), (gt, tc.toArray, 32)] wx)
  case first =>
    refine wp_region_held (S := fun w' => Below v.heap.size v w') (by kernel_rfl) ?_
    have hS : Below v.heap.size v { v with drawn := v.drawn + 1 } := (Below.refl _ _).drew
    have HA := Lib.hid (H0.out.step hS)
    generalize ({ v with drawn := v.drawn + 1 } : World) = v at hS HA ⊢
    refine Held.take_load (i := 0) (some 15) rfl 32 (.tmp 4) ⟨gt, 0, none⟩ tc _ rfl rfl (by kernel_rfl) (by kernel_rfl) (by kernel_rfl) (fun _ _ _ h => h) (by rfl) hS rfl (fun w' hw' => LT.out w' hw') Try.underlying32 rfl IA ?_
    (try dsimp only [Act.put]); (try simp only [List.setIfInBounds_toArray, List.set_cons_zero, List.set_cons_succ])
    refine Held.take_load (i := 1) (some 16) rfl 36 (.tmp 5) ⟨gr0, 0, none⟩ r.cells _ rfl rfl (by kernel_rfl) (by kernel_rfl) (by kernel_rfl) (fun _ _ _ h => h) (by rfl) hS rfl (fun w' hw' => LR.out w' hw') Try.underlying36 rfl infoRg ?_
    (try dsimp only [Act.put]); (try simp only [List.setIfInBounds_toArray, List.set_cons_zero, List.set_cons_succ])
    refine Held.take_load (i := 2) (some 17) rfl 46 (.tmp 6) ⟨gn, 0, none⟩ rc _ rfl rfl (by kernel_rfl) (by kernel_rfl) (by kernel_rfl) (fun _ _ _ h => h) (by rfl) hS rfl (fun w' hw' => LN.out w' hw') Try.underlying46 rfl IR ?_
    (try dsimp only [Act.put]); (try simp only [List.setIfInBounds_toArray, List.set_cons_zero, List.set_cons_succ])
    refine Held.take (i := 3) (some 18) rfl (v := ?_) rfl (by kernel_rfl) (by kernel_rfl) (by kernel_rfl) (fun _ _ _ h => h) (Or.inl ⟨by rfl, ?_⟩) hS ?_
    rotate_left
    · intro w' hw'
      go_simp
      try with_reducible rfl
    (try dsimp only [Act.put]); (try simp only [List.setIfInBounds_toArray, List.set_cons_zero, List.set_cons_succ])
    refine Held.take_load (i := 4) (some 19) rfl 46 (.tmp 6) ⟨gn, 0, none⟩ rc _ rfl rfl (by kernel_rfl) (by kernel_rfl) (by kernel_rfl) (fun _ _ _ h => h) (by rfl) hS rfl (fun w' hw' => LN.out w' hw') Try.underlying46 rfl IR ?_
    (try dsimp only [Act.put]); (try simp only [List.setIfInBounds_toArray, List.set_cons_zero, List.set_cons_succ])
    refine Held.take_load (i := 6) (some 21) rfl 46 (.tmp 6) ⟨gn, 0, none⟩ rc _ rfl rfl (by kernel_rfl) (by kernel_rfl) (by kernel_rfl) (fun _ _ _ h => h) (by rfl) hS rfl (fun w' hw' => LN.out w' hw') Try.underlying46 rfl IR ?_
    (try dsimp only [Act.put]); (try simp only [List.setIfInBounds_toArray, List.set_cons_zero, List.set_cons_succ])
    refine wpAnyH_ready (rs := [5, 9]) (by kernel_rfl) (by simp) (AllReadyH.cons rfl (fun K hK => ?_) (AllReadyH.cons rfl (fun K hK => ?_) AllReadyH.nil))
    · go_simp
      refine (TG.out _ (HV.out.trans (hS.mono HV.out.size))).mono ?_
      rintro e vn ⟨rfl, hb⟩
      have hq := hS.trans (hb.mono hS.size)
      have HA2 := Lib.hid (HA.out.step hb)
      clear hS hb HA
      have HA := HA2
      clear HA2
      go_simp
      refine hK.out _ _ hq (fun hS => ?_)
      clear hK K hq
      rename World => v
      (try dsimp only [Act.put]); (try simp only [List.setIfInBounds_toArray, List.set_cons_zero, List.set_cons_succ])
      refine wpAnyH_ready (rs := [7, 9]) (by kernel_rfl) (by simp) (AllReadyH.cons rfl (fun K hK => ?_) (AllReadyH.cons rfl (fun K hK => ?_) AllReadyH.nil))
      · go_simp
        refine (TU.out _ (HV.out.trans (hS.mono HV.out.size))).mono ?_
        rintro e vn ⟨rfl, hb⟩
        have hq := hS.trans (hb.mono hS.size)
        have HA2 := Lib.hid (HA.out.step hb)
        clear hS hb HA
        have HA := HA2
        clear HA2
        go_simp
        refine hK.out _ _ hq (fun hS => ?_)
        clear hK K hq
        rename World => v
        (try dsimp only [Act.put]); (try simp only [List.setIfInBounds_toArray, List.set_cons_zero, List.set_cons_succ])
        refine Held.take_build (i := 8) (some 23) rfl 96 #[(0, .tmp 15), (1, .tmp 16), (2, .tmp 17), (3, .tmp 18), (4, .tmp 20), (5, .tmp 22)] (kC tc r rc want gr bu).toArray rfl rfl (by kernel_rfl) (by kernel_rfl) (by kernel_rfl) (fun _ _ _ h => h) (by rfl) hS (by have h := BK.out; first | (simp [Act.eval]; exact h) | (go_simp; exact h)) ?_
        (try dsimp only [Act.put]); (try simp only [List.setIfInBounds_toArray, List.set_cons_zero, List.set_cons_succ])
        refine wpAnyH_ready (rs := [9]) (by kernel_rfl) (by simp) (AllReadyH.cons rfl (fun K hK => ?_) AllReadyH.nil)
        go_simp
        have ha := HA.out.alloc ZK.toArray 96
        have HGEgk := Lib.hid hS.size
        have hq := hS.alloc hS.size (.cells ZK.toArray 96)
        clear hS HA
        generalize v.heap.size = gk at ha HGEgk ⊢
        generalize World.alloc v _ = va at ha hq ⊢
        have HA := Lib.hid ha
        clear ha
        refine hK.out _ _ hq (fun hS => ?_)
        clear hK K hq
        rename World => v
        (try dsimp only [Act.put]); (try simp only [List.setIfInBounds_toArray, List.set_cons_zero, List.set_cons_succ])
        refine wpAnyH_ready (rs := [10]) (by kernel_rfl) (by simp) (AllReadyH.cons rfl (fun K hK => ?_) AllReadyH.nil)
        rw [if_pos (by rfl)]
        refine wp_store_row 96 _ _ rfl gk (kC tc r rc want gr bu).toArray rfl rfl 96 _ (HA.out.at 0 rfl) (by rw [List.size_toArray, KL.out]; exact infoK) (by rw [List.size_toArray, List.size_toArray, hzk, KL.out]) OK.out ?_
        have hq := below_setRow hS (g := gk) HGEgk.out (kC tc r rc want gr bu).toArray
        have hput := HA.out.put 0 rfl (kC tc r rc want gr bu).toArray
        simp only [List.set_cons_succ, List.set_cons_zero] at hput
        clear hS HA
        generalize World.setRow _ gk _ = vs at hput hq ⊢
        have HA := Lib.hid hput
        clear hput
        refine hK.out _ _ hq (fun hS => ?_)
        clear hK K hq
        rename World => v
        (try simp only [List.getElem_toArray, List.getElem_cons_succ, List.getElem_cons_zero])
        (try dsimp only [Act.put]); (try simp only [List.setIfInBounds_toArray, List.set_cons_zero, List.set_cons_succ])
        refine wpAnyH_done (by kernel_rfl) ?_ _
        go_wp2_with fail
        go_meet
        case rel => exact ⟨gk, rfl, HA.out⟩
      · go_simp
        have ha := HA.out.alloc ZK.toArray 96
        have HGEgk := Lib.hid hS.size
        have hq := hS.alloc hS.size (.cells ZK.toArray 96)
        clear hS HA
        generalize v.heap.size = gk at ha HGEgk ⊢
        generalize World.alloc v _ = va at ha hq ⊢
        have HA := Lib.hid ha
        clear ha
        refine hK.out _ _ hq (fun hS => ?_)
        clear hK K hq
        rename World => v
        (try dsimp only [Act.put]); (try simp only [List.setIfInBounds_toArray, List.set_cons_zero, List.set_cons_succ])
        refine wpAnyH_ready (rs := [7]) (by kernel_rfl) (by simp) (AllReadyH.cons rfl (fun K hK => ?_) AllReadyH.nil)
        go_simp
        refine (TU.out _ (HV.out.trans (hS.mono HV.out.size))).mono ?_
        rintro e vn ⟨rfl, hb⟩
        have hq := hS.trans (hb.mono hS.size)
        have HA2 := Lib.hid (HA.out.step hb)
        clear hS hb HA
        have HA := HA2
        clear HA2
        go_simp
        refine hK.out _ _ hq (fun hS => ?_)
        clear hK K hq
        rename World => v
        (try dsimp only [Act.put]); (try simp only [List.setIfInBounds_toArray, List.set_cons_zero, List.set_cons_succ])
        refine Held.take_build (i := 8) (some 23) rfl 96 #[(0, .tmp 15), (1, .tmp 16), (2, .tmp 17), (3, .tmp 18), (4, .tmp 20), (5, .tmp 22)] (kC tc r rc want gr bu).toArray rfl rfl (by kernel_rfl) (by kernel_rfl) (by kernel_rfl) (fun _ _ _ h => h) (by rfl) hS (by have h := BK.out; first | (simp [Act.eval]; exact h) | (go_simp; exact h)) ?_
        (try dsimp only [Act.put]); (try simp only [List.setIfInBounds_toArray, List.set_cons_zero, List.set_cons_succ])
        refine wpAnyH_ready (rs := [10]) (by kernel_rfl) (by simp) (AllReadyH.cons rfl (fun K hK => ?_) AllReadyH.nil)
        rw [if_pos (by rfl)]
        refine wp_store_row 96 _ _ rfl gk (kC tc r rc want gr bu).toArray rfl rfl 96 _ (HA.out.at 0 rfl) (by rw [List.size_toArray, KL.out]; exact infoK) (by rw [List.size_toArray, List.size_toArray, hzk, KL.out]) OK.out ?_
        have hq := below_setRow hS (g := gk) HGEgk.out (kC tc r rc want gr bu).toArray
        have hput := HA.out.put 0 rfl (kC tc r rc want gr bu).toArray
        simp only [List.set_cons_succ, List.set_cons_zero] at hput
        clear hS HA
        generalize World.setRow _ gk _ = vs at hput hq ⊢
        have HA := Lib.hid hput
        clear hput
        refine hK.out _ _ hq (fun hS => ?_)
        clear hK K hq
        rename World => v
        (try simp only [List.getElem_toArray, List.getElem_cons_succ, List.getElem_cons_zero])
        (try dsimp only [Act.put]); (try simp only [List.setIfInBounds_toArray, List.set_cons_zero, List.set_cons_succ])
        refine wpAnyH_done (by kernel_rfl) ?_ _
        go_wp2_with fail
        go_meet
        case rel => exact ⟨gk, rfl, HA.out⟩
    · go_simp
      have ha := HA.out.alloc ZK.toArray 96
      have HGEgk := Lib.hid hS.size
      have hq := hS.alloc hS.size (.cells ZK.toArray 96)
      clear hS HA
      generalize v.heap.size = gk at ha HGEgk ⊢
      generalize World.alloc v _ = va at ha hq ⊢
      have HA := Lib.hid ha
      clear ha
      refine hK.out _ _ hq (fun hS => ?_)
      clear hK K hq
      rename World => v
      (try dsimp only [Act.put]); (try simp only [List.setIfInBounds_toArray, List.set_cons_zero, List.set_cons_succ])
      refine wpAnyH_ready (rs := [5]) (by kernel_rfl) (by simp) (AllReadyH.cons rfl (fun K hK => ?_) AllReadyH.nil)
      go_simp
      refine (TG.out _ (HV.out.trans (hS.mono HV.out.size))).mono ?_
      rintro e vn ⟨rfl, hb⟩
      have hq := hS.trans (hb.mono hS.size)
      have HA2 := Lib.hid (HA.out.step hb)
      clear hS hb HA
      have HA := HA2
      clear HA2
      go_simp
      refine hK.out _ _ hq (fun hS => ?_)
      clear hK K hq
      rename World => v
      (try dsimp only [Act.put]); (try simp only [List.setIfInBounds_toArray, List.set_cons_zero, List.set_cons_succ])
      refine wpAnyH_ready (rs := [7]) (by kernel_rfl) (by simp) (AllReadyH.cons rfl (fun K hK => ?_) AllReadyH.nil)
      go_simp
      refine (TU.out _ (HV.out.trans (hS.mono HV.out.size))).mono ?_
      rintro e vn ⟨rfl, hb⟩
      have hq := hS.trans (hb.mono hS.size)
      have HA2 := Lib.hid (HA.out.step hb)
      clear hS hb HA
      have HA := HA2
      clear HA2
      go_simp
      refine hK.out _ _ hq (fun hS => ?_)
      clear hK K hq
      rename World => v
      (try dsimp only [Act.put]); (try simp only [List.setIfInBounds_toArray, List.set_cons_zero, List.set_cons_succ])
      refine Held.take_build (i := 8) (some 23) rfl 96 #[(0, .tmp 15), (1, .tmp 16), (2, .tmp 17), (3, .tmp 18), (4, .tmp 20), (5, .tmp 22)] (kC tc r rc want gr bu).toArray rfl rfl (by kernel_rfl) (by kernel_rfl) (by kernel_rfl) (fun _ _ _ h => h) (by rfl) hS (by have h := BK.out; first | (simp [Act.eval]; exact h) | (go_simp; exact h)) ?_
      (try dsimp only [Act.put]); (try simp only [List.setIfInBounds_toArray, List.set_cons_zero, List.set_cons_succ])
      refine wpAnyH_ready (rs := [10]) (by kernel_rfl) (by simp) (AllReadyH.cons rfl (fun K hK => ?_) AllReadyH.nil)
      rw [if_pos (by rfl)]
      refine wp_store_row 96 _ _ rfl gk (kC tc r rc want gr bu).toArray rfl rfl 96 _ (HA.out.at 0 rfl) (by rw [List.size_toArray, KL.out]; exact infoK) (by rw [List.size_toArray, List.size_toArray, hzk, KL.out]) OK.out ?_
      have hq := below_setRow hS (g := gk) HGEgk.out (kC tc r rc want gr bu).toArray
      have hput := HA.out.put 0 rfl (kC tc r rc want gr bu).toArray
      simp only [List.set_cons_succ, List.set_cons_zero] at hput
      clear hS HA
      generalize World.setRow _ gk _ = vs at hput hq ⊢
      have HA := Lib.hid hput
      clear hput
      refine hK.out _ _ hq (fun hS => ?_)
      clear hK K hq
      rename World => v
      (try simp only [List.getElem_toArray, List.getElem_cons_succ, List.getElem_cons_zero])
      (try dsimp only [Act.put]); (try simp only [List.setIfInBounds_toArray, List.set_cons_zero, List.set_cons_succ])
      refine wpAnyH_done (by kernel_rfl) ?_ _
      go_wp2_with fail
      go_meet
      case rel => exact ⟨gk, rfl, HA.out⟩
  case rest =>
  obtain ⟨gk, rfl, hcut⟩ := hcut
  have H1 := Lib.hid hcut
  clear hcut H0 LT LR LN HV TG TU hz hZI
  rename World => wx
  have KF : Hid (∀ W, Below wx.heap.size wx W → KB W gk tc r rc want gr bu) := Lib.hid (fun W hb => kb (H1.out.step hb) 0 H12.out H22.out rfl)
  have IK : (Try.prog.info? 96).map (·.size) = some (kC tc r rc want gr bu).length := by rw [KL.out]; exact infoK
  have r3 : wx.cell? ⟨gr0, 3, none⟩ = some (.bool r.cr) := H1.out.cell 3 3 rfl rfl
  obtain ⟨cr, hcr⟩ : ∃ x, r.cr = x := ⟨_, rfl⟩
  rw [hcr] at r3 HR
  clear hcr
  cases cr
  rotate_left
  · replace HR : Hid (res = ⟨ac, 0, 0⟩) := Lib.hid (HR.out.trans (if_pos rfl))
    go_upto_region 3 with fail
    clear r3
    go_wp2_with (refine Row.wpList_load_g 96 _ rfl (by first | rfl | (go_simp; done) | fail) ⟨gk, 0, none⟩ rfl (kC tc r rc want gr bu) _ (seg H1.out 0 0 rfl _ (by simp)) Try.underlying96 rfl IK ?_)
    refine (AC.out _ H1.out.bel).mono ?_
    rintro e w2 ⟨rfl, b2⟩
    have H2 := Lib.hid (H1.out.step b2)
    clear b2 KF
    go_wp2_with (refine wpList_store_row rfl 36 _ _ rfl gz ac.cells.toArray rfl rfl 36 _ (H2.out.at 1 rfl) infoRg rfl (one_rg _) ?_)
    have hput := H2.out.put 1 rfl ac.cells.toArray
    simp only [List.set_cons_succ, List.set_cons_zero] at hput
    generalize World.setRow w2 gz _ = w3 at hput ⊢
    have HG := Lib.hid hput
    clear hput
    go_wp2_with fail
    (try simp only [Exit.inBlock, Exit.then])
    refine bodyPost_ret (v := .tuple #[.agg ac.cells.toArray, I (0), I (0)]) ?_ rfl ⟨by rw [HR.out], HG.out.bel⟩
    exact (results_rtt (p := 8) (u := 9) (x := 10) rfl _ _ gz 36 _ (0, 0) _ rfl (HG.out.at 1 rfl) Try.underlying36 rfl infoRg).trans rfl
  replace HR := Lib.hid (HR.out.trans (if_neg (by simp)))
  go_upto_region 4 with fail
  clear r3 AC
  have HV := Lib.hid H1.out.bel
  have KF0 : Hid (∀ W, Below wx.heap.size wx W → Lies W ⟨gk, 0, none⟩ (kC tc r rc want gr bu)) := Lib.hid (fun W hb => by have := (H1.out.step hb).lies 0 rfl; simpa using this)
  go_cut [12] from 28 to 35 (fun t12 wy => ∃ gl, t12 = .pointer (some ⟨gl, 0, none⟩) ∧ Blk.Bks w [(gl, (Ln.cells L0 ++ Ln.cells L1).toArray, 101), (gk, (kC tc r rc want gr bu).toArray, 96), (gz, #[I 0, I 0, I 0, .bool false], 36), (gn, rc.toArray, 46), (gr0, r.cells.toArray, 36), (gt, tc.toArray, 32)] wy)
  case first =>
    refine wp_region_held (S := fun w' => Below wx.heap.size wx w') (by kernel_rfl) ?_
    have hS : Below wx.heap.size wx { wx with drawn := wx.drawn + 1 } := (Below.refl _ _).drew
    have HA := Lib.hid (H1.out.step hS)
    generalize ({ wx with drawn := wx.drawn + 1 } : World) = v at hS HA ⊢
    refine Held.take_load (i := 0) (some 28) rfl 96 (.tmp 11) ⟨gk, 0, none⟩ (kC tc r rc want gr bu) _ rfl rfl (by kernel_rfl) (by kernel_rfl) (by kernel_rfl) (fun _ _ _ h => h) (by rfl) hS rfl (fun w' hw' => (KF0.out w' hw')) Try.underlying96 rfl IK ?_
    (try dsimp only [Act.put]); (try simp only [List.setIfInBounds_toArray, List.set_cons_zero, List.set_cons_succ])
    refine Held.take_load (i := 2) (some 30) rfl 96 (.tmp 11) ⟨gk, 0, none⟩ (kC tc r rc want gr bu) _ rfl rfl (by kernel_rfl) (by kernel_rfl) (by kernel_rfl) (fun _ _ _ h => h) (by rfl) hS rfl (fun w' hw' => (KF0.out w' hw')) Try.underlying96 rfl IK ?_
    (try dsimp only [Act.put]); (try simp only [List.setIfInBounds_toArray, List.set_cons_zero, List.set_cons_succ])
    refine wpAnyH_ready (rs := [1, 5]) (by kernel_rfl) (by simp) (AllReadyH.cons rfl (fun K hK => ?_) (AllReadyH.cons rfl (fun K hK => ?_) AllReadyH.nil))
    · go_simp
      refine (LA0.out _ (HV.out.trans (hS.mono HV.out.size))).mono ?_
      rintro e vn ⟨rfl, hb⟩
      have hq := hS.trans (hb.mono hS.size)
      have HA2 := Lib.hid (HA.out.step hb)
      clear hS hb HA
      have HA := HA2
      clear HA2
      go_simp
      refine hK.out _ _ hq (fun hS => ?_)
      clear hK K hq
      rename World => v
      (try dsimp only [Act.put]); (try simp only [List.setIfInBounds_toArray, List.set_cons_zero, List.set_cons_succ])
      refine wpAnyH_ready (rs := [3, 5]) (by kernel_rfl) (by simp) (AllReadyH.cons rfl (fun K hK => ?_) (AllReadyH.cons rfl (fun K hK => ?_) AllReadyH.nil))
      · go_simp
        refine (LA1.out _ (HV.out.trans (hS.mono HV.out.size))).mono ?_
        rintro e vn ⟨rfl, hb⟩
        have hq := hS.trans (hb.mono hS.size)
        have HA2 := Lib.hid (HA.out.step hb)
        clear hS hb HA
        have HA := HA2
        clear HA2
        go_simp
        refine hK.out _ _ hq (fun hS => ?_)
        clear hK K hq
        rename World => v
        (try dsimp only [Act.put]); (try simp only [List.setIfInBounds_toArray, List.set_cons_zero, List.set_cons_succ])
        refine Held.take_build (i := 4) (some 32) rfl 101 #[(0, .tmp 29), (1, .tmp 31)] (Ln.cells L0 ++ Ln.cells L1).toArray rfl rfl (by kernel_rfl) (by kernel_rfl) (by kernel_rfl) (fun _ _ _ h => h) (by rfl) hS (by have h := builtL2 L0 L1; first | (simp [Act.eval]; exact h) | (go_simp; exact h)) ?_
        (try dsimp only [Act.put]); (try simp only [List.setIfInBounds_toArray, List.set_cons_zero, List.set_cons_succ])
        refine wpAnyH_ready (rs := [5]) (by kernel_rfl) (by simp) (AllReadyH.cons rfl (fun K hK => ?_) AllReadyH.nil)
        go_simp
        have ha := HA.out.alloc #[I 0, I 0, I 0, I 0, I 0, I 0] 101
        have HGEgl := Lib.hid hS.size
        have hq := hS.alloc hS.size (.cells #[I 0, I 0, I 0, I 0, I 0, I 0] 101)
        clear hS HA
        generalize v.heap.size = gl at ha HGEgl ⊢
        generalize World.alloc v _ = va at ha hq ⊢
        have HA := Lib.hid ha
        clear ha
        refine hK.out _ _ hq (fun hS => ?_)
        clear hK K hq
        rename World => v
        (try dsimp only [Act.put]); (try simp only [List.setIfInBounds_toArray, List.set_cons_zero, List.set_cons_succ])
        refine wpAnyH_ready (rs := [6]) (by kernel_rfl) (by simp) (AllReadyH.cons rfl (fun K hK => ?_) AllReadyH.nil)
        rw [if_pos (by rfl)]
        refine wp_store_row 101 _ _ rfl gl (Ln.cells L0 ++ Ln.cells L1).toArray rfl rfl 101 _ (HA.out.at 0 rfl) infoL2 rfl (one_l2 _ _) ?_
        have hq := below_setRow hS (g := gl) HGEgl.out (Ln.cells L0 ++ Ln.cells L1).toArray
        have hput := HA.out.put 0 rfl (Ln.cells L0 ++ Ln.cells L1).toArray
        simp only [List.set_cons_succ, List.set_cons_zero] at hput
        clear hS HA
        generalize World.setRow _ gl _ = vs at hput hq ⊢
        have HA := Lib.hid hput
        clear hput
        refine hK.out _ _ hq (fun hS => ?_)
        clear hK K hq
        rename World => v
        (try simp only [List.getElem_toArray, List.getElem_cons_succ, List.getElem_cons_zero])
        (try dsimp only [Act.put]); (try simp only [List.setIfInBounds_toArray, List.set_cons_zero, List.set_cons_succ])
        refine wpAnyH_done (by kernel_rfl) ?_ _
        go_wp2_with fail
        go_meet
        case rel => exact ⟨gl, rfl, HA.out⟩
      · go_simp
        have ha := HA.out.alloc #[I 0, I 0, I 0, I 0, I 0, I 0] 101
        have HGEgl := Lib.hid hS.size
        have hq := hS.alloc hS.size (.cells #[I 0, I 0, I 0, I 0, I 0, I 0] 101)
        clear hS HA
        generalize v.heap.size = gl at ha HGEgl ⊢
        generalize World.alloc v _ = va at ha hq ⊢
        have HA := Lib.hid ha
        clear ha
        refine hK.out _ _ hq (fun hS => ?_)
        clear hK K hq
        rename World => v
        (try dsimp only [Act.put]); (try simp only [List.setIfInBounds_toArray, List.set_cons_zero, List.set_cons_succ])
        refine wpAnyH_ready (rs := [3]) (by kernel_rfl) (by simp) (AllReadyH.cons rfl (fun K hK => ?_) AllReadyH.nil)
        go_simp
        refine (LA1.out _ (HV.out.trans (hS.mono HV.out.size))).mono ?_
        rintro e vn ⟨rfl, hb⟩
        have hq := hS.trans (hb.mono hS.size)
        have HA2 := Lib.hid (HA.out.step hb)
        clear hS hb HA
        have HA := HA2
        clear HA2
        go_simp
        refine hK.out _ _ hq (fun hS => ?_)
        clear hK K hq
        rename World => v
        (try dsimp only [Act.put]); (try simp only [List.setIfInBounds_toArray, List.set_cons_zero, List.set_cons_succ])
        refine Held.take_build (i := 4) (some 32) rfl 101 #[(0, .tmp 29), (1, .tmp 31)] (Ln.cells L0 ++ Ln.cells L1).toArray rfl rfl (by kernel_rfl) (by kernel_rfl) (by kernel_rfl) (fun _ _ _ h => h) (by rfl) hS (by have h := builtL2 L0 L1; first | (simp [Act.eval]; exact h) | (go_simp; exact h)) ?_
        (try dsimp only [Act.put]); (try simp only [List.setIfInBounds_toArray, List.set_cons_zero, List.set_cons_succ])
        refine wpAnyH_ready (rs := [6]) (by kernel_rfl) (by simp) (AllReadyH.cons rfl (fun K hK => ?_) AllReadyH.nil)
        rw [if_pos (by rfl)]
        refine wp_store_row 101 _ _ rfl gl (Ln.cells L0 ++ Ln.cells L1).toArray rfl rfl 101 _ (HA.out.at 0 rfl) infoL2 rfl (one_l2 _ _) ?_
        have hq := below_setRow hS (g := gl) HGEgl.out (Ln.cells L0 ++ Ln.cells L1).toArray
        have hput := HA.out.put 0 rfl (Ln.cells L0 ++ Ln.cells L1).toArray
        simp only [List.set_cons_succ, List.set_cons_zero] at hput
        clear hS HA
        generalize World.setRow _ gl _ = vs at hput hq ⊢
        have HA := Lib.hid hput
        clear hput
        refine hK.out _ _ hq (fun hS => ?_)
        clear hK K hq
        rename World => v
        (try simp only [List.getElem_toArray, List.getElem_cons_succ, List.getElem_cons_zero])
        (try dsimp only [Act.put]); (try simp only [List.setIfInBounds_toArray, List.set_cons_zero, List.set_cons_succ])
        refine wpAnyH_done (by kernel_rfl) ?_ _
        go_wp2_with fail
        go_meet
        case rel => exact ⟨gl, rfl, HA.out⟩
    · go_simp
      have ha := HA.out.alloc #[I 0, I 0, I 0, I 0, I 0, I 0] 101
      have HGEgl := Lib.hid hS.size
      have hq := hS.alloc hS.size (.cells #[I 0, I 0, I 0, I 0, I 0, I 0] 101)
      clear hS HA
      generalize v.heap.size = gl at ha HGEgl ⊢
      generalize World.alloc v _ = va at ha hq ⊢
      have HA := Lib.hid ha
      clear ha
      refine hK.out _ _ hq (fun hS => ?_)
      clear hK K hq
      rename World => v
      (try dsimp only [Act.put]); (try simp only [List.setIfInBounds_toArray, List.set_cons_zero, List.set_cons_succ])
      refine wpAnyH_ready (rs := [1]) (by kernel_rfl) (by simp) (AllReadyH.cons rfl (fun K hK => ?_) AllReadyH.nil)
      go_simp
      refine (LA0.out _ (HV.out.trans (hS.mono HV.out.size))).mono ?_
      rintro e vn ⟨rfl, hb⟩
      have hq := hS.trans (hb.mono hS.size)
      have HA2 := Lib.hid (HA.out.step hb)
      clear hS hb HA
      have HA := HA2
      clear HA2
      go_simp
      refine hK.out _ _ hq (fun hS => ?_)
      clear hK K hq
      rename World => v
      (try dsimp only [Act.put]); (try simp only [List.setIfInBounds_toArray, List.set_cons_zero, List.set_cons_succ])
      refine wpAnyH_ready (rs := [3]) (by kernel_rfl) (by simp) (AllReadyH.cons rfl (fun K hK => ?_) AllReadyH.nil)
      go_simp
      refine (LA1.out _ (HV.out.trans (hS.mono HV.out.size))).mono ?_
      rintro e vn ⟨rfl, hb⟩
      have hq := hS.trans (hb.mono hS.size)
      have HA2 := Lib.hid (HA.out.step hb)
      clear hS hb HA
      have HA := HA2
      clear HA2
      go_simp
      refine hK.out _ _ hq (fun hS => ?_)
      clear hK K hq
      rename World => v
      (try dsimp only [Act.put]); (try simp only [List.setIfInBounds_toArray, List.set_cons_zero, List.set_cons_succ])
      refine Held.take_build (i := 4) (some 32) rfl 101 #[(0, .tmp 29), (1, .tmp 31)] (Ln.cells L0 ++ Ln.cells L1).toArray rfl rfl (by kernel_rfl) (by kernel_rfl) (by kernel_rfl) (fun _ _ _ h => h) (by rfl) hS (by have h := builtL2 L0 L1; first | (simp [Act.eval]; exact h) | (go_simp; exact h)) ?_
      (try dsimp only [Act.put]); (try simp only [List.setIfInBounds_toArray, List.set_cons_zero, List.set_cons_succ])
      refine wpAnyH_ready (rs := [6]) (by kernel_rfl) (by simp) (AllReadyH.cons rfl (fun K hK => ?_) AllReadyH.nil)
      rw [if_pos (by rfl)]
      refine wp_store_row 101 _ _ rfl gl (Ln.cells L0 ++ Ln.cells L1).toArray rfl rfl 101 _ (HA.out.at 0 rfl) infoL2 rfl (one_l2 _ _) ?_
      have hq := below_setRow hS (g := gl) HGEgl.out (Ln.cells L0 ++ Ln.cells L1).toArray
      have hput := HA.out.put 0 rfl (Ln.cells L0 ++ Ln.cells L1).toArray
      simp only [List.set_cons_succ, List.set_cons_zero] at hput
      clear hS HA
      generalize World.setRow _ gl _ = vs at hput hq ⊢
      have HA := Lib.hid hput
      clear hput
      refine hK.out _ _ hq (fun hS => ?_)
      clear hK K hq
      rename World => v
      (try simp only [List.getElem_toArray, List.getElem_cons_succ, List.getElem_cons_zero])
      (try dsimp only [Act.put]); (try simp only [List.setIfInBounds_toArray, List.set_cons_zero, List.set_cons_succ])
      refine wpAnyH_done (by kernel_rfl) ?_ _
      go_wp2_with fail
      go_meet
      case rel => exact ⟨gl, rfl, HA.out⟩
  case rest =>
  obtain ⟨gl, rfl, hcut⟩ := hcut
  have H2 := Lib.hid hcut
  clear hcut H1 KF KF0 HV LA0 LA1
  rename World => wy
  go_upto_region 6 with (first | (refine Row.wpList_load_g 36 _ rfl (by first | rfl | (go_simp; done) | fail) ⟨gr0, 0, none⟩ rfl r.cells _ (seg H2.out 4 0 rfl _ rfl) Try.underlying36 rfl infoRg ?_) | (refine wpList_store_row rfl 36 _ _ rfl gz r.cells.toArray rfl rfl 36 _ (H2.out.at 2 rfl) infoRg rfl (one_rg _) ?_))
  have hput := H2.out.put 2 rfl r.cells.toArray
  simp only [List.set_cons_succ, List.set_cons_zero] at hput
  generalize World.setRow wy gz _ = wz at hput ⊢
  have H3 := Lib.hid hput
  clear hput
  clear H2
  go_wp2_with (refine Row.wpList_load_g 101 _ rfl (by first | rfl | (go_simp; done) | fail) ⟨gl, 0, none⟩ rfl (Ln.cells L0 ++ Ln.cells L1) _ (seg H3.out 0 0 rfl _ rfl) Try.underlying101 rfl infoL2 ?_)
  go_loopw [9, 10, 35] (fun st en i wr => ∃ q : Nat, q ≤ 2 ∧ i = .int .i64 q ∧ st = I (sqS (bf L0) (bf L1) L0.t L1.t q) ∧ en = I (sqS (ef L0) (ef L1) L0.n L1.n q) ∧ Blk.Bks w [(gl, (Ln.cells L0 ++ Ln.cells L1).toArray, 101), (gk, (kC tc r rc want gr bu).toArray, 96), (gz, (rqS r (bf L0) (bf L1) L0.x L1.x q).cells.toArray, 36), (gn, rc.toArray, 46), (gr0, r.cells.toArray, 36), (gt, tc.toArray, 32)] wr) (fun _ _ i _ => 2 - (intOf i).toNat)
  case atStart => exact ⟨0, by omega, rfl, rfl, rfl, H3.out⟩
  case round =>
    obtain ⟨q, hq, rfl, rfl, rfl, hB⟩ := hrel
    have HB := Lib.hid hB
    clear hB H3
    by_cases hlt : q < 2
    · obtain ⟨l, hl⟩ : ∃ l, (if q = 0 then L0 else L1) = l := ⟨_, rfl⟩
      have hidx := idx_ln L0 L1 hlt
      rw [hl] at hidx
      have hl2 : (q = 0 ∧ l = L0) ∨ (q = 1 ∧ l = L1) := by
        by_cases h0 : q = 0
        · rw [if_pos h0] at hl; exact .inl ⟨h0, hl.symm⟩
        · rw [if_neg h0] at hl; exact .inr ⟨by omega, hl.symm⟩
      have RQ : Hid (rqS r (bf L0) (bf L1) L0.x L1.x (q + 1) = if bf l then (rqS r (bf L0) (bf L1) L0.x L1.x q).put q l.x else rqS r (bf L0) (bf L1) L0.x L1.x q) := Lib.hid (by rw [rq_step _ _ _ _ _ hlt]; rcases hl2 with ⟨rfl, rfl⟩ | ⟨rfl, rfl⟩ <;> rfl)
      have SQ : Hid (sqS (bf L0) (bf L1) L0.t L1.t (q + 1) = if bf l then ((SetM.withN (sqS (bf L0) (bf L1) L0.t L1.t q) l.t : Nat) : Int) else sqS (bf L0) (bf L1) L0.t L1.t q) := Lib.hid (by rw [sq_step _ _ _ _ hlt]; rcases hl2 with ⟨rfl, rfl⟩ | ⟨rfl, rfl⟩ <;> rfl)
      have EQ : Hid (sqS (ef L0) (ef L1) L0.n L1.n (q + 1) = if ef l then ((SetM.withN (sqS (ef L0) (ef L1) L0.n L1.n q) l.n : Nat) : Int) else sqS (ef L0) (ef L1) L0.n L1.n q) := Lib.hid (by rw [sq_step _ _ _ _ hlt]; rcases hl2 with ⟨rfl, rfl⟩ | ⟨rfl, rfl⟩ <;> rfl)
      have VL : Hid (0 ≤ l.x → 0 ≤ l.t ∧ l.t < 8) := Lib.hid (by rcases hl2 with ⟨rfl, rfl⟩ | ⟨rfl, rfl⟩; exact hVV0.out; exact hVV1.out)
      clear hl hl2
      have hq0 : 0 ≤ (q : Int) := by omega
      have hq1 : (q : Int) < 2 := by omega
      generalize rqS r (bf L0) (bf L1) L0.x L1.x q = rq at RQ HB
      generalize sqS (bf L0) (bf L1) L0.t L1.t q = sq at SQ ⊢
      generalize sqS (ef L0) (ef L1) L0.n L1.n q = eq at EQ ⊢
      go_upto_region 9 with (refine Row.wpList_store_new rfl 99 _ _ rfl wr _ l.cells.toArray rfl rfl rfl infoLn rfl (one_ln _) ?_)
      clear hidx
      have hn := HB.out.alloc l.cells.toArray 99
      generalize World.alloc wr _ = w4 at hn ⊢
      generalize wr.heap.size = b4 at hn ⊢
      have H4 := Lib.hid hn
      clear hn HB
      go_wp2_with (first | (refine Row.wpList_load_g 96 _ rfl (by first | rfl | (go_simp; done) | fail) ⟨gk, 0, none⟩ rfl (kC tc r rc want gr bu) _ (seg H4.out 2 0 rfl _ (by simp)) Try.underlying96 rfl IK ?_) | (refine Row.wpList_load_g 99 _ rfl (by first | rfl | (go_simp; done) | fail) ⟨b4, 0, none⟩ rfl l.cells _ (seg H4.out 0 0 rfl _ rfl) Try.underlying99 rfl infoLn ?_))
      refine (BG.out l VL.out _ H4.out.bel).mono ?_
      rintro e w5 ⟨rfl, b5⟩
      have H5 := Lib.hid (H4.out.step b5)
      clear b5 H4
      cases hbl : bf l
      · have SN : Hid (sqS (bf L0) (bf L1) L0.t L1.t (q + 1) = sq) := Lib.hid (by rw [SQ.out, hbl]; rfl)
        have RN : Hid (rqS r (bf L0) (bf L1) L0.x L1.x (q + 1) = rq) := Lib.hid (by rw [RQ.out, hbl]; rfl)
        clear hbl SQ RQ
        go_wp2_with (first | (refine Row.wpList_load_g 96 _ rfl (by first | rfl | (go_simp; done) | fail) ⟨gk, 0, none⟩ rfl (kC tc r rc want gr bu) _ (seg H5.out 2 0 rfl _ (by simp)) Try.underlying96 rfl IK ?_) | (refine Row.wpList_load_g 99 _ rfl (by first | rfl | (go_simp; done) | fail) ⟨b4, 0, none⟩ rfl l.cells _ (seg H5.out 0 0 rfl _ rfl) Try.underlying99 rfl infoLn ?_))
        refine (EN.out l _ H5.out.bel).mono ?_
        rintro e w7 ⟨rfl, b7⟩
        have H7 := Lib.hid (H5.out.step b7)
        clear b7 H5
        cases hel : ef l
        · have EN2 : Hid (sqS (ef L0) (ef L1) L0.n L1.n (q + 1) = eq) := Lib.hid (by rw [EQ.out, hel]; rfl)
          clear hel EQ
          go_wp2
          go_roundw
          case rel => exact ⟨q + 1, by omega, by go_num, by rw [SN.out], by rw [EN2.out], by rw [RN.out]; exact H7.out.drop⟩
          case measure => simp [intOf]; omega
        · have EN2 : Hid (sqS (ef L0) (ef L1) L0.n L1.n (q + 1) = (SetM.withN eq l.n : Nat)) := Lib.hid (by rw [EQ.out, hel]; rfl)
          clear hel EQ
          have l0 : w7.cell? ⟨b4, 0, none⟩ = some (I l.n) := H7.out.cell 0 0 rfl rfl
          go_wp2_with (go_at_call 43; with_reducible refine (Set.with_any _ _ _).mono ?_; rintro e w' ⟨rfl, rfl⟩)
          go_roundw
          case rel => exact ⟨q + 1, by omega, by go_num, by rw [SN.out], by rw [EN2.out], by rw [RN.out]; exact H7.out.drop⟩
          case measure => simp [intOf]; omega
      · have SN : Hid (sqS (bf L0) (bf L1) L0.t L1.t (q + 1) = (SetM.withN sq l.t : Nat)) := Lib.hid (by rw [SQ.out, hbl]; rfl)
        have RN : Hid (rqS r (bf L0) (bf L1) L0.x L1.x (q + 1) = rq.put q l.x) := Lib.hid (by rw [RQ.out, hbl]; rfl)
        clear hbl SQ RQ
        have l2 : w5.cell? ⟨b4, 2, none⟩ = some (I l.t) := H5.out.cell 0 2 rfl rfl
        have l1 : w5.cell? ⟨b4, 1, none⟩ = some (I l.x) := H5.out.cell 0 1 rfl rfl
        go_upto_region 11 with (go_at_call 43; with_reducible refine (Set.with_any _ _ _).mono ?_; rintro e w' ⟨rfl, rfl⟩)
        have kx : w5.cell? ⟨gz, 1 + q, none⟩ = some (rq.cells.toArray[1 + q]'(by show 1 + q < 4; omega)) := H5.out.cell 3 (1 + q) rfl (Array.getElem?_eq_getElem _)
        have fx : w5.frozen? ⟨gz, 1 + q, none⟩ = false := H5.out.frozen 3 (1 + q) rfl
        go_upto_region 12 with fail
        have hput := H5.out.set 3 (1 + q) rfl (I l.x)
        rw [put_cells rq hlt l.x] at hput
        simp only [List.set_cons_succ, List.set_cons_zero] at hput
        generalize World.setCell w5 _ _ = w6 at hput ⊢
        have H6 := Lib.hid hput
        clear hput kx fx l1 l2 H5
        go_wp2_with (first | (refine Row.wpList_load_g 96 _ rfl (by first | rfl | (go_simp; done) | fail) ⟨gk, 0, none⟩ rfl (kC tc r rc want gr bu) _ (seg H6.out 2 0 rfl _ (by simp)) Try.underlying96 rfl IK ?_) | (refine Row.wpList_load_g 99 _ rfl (by first | rfl | (go_simp; done) | fail) ⟨b4, 0, none⟩ rfl l.cells _ (seg H6.out 0 0 rfl _ rfl) Try.underlying99 rfl infoLn ?_))
        refine (EN.out l _ H6.out.bel).mono ?_
        rintro e w7 ⟨rfl, b7⟩
        have H7 := Lib.hid (H6.out.step b7)
        clear b7 H6
        cases hel : ef l
        · have EN2 : Hid (sqS (ef L0) (ef L1) L0.n L1.n (q + 1) = eq) := Lib.hid (by rw [EQ.out, hel]; rfl)
          clear hel EQ
          go_wp2
          go_roundw
          case rel => exact ⟨q + 1, by omega, by go_num, by rw [SN.out], by rw [EN2.out], by rw [RN.out]; exact H7.out.drop⟩
          case measure => simp [intOf]; omega
        · have EN2 : Hid (sqS (ef L0) (ef L1) L0.n L1.n (q + 1) = (SetM.withN eq l.n : Nat)) := Lib.hid (by rw [EQ.out, hel]; rfl)
          clear hel EQ
          have l0 : w7.cell? ⟨b4, 0, none⟩ = some (I l.n) := H7.out.cell 0 0 rfl rfl
          go_wp2_with (go_at_call 43; with_reducible refine (Set.with_any _ _ _).mono ?_; rintro e w' ⟨rfl, rfl⟩)
          go_roundw
          case rel => exact ⟨q + 1, by omega, by go_num, by rw [SN.out], by rw [EN2.out], by rw [RN.out]; exact H7.out.drop⟩
          case measure => simp [intOf]; omega
    · obtain rfl : q = 2 := by omega
      rw [show rqS r (bf L0) (bf L1) L0.x L1.x 2 = atS r (bf L0) (bf L1) L0.x L1.x from rq2 _ _ _ _ _] at HB
      rw [show sqS (bf L0) (bf L1) L0.t L1.t 2 = stS (bf L0) (bf L1) L0.t L1.t from rfl, show sqS (ef L0) (ef L1) L0.n L1.n 2 = stS (ef L0) (ef L1) L0.n L1.n from rfl]
      have NG : Hid ((atS r (bf L0) (bf L1) L0.x L1.x).g = r.g) := Lib.hid rfl
      generalize atS r (bf L0) (bf L1) L0.x L1.x = nr at HR HB NG
      generalize stS (bf L0) (bf L1) L0.t L1.t = st at HR ⊢
      generalize stS (ef L0) (ef L1) L0.n L1.n = en at HR ⊢
      generalize sf L0 = s0 at *
      generalize sf L1 = s1 at *
      clear BG EN
      by_cases hz : bits .or .i64 st en = 0
      rotate_left
      · have hzb : (bits .or .i64 st en == 0) = false := beq_eq_false_iff_ne.2 hz
        have HS : Hid (res = ⟨nr, st, en⟩) := Lib.hid (by rw [HR.out, if_neg (fun h => hz h.1)])
        clear HR
        go_upto_region 17 with fail
        go_wp2_with (first | (refine Row.wpList_load_g 36 _ rfl (by first | rfl | (go_simp; done) | fail) ⟨gz, 0, none⟩ rfl nr.cells _ (seg HB.out 2 0 rfl _ rfl) Try.underlying36 rfl infoRg ?_) | (refine wpList_store_row rfl 36 _ _ rfl gz nr.cells.toArray rfl rfl 36 _ (HB.out.at 2 rfl) infoRg rfl (one_rg _) ?_))
        have hput := HB.out.put 2 rfl nr.cells.toArray
        simp only [List.set_cons_succ, List.set_cons_zero] at hput
        generalize World.setRow wr gz _ = wq at hput ⊢
        have HG := Lib.hid hput
        clear hput
        go_wp2_with fail
        (try simp only [Exit.inBlock, Exit.then])
        refine bodyPost_ret (v := .tuple #[.agg nr.cells.toArray, I (st), I (en)]) ?_ rfl ⟨by rw [HS.out], HG.out.bel⟩
        exact (results_rtt (p := 8) (u := 9) (x := 10) rfl _ _ gz 36 _ (0, 0) _ rfl (HG.out.at 2 rfl) Try.underlying36 rfl infoRg).trans rfl
      have hzb : (bits .or .i64 st en == 0) = true := beq_iff_eq.2 hz
      go_wp2_with (first | (refine Row.wpList_load_g 96 _ rfl (by first | rfl | (go_simp; done) | fail) ⟨gk, 0, none⟩ rfl (kC tc r rc want gr bu) _ (seg HB.out 1 0 rfl _ (by simp)) Try.underlying96 rfl IK ?_) | (refine Row.wpList_load_g 101 _ rfl (by first | rfl | (go_simp; done) | fail) ⟨gl, 0, none⟩ rfl (Ln.cells L0 ++ Ln.cells L1) _ (seg HB.out 0 0 rfl _ rfl) Try.underlying101 rfl infoL2 ?_))
      refine (SE.out _ HB.out.bel).mono ?_
      rintro e w6 ⟨rfl, b6⟩
      have H6 := Lib.hid (HB.out.step b6)
      clear b6 HB SE
      cases hss : (s0 && s1)
      · have HS : Hid (res = ⟨nr, st, en⟩) := Lib.hid (by rw [HR.out, if_neg (fun h => by rw [h.2.1.1, h.2.1.2] at hss; cases hss)])
        clear HR hss
        go_upto_region 17 with fail
        go_wp2_with (first | (refine Row.wpList_load_g 36 _ rfl (by first | rfl | (go_simp; done) | fail) ⟨gz, 0, none⟩ rfl nr.cells _ (seg H6.out 2 0 rfl _ rfl) Try.underlying36 rfl infoRg ?_) | (refine wpList_store_row rfl 36 _ _ rfl gz nr.cells.toArray rfl rfl 36 _ (H6.out.at 2 rfl) infoRg rfl (one_rg _) ?_))
        have hput := H6.out.put 2 rfl nr.cells.toArray
        simp only [List.set_cons_succ, List.set_cons_zero] at hput
        generalize World.setRow w6 gz _ = wq at hput ⊢
        have HG := Lib.hid hput
        clear hput
        go_wp2_with fail
        (try simp only [Exit.inBlock, Exit.then])
        refine bodyPost_ret (v := .tuple #[.agg nr.cells.toArray, I (st), I (en)]) ?_ rfl ⟨by rw [HS.out], HG.out.bel⟩
        exact (results_rtt (p := 8) (u := 9) (x := 10) rfl _ _ gz 36 _ (0, 0) _ rfl (HG.out.at 2 rfl) Try.underlying36 rfl infoRg).trans rfl
      have hs2 : s0 = true ∧ s1 = true := by rwa [Bool.and_eq_true] at hss
      go_wp2_with (refine Row.wpList_load_g 96 _ rfl (by first | rfl | (go_simp; done) | fail) ⟨gk, 0, none⟩ rfl (kC tc r rc want gr bu) _ (seg H6.out 1 0 rfl _ (by simp)) Try.underlying96 rfl IK ?_)
      refine (OT.out _ H6.out.bel).mono ?_
      rintro e w7 ⟨rfl, b7⟩
      have H7 := Lib.hid (H6.out.step b7)
      clear b7 H6 OT
      cases oo
      · have HS : Hid (res = ⟨nr, st, en⟩) := Lib.hid (by rw [HR.out, if_neg (fun h => by cases h.2.2)])
        clear HR hss
        go_upto_region 17 with fail
        go_wp2_with (first | (refine Row.wpList_load_g 36 _ rfl (by first | rfl | (go_simp; done) | fail) ⟨gz, 0, none⟩ rfl nr.cells _ (seg H7.out 2 0 rfl _ rfl) Try.underlying36 rfl infoRg ?_) | (refine wpList_store_row rfl 36 _ _ rfl gz nr.cells.toArray rfl rfl 36 _ (H7.out.at 2 rfl) infoRg rfl (one_rg _) ?_))
        have hput := H7.out.put 2 rfl nr.cells.toArray
        simp only [List.set_cons_succ, List.set_cons_zero] at hput
        generalize World.setRow w7 gz _ = wq at hput ⊢
        have HG := Lib.hid hput
        clear hput
        go_wp2_with fail
        (try simp only [Exit.inBlock, Exit.then])
        refine bodyPost_ret (v := .tuple #[.agg nr.cells.toArray, I (st), I (en)]) ?_ rfl ⟨by rw [HS.out], HG.out.bel⟩
        exact (results_rtt (p := 8) (u := 9) (x := 10) rfl _ _ gz 36 _ (0, 0) _ rfl (HG.out.at 2 rfl) Try.underlying36 rfl infoRg).trans rfl
      have HS : Hid (res = ⟨⟨r.g, nr.a0, nr.a1, true⟩, st, gr⟩) := Lib.hid (by rw [HR.out, if_pos ⟨hz, hs2, rfl⟩])
      clear HR hss hs2 hz hzb
      go_upto_region 16 with fail
      have q1 := (kb H7.out 1 H12.out H22.out rfl).gr
      have kx : w7.cell? ⟨gz, 3, none⟩ = some (.bool nr.cr) := H7.out.cell 2 3 rfl rfl
      have fx : w7.frozen? ⟨gz, 3, none⟩ = false := H7.out.frozen 2 3 rfl
      go_region
      have hput := (H7.out.set 2 3 rfl (.bool true)).drew
      rw [show nr.cells.toArray.setIfInBounds 3 (.bool true) = (Rg.cells ⟨r.g, nr.a0, nr.a1, true⟩).toArray by rw [← NG.out]; rfl] at hput
      simp only [List.set_cons_succ, List.set_cons_zero] at hput
      generalize World.drew (World.setCell w7 _ _) = w8 at hput ⊢
      have H8 := Lib.hid hput
      clear hput kx fx q1 H7
      go_wp2_with (first | (refine Row.wpList_load_g 36 _ rfl (by first | rfl | (go_simp; done) | fail) ⟨gz, 0, none⟩ rfl (⟨r.g, nr.a0, nr.a1, true⟩ : Rg).cells _ (seg H8.out 2 0 rfl _ rfl) Try.underlying36 rfl infoRg ?_) | (refine wpList_store_row rfl 36 _ _ rfl gz (⟨r.g, nr.a0, nr.a1, true⟩ : Rg).cells.toArray rfl rfl 36 _ (H8.out.at 2 rfl) infoRg rfl (one_rg _) ?_))
      have hput := H8.out.put 2 rfl (⟨r.g, nr.a0, nr.a1, true⟩ : Rg).cells.toArray
      simp only [List.set_cons_succ, List.set_cons_zero] at hput
      generalize World.setRow w8 gz _ = wq at hput ⊢
      have HG := Lib.hid hput
      clear hput
      go_wp2_with fail
      (try simp only [Exit.inBlock, Exit.then])
      refine bodyPost_ret (v := .tuple #[.agg (⟨r.g, nr.a0, nr.a1, true⟩ : Rg).cells.toArray, I (st), I (gr)]) ?_ rfl ⟨by rw [HS.out], HG.out.bel⟩
      exact (results_rtt (p := 8) (u := 9) (x := 10) rfl _ _ gz 36 _ (0, 0) _ rfl (HG.out.at 2 rfl) Try.underlying36 rfl infoRg).trans rfl
end Rg
namespace PlanO
open Go.ChangeShapes Go.WideShapes Go.ChangeAt Go.RowKit
open Tab PlaceM PlanM OnS PlanC
open May (infoP St)
open SetP (with_any)
theorem on_with {l : List Ph} {q : Nat} {p : Ph} (h : l[q]? = some p) (hp : p.on = true) : SetM.withN (SetM.of (onTo 0 (l.take q)) : Nat) q = SetM.of (onTo 0 (l.take (q + 1))) := by
  rw [on_step h, hp, if_pos rfl, SetM.with_of]
theorem on_skip {l : List Ph} {q : Nat} {p : Ph} (h : l[q]? = some p) (hp : p.on = false) : SetM.of (onTo 0 (l.take (q + 1))) = SetM.of (onTo 0 (l.take q)) := by
  rw [on_step h, hp]; simp
theorem pon_any (T : Tab) (h : Hd) (w : World) (ht : IsTab w h T) :
    Calls Try.prog 66 #[.agg (T.cells h).toArray] w fun e w' => e = .returned (.int .i64 (onS T : Nat)) ∧ Below w.heap.size w w' := by
  have C := Lib.hid (cells_ok ht)
  generalize (T.cells h).toArray = cs at C ⊢
  have hsz := C.out.size
  have L8 := Lib.hid ht.ph
  have S0 := Lib.hid (St.box (cs := cs) ht)
  have RS : Hid ((onS T : Nat) = SetM.of (onTo 0 T.phases)) := Lib.hid rfl
  have IX : Hid (∀ (q : Nat) u, T.phases[q]? = some u → ∀ W, Sem.run Try.prog (Instr.index 25 (.agg (T.phases.flatMap Ph.cells).toArray) (.int .i64 q)) W = .ok (.agg u.cells.toArray) W) := Lib.hid (fun q u hu W => idx_phase L8.out hu W)
  have LI : Hid ((Try.prog.info? 25).map (·.size) = some (T.phases.flatMap Ph.cells).length) := Lib.hid (by rw [phases_len, L8.out]; exact infoPs)
  generalize onS T = r at RS ⊢
  clear ht
  go_enter Try.func66, Try.ntmps66
  go_upto_region 1 with fail
  generalize w.alloc (.cells cs 32) = w1 at S0 ⊢
  clear hsz
  have LT : Hid (Lies w1 ⟨w.heap.size, 0, none⟩ (T.phases.flatMap Ph.cells)) := Lib.hid (lies_take S0.out.blk 104 _ C.out.phases)
  generalize T.phases.flatMap Ph.cells = fl at IX LI LT
  go_wp2_with (refine Row.wpList_load_g 25 _ rfl (by first | rfl | go_simp) ⟨w.heap.size, 0, none⟩ rfl fl _ LT.out Try.underlying25 rfl LI.out ?_)
  go_loopw [3, 8] (fun v g wr => ∃ q : Nat, q ≤ 8 ∧ g = .int .i64 q ∧ v = .int .i64 (SetM.of (onTo 0 (T.phases.take q)) : Nat) ∧ Below w1.heap.size w1 wr) (fun _ g _ => 8 - (intOf g).toNat)
  case atStart => exact ⟨0, by omega, rfl, rfl, Below.refl _ _⟩
  case round =>
    obtain ⟨q, hq, rfl, rfl, hbel⟩ := hrel
    have HB := Lib.hid hbel
    clear hbel
    by_cases hlt : q < 8
    · have hv : T.phases[q]? = some (T.phases[q]'(by rw [L8.out]; exact hlt)) := List.getElem?_eq_getElem _
      generalize T.phases[q]'(by rw [L8.out]; exact hlt) = u at hv
      have HV := Lib.hid hv
      have hidx := IX.out q u hv
      clear hv
      have hsz := HB.out.size
      go_upto_region 5 with (refine Row.wpList_store_new rfl 24 _ _ rfl wr _ u.cells.toArray rfl rfl rfl infoP rfl (Ph.one _) ?_)
      clear hidx
      have hbn : Below w1.heap.size w1 (wr.alloc (.cells u.cells.toArray 24)) := HB.out.alloc hsz _
      have hg := Row.lies_of_block (heap_alloc_new wr (.cells u.cells.toArray 24))
      have HL := Lib.hid hg
      have HN := Lib.hid hbn
      clear hg hbn HB
      generalize wr.alloc (.cells u.cells.toArray 24) = w4 at HL HN ⊢
      generalize wr.heap.size = b4 at HL ⊢
      have c0 : w4.cell? ⟨b4, 0, none⟩ = some (.bool u.on) := by
        have := HL.out 0 _ rfl
        rwa [Tab.add_zero] at this
      cases hon : u.on with
      | true =>
        rw [hon] at c0
        have HS := Lib.hid (on_with HV.out hon)
        clear hon
        generalize SetM.of (onTo 0 (T.phases.take q)) = s0 at HS ⊢
        go_wp2_with (go_at_call 43; refine (with_any _ _ _).mono ?_; rintro e w' ⟨rfl, rfl⟩)
        go_roundw
        case rel => exact ⟨q + 1, by omega, by go_num, by rw [← HS.out], HN.out⟩
        case measure => simp [intOf]; omega
      | false =>
        rw [hon] at c0
        have HS := Lib.hid (on_skip HV.out hon)
        clear hon
        generalize SetM.of (onTo 0 (T.phases.take q)) = s0 at HS ⊢
        go_wp2
        go_roundw
        case rel => exact ⟨q + 1, by omega, by go_num, by rw [← HS.out], HN.out⟩
        case measure => simp [intOf]; omega
    · have HE : Hid (SetM.of (onTo 0 (T.phases.take q)) = r) := Lib.hid (by rw [RS.out, List.take_of_length_le (by rw [L8.out]; omega)])
      have HF : Hid (Below w.heap.size w wr) := Lib.hid (S0.out.bel.trans (HB.out.mono S0.out.bel.size))
      generalize SetM.of (onTo 0 (T.phases.take q)) = s0 at HE ⊢
      go_wp2
      go_ret
      exact ⟨ret_int (by rw [HE.out]), HF.out⟩
end PlanO
namespace Up
open Go Go.RowKit
def noDefer (l : List Oper) : Bool := l.all fun o => match o.op with | .defer _ => false | _ => true
theorem not_defer {l : List Oper} (h : noDefer l = true) {o : Oper} (ho : o ∈ l) : ∀ c, o.op ≠ .defer c := by
  intro c e
  have := List.all_eq_true.1 h o ho
  rw [e] at this
  cases this
section
variable {P : Program} {l n : Nat} {Q : Exit → Act → World → Prop}
theorem op_up {o : Oper} {a : Act} {w : World} {K K' : Act → World → Prop} (hn : ∀ a w, K a w → K' a w) (hd : ∀ c, o.op ≠ .defer c) (h : o.wp P a w K Q) : o.wpIn (Fence.wide.inRound l) n P a w K' Q := by
  refine ⟨fun _ _ => trivial, ?_⟩
  rw [show (Fence.wide.inRound l).round = some l from rfl, Oper.semAt_some l _ _ hd]
  unfold Oper.wp at h
  generalize (execOp a.eval o).run P w = r at h
  cases r with
  | ok nx w' =>
    cases nx with
    | value v => exact hn _ _ h
    | skip => exact hn _ _ h
    | defer d => exact hn _ _ h
    | enter f args =>
      refine ⟨fun h => (by cases h), CallsIn.inRound l (callsIn_wide.2 (Calls.mono h ?_))⟩
      intro e w'' he
      cases e with
      | returned v => exact hn _ _ he
      | panicked c => exact he
      | outgrown => exact he
    | row row args => exact ⟨fun h => (by cases h), fun c cs _ => let ⟨v, w', r, s⟩ := h c cs; ⟨v, w', hn _ _ r, stepsIn_wide.2 s⟩⟩
    | _ => exact h.elim
  | halt e w' =>
    cases e with
    | panic v => exact h
    | _ => exact h.elim
theorem list_up (hQ : ¬ LetsOut Q) {ops : Array Oper} : ∀ (m : List Oper) (a : Act) (w : World), noDefer m = true → wpList P ops Q m a w → wpListIn (Fence.wide.inRound l) n P ops Q m a w
  | [], a, w, _, h => h
  | o :: rest, a, w, hd, h => by
    have hr : noDefer rest = true := by unfold noDefer at hd ⊢; rw [List.all_cons, Bool.and_eq_true] at hd; exact hd.2
    unfold wpList at h
    unfold wpListIn
    split at h
    · rename_i hw
      rw [if_pos hw]
      rcases h with h | h
      · exact op_up (fun a w h => list_up hQ rest a w hr h) (not_defer hd (List.mem_cons_self ..)) h
      · exact absurd h.2 hQ
    · rename_i hw
      rw [if_neg hw]
      exact ⟨fun _ _ => trivial, list_up hQ rest _ _ hr h⟩
/-- A region that does not draw, in a round, by the plain walk. -/
theorem region_list {id : Nat} {m : List Oper} {a : Act} {w : World} (hQ : ¬ LetsOut Q) (hd : noDefer m = true) (h : wpList P m.toArray Q m a w) : (Code.region id m.toArray false).wpIn (Fence.wide.inRound l) n P Q a w :=
  wpIn_region_lit (list_up hQ m a w hd h)
end
end Up
namespace Each
open Go.RowKit Go.Shelf
open Go.Proofs.Ytjgpljnbeolapaa
attribute [local go_sem] Oper.semAt_some
/-- The block B lies as it lay. -/
def Kept (B : Nat) (W W' : World) : Prop := W'.heap[B]? = W.heap[B]?
theorem Kept.refl (B : Nat) (W : World) : Kept B W W := rfl
theorem Kept.trans {B : Nat} {A C D : World} (h : Kept B A C) (k : Kept B C D) : Kept B A D := Eq.trans k h
theorem Kept.cell {B o : Nat} {A C : World} (h : Kept B A C) : C.cell? ⟨B, o, none⟩ = A.cell? ⟨B, o, none⟩ := by
  simp only [World.cell?, show C.heap[B]? = A.heap[B]? from h]
theorem Kept.below {n₀ B : Nat} {A C : World} (h : Below n₀ A C) (hB : B < n₀) : Kept B A C := h.block B hB
theorem Kept.setCell {B b o : Nat} (W : World) (v : Value) (h : B ≠ b) : Kept B W (W.setCell ⟨b, o, none⟩ v) := Below.heap_setCell _ _ _ B h
theorem kept_b {B : Nat} {w : World} (hB : B < w.heap.size) (W : World) (l : Nat) (o o' : Obj) (hl : w.heap.size ≤ l) (_ : W.heap[l]? = some o) (_ : o.isCells = false) (_ : o.isWalk = false) : Kept B W (W.putObj l o') :=
  World.putObj_heap_other (by omega)
/-- The iterator itself: for every loop body. -/
theorem each1_in (n : Nat) (hn : 1 ≤ n) (l Bs : Nat) (s : Int) (J Jx : List Int → World → Prop)
    (hY : ∀ pre (x : Int) W, J pre W → pre ++ [x] <+: SetM.list s → YieldAt Fence.wide (n - 1) Try.prog l #[.int .i64 x] W fun e W' =>
      (e = .returned (.bool true) ∧ J (pre ++ [x]) W' ∧ Kept Bs W W') ∨ (e = .returned (.bool false) ∧ Jx (pre ++ [x]) W'))
    (W : World) (hc : W.cell? ⟨Bs, 0, none⟩ = some (.int .i64 s)) (h0 : J [] W) :
    CallsIn Fence.wide n Try.prog 60 #[.func (.yield l) #[] #[], .pointer (some ⟨Bs, 0, none⟩)] W fun e W' => (∃ v, e = .returned v) ∧
      ((∃ ys, ys = SetM.list s ∧ J ys W') ∨ (∃ pre, pre <+: SetM.list s ∧ Jx pre W')) := by
  refine callsIn_of_wp Try.func60 rfl trivial ?_ rfl
  simp only [Try.ntmps60, List.size_toArray, List.length_cons, List.length_nil, Nat.reduceAdd, Nat.reduceSub, Array.replicate_succ, Array.replicate_zero, List.push_toArray, List.append_toArray, List.nil_append, List.cons_append]
  gi_wp2
  gi_loopw [4] (fun i wr => ∃ k : Nat, k ≤ 8 ∧ i = .int .i64 k ∧ J (SetM.upto s k) wr ∧ Kept Bs W wr)
    (fun i _ => 8 - (intOf i).toNat)
  case atStart => exact ⟨0, Nat.zero_le _, rfl, h0, Kept.refl _ _⟩
  case round =>
    obtain ⟨k, hk, rfl, hJs, hnx⟩ := hrel
    have hcx := (hnx.cell (o := 0)).trans hc
    by_cases hlt : k < 8
    · by_cases hh : SetM.has s k = true
      · obtain ⟨fn, tmps, assign, body, hy, hR⟩ := hY _ (k : Int) wr hJs (by rw [← SetM.upto_hit s k hh]; exact SetM.upto_list s (k + 1) (by omega))
        have Hs := Lib.hid (SetM.upto_hit s k hh)
        have Hp := Lib.hid (SetM.upto_list s (k + 1) (by omega))
        gi_wp2_with (refine ⟨trivial, ?_⟩; gi_at_call 59; refine (callsIn_wide.2 (SetP.has_any _ _ _)).mono ?_; rintro e w' ⟨rfl, rfl⟩; rw [hh])
        refine hR.mono ?_
        rintro e W3 (⟨rfl, hJ3, hk3⟩ | ⟨rfl, hJx3⟩)
        · gi_wp2
          go_roundw
          case rel => exact ⟨k + 1, by omega, by go_num, by rw [Hs.out]; exact hJ3, hnx.trans hk3⟩
          case measure => simp [intOf]; omega
        · gi_wp2
          refine bodyPost_ret (results_none rfl _ _ _) rfl ?_
          exact ⟨⟨_, rfl⟩, .inr ⟨_, by rw [← Hs.out]; exact Hp.out, hJx3⟩⟩
      · have hh' : SetM.has s k = false := by simpa using hh
        have Hs := Lib.hid (SetM.upto_miss s k hh')
        clear hh
        gi_wp2_with (refine ⟨trivial, ?_⟩; gi_at_call 59; refine (callsIn_wide.2 (SetP.has_any _ _ _)).mono ?_; rintro e w' ⟨rfl, rfl⟩; rw [hh'])
        refine ⟨fun _ h => (by cases h), ?_⟩
        gi_wp2
        go_roundw
        case rel => exact ⟨k + 1, by omega, by go_num, by rw [Hs.out]; exact hJs, hnx⟩
        case measure => simp [intOf]; omega
    · obtain rfl : k = 8 := by omega
      gi_wp2
      go_end0
      exact ⟨⟨_, rfl⟩, .inl ⟨_, rfl, hJs⟩⟩
/-- set.Each(s): the set is boxed; the function value captures the box. -/
theorem each_in (n : Nat) (s : Int) (w : World) :
    CallsIn Fence.wide n Try.prog 33 #[.int .i64 s] w fun e w' => e = .returned (.func (.func 60) #[] #[.pointer (some ⟨w.heap.size, 0, none⟩)]) ∧ w' = w.alloc (.cells #[.int .i64 s] 3) := by
  refine callsIn_of_wp Try.func33 rfl trivial ?_ rfl
  simp only [Try.ntmps33, List.size_toArray, List.length_cons, List.length_nil, Nat.reduceAdd, Nat.reduceSub, Array.replicate_succ, Array.replicate_zero, List.push_toArray, List.append_toArray, List.nil_append, List.cons_append]
  gi_wp2
  go_ret
  exact ⟨rfl, rfl⟩
/-- What the body is handed: a member of the set. -/
abbrev Mem (s : Int) := { x : Int // x ∈ SetM.list s }
/-- The value that set.Each hands back: the phases of s, in order; or the first of them, where a round has said 'no more'. -/
theorem each_mem (n : Nat) (hn : 1 ≤ n) (Bs : Nat) (s : Int) (w : World) (hBs : Bs < w.heap.size) (hc : w.cell? ⟨Bs, 0, none⟩ = some (.int .i64 s)) :
    SeqStopsK Fence.wide n Try.prog 60 #[.pointer (some ⟨Bs, 0, none⟩)] (fun x : Mem s => #[Value.int .i64 x.1]) (Kept Bs) (fun ys => ys.map Subtype.val = SetM.list s) (fun pre => pre.map Subtype.val <+: SetM.list s) (SetM.list s).length w := fun l J Jx W hW _ _ hY h0 => by
  refine (each1_in n hn l Bs s (fun pre W => ∃ m : List (Mem s), m.map Subtype.val = pre ∧ J m W) (fun pre W => ∃ m : List (Mem s), m.map Subtype.val = pre ∧ Jx m W) ?_ W ((hW.cell (p := ⟨Bs, 0, none⟩) hBs).trans hc) ⟨[], rfl, h0⟩).mono ?_
  · rintro pre x W1 ⟨m, rfl, hJ⟩ hp
    have hx : x ∈ SetM.list s := hp.subset (by simp)
    have hl : m.length < (SetM.list s).length := by have := hp.length_le; simp at this; omega
    obtain ⟨fn, tmps, assign, body, hy, hR⟩ := hY m ⟨x, hx⟩ W1 hJ hl
    refine ⟨fn, tmps, assign, body, hy, hR.mono ?_⟩
    rintro e W' (⟨h1, h2, h3⟩ | ⟨h1, h2⟩)
    · exact .inl ⟨h1, ⟨_, by simp, h2⟩, h3⟩
    · exact .inr ⟨h1, ⟨_, by simp, h2⟩⟩
  · rintro e W' ⟨hv, h⟩
    refine ⟨hv, ?_⟩
    rcases h with ⟨ys, rfl, m, hm, hJ⟩ | ⟨pre, hp, m, rfl, hJ⟩
    · exact .inl ⟨m, hm, hJ⟩
    · exact .inr ⟨m, hp, hJ⟩
end Each
namespace Search
open Go.RowKit Go.Shelf
open Each
/-- How a round of a search is left: it goes on, nothing that lay has turned; or it returns, and has written the block R. -/
def post (R : Nat) (o : Int → Obj) (bad : Int → Bool) (x : Int) (W : World) : Exit → Act → World → Prop
  | .normal, _, W' => bad x = false ∧ Below W.heap.size W W'
  | .ret, _, W' => bad x = true ∧ W.grownBy W' (some R) ∧ W'.heap[R]? = some (o x)
  | _, _, _ => False
theorem keeps_below {B : Nat} {W W' : World} (h : Below W.heap.size W W') : KeepsFrom B W W' := ⟨h.size, fun k o _ hk _ => (h.block k (Array.getElem?_eq_some_iff.1 hk).1).trans hk⟩
theorem grown_of_below {W W' : World} {row : Option Nat} (h : Below W.heap.size W W') : W.grownBy W' row := ⟨h.os, h.tape, h.output, h.size, fun j hj _ => h.block j hj⟩
theorem grown_trans {A B C : World} {R : Nat} (h : A.grownBy B (some R)) (k : B.grownBy C (some R)) : A.grownBy C (some R) :=
  ⟨k.os.trans h.os, k.tape.trans h.tape, k.output.trans h.output, Nat.le_trans h.size k.size, fun j hj hne => (k.block j (Nat.lt_of_lt_of_le hj h.size) hne).trans (h.block j hj hne)⟩
theorem grown_from {A B C : World} {R : Nat} {row : Option Nat} (h : A.grownBy B (some R)) (k : B.grownBy C row) (hr : ∀ r, row = some r → A.heap.size ≤ r) : A.grownBy C (some R) :=
  ⟨k.os.trans h.os, k.tape.trans h.tape, k.output.trans h.output, Nat.le_trans h.size k.size, fun j hj hne => (k.block j (Nat.lt_of_lt_of_le hj h.size) (fun e => by have := hr j e.symm; omega)).trans (h.block j hj hne)⟩
theorem find_pre {f : Int → Bool} {l p : List Int} {x : Int} (hp : p ++ [x] <+: l) (hn : ∀ y ∈ p, f y = false) (hx : f x = true) : l.find? f = some x := by
  obtain ⟨t, rfl⟩ := hp
  rw [List.append_assoc, List.find?_append, List.find?_eq_none.2 (fun y hy => by simp [hn y hy])]
  simp [hx]
theorem search {n : Nat} {g : Operand} {ps : Array Tmp} {assign body : Code} {Q : Exit → Act → World → Prop} {a : Act} {W0 : World} (bad : Int → Bool) (o : Int → Obj) (Bs R : Nat) (s : Int)
    (hn : 3 ≤ n) (hg : a.eval g = .func (.func 60) #[] #[.pointer (some ⟨Bs, 0, none⟩)]) (hps : ps.size = 1) (hBs : Bs < W0.heap.size) (hR : R < W0.heap.size) (hc : W0.cell? ⟨Bs, 0, none⟩ = some (.int .i64 s)) (a₁ : Int → Act)
    (hassign : ∀ (l : Nat) (x : Int) (W : World) (K : Act → World → Prop), K (a₁ x) W → assign.wpIn (Fence.wide.inRound l) (n - 1 - 1) Try.prog (Exit.then K (fun _ _ _ => False)) { tmps := (ps.zip #[Value.int .i64 x]).foldl (fun t (p, v) => t.setIfInBounds p v) a.tmps, defers := [] } W)
    (hbody : ∀ (l : Nat) (x : Int) (W : World), x ∈ SetM.list s → Below W0.heap.size W0 W → body.wpIn (Fence.wide.inRound l) (n - 1 - 1) Try.prog (post R o bad x W) (a₁ x) W)
    (hdone : ∀ (D : Nat) (W : World), W0.heap.size ≤ D → (∀ x ∈ SetM.list s, bad x = false) → Below W0.heap.size W0 W → W.heap[D]? = some (.deferred (some [])) → Q .normal { a with defers := { target := .collected D, args := #[] } :: a.defers } W)
    (hstop : ∀ (D : Nat) (x : Int) (W : World), W0.heap.size ≤ D → (SetM.list s).find? bad = some x → bad x = true → W0.grownBy W (some R) → W.heap[R]? = some (o x) → W.heap[D]? = some (.deferred (some [])) → Code.ret.wpIn Fence.wide n Try.prog Q { a with defers := { target := .collected D, args := #[] } :: a.defers } W) :
    (Code.rangeFunc g ps assign body).wpIn Fence.wide n Try.prog Q a W0 := by
  refine wpIn_rangeFunc_ownG rfl (by omega) (gf := 60) (lb := #[.pointer (some ⟨Bs, 0, none⟩)]) hg trivial (enters_of Try.func60 (by kernel_rfl) rfl)
    (each_mem _ (by omega) Bs s W0 hBs hc) Kept.trans (kept_b hBs) (Below.refl _ _) (fun _ => hps.symm)
    (fun pre W => (∀ y ∈ pre, bad y.1 = false) ∧ Below W0.heap.size W0 W)
    (fun c pre W => (c = .ret ∧ ∃ p0 x, pre = p0 ++ [x] ∧ (∀ y ∈ p0, bad y.1 = false) ∧ bad x.1 = true ∧ W.heap[R]? = some (o x.1)) ∧ W0.grownBy W (some R))
    (OwnFrom.and (ownFrom_pure _ _) (ownFrom_below (Nat.le_refl _) (Nat.le_refl _)))
    ?own ⟨by simp, Below.refl _ _⟩ (fun x => a₁ x.1) (fun l x W K h => hassign l x.1 W K h) ?body ?done ?stop
  case own =>
    rintro c pre W W' row ⟨⟨h1, p0, x, h2, h3, h4, h5⟩, hg⟩ hgr hr
    have hlt : R < W.heap.size := (Array.getElem?_eq_some_iff.1 h5).1
    exact ⟨⟨h1, p0, x, h2, h3, h4, (hgr.block R hlt (fun e => by have := (hr R e.symm).1; omega)).trans h5⟩, grown_from hg hgr (fun r e => (hr r e).1)⟩
  case body =>
    rintro l pre x W ⟨hp, hB⟩ _
    refine wpIn_mono (hbody l x.1 W x.2 hB) ?_
    intro e a' W' h
    cases e with
    | normal =>
      obtain ⟨h1, h2⟩ := h
      refine ⟨keeps_below h2, Kept.below h2 (by have := hB.size; omega), ?_, hB.trans (h2.mono hB.size)⟩
      intro y hy
      rcases List.mem_append.1 hy with hy | hy
      · exact hp y hy
      · obtain rfl : y = x := by simpa using hy
        exact h1
    | ret =>
      obtain ⟨h1, h2, h3⟩ := h
      exact ⟨KeepsFrom.of_grownBy h2 (fun j e => by cases e; exact hR), ⟨rfl, pre, x, rfl, hp, h1, h3⟩, grown_trans (grown_of_below (hB.mono (Nat.le_refl _))) h2⟩
    | _ => exact h.elim
  case done =>
    rintro D xs W hD hS ⟨hp, hB⟩ hK
    refine hdone D W hD ?_ hB hK
    rw [← hS]
    intro x hx
    obtain ⟨y, hy, rfl⟩ := List.mem_map.1 hx
    exact hp y hy
  case stop =>
    rintro D c pre W hD hS ⟨⟨rfl, p0, x, rfl, h3, h4, h5⟩, hg⟩ hK
    refine hstop D x.1 W hD (find_pre (p := p0.map Subtype.val) (by simpa using hS) ?_ h4) h4 hg h5 hK
    intro y hy
    obtain ⟨z, hz, rfl⟩ := List.mem_map.1 hy
    exact h3 z hz
end Search
namespace Rg
open Go Go.ChangeShapes Go.WideShapes Go.ChangeAt Go.RowKit
open Tab Flat TabArg QL Ru PlanM
open ChkM (cfAt)
open Clear (phAt)
open PlaceM (where_ spots Spt)
open May (infoP)
open Search
open Each (each_mem each_in kept_b)
open Each (Kept Kept.trans Kept.cell Kept.below Kept.setCell)
attribute [local go_sem] Oper.semAt_some
/-- the set so far -/
def fS (f : Int → Bool) (l : List Int) : Nat := SetM.of (l.filter f)
theorem fS_hit {f : Int → Bool} {l : List Int} {x : Int} (h : f x = true) : SetM.withN (fS f l : Nat) x = fS f (l ++ [x]) := by
  unfold fS; rw [SetM.with_of, List.filter_append]; simp [h]
theorem fS_miss {f : Int → Bool} {l : List Int} {x : Int} (h : f x = false) : fS f (l ++ [x]) = fS f l := by
  unfold fS; rw [List.filter_append]; simp [h]
def inP (f : Int → Bool) (s x : Int) (l : List Int) : Int := if l.any f then (SetM.withN s x : Nat) else s
theorem with_with (s x : Int) : SetM.withN (SetM.withN s x : Nat) x = SetM.withN s x := by
  have h : SetM.low ((SetM.withN s x : Nat) : Int) = SetM.withN s x := SetM.low_nat _ (SetM.with_lt s x)
  show SetM.low ((SetM.withN s x : Nat) : Int) ||| SetM.bit x = SetM.withN s x
  rw [h]
  unfold SetM.withN
  rw [Nat.or_assoc, Nat.or_self]
theorem bks_ne {w u : World} {L : List Blk.Bl} (h : Blk.Bks w L u) (i j : Nat) {g g' : Nat} {c c' : Array Value} {t t' : TypeId} (hi : L[i]? = some (g, c, t)) (hj : L[j]? = some (g', c', t')) (hij : i ≠ j) : g ≠ g' :=
  Blk.nd_ne h.apart (i := i) (j := j) (by rw [List.getElem?_map, hi]; rfl) (by rw [List.getElem?_map, hj]; rfl) hij
theorem bks_lt {w u : World} {L : List Blk.Bl} (h : Blk.Bks w L u) (i : Nat) {g : Nat} {c : Array Value} {t : TypeId} (hi : L[i]? = some (g, c, t)) : g < u.heap.size := Blk.lt_of (h.at i hi)
theorem bks_grown {w u W : World} {L : List Blk.Bl} (h : Blk.Bks w L u) {R : Nat} (hg : u.grownBy W (some R)) (i : Nat) {g : Nat} {c : Array Value} {t : TypeId} (hi : L[i]? = some (g, c, t)) (hne : g ≠ R) : W.heap[g]? = some (.cells c t (0, 0)) :=
  (hg.block g (bks_lt h i hi) (fun e => hne (Option.some.inj e))).trans (h.at i hi)
theorem inP_hit {f : Int → Bool} {s x : Int} {l : List Int} {q : Int} (h : f q = true) : (SetM.withN (inP f s x l) x : Nat) = inP f s x (l ++ [q]) := by
  unfold inP
  rw [List.any_append]
  simp only [List.any_cons, h, Bool.true_or, Bool.or_true, if_true]
  split
  · rw [with_with]
  · rfl
theorem inP_miss {f : Int → Bool} {s x : Int} {l : List Int} {q : Int} (h : f q = false) : inP f s x (l ++ [q]) = inP f s x l := by
  unfold inP
  rw [List.any_append]
  simp [h]
theorem pressed_any (T : Tab) (hd : Hd) (r : Rg) (rs : List Ru) (want : Int) (w : World) (ht : IsTab w hd T) (h8 : rs.length = 8) : Calls Try.prog 49 #[.agg (T.cells hd).toArray, .agg r.cells.toArray, .agg (runsC rs).toArray, .int .i64 want] w fun e w' => e = .returned (.int .i64 (prsS T r rs want)) ∧ Below w.heap.size w w' := by
  have h1 : (T.cells hd).length = 131 := by have := (cells_ok ht).size; rwa [List.size_toArray] at this
  have h2 : (runsC rs).length = 96 := by rw [runs_len, h8]
  have IA : (Try.prog.info? 32).map (·.size) = some (T.cells hd).length := by rw [h1]; exact PlanW.infoT
  have IR : (Try.prog.info? 46).map (·.size) = some (runsC rs).length := by rw [h2]; exact infoRs
  obtain ⟨gr, hgr⟩ : ∃ x, gS rs = x := ⟨_, rfl⟩
  obtain ⟨on, hon⟩ : ∃ x : Int, (OnS.onS T : Nat) = x := ⟨_, rfl⟩
  obtain ⟨lat, hlat⟩ : ∃ f : Int → Int → Bool, f = fun p q => !latS T r p q := ⟨_, rfl⟩
  have TG : Hid (∀ W, Below w.heap.size w W → Calls Try.prog 37 #[.agg (runsC rs).toArray, .func (.func 38) #[] #[]] W fun e w' => e = .returned (I gr) ∧ Below W.heap.size W w') := Lib.hid (fun W hb => by rw [← hgr]; exact thoseG rs h8 W)
  have ON : Hid (∀ W, Below w.heap.size w W → Calls Try.prog 66 #[.agg (T.cells hd).toArray] W fun e w' => e = .returned (.int .i64 on) ∧ Below W.heap.size W w') := Lib.hid (fun W hb => by rw [← hon]; exact PlanO.pon_any T hd W (ht.below hb))
  have LA : Hid (∀ p q W, Below w.heap.size w W → Calls Try.prog 67 #[.agg (T.cells hd).toArray, .agg r.cells.toArray, .int .i64 p, .int .i64 q] W fun e w' => e = .returned (.bool (!lat p q)) ∧ Below W.heap.size W w') := Lib.hid (fun p q W hb => by rw [hlat]; dsimp only; rw [Bool.not_not]; exact later_any T hd r p q W (ht.below hb))
  have YR : Hid (prsS T r rs want = (fS (fun p => (SetM.list (bits .andNot .i64 want gr)).any (lat p)) (SetM.list (bits .and .i64 gr on)) : Nat)) := Lib.hid (by unfold prsS fS; rw [hgr, hon, hlat])
  generalize prsS T r rs want = res at YR ⊢
  generalize T.cells hd = tc at *
  generalize runsC rs = rc at *
  clear ht h8 hgr hon hlat
  have hn0 := Blk.Bks.nil w
  have hn1 := hn0.alloc tc.toArray 32
  have hn2 := hn1.alloc r.cells.toArray 36
  rw [show (w.alloc (.cells tc.toArray 32)).heap.size = w.heap.size + 1 by simp] at hn2
  have hn3 := hn2.alloc rc.toArray 46
  rw [show ((w.alloc (.cells tc.toArray 32)).alloc (.cells r.cells.toArray 36)).heap.size = w.heap.size + 1 + 1 by simp] at hn3
  have hn4 := hn3.alloc #[.int .i64 want] 3
  rw [show (((w.alloc (.cells tc.toArray 32)).alloc (.cells r.cells.toArray 36)).alloc (.cells rc.toArray 46)).heap.size = w.heap.size + 1 + 1 + 1 by simp] at hn4
  clear hn0 hn1 hn2 hn3
  refine (callsIn_wide (n := 6)).1 ?_
  refine callsIn_of_wp_marks Try.func49 rfl trivial ?_ rfl
  simp only [Try.ntmps49, List.size_toArray, List.length_cons, List.length_nil, Nat.reduceAdd, Nat.reduceSub, Array.replicate_succ, Array.replicate_zero, List.push_toArray, List.append_toArray, List.nil_append, List.cons_append]
  refine wpIn_wide.2 ?_
  go_upto_region 1 with fail
  generalize World.alloc (World.alloc (World.alloc (World.alloc w _) _) _) _ = v at hn4 ⊢
  generalize hg4 : w.heap.size + 1 + 1 + 1 = gw at hn4 ⊢
  generalize hg3 : w.heap.size + 1 + 1 = gn at hn4 ⊢
  generalize hg2 : w.heap.size + 1 = gr0 at hn4 ⊢
  generalize hg1 : w.heap.size = gt at hn4 ⊢
  have H0 := Lib.hid hn4
  clear hn4 hg1 hg2 hg3 hg4
  go_wp2_with (refine Row.wpList_load_g 46 _ rfl (by first | rfl | (go_simp; done) | fail) ⟨gn, 0, none⟩ rfl rc _ (seg H0.out 1 0 rfl _ (by simp)) Try.underlying46 rfl IR ?_)
  refine (TG.out _ H0.out.bel).mono ?_
  rintro e v1 ⟨rfl, b1⟩
  have H1 := Lib.hid (H0.out.step b1)
  clear b1 H0 TG IR
  go_wp2_with fail
  have hn := (H1.out.alloc #[.int .i64 gr] 3).alloc #[.int .i64 0] 3
  rw [show (v1.alloc (.cells #[.int .i64 gr] 3)).heap.size = v1.heap.size + 1 by simp] at hn
  generalize World.alloc (World.alloc v1 _) _ = v2 at hn ⊢
  generalize hga : v1.heap.size + 1 = g10 at hn ⊢
  generalize v1.heap.size = g9 at hn ⊢
  clear hga H1
  have H2 := Lib.hid hn
  clear hn
  have HV := Lib.hid H2.out.bel
  have LT2 : Hid (∀ W, Below v2.heap.size v2 W → Lies W ⟨gt, 0, none⟩ tc) := Lib.hid (fun W hb => by have := (H2.out.step hb).lies 5 rfl; simpa using this)
  have q9 : ∀ q : QB.By v2.heap.size v2, q.world.cell? ⟨g9, 0, none⟩ = some (.int .i64 gr) := fun q => (H2.out.by q).cell 1 0 rfl rfl
  refine QT.region v2.heap.size 4 (by kernel_rfl) (by kernel_rfl) ?_
  simp only [List.take_succ_cons, List.take_zero]
  repeat first
    | (refine wpQuiet_load rfl 32 _ rfl ⟨gt, 0, none⟩ rfl tc _ (fun w' ⟨pw, e⟩ => by rw [e]; exact LT2.out _ pw.below) Try.underlying32 rfl IA ?_
       dsimp only [Act.put]
       simp only [List.setIfInBounds_toArray, List.set_cons_zero, List.set_cons_succ])
    | (quiet_step (first | (go_at_call 66; with_reducible exact QB.call_of (Nat.le_refl _) (fun b => ON.out _ (HV.out.trans (b.mono HV.out.size))))))
  refine wpQuiet_nil ?_
  intro _ hw'
  obtain ⟨pq, rfl⟩ := hw'
  have HP := Lib.hid (H2.out.by pq)
  generalize pq.world = vp at HP ⊢
  simp only [List.drop_succ_cons, List.drop_zero]
  clear q9 H2 LT2 HV ON
  generalize hs : bits .and .i64 gr on = s at *
  clear hs
  go_wp2_with fail
  refine (callsIn_wide.1 (each_in 6 _ _)).mono ?_
  rintro e vn ⟨rfl, rfl⟩
  go_wp2_with fail
  have ha := HP.out.alloc #[.int .i64 s] 3
  generalize vp.heap.size = be at ha ⊢
  generalize World.alloc vp _ = W4 at ha ⊢
  have H4 := Lib.hid ha
  clear ha HP
  have bS : Boxed W4 g10 3 (.int .i64 0) := H4.out.at 1 rfl
  have bE : Boxed W4 be 3 (.int .i64 s) := H4.out.at 0 rfl
  have n0 := bks_ne H4.out 0 1 rfl rfl (by decide)
  have n2 := bks_ne H4.out 2 1 rfl rfl (by decide)
  have n3 := bks_ne H4.out 3 1 rfl rfl (by decide)
  have n5 := bks_ne H4.out 5 1 rfl rfl (by decide)
  have n6 := bks_ne H4.out 6 1 rfl rfl (by decide)
  have l0 := bks_lt H4.out 0 rfl
  have l1 := bks_lt H4.out 1 rfl
  have C0 := Lib.hid H4.out.bel
  have ge1 : w.heap.size ≤ g10 := H4.out.ge 1 rfl
  have LT : Hid (∀ W, W4.grownBy W (some g10) → Lies W ⟨gt, 0, none⟩ tc) := Lib.hid (fun W hg => by have := Row.lies_of_block (bks_grown H4.out hg 6 rfl n6); simpa using this)
  have LR : Hid (∀ W, W4.grownBy W (some g10) → Lies W ⟨gr0, 0, none⟩ r.cells) := Lib.hid (fun W hg => by have := Row.lies_of_block (bks_grown H4.out hg 5 rfl n5); simpa using this)
  have CW : Hid (∀ W, W4.grownBy W (some g10) → W.cell? ⟨gw, 0, none⟩ = some (.int .i64 want)) := Lib.hid (fun W hg => by rw [cell_of_row _ _ _ _ _ _ (bks_grown H4.out hg 3 rfl n3)]; rfl)
  have CG : Hid (∀ W, W4.grownBy W (some g10) → W.cell? ⟨g9, 0, none⟩ = some (.int .i64 gr)) := Lib.hid (fun W hg => by rw [cell_of_row _ _ _ _ _ _ (bks_grown H4.out hg 2 rfl n2)]; rfl)
  clear n2 n3 n5 n6
  obtain ⟨F, hF⟩ : ∃ F : Int → Bool, F = fun p => (SetM.list (bits .andNot .i64 want gr)).any (lat p) := ⟨_, rfl⟩
  have FE : Hid (∀ p, F p = (SetM.list (bits .andNot .i64 want gr)).any (lat p)) := Lib.hid (fun p => by rw [hF])
  rw [← hF] at YR
  clear hF
  refine (wpIn_wide (n := 6)).1 ?_
  refine wpIn_rangeFunc_ownH rfl (by omega) (gf := 60) (lb := #[.pointer (some ⟨be, 0, none⟩)]) rfl trivial (enters_of Try.func60 (by kernel_rfl) rfl)
    (each_mem _ (by omega) be s W4 l0 bE.cell) Kept.trans (kept_b l0) (Below.refl _ _) (fun _ => rfl)
    (fun pre W => Boxed W g10 3 (.int .i64 (fS F (pre.map Subtype.val) : Nat)) ∧ W4.grownBy W (some g10))
    (fun _ _ _ => False)
    ?own (fun _ _ _ _ _ hs _ _ => hs) ⟨bS, grown_of_below (Below.refl _ _)⟩
    (fun x a' W => ∃ Bx, W4.heap.size ≤ Bx ∧ Boxed W Bx 3 (.int .i64 x.1) ∧ a' = { tmps := #[.agg tc.toArray, .agg r.cells.toArray, .agg rc.toArray, .int .i64 want, .pointer (some ⟨gt, 0, none⟩), .pointer (some ⟨gr0, 0, none⟩), .pointer (some ⟨gn, 0, none⟩), .pointer (some ⟨gw, 0, none⟩), .int .i64 0, .pointer (some ⟨g9, 0, none⟩), .pointer (some ⟨g10, 0, none⟩), .pointer (some ⟨Bx, 0, none⟩), undef, .agg rc.toArray, .int .i64 gr, .int .i64 gr, .agg tc.toArray, .int .i64 on, .int .i64 s, .func (.func 60) #[] #[.pointer (some ⟨be, 0, none⟩)], .int .i64 x.1, undef, undef, undef, undef, undef, undef, undef, undef, undef, undef, undef, undef, undef, undef, undef], defers := [] })
    (fun x a' _ X Y row hs hg hr => by obtain ⟨Bx, e1, e2, e3⟩ := hs; exact ⟨Bx, e1, boxed_own Bx 3 (fun (_ : Unit) => Value.int .i64 x.1) () X Y row e2 hg (fun r e => (hr r e).2), e3⟩)
    ?assign ?body ?done ?stop
  case own =>
    rintro pre W W' row ⟨h1, h2⟩ hgr hr
    exact ⟨h1.kept hgr (fun e => by have := (hr _ e.symm).1; omega), grown_from h2 hgr (fun r e => (hr r e).1)⟩
  case assign =>
    rintro l pre x W K ⟨hp, hB⟩ hK
    gi_wp2
    exact hK _ _ ((KeepsOthers.alloc _ _).from _) (Kept.below ((Below.refl W.heap.size W).alloc (Nat.le_refl _) _) (by have := hB.size; omega)) ⟨hp.alloc _, grown_trans hB (grown_of_below ((Below.refl _ _).alloc (Nat.le_refl _) _))⟩ ⟨W.heap.size, hB.size, Boxed.new W 3 _, rfl⟩
  case body =>
    rintro l pre ⟨x, hx⟩ a' W hl ⟨lr, hr⟩ ⟨hv, hg⟩ ⟨Bx, hBx, bX, rfl⟩ hlt
    have cX := bX.cell
    have cW := CW.out W hg
    have cG := CG.out W hg
    gi_wp2_with (refine ⟨trivial, ?_⟩; gi_at_call 33; refine (CallsIn.inRound l (each_in _ _ _)).mono ?_; rintro e w' ⟨rfl, rfl⟩)
    obtain ⟨s2, hs2⟩ : ∃ s2, bits .andNot .i64 want gr = s2 := ⟨_, rfl⟩
    rw [hs2] at FE
    simp only [hs2]
    clear hs2
    have bN := Boxed.new W 3 (.int .i64 s2)
    have hr' : (W.alloc (.cells #[.int .i64 s2] 3)).heap[l]? = some (.loop lr) := (Below.heap_alloc W _ l (Array.getElem?_eq_some_iff.1 hr).1).trans hr
    have hb5 : Below W.heap.size W (W.alloc (.cells #[.int .i64 s2] 3)) := (Below.refl _ W).alloc (Nat.le_refl _) _
    have hs5 : (W.alloc (.cells #[.int .i64 s2] 3)).heap.size = W.heap.size + 1 := by simp
    have bX5 : Boxed (W.alloc (.cells #[.int .i64 s2] 3)) Bx 3 (.int .i64 x) := bX.alloc _
    have hv5 : Boxed (W.alloc (.cells #[.int .i64 s2] 3)) g10 3 (.int .i64 (fS F (pre.map Subtype.val) : Nat)) := hv.alloc _
    have hBs := hg.size
    have lX := bX.lt
    generalize W.alloc (.cells #[.int .i64 s2] 3) = W5 at *
    have G5 : W4.grownBy W5 (some g10) := grown_trans hg (grown_of_below hb5)
    have nX : Bx ≠ g10 := by omega
    obtain ⟨m0, hm0⟩ : ∃ m : Int, (fS F (pre.map Subtype.val) : Nat) = m := ⟨_, rfl⟩
    rw [hm0] at hv5
    refine wpIn_rangeFunc_ownN (l₀ := l) (r₀ := lr) rfl hr' (by omega) (gf := 60) (lb := #[.pointer (some ⟨W.heap.size, 0, none⟩)]) rfl trivial (enters_of Try.func60 (by kernel_rfl) rfl)
      ((each_mem _ (by omega) W.heap.size s2 W5 (by omega) bN.cell).inRound l) Kept.trans (kept_b (by omega)) (Below.refl _ _) (fun _ => rfl)
      (fun pre' W' => Boxed W' g10 3 (.int .i64 (inP (lat x) m0 x (pre'.map Subtype.val))) ∧ W5.grownBy W' (some g10))
      (fun _ _ _ => False)
      ?own2 (fun _ _ _ _ _ hs _ _ => hs) ⟨hv5, grown_of_below (Below.refl _ _)⟩
      (fun z a'' _ => a'' = { tmps := #[.agg tc.toArray, .agg r.cells.toArray, .agg rc.toArray, .int .i64 want, .pointer (some ⟨gt, 0, none⟩), .pointer (some ⟨gr0, 0, none⟩), .pointer (some ⟨gn, 0, none⟩), .pointer (some ⟨gw, 0, none⟩), .int .i64 0, .pointer (some ⟨g9, 0, none⟩), .pointer (some ⟨g10, 0, none⟩), .pointer (some ⟨Bx, 0, none⟩), .int .i64 z.1, .agg rc.toArray, .int .i64 gr, .int .i64 gr, .agg tc.toArray, .int .i64 on, .int .i64 s, .func (.func 60) #[] #[.pointer (some ⟨be, 0, none⟩)], .int .i64 x, .int .i64 want, .int .i64 gr, .int .i64 s2, .func (.func 60) #[] #[.pointer (some ⟨W.heap.size, 0, none⟩)], .int .i64 z.1, undef, undef, undef, undef, undef, undef, undef, undef, undef, undef], defers := [] })
      (fun _ _ _ _ _ _ hs _ _ => hs)
      ?assign2 ?body2 ?done2 ?stop2
    case own2 =>
      rintro pre' W' W'' row ⟨h1, h2⟩ hgr hr
      exact ⟨h1.kept hgr (fun e => by have := (hr _ e.symm).1; omega), grown_from h2 hgr (fun r e => (hr r e).1)⟩
    case assign2 =>
      rintro l2 pre' z W' K hi hK
      gi_wp2
      exact hK _ _ (KeepsFrom.refl _ _) rfl hi rfl
    case body2 =>
      rintro l2 pre' ⟨z, hz⟩ a'' W' _ _ ⟨hp2, hB2⟩ rfl hlt2
      have GW := grown_trans G5 hB2
      have LTW := Lib.hid (LT.out W' GW)
      have LRW := Lib.hid (LR.out W' GW)
      have BW : Hid (Below w.heap.size w W') := Lib.hid (C0.out.grown GW (by omega) (fun k e => by cases e; omega))
      have cX' := (Boxed.cell (show Boxed W' Bx 3 (.int .i64 x) from (hB2.block _ (by omega) (fun e => nX (Option.some.inj e))).trans bX5))
      refine wpIn_block (wpIn_seq ?_)
      refine Up.region_list (fun ⟨_, _, h⟩ => h) (by kernel_rfl) ?_
      go_wp2_with (first | (refine Row.wpList_load_g 32 _ rfl (by first | rfl | go_simp) ⟨gt, 0, none⟩ rfl tc _ LTW.out Try.underlying32 rfl IA ?_) | (refine Row.wpList_load_g 36 _ rfl (by first | rfl | go_simp) ⟨gr0, 0, none⟩ rfl r.cells _ LRW.out Try.underlying36 rfl infoRg ?_))
      refine (LA.out x z _ BW.out).mono ?_
      rintro e W6 ⟨rfl, hb6⟩
      have b10 : Boxed W6 g10 3 (.int .i64 (inP (lat x) m0 x (pre'.map Subtype.val))) := (hb6.block _ hp2.lt).trans hp2
      have bX6 : Boxed W6 Bx 3 (.int .i64 x) := (hb6.block _ (Array.getElem?_eq_some_iff.1 (show W'.heap[Bx]? = _ from (hB2.block _ (by omega) (fun e => nX (Option.some.inj e))).trans bX5)).1).trans ((hB2.block _ (by omega) (fun e => nX (Option.some.inj e))).trans bX5)
      have B10 := Lib.hid b10
      have BX6 := Lib.hid bX6
      have H6 := Lib.hid hb6
      have HB2 := Lib.hid hB2
      have SZ := Lib.hid (show W5.heap.size ≤ W'.heap.size from hB2.size)
      clear hb6 cX' hB2 b10 bX6 GW hp2 LTW LRW BW
      cases hbs : lat x z with
      | false =>
        have HS := Lib.hid (inP_miss (s := m0) (x := x) (l := pre'.map Subtype.val) hbs)
        clear hbs
        go_wp2_with fail
        gi_wp2
        exact ⟨keeps_below H6.out, Kept.below H6.out (by have := SZ.out; omega), by rw [List.map_append, List.map_cons, List.map_nil, HS.out]; exact B10.out, grown_trans HB2.out (grown_of_below H6.out)⟩
      | true =>
        have HS := Lib.hid (inP_hit (s := m0) (x := x) (l := pre'.map Subtype.val) hbs)
        clear hbs
        have hc := B10.out.cell
        have hf := B10.out.frozen
        have hcx := BX6.out.cell
        go_wp2_with fail
        gi_wp2_with (refine ⟨trivial, ?_⟩; gi_at_call 43; refine (CallsIn.inRound l2 (CallsIn.inRound l (callsIn_wide.2 (Set.with_any _ _ _)))).mono ?_; rintro e w' ⟨rfl, rfl⟩)
        exact ⟨KeepsFrom.of_grownBy (grown_trans (grown_of_below H6.out) (grownBy_setCell' _ _ _)) (fun j e => by cases e; omega), Kept.trans (Kept.below H6.out (by have := SZ.out; omega)) (Kept.setCell _ _ (by omega)), by rw [List.map_append, List.map_cons, List.map_nil, ← HS.out]; exact B10.out.set _, grown_trans HB2.out (grown_trans (grown_of_below H6.out) (grownBy_setCell' _ _ _))⟩
    case done2 =>
      rintro ys W' hS ⟨hp2, hB2⟩
      have HP2 := Lib.hid hp2
      have HB2 := Lib.hid hB2
      have HE : Hid (inP (lat x) m0 x (ys.map Subtype.val) = (fS F (pre.map Subtype.val ++ [x]) : Nat)) := Lib.hid (by
        rw [hS, ← hm0]
        unfold inP
        rw [← FE.out x]
        cases hfx : F x with
        | true => rw [if_pos rfl, fS_hit hfx]
        | false => rw [if_neg (by simp), fS_miss hfx])
      clear hp2 hB2
      gi_wp2
      exact ⟨KeepsFrom.of_grownBy (grown_trans (grown_of_below hb5) HB2.out) (fun j e => by cases e; omega), Kept.trans (Kept.below hb5 (by omega)) (show W'.heap[be]? = W5.heap[be]? from HB2.out.block be (by omega) (fun e => n0 (Option.some.inj e))), by rw [List.map_append, List.map_cons, List.map_nil, ← HE.out]; exact HP2.out, grown_trans G5 HB2.out⟩
    case stop2 =>
      rintro c pre' W' _ h
      exact h.elim
  case done =>
    rintro D ys W hD hS ⟨hv, hg⟩ hK
    have hc := hv.cell
    have HR : Hid (((fS F (ys.map Subtype.val) : Nat) : Int) = res) := Lib.hid (by rw [hS]; exact YR.out.symm)
    have HB : Hid (Below w.heap.size w W) := Lib.hid (C0.out.grown hg (by omega) (fun k e => by cases e; omega))
    have HD : Hid (w.heap.size ≤ D) := Lib.hid (by have := C0.out.size; omega)
    clear hg
    go_wp2
    refine ⟨by simp, .inl ⟨_, _, rfl, run_takeDeferred hK, ?_⟩⟩
    exact ⟨_, results_tmp rfl _ _ _, by rw [YR.out]; rfl, HB.out.trans (belowK_b (w := w) (Nat.le_refl _) _ D _ _ HD.out hK rfl rfl)⟩
  case stop =>
    rintro D c pre W hD _ h _
    exact h.elim
end Rg
namespace Mk
open Go
variable {F : Fence} {n : Nat} {P : Program} {fn : Func} {R : Ending → World → Prop}
theorem leaves_congr {t t' : Array Value} (h : ∀ w, (results fn t).run P w = (results fn t').run P w) : ∀ (ds : List Deferred) (u : FrameMode) (w : World), LeavesInM F n P fn t R ds u w → LeavesInM F n P fn t' R ds u w
  | [], .returning, w, ⟨v, hv, hr⟩ => ⟨v, (h w).symm.trans hv, hr⟩
  | [], .panicking _, _, x => x
  | [], .run, _, x => x
  | d :: ds, u, w, ⟨hu, x⟩ => ⟨hu, x.elim (fun ⟨r, w', a, b, c⟩ => .inl ⟨r, w', a, b, leaves_congr h ds u w' c⟩) (fun ⟨hn, fv, cap, f, args, a, b, c, e⟩ => .inr ⟨hn, fv, cap, f, args, a, b, c, e.mono (fun e u w' h' => by
      cases e with
      | returned _ => exact leaves_congr h ds _ w' h'
      | panicked _ => exact leaves_congr h ds _ w' h'
      | outgrown => exact h')⟩)⟩
theorem put_cell {p : Tmp} {ty : TypeId} (hr : fn.results = #[.cell p ty]) (k : Tmp) (hk : k ≠ p) {c} {a : Act} {v : Value} {w : World} (h : bodyPostM F n P fn R (.panic c) (a.put (some k) v) w) : bodyPostM F n P fn R (.panic c) a w := by
  have e : ∀ w, (results fn (a.put (some k) v).tmps).run P w = (results fn a.tmps).run P w := fun w => by
    simp only [results, hr, Act.put]
    simp [Array.getElem?_setIfInBounds, hk]
  exact leaves_congr e _ _ _ h
end Mk
namespace Rg
open Go Go.ChangeShapes Go.WideShapes Go.ChangeAt Go.RowKit
open Tab Flat TabArg QL Ru PlanM
open ChkM (cfAt)
open Clear (phAt)
open PlaceM (where_ spots Spt)
open May (infoP)
open Search
open Each (each_mem each_in kept_b)
open Each (Kept Kept.trans Kept.cell Kept.below Kept.setCell)
attribute [local go_sem] Oper.semAt_some
def putF (T : Tab) (r : Rg) (p : Int) : Rg := match where_ T p with
  | some y => if (y.g : Int) = r.g ∧ r.at y.k < 0 then r.put y.k y.i else r
  | none => r
theorem put_eq (T : Tab) (exit : Int) : putS T exit = (SetM.list exit).foldl (putF T) ⟨PlanW.wG (where_ T (SetM.first exit)), -1, -1, false⟩ := by
  unfold putS
  rw [show PlanW.wG (where_ T (SetM.first exit)) = (match where_ T (SetM.first exit) with | some x => (x.g : Int) | none => 0) by cases where_ T (SetM.first exit) <;> rfl]
  rfl
theorem putF_snoc (T : Tab) (r : Rg) (l : List Int) (p : Int) : (l ++ [p]).foldl (putF T) r = putF T (l.foldl (putF T) r) p := by rw [List.foldl_append]; rfl
theorem putF_eq (T : Tab) (r : Rg) (q : Int) {ok : Bool} {g k i : Int} (e1 : PlanW.Tup (where_ T q) = .tuple #[I g, I k, I i, .bool ok]) : putF T r q = if ok = true ∧ g = r.g ∧ (if k = 0 then r.a0 else r.a1) < 0 then (if k = 0 then ⟨r.g, i, r.a1, r.cr⟩ else ⟨r.g, r.a0, i, r.cr⟩) else r := by
  unfold putF
  simp only [PlanW.Tup, Value.tuple.injEq, List.toArray, Array.mk.injEq, List.cons.injEq, Value.int.injEq, Value.bool.injEq, true_and, and_true] at e1
  obtain ⟨e1, e2, e3, e4⟩ := e1
  subst e1 e2 e3 e4
  cases hq : where_ T q with
  | none => simp
  | some y =>
    have hr : r.at y.k = if ((y.k : Nat) : Int) = 0 then r.a0 else r.a1 := by
      match y.k with
      | 0 => rfl
      | j + 1 => rw [if_neg (by omega)]; rfl
    have hp : r.put y.k y.i = if ((y.k : Nat) : Int) = 0 then ⟨r.g, y.i, r.a1, r.cr⟩ else ⟨r.g, r.a0, y.i, r.cr⟩ := by
      match y.k with
      | 0 => rfl
      | j + 1 => rw [if_neg (by omega)]; rfl
    simp only [PlanW.wG, PlanW.wK, PlanW.wI, Option.isSome, true_and]
    rw [hr, hp]
    rfl
theorem tup_k (T : Tab) (q : Int) {ok : Bool} {g k i : Int} (e1 : PlanW.Tup (where_ T q) = .tuple #[I g, I k, I i, .bool ok]) : k = 0 ∨ k = 1 := by
  have e3 : k = PlanW.wK (where_ T q) := by
    simp only [PlanW.Tup, Value.tuple.injEq, List.toArray, Array.mk.injEq, List.cons.injEq, Value.int.injEq, Value.bool.injEq, true_and, and_true] at e1
    exact e1.2.1.symm
  rw [e3]
  cases hq : where_ T q with
  | none => exact .inl rfl
  | some y =>
    obtain ⟨h1, _⟩ := mem_ringAt.1 (find_mem0 hq).1
    unfold ringAt at h1
    show ((y.k : Nat) : Int) = 0 ∨ ((y.k : Nat) : Int) = 1
    by_cases h0 : ((y.k : Nat) : Int) = 0
    · exact .inl h0
    · rw [if_neg h0] at h1
      by_cases h2 : ((y.k : Nat) : Int) = 1
      · exact .inr h2
      · rw [if_neg h2] at h1; simp at h1
theorem grown_set (W : World) (b i : Nat) (v : Value) : W.grownBy (W.setCell ⟨b, i, none⟩ v) (some b) :=
  ⟨rfl, rfl, rfl, by simp [World.setCell], fun k _ hk => Below.heap_setCell _ _ _ _ (fun e => hk (by simp [e]))⟩
theorem heap_set {W : World} {b i : Nat} {cs : Array Value} {t : TypeId} {v : Value} (h : W.heap[b]? = some (.cells cs t (0, 0))) : (W.setCell ⟨b, i, none⟩ v).heap[b]? = some (.cells (cs.setIfInBounds i v) t (0, 0)) := by
  rw [setCell_eq_setRow W b i cs t (0, 0) v h]
  exact setRow_heap _ _ _ _ _ _ h
theorem builtP : Try.prog.built 36 [(1, .agg #[I (-1), I (-1)])] = some (Rg.cells ⟨0, -1, -1, false⟩).toArray := by kernel_rfl
theorem put_any (T : Tab) (hd : Hd) (exit : Int) (w : World) (ht : IsTab w hd T) : Calls Try.prog 8 #[.agg (T.cells hd).toArray, .int .i64 exit] w fun e w' => e = .returned (.agg (Rg.cells (putS T exit)).toArray) ∧ Below w.heap.size w w' := by
  have h1 : (T.cells hd).length = 131 := by have := (cells_ok ht).size; rwa [List.size_toArray] at this
  have IA : (Try.prog.info? 32).map (·.size) = some (T.cells hd).length := by rw [h1]; exact PlanW.infoT
  have hz := (zero_of_info (show (Try.prog.info? 36).map (fun i => (i.zero, i.size)) = some (some (.agg #[I 0, I 0, I 0, .bool false]), 4) by kernel_rfl)).1
  have WH : Hid (∀ p W, Below w.heap.size w W → ∃ g k i ok, (∀ r, putF T r p = if ok = true ∧ g = r.g ∧ (if k = 0 then r.a0 else r.a1) < 0 then (if k = 0 then ⟨r.g, i, r.a1, r.cr⟩ else ⟨r.g, r.a0, i, r.cr⟩) else r) ∧ (k = 0 ∨ k = 1) ∧ Calls Try.prog 31 #[.agg (T.cells hd).toArray, .int .i64 p] W fun e w' => e = .returned (.tuple #[I g, I k, I i, .bool ok]) ∧ Below W.heap.size W w') := Lib.hid (fun p W hb => ⟨_, _, _, _, fun r => putF_eq T r p rfl, tup_k T p rfl, PlanW.pwhere_any T hd p W (ht.below hb)⟩)
  obtain ⟨g0, k0, i0, ok0, WF, YR⟩ : ∃ g k i ok, Hid (∀ W, Below w.heap.size w W → Calls Try.prog 31 #[.agg (T.cells hd).toArray, .int .i64 (SetM.first exit)] W fun e w' => e = .returned (.tuple #[I g, I k, I i, .bool ok]) ∧ Below W.heap.size W w') ∧ Hid (putS T exit = (SetM.list exit).foldl (putF T) ⟨g, -1, -1, false⟩) := ⟨_, _, _, _, Lib.hid (fun W hb => PlanW.pwhere_any T hd (SetM.first exit) W (ht.below hb)), Lib.hid (put_eq T exit)⟩
  generalize putS T exit = res at YR ⊢
  generalize hsn : putF T = PF at YR WH
  have SN : Hid (∀ r l p, (l ++ [p]).foldl PF r = PF (l.foldl PF r) p) := Lib.hid (fun r l p => by rw [← hsn]; exact putF_snoc T r l p)
  generalize T.cells hd = tc at *
  clear ht hsn
  have hn0 := Blk.Bks.nil w
  have hn1 := hn0.alloc tc.toArray 32
  have hn2 := hn1.alloc #[I 0, I 0, I 0, .bool false] 36
  rw [show (w.alloc (.cells tc.toArray 32)).heap.size = w.heap.size + 1 by simp] at hn2
  clear hn0 hn1
  refine (callsIn_wide (n := 6)).1 ?_
  refine callsIn_of_wp_marks Try.func8 rfl trivial ?_ rfl
  simp only [Try.ntmps8, List.size_toArray, List.length_cons, List.length_nil, Nat.reduceAdd, Nat.reduceSub, Array.replicate_succ, Array.replicate_zero, List.push_toArray, List.append_toArray, List.nil_append, List.cons_append]
  refine wpIn_wide.2 ?_
  go_upto_region 1 with fail
  generalize World.alloc (World.alloc w _) _ = v at hn2 ⊢
  generalize hg2 : w.heap.size + 1 = gz at hn2 ⊢
  generalize hg1 : w.heap.size = gt at hn2 ⊢
  have H0 := Lib.hid hn2
  clear hn2 hg1 hg2 hz
  go_upto_region 2 with (first | (refine wpList_build rfl 34 [(0, .const (I (-1))), (1, .const (I (-1)))] rfl #[I (-1), I (-1)] _ (by rfl) (builtA) ?_) | (refine wpList_build rfl 36 [(1, .tmp 11)] rfl (Rg.cells ⟨0, -1, -1, false⟩).toArray _ (by rfl) (builtP) ?_) | (refine Row.wpList_store_new rfl 36 _ _ rfl _ _ (Rg.cells ⟨0, -1, -1, false⟩).toArray rfl rfl rfl infoRg rfl (one_rg _) ?_))
  have hn := H0.out.alloc (Rg.cells ⟨0, -1, -1, false⟩).toArray 36
  have hS : Below v.heap.size v { (v.alloc (.cells (Rg.cells ⟨0, -1, -1, false⟩).toArray 36)) with drawn := (v.alloc (.cells (Rg.cells ⟨0, -1, -1, false⟩).toArray 36)).drawn + 1 } := ((Below.refl _ _).alloc (Nat.le_refl _) _).drew
  generalize World.alloc v _ = v2 at hn hS ⊢
  generalize hg5 : v.heap.size = g5 at hn ⊢
  have H2 := Lib.hid hn
  have HV := Lib.hid H0.out.bel
  have LT2 : Hid (∀ W, Below v.heap.size v W → Lies W ⟨gt, 0, none⟩ tc) := Lib.hid (fun W hb => by have := (H0.out.step hb).lies 1 rfl; simpa using this)
  clear hn H0
  have FI : Hid (∀ W, Calls Try.prog 32 #[.int .i64 exit] W fun e w' => e = .returned (.int .i64 (SetM.first exit)) ∧ Below W.heap.size W w') := Lib.hid (fun W => SetE.first_in _ _)
  generalize SetM.first exit = fx at *
  refine wp_region_held (S := fun w' => Below v.heap.size v w') (by kernel_rfl) ?_
  have HA : Hid (Blk.Bks w [(g5, (Rg.cells ⟨0, -1, -1, false⟩).toArray, 36), (gz, #[I 0, I 0, I 0, .bool false], 36), (gt, tc.toArray, 32)] { v2 with drawn := v2.drawn + 1 }) := Lib.hid H2.out.drew
  clear H2
  generalize ({ v2 with drawn := v2.drawn + 1 } : World) = vp at hS HA ⊢
  refine Held.take_load (i := 0) (some 14) rfl 32 (.tmp 2) ⟨gt, 0, none⟩ tc _ rfl rfl (by kernel_rfl) (by kernel_rfl) (by kernel_rfl) (fun _ _ _ h => Mk.put_cell (fn := Try.f8) rfl _ (by decide) h) (by rfl) hS rfl (fun w' hw' => LT2.out w' hw') Try.underlying32 rfl IA ?_
  (try dsimp only [Act.put]); (try simp only [List.setIfInBounds_toArray, List.set_cons_zero, List.set_cons_succ])
  refine Held.take (i := 1) (some 15) rfl (v := ?_) rfl (by kernel_rfl) (by kernel_rfl) (by kernel_rfl) (fun _ _ _ h => Mk.put_cell (fn := Try.f8) rfl _ (by decide) h) (Or.inl ⟨by rfl, ?_⟩) hS ?_
  rotate_left
  · intro w' hw'
    go_simp
    try with_reducible rfl
  (try dsimp only [Act.put]); (try simp only [List.setIfInBounds_toArray, List.set_cons_zero, List.set_cons_succ])
  refine wpAnyH_ready (rs := [2]) (by kernel_rfl) (by simp) (AllReadyH.cons rfl (fun K hK => ?_) AllReadyH.nil)
  go_simp
  refine (FI.out _).mono ?_
  rintro e vn ⟨rfl, hb⟩
  have hq := hS.trans (hb.mono hS.size)
  have HA2 := Lib.hid (HA.out.step hb)
  clear hS hb HA
  have HA := HA2
  clear HA2
  go_simp
  refine hK.out _ _ hq (fun hS => ?_)
  clear hK K hq
  rename World => vp
  (try dsimp only [Act.put]); (try simp only [List.setIfInBounds_toArray, List.set_cons_zero, List.set_cons_succ])
  refine wpAnyH_ready (rs := [3]) (by kernel_rfl) (by simp) (AllReadyH.cons rfl (fun K hK => ?_) AllReadyH.nil)
  go_simp
  refine (WF.out _ (HV.out.trans (hS.mono HV.out.size))).mono ?_
  rintro e vn ⟨rfl, hb⟩
  have hq := hS.trans (hb.mono hS.size)
  have HA2 := Lib.hid (HA.out.step hb)
  clear hS hb HA
  have HA := HA2
  clear HA2
  go_simp
  refine hK.out _ _ hq (fun hS => ?_)
  clear hK K hq
  rename World => vp
  (try dsimp only [Act.put]); (try simp only [List.setIfInBounds_toArray, List.set_cons_zero, List.set_cons_succ])
  refine Held.take (i := 4) (some 13) rfl (v := ?_) rfl (by kernel_rfl) (by kernel_rfl) (by kernel_rfl) (fun _ _ _ h => Mk.put_cell (fn := Try.f8) rfl _ (by decide) h) (Or.inl ⟨by rfl, ?_⟩) hS ?_
  rotate_left
  · intro w' hw'
    go_simp
    try with_reducible rfl
  (try dsimp only [Act.put]); (try simp only [List.setIfInBounds_toArray, List.set_cons_zero, List.set_cons_succ])
  refine Held.take (i := 5) (some 18) rfl (v := ?_) rfl (by kernel_rfl) (by kernel_rfl) (by kernel_rfl) (fun _ _ _ h => Mk.put_cell (fn := Try.f8) rfl _ (by decide) h) (Or.inl ⟨by rfl, ?_⟩) hS ?_
  rotate_left
  · intro w' hw'
    go_simp
    try with_reducible rfl
  (try dsimp only [Act.put]); (try simp only [List.setIfInBounds_toArray, List.set_cons_zero, List.set_cons_succ])
  refine Held.take (i := 6) (some 19) rfl (v := ?_) rfl (by kernel_rfl) (by kernel_rfl) (by kernel_rfl) (fun _ _ _ h => Mk.put_cell (fn := Try.f8) rfl _ (by decide) h) (Or.inl ⟨by rfl, ?_⟩) hS ?_
  rotate_left
  · intro w' hw'
    go_simp
    try with_reducible rfl
  (try dsimp only [Act.put]); (try simp only [List.setIfInBounds_toArray, List.set_cons_zero, List.set_cons_succ])
  refine Held.take (i := 7) (some 20) rfl (v := ?_) rfl (by kernel_rfl) (by kernel_rfl) (by kernel_rfl) (fun _ _ _ h => Mk.put_cell (fn := Try.f8) rfl _ (by decide) h) (Or.inl ⟨by rfl, ?_⟩) hS ?_
  rotate_left
  · intro w' hw'
    go_simp
    try with_reducible rfl
  (try dsimp only [Act.put]); (try simp only [List.setIfInBounds_toArray, List.set_cons_zero, List.set_cons_succ])
  refine Held.take (i := 8) (some 21) rfl (v := ?_) rfl (by kernel_rfl) (by kernel_rfl) (by kernel_rfl) (fun _ _ _ h => Mk.put_cell (fn := Try.f8) rfl _ (by decide) h) (Or.inl ⟨by rfl, ?_⟩) hS ?_
  rotate_left
  · intro w' hw'
    go_simp
    try with_reducible rfl
  (try dsimp only [Act.put]); (try simp only [List.setIfInBounds_toArray, List.set_cons_zero, List.set_cons_succ])
  refine Held.take (i := 9) (some 22) rfl (v := ?_) rfl (by kernel_rfl) (by kernel_rfl) (by kernel_rfl) (fun _ _ _ h => Mk.put_cell (fn := Try.f8) rfl _ (by decide) h) (Or.inl ⟨by rfl, ?_⟩) hS ?_
  rotate_left
  · intro w' hw'
    go_simp
    try with_reducible rfl
  (try dsimp only [Act.put]); (try simp only [List.setIfInBounds_toArray, List.set_cons_zero, List.set_cons_succ])
  refine wpAnyH_ready (rs := [10]) (by kernel_rfl) (by simp) (AllReadyH.cons rfl (fun K hK => ?_) AllReadyH.nil)
  have kx : vp.cell? ⟨g5, 0, none⟩ = some (I 0) := HA.out.cell 0 0 rfl rfl
  have fx2 : vp.frozen? ⟨g5, 0, none⟩ = false := HA.out.frozen 0 0 rfl
  have hq := hS.setCell (p := ⟨g5, 0, none⟩) (by show v.heap.size ≤ g5; omega) (I g0)
  go_simp
  have hput := HA.out.set 0 0 rfl (I g0)
  rw [show (Rg.cells ⟨0, -1, -1, false⟩).toArray.setIfInBounds 0 (I g0) = (Rg.cells ⟨g0, -1, -1, false⟩).toArray from rfl] at hput
  simp only [List.set_cons_succ, List.set_cons_zero] at hput
  clear hS HA kx fx2
  generalize World.setCell vp _ _ = v3 at hput hq ⊢
  have H3 := Lib.hid hput
  refine hK.out _ _ hq (fun hS => ?_)
  clear hK K hq hput
  refine wpAnyH_done (by kernel_rfl) ?_ _
  clear hS LT2 HV WF FI hg5
  go_wp2_with fail
  refine (callsIn_wide.1 (each_in 6 _ _)).mono ?_
  rintro e vn ⟨rfl, rfl⟩
  go_wp2_with fail
  have ha := H3.out.alloc #[.int .i64 exit] 3
  generalize v3.heap.size = be at ha ⊢
  generalize World.alloc v3 _ = W4 at ha ⊢
  have H4 := Lib.hid ha
  clear ha H3
  have bE : Boxed W4 be 3 (.int .i64 exit) := H4.out.at 0 rfl
  have n0 := bks_ne H4.out 0 1 rfl rfl (by decide)
  have nz := bks_ne H4.out 2 1 rfl rfl (by decide)
  have n6 := bks_ne H4.out 3 1 rfl rfl (by decide)
  have l0 := bks_lt H4.out 0 rfl
  have l1 := bks_lt H4.out 1 rfl
  have C0 := Lib.hid H4.out.bel
  have ge1 : w.heap.size ≤ g5 := H4.out.ge 1 rfl
  have LT : Hid (∀ W, W4.grownBy W (some g5) → Lies W ⟨gt, 0, none⟩ tc) := Lib.hid (fun W hg => by have := Row.lies_of_block (bks_grown H4.out hg 3 rfl n6); simpa using this)
  have BZ : Hid (∀ W, W4.grownBy W (some g5) → W.heap[gz]? = some (.cells #[I 0, I 0, I 0, .bool false] 36 (0, 0))) := Lib.hid (fun W hg => bks_grown H4.out hg 2 rfl nz)
  have h5 := H4.out.at 1 rfl
  have gez : w.heap.size ≤ gz := H4.out.ge 2 rfl
  clear n6
  refine (wpIn_wide (n := 6)).1 ?_
  refine wpIn_rangeFunc_ownG rfl (by omega) (gf := 60) (lb := #[.pointer (some ⟨be, 0, none⟩)]) rfl trivial (enters_of Try.func60 (by kernel_rfl) rfl)
    (each_mem _ (by omega) be exit W4 l0 bE.cell) Kept.trans (kept_b l0) (Below.refl _ _) (fun _ => rfl)
    (fun pre W => W.heap[g5]? = some (.cells (Rg.cells ((pre.map Subtype.val).foldl PF ⟨g0, -1, -1, false⟩)).toArray 36 (0, 0)) ∧ W4.grownBy W (some g5))
    (fun _ _ _ => False)
    ?own (fun _ _ _ _ _ hs _ _ => hs) ⟨h5, grown_of_below (Below.refl _ _)⟩
    (fun x => { tmps := #[.agg tc.toArray, .int .i64 exit, .pointer (some ⟨gt, 0, none⟩), undef, .pointer (some ⟨gz, 0, none⟩), .pointer (some ⟨g5, 0, none⟩), .int .i64 x.1, undef, undef, undef, undef, .agg #[I (-1), I (-1)], .agg (Rg.cells ⟨0, -1, -1, false⟩).toArray, .tuple #[I g0, I k0, I i0, .bool ok0], .agg tc.toArray, .int .i64 exit, .int .i64 fx, .tuple #[I g0, I k0, I i0, .bool ok0], I g0, I k0, I i0, .bool ok0, .pointer (some ⟨g5, 0, none⟩), .int .i64 exit, .func (.func 60) #[] #[.pointer (some ⟨be, 0, none⟩)], .int .i64 x.1, undef, undef, undef, undef, undef, undef, undef, undef, undef, undef, undef, undef, undef, undef, undef, undef, undef, undef, undef, undef, undef, undef, undef, undef, undef, undef, undef], defers := [] })
    ?assign ?body ?done ?stop
  case own =>
    rintro pre W W' row ⟨h1, h2⟩ hgr hr
    have hlt : g5 < W.heap.size := (Array.getElem?_eq_some_iff.1 h1).1
    exact ⟨(hgr.block _ hlt (fun e => by have := (hr _ e.symm).1; omega)).trans h1, grown_from h2 hgr (fun r e => (hr r e).1)⟩
  case assign =>
    intro l x W K hK
    gi_wp2
    exact hK
  case body =>
    rintro l pre ⟨x, hx⟩ W ⟨hv, hg⟩ hlt
    have LTW := Lib.hid (LT.out W hg)
    have BW : Hid (Below w.heap.size w W) := Lib.hid (C0.out.grown hg (by omega) (fun k e => by cases e; omega))
    obtain ⟨g, k, i, ok, hpf, hk, hcall⟩ := WH.out x W BW.out
    obtain ⟨rr, hrr⟩ : ∃ rr, (pre.map Subtype.val).foldl PF ⟨g0, -1, -1, false⟩ = rr := ⟨_, rfl⟩
    have HE : Hid ((pre.map Subtype.val ++ [x]).foldl PF ⟨g0, -1, -1, false⟩ = if ok = true ∧ g = rr.g ∧ (if k = 0 then rr.a0 else rr.a1) < 0 then (if k = 0 then ⟨rr.g, i, rr.a1, rr.cr⟩ else ⟨rr.g, rr.a0, i, rr.cr⟩) else rr) := Lib.hid (by rw [SN.out, hrr, hpf])
    rw [hrr] at hv
    have HSZ := Lib.hid hg.size
    clear hpf hrr
    refine wpIn_block (wpIn_seq ?_)
    refine Up.region_list (fun ⟨_, _, h⟩ => h) (by kernel_rfl) ?_
    go_wp2_with (refine Row.wpList_load_g 32 _ rfl (by first | rfl | go_simp) ⟨gt, 0, none⟩ rfl tc _ LTW.out Try.underlying32 rfl IA ?_)
    refine hcall.mono ?_
    rintro e W6 ⟨rfl, hb6⟩
    have h6 : W6.heap[g5]? = some (.cells rr.cells.toArray 36 (0, 0)) := (hb6.block _ (Array.getElem?_eq_some_iff.1 hv).1).trans hv
    have HH := Lib.hid h6
    have c0 : W6.cell? ⟨g5, 0, none⟩ = some (I rr.g) := by rw [cell_of_row _ _ _ _ _ _ h6]; rfl
    have c1 : W6.cell? ⟨g5, 1, none⟩ = some (I rr.a0) := by rw [cell_of_row _ _ _ _ _ _ h6]; rfl
    have c2 : W6.cell? ⟨g5, 2, none⟩ = some (I rr.a1) := by rw [cell_of_row _ _ _ _ _ _ h6]; rfl
    have f1 : W6.frozen? ⟨g5, 1, none⟩ = false := frozen_of_row _ _ _ _ _ h6
    have f2 : W6.frozen? ⟨g5, 2, none⟩ = false := frozen_of_row _ _ _ _ _ h6
    have H6 := Lib.hid hb6
    have HG := Lib.hid hg
    clear hb6 h6 hv hg hcall
    go_wp2_with fail
    obtain ⟨rg, a0, a1, cr⟩ := rr
    dsimp only at c0 c1 c2 HE
    cases ok
    · replace HE := Lib.hid (HE.out.trans (if_neg (fun h => by cases h.1)))
      gi_wp2
      exact ⟨keeps_below H6.out, Kept.below H6.out (by have := HSZ.out; omega), by (try unfold List.unattach); rw [List.map_append, List.map_cons, List.map_nil, HE.out]; exact HH.out, grown_trans HG.out (grown_of_below H6.out)⟩
    by_cases hgg : g = rg
    rotate_left
    · replace HE := Lib.hid (HE.out.trans (if_neg (fun h => hgg h.2.1)))
      gi_wp2
      exact ⟨keeps_below H6.out, Kept.below H6.out (by have := HSZ.out; omega), by (try unfold List.unattach); rw [List.map_append, List.map_cons, List.map_nil, HE.out]; exact HH.out, grown_trans HG.out (grown_of_below H6.out)⟩
    subst hgg
    rcases hk with rfl | rfl
    · by_cases ha : a0 < 0
      · replace HE := Lib.hid (HE.out.trans ((if_pos ⟨rfl, rfl, by rw [if_pos rfl]; exact ha⟩).trans (if_pos rfl)))
        gi_wp2
        exact ⟨KeepsFrom.of_grownBy (grown_trans (grown_of_below H6.out) (grown_set _ _ _ _)) (fun j e => by cases e; omega), Kept.trans (Kept.below H6.out (by have := HSZ.out; omega)) (Kept.setCell _ _ n0), by (try unfold List.unattach); rw [List.map_append, List.map_cons, List.map_nil, HE.out]; exact heap_set HH.out, grown_trans HG.out (grown_trans (grown_of_below H6.out) (grown_set _ _ _ _))⟩
      · have da : decide (a0 < 0) = false := decide_eq_false ha
        replace HE := Lib.hid (HE.out.trans (if_neg (fun h => ha (by have := h.2.2; rwa [if_pos rfl] at this))))
        gi_wp2
        exact ⟨keeps_below H6.out, Kept.below H6.out (by have := HSZ.out; omega), by (try unfold List.unattach); rw [List.map_append, List.map_cons, List.map_nil, HE.out]; exact HH.out, grown_trans HG.out (grown_of_below H6.out)⟩
    · by_cases ha : a1 < 0
      · replace HE := Lib.hid (HE.out.trans ((if_pos ⟨rfl, rfl, by rw [if_neg (by decide)]; exact ha⟩).trans (if_neg (by decide))))
        gi_wp2
        exact ⟨KeepsFrom.of_grownBy (grown_trans (grown_of_below H6.out) (grown_set _ _ _ _)) (fun j e => by cases e; omega), Kept.trans (Kept.below H6.out (by have := HSZ.out; omega)) (Kept.setCell _ _ n0), by (try unfold List.unattach); rw [List.map_append, List.map_cons, List.map_nil, HE.out]; exact heap_set HH.out, grown_trans HG.out (grown_trans (grown_of_below H6.out) (grown_set _ _ _ _))⟩
      · have da : decide (a1 < 0) = false := decide_eq_false ha
        replace HE := Lib.hid (HE.out.trans (if_neg (fun h => ha (by have := h.2.2; rwa [if_neg (by decide)] at this))))
        gi_wp2
        exact ⟨keeps_below H6.out, Kept.below H6.out (by have := HSZ.out; omega), by (try unfold List.unattach); rw [List.map_append, List.map_cons, List.map_nil, HE.out]; exact HH.out, grown_trans HG.out (grown_of_below H6.out)⟩
  case done =>
    rintro D ys W hD hS ⟨hv, hg⟩ hK
    have hzz := BZ.out W hg
    have HR : Hid (res = (SetM.list exit).foldl PF ⟨g0, -1, -1, false⟩) := Lib.hid YR.out
    rw [hS] at hv
    generalize (SetM.list exit).foldl PF ⟨g0, -1, -1, false⟩ = rr at hv HR
    have HB : Hid (Below w.heap.size w W) := Lib.hid (C0.out.grown hg (by omega) (fun k e => by cases e; omega))
    have HD : Hid (w.heap.size ≤ D) := Lib.hid (by have := C0.out.size; omega)
    have LG : Hid (Lies W ⟨g5, 0, none⟩ rr.cells) := Lib.hid (by have := Row.lies_of_block hv; simpa using this)
    have l5 := (Array.getElem?_eq_some_iff.1 hzz).1
    have HZ := Lib.hid hzz
    have NZ : Hid (D ≠ gz) := Lib.hid (by have := bks_lt H4.out 2 rfl; omega)
    clear hg hv hS
    go_wp2_with (first | (refine Row.wpList_load_g 36 _ rfl (by first | rfl | (go_simp; done) | fail) ⟨g5, 0, none⟩ rfl rr.cells _ LG.out Try.underlying36 rfl infoRg ?_) | (refine wpList_store_row rfl 36 _ _ rfl gz rr.cells.toArray rfl rfl 36 _ HZ.out infoRg rfl (one_rg _) ?_))
    have hK' : (W.setRow gz rr.cells.toArray).heap[D]? = some (.deferred (some [])) := (setRow_other _ _ _ _ NZ.out).trans hK
    have hz1 : (W.setRow gz rr.cells.toArray).heap[gz]? = some (.cells rr.cells.toArray 36 (0, 0)) := setRow_heap _ _ _ _ _ _ HZ.out
    have hz2 := ((grownBy_putObj' (W.setRow gz rr.cells.toArray) D (.deferred none)).block gz (Array.getElem?_eq_some_iff.1 hz1).1 (fun e => NZ.out (Option.some.inj e).symm)).trans hz1
    refine (show LeavesInM _ _ _ _ _ _ _ _ _ from ⟨by simp, .inl ⟨_, _, rfl, run_takeDeferred hK', ?_⟩⟩)
    exact ⟨_, results_cell_row rfl _ _ gz 36 _ (0, 0) _ rfl hz2 Try.underlying36 rfl infoRg, by rw [HR.out], (below_setRow HB.out (g := gz) gez _).trans (belowK_b (w := w) (Nat.le_refl _) _ D _ _ HD.out hK' rfl rfl)⟩
  case stop =>
    rintro D c pre W hD _ h _
    exact h.elim
end Rg
end Go.Proofs.Ytjgpljnbeolapaa
