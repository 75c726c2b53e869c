/- RingPut returns true at any numbers of a table and any set: Put of package ring answers as the document's own Put does. No condition. -/
import Derived.Test.YtjgpljnbeolapaaRows
import Derived.Test.YtjgpljnbeolapaaPart09
import Derived.Test.YtjgpljnbeolapaaPart10
import Derived.Test.YtjgpljnbeolapaaPart06
import Derived.Test.YtjgpljnbeolapaaPart01
import Derived.Deep.Cut
import Derived.LoopTactic
import Derived.BigQuiet
import Derived.Test.YtjgpljnbeolapaaPart11
import Derived.WalkKit
import Derived.WalkLawsBesides
import Derived.ProofKit
import Derived.OpenShut
import Derived.ShutString
import Derived.ChangeOld
import Derived.Below
set_option linter.unusedVariables false
set_option linter.unusedSimpArgs false
set_option linter.unusedSectionVars false
set_option maxHeartbeats 8000000
set_option maxRecDepth 100000
namespace Go.Proofs.Ytjgpljnbeolapaa
namespace ringPut
open Go.ChangeShapes Go.WideShapes Go.ChangeAt Go.RowKit
open Tab Ru QL Rg PlanM
open May (infoP)
open GenT (genTab)
open ChkM (cfAt)
open Clear (phAt)
open PlaceM (where_ spots Spt)
theorem own : ownKnob Try.prog.godebug = none := by kernel_rfl
theorem laidOut : laidOutB Try.prog = true := by kernel_rfl
/-- WHAT THE WALK IS TOLD OF A SLICE OF INTEGERS THAT CAME IN: it is nil; or it leads to a row of 'cap' cells, the numbers 'zs' (the first 'len' are its elements, the rest its spare room), each fitting its kind. -/
def IsRow (k : IntKind) (w : World) (a : Option Addr) (len cap : Nat) (zs : List Int) : Prop :=
  (a = none ∧ len = 0 ∧ cap = 0 ∧ zs = []) ∨
  ∃ x, a = some x ∧ len ≤ cap ∧ cap ≤ maxLen ∧ zs.length = cap ∧ (∀ i, i < zs.length → w.cell? (x.add i) = some (.int k (zs.getD i 0))) ∧ ∀ n ∈ zs, (Lit.int k n).wf = true
theorem isRow_int {w : World} {a : Option Addr} {len cap : Nat} {zs : List Int} (h : IsRow .i64 w a len cap zs) : (zs.take len).length = len ∧ Tab.IntRow w ⟨a, cap⟩ (zs.take len) := by
  rcases h with ⟨rfl, rfl, rfl, rfl⟩ | ⟨x, rfl, h1, h2, h3, h4, _⟩
  · exact ⟨rfl, .inl ⟨rfl, rfl, rfl⟩⟩
  · have hl : (zs.take len).length = len := by rw [List.length_take]; omega
    refine ⟨hl, .inr ⟨x, rfl, by rw [hl]; exact h1, h2, fun i v hv j u hu => ?_⟩⟩
    have hi : i < len := by have := (List.getElem?_eq_some_iff.1 hv).1; omega
    match j, hu with
    | 0, hu =>
      simp at hu
      subst hu
      rw [List.getElem?_take, if_pos hi] at hv
      have := h4 i (by omega)
      rw [List.getD_eq_getElem?_getD, hv] at this
      rw [Nat.mul_one, Tab.add_two, Nat.add_zero]
      exact this
    | j + 1, hu => simp at hu
/-! ### the walk -/
theorem walk (a0 : Option Addr) (len0 cap0 : Nat) (z0 : List Int) (a1 : Int) (w : World) (w0 : IsRow .i64 w a0 len0 cap0 z0) (w1 : (Lit.int .i64 a1).wf = true) :
    Calls Try.prog 3 #[.slice a0 len0 cap0, .int .i64 a1] w fun e w' => e = .returned (.bool true) ∧ Below w.heap.size w w' := by
  obtain ⟨hlen, hrow⟩ := isRow_int w0
  obtain ⟨L, hL⟩ : ∃ L, L = z0.take len0 := ⟨_, rfl⟩
  rw [← hL] at hlen hrow
  clear hL w0
  subst hlen
  have hz := (zero_of_info GenT.infoTz).1
  have hZs : (Clone.zTab.cells Clone.zHd).length = 131 := rfl
  generalize hZ : GenT.zTab.cells GenT.zHd = Z at *
  have ZS : Z.toArray.size = 131 := by rw [← hZ]; rfl
  clear hZ hZs
  have FEW : Hid (PlaceM.Few (genTab L)) := Lib.hid (GenT.genTab_few L)
  go_enter Try.func3, Try.ntmps3
  go_wp2_with fail
  refine (GenT.table_any a0 cap0 L w hrow).mono ?_
  rintro e u0 ⟨hd, rfl, ht, hb⟩
  have CS := GenT.cells_cut hd ht.ph ht.cf ht.fl
  have ONE := (cells_ok ht).one
  have T8 := Lib.hid ht.ph
  have HT : Hid (∀ W, Below u0.heap.size u0 W → IsTab W hd (genTab L)) := Lib.hid (fun W hb => ht.below hb)
  have B0 := Lib.hid hb
  have IA : Hid ((Try.prog.info? 32).map (·.size) = some ((genTab L).cells hd).length) := Lib.hid (by rw [CS]; exact May.infoT)
  clear hb ht
  generalize hc : (genTab L).cells hd = c at *
  have HC := Lib.hid hc
  clear hc
  go_upto_region 2 with (refine Row.wpList_store_new rfl 32 _ _ rfl u0 Z.toArray c.toArray rfl rfl rfl (by rw [List.size_toArray]; exact IA.out) (by rw [ZS, List.size_toArray, CS]) ONE ?_)
  have hb2 : Below u0.heap.size u0 (u0.alloc (.cells c.toArray 32)) := (Below.refl _ _).alloc (Nat.le_refl _) _
  have hl : Lies (u0.alloc (.cells c.toArray 32)) ⟨u0.heap.size, 0, none⟩ c := Row.lies_new _ _ _
  have TB0 : Hid (∀ W, Below (u0.alloc (.cells c.toArray 32)).heap.size (u0.alloc (.cells c.toArray 32)) W → IsTab W hd (genTab L)) := Lib.hid (fun W hb => HT.out W (hb2.trans (hb.mono hb2.size)))
  generalize u0.alloc (.cells c.toArray 32) = u at hb2 hl TB0 ⊢
  have TB : Hid (∀ W, Below u.heap.size u W → IsTab W hd (genTab L)) := TB0
  have A0 : Hid (Below w.heap.size w u) := Lib.hid (B0.out.trans (hb2.mono B0.out.size))
  have A1 : Hid (∀ W, Below u.heap.size u W → Lies W ⟨u0.heap.size, 0, none⟩ c) := Lib.hid (fun W hb => Lies.below hl hb)
  clear hb2 hl TB0 HT B0 hrow hz ZS ONE CS
  generalize u0.heap.size = tb at *
  generalize genTab L = T at *
  obtain ⟨P, hP⟩ : ∃ P, putS T a1 = P := ⟨_, rfl⟩
  have PU : Hid (∀ W, Below u.heap.size u W → Calls Try.prog 8 #[.agg c.toArray, .int .i64 a1] W fun e w' => e = .returned (.agg P.cells.toArray) ∧ Below W.heap.size W w') := Lib.hid (fun W hb => by rw [← HC.out, ← hP]; exact put_any T hd a1 W (TB.out W hb))
  have RP : Hid (∀ W, Below u.heap.size u W → Calls Try.prog 9 #[.agg c.toArray, .int .i64 a1] W fun e w' => e = .returned (.agg P.cells.toArray) ∧ Below W.heap.size W w') := Lib.hid (fun W hb => by rw [← HC.out, ← hP]; exact rput_any T hd a1 W (TB.out W hb) FEW.out)
  clear hP TB FEW HC T8
  refine QB.region_below u.heap.size (by kernel_rfl) (by kernel_rfl) ?_
  repeat first
    | (refine wpQuiet_load rfl 32 _ rfl ⟨tb, 0, none⟩ rfl c _ (fun w' ⟨pw, e⟩ => by rw [e]; exact A1.out _ pw.below) Try.underlying32 rfl IA.out ?_
       dsimp only [Act.put]
       simp only [List.setIfInBounds_toArray, List.set_cons_zero, List.set_cons_succ])
    | (refine wpQuiet_eql rfl 36 _ _ _ rfl P.cells.toArray P.cells.toArray rfl rfl guardRg true (rg_same _) ?_
       dsimp only [Act.put]
       simp only [List.setIfInBounds_toArray, List.set_cons_zero, List.set_cons_succ])
    | ((quiet_step (first | (go_at_call 8; with_reducible exact QB.call_of (Nat.le_refl _) (fun b => PU.out _ b)) | (go_at_call 9; with_reducible exact QB.call_of (Nat.le_refl _) (fun b => RP.out _ b)) | (go_at_call 10; with_reducible exact QB.call_of (Nat.le_refl _) (fun b => awake_any _))); try simp only [beq_self_eq_true]))
  refine wpQuiet_nil ?_
  intro _ hw'
  obtain ⟨pq, rfl⟩ := hw'
  have BP := Lib.hid (A0.out.trans (pq.below.mono A0.out.size))
  generalize pq.world = vp at BP ⊢
  go_wp2
  go_ret
  exact ⟨rfl, BP.out⟩
/-! ### the row's step -/
theorem lifted (os : Os) (started : os.Started) (H : Type) (enc : TypeId × Value → H) :
    ReturnsInHanded {} Try.checked os 3 .any (Rows.ringPutSpec.pre6 enc Try.prog Try.f3 Rows.ringPutRow.domain false) (Rows.ringPutSpec.post enc Try.prog Try.f3 false true false false) := by
  refine returnsInHanded_of_change (C := Try.checked) own started (by kernel_rfl) Try.func3
    (ChangeSpec.witness6 (enc := enc) (C := Try.checked) false ⟨#[], #[.slice none 0 0, .int .i64 0], []⟩ 8 (by kernel_rfl) (by kernel_rfl) (by kernel_rfl) (by kernel_rfl)) ?_
  intro W base args ds gs before hval0 hW hcnd _
  have hval : ∀ (j : Nat) t v, Try.f3.params[j]? = some t → args[j]? = some v → Value.okWide Try.prog W .any base t v := hval0
  have hW' := hW
  obtain ⟨p, q, hA0, hV, rfl, hfz, hnd⟩ := hW
  have hA : DataW.TrodAll enc Try.prog W 0 (fun _ => true) true Try.f3.params.toList args.toList ds p := hA0
  rw [Try.params3] at hA hval
  obtain ⟨v0, vs0, d0, ds0, p0, q0, hargs, rfl, rfl, h0, r0⟩ := trodAll_cons hA
  obtain ⟨v1, vs1, d1, ds1, p1, q1, rfl, rfl, rfl, h1, r1⟩ := trodAll_cons r0
  obtain ⟨rfl, rfl, rfl⟩ := trodAll_nil r1
  obtain rfl : args = #[v0, v1] := by cases args; simp_all
  obtain ⟨rfl, rfl⟩ := trodVars_none hV
  obtain ⟨a0, len0, cap0, rfl⟩ := okWide_slice Try.underlying22 (hval 0 22 v0 rfl rfl)
  have k0 := h0
  have lt0 : ∀ x ∈ p0, x.block < W.heap.size := by obtain ⟨m, hm⟩ := k0; exact DataW.trod_lt m _ _ _ hm
  obtain ⟨z0, w0⟩ : ∃ zs, IsRow .i64 W a0 len0 cap0 zs := by
    obtain ⟨fuel, hf⟩ := h0
    rcases open_ints Try.underlying22 Try.underlying3 (by kernel_rfl) hf with ⟨hcs, _⟩ | ⟨x, l, c, zs, hcs, _, hl, hm, hz, _, hcell, hwz⟩
    · simp [Value.cells] at hcs
      obtain ⟨rfl, rfl, rfl⟩ := hcs
      exact ⟨[], .inl ⟨rfl, rfl, rfl, rfl⟩⟩
    · simp [Value.cells] at hcs
      obtain ⟨rfl, rfl, rfl⟩ := hcs
      exact ⟨zs, .inr ⟨_, rfl, hl, hm, by simpa using hz, hcell, hwz⟩⟩
  obtain ⟨a1, rfl, rfl, rfl, w1⟩ := open_int Try.underlying3 (hval 1 3 v1 rfl rfl) h1
  clear hA0 hval0
  refine (walk a0 len0 cap0 z0 a1 W w0 w1).mono fun e W' ⟨he, bel⟩ => ?_
  subst he
  exact ⟨_, rfl, _, _, _, [], _, [], hW', trodAll_mk1 (shut_bool Try.underlying4 _), (trodAll_cons_mk (Below.trod laidOut (by kernel_rfl) (of_decide_eq_true (by kernel_rfl)) k0 bel lt0) (trodAll_cons_mk (shut_int Try.underlying3 w1) trodAll_mk0)), rfl, bel.frame _, fun h => by cases h⟩
theorem over : Rows.ringPutRow.holds Try.pinned (OpenSpec.ofChange Rows.ringPutSpec) :=
  OpenClaim.holds_of_wide 3 Try.f3 rfl rfl rfl rfl rfl rfl rfl ⟨rfl, rfl, rfl, rfl, rfl⟩ rfl rfl rfl rfl rfl (by kernel_rfl) Try.func3 (by kernel_rfl)
    (of_decide_eq_true (by kernel_rfl)) (by unfold Func.isWrapper; first | (rw [if_pos (by decide +kernel)]; kernel_rfl) | (rw [if_neg (by decide +kernel)]; exact ⟨rfl, rfl⟩))
    (fun os started H enc _ => lifted os started H enc)
/-- the statement -/
theorem proved : Rows.RingPutSaid :=
  over
#print axioms proved
end ringPut
end Go.Proofs.Ytjgpljnbeolapaa
