/- Stage 18: the cue of a number. -/
import Derived.Test.YtbpfknkbiaplpaaRu
import Derived.Test.YtbpfknkbiaplpaaPhw
namespace Go.Proofs.Ytbpfknkbiaplpaa.Ru
open Go Go.ChangeShapes Go.WideShapes Go.ChangeAt Go.RowKit
open Tab Flat TabArg QL
open May (infoP)
open Ped (ft cu idl Ft infoFt)
open Gap (lm lf gr Tn infoTn)
set_option linter.unusedVariables false
set_option linter.unusedSimpArgs false
set_option maxRecDepth 100000
/-- a bit of a number -/
def bt (k : Int) : Bool := Go.bits BinOp.and IntKind.i64 k 1 == 1
def btA (k : Int) (q : Nat) : Array Value := #[.bool (decide (0 < q) && bt k), .bool (decide (1 < q) && bt (k / 2)), .bool (decide (2 < q) && bt (k / 4)), .bool (decide (3 < q) && bt (k / 8)), .bool (decide (4 < q) && bt (k / 16)), .bool (decide (5 < q) && bt (k / 32))]
def cueV (k : Int) : Cu := ⟨k / 1024 % 4 == 0, k / 4096 % 16 == 0, bt k, bt (k / 2), bt (k / 4) || bt (k / 8), bt (k / 16), bt (k / 32) && bt (k / 64), k / 128 % 8 == 0⟩
theorem builtA : Try.prog.built 81 [] = some #[.bool false, .bool false, .bool false, .bool false, .bool false, .bool false] := by kernel_rfl
theorem infoA6 : (Try.prog.info? 81).map (·.size) = some 6 := by kernel_rfl
set_option maxHeartbeats 8000000 in
theorem cue_any (n : Int) (w : World) : Calls Try.prog 19 #[.int .i64 n] w fun e w' => e = .returned (.agg (Cu.cells (cueV (n % 1099511627776))).toArray) ∧ Below w.heap.size w w' := by
  obtain ⟨k, hk⟩ : ∃ k, n % 1099511627776 = k := ⟨_, rfl⟩
  rw [hk]
  have k0 : 0 ≤ k := by omega
  have k1 : k < 1099511627776 := by omega
  have PL : Hid (∀ W, Calls Try.prog 18 #[.int .i64 n, .int .i64 1099511627776] W fun e w' => e = .returned (.int .i64 k) ∧ W = w') := Lib.hid (fun W => by have := Cnt.place_any n 1099511627776 W (by decide) (by decide); rwa [hk] at this)
  clear hk
  have hn0 := (Blk.Bks.nil w).alloc #[.bool false, .bool false, .bool false, .bool false, .bool false, .bool false, .bool false, .bool false] 31
  go_enter Try.func19, Try.ntmps19
  go_upto_region 2 with (go_at_call 18; refine (PL.out _).mono ?_; rintro e w' ⟨rfl, rfl⟩)
  generalize World.alloc w _ = v at hn0 ⊢
  generalize w.heap.size = gz at hn0 ⊢
  have H0 := Lib.hid hn0
  clear hn0
  go_upto_region 3 with (first | (refine wpList_build rfl 81 [] rfl #[.bool false, .bool false, .bool false, .bool false, .bool false, .bool false] [] rfl builtA ?_) | (refine Row.wpList_store_new rfl 81 _ _ rfl _ _ #[.bool false, .bool false, .bool false, .bool false, .bool false, .bool false] rfl rfl rfl infoA6 rfl rfl ?_))
  have hn := H0.out.alloc #[.bool false, .bool false, .bool false, .bool false, .bool false, .bool false] 81
  generalize World.alloc v _ = v1 at hn ⊢
  generalize v.heap.size = gb at hn ⊢
  have H1 := Lib.hid hn
  clear hn
  clear H0
  go_wp2_with fail
  go_loopw [5] (fun i wr => ∃ (q : Nat), q ≤ 6 ∧ i = .int .i64 q ∧ Blk.Bks w [(gb, btA k q, 81), (gz, #[.bool false, .bool false, .bool false, .bool false, .bool false, .bool false, .bool false, .bool false], 31)] wr) (fun i _ => 6 - (intOf i).toNat)
  case atStart => exact ⟨0, by omega, rfl, H1.out⟩
  case round =>
    obtain ⟨q, hq, rfl, hB⟩ := hrel
    have HB := Lib.hid hB
    clear hB H1
    by_cases hlt : q < 6
    · obtain rfl | rfl | rfl | rfl | rfl | rfl : q = 0 ∨ q = 1 ∨ q = 2 ∨ q = 3 ∨ q = 4 ∨ q = 5 := by omega
      all_goals clear hq hlt
      · have f0 : wr.frozen? ⟨gb, 0, none⟩ = false := HB.out.frozen 0 0 rfl
        have c0 : wr.cell? ⟨gb, 0, none⟩ = some (.bool false) := HB.out.cell 0 0 rfl rfl
        go_wp2_with fail
        have hput := HB.out.set 0 0 rfl (.bool (bt k))
        rw [show Array.setIfInBounds _ 0 (.bool (bt k)) = btA k 1 from rfl] at hput
        simp only [List.set_cons_zero] at hput
        refine ⟨⟨1, by omega, rfl, hput⟩, by simp [intOf]⟩
      · have f0 : wr.frozen? ⟨gb, 1, none⟩ = false := HB.out.frozen 0 1 rfl
        have c0 : wr.cell? ⟨gb, 1, none⟩ = some (.bool false) := HB.out.cell 0 1 rfl rfl
        go_wp2_with fail
        have hput := HB.out.set 0 1 rfl (.bool (bt (k / 2)))
        rw [show Array.setIfInBounds _ 1 (.bool (bt (k / 2))) = btA k 2 from rfl] at hput
        simp only [List.set_cons_zero] at hput
        refine ⟨⟨2, by omega, rfl, hput⟩, by simp [intOf]⟩
      · have f0 : wr.frozen? ⟨gb, 2, none⟩ = false := HB.out.frozen 0 2 rfl
        have c0 : wr.cell? ⟨gb, 2, none⟩ = some (.bool false) := HB.out.cell 0 2 rfl rfl
        go_wp2_with fail
        have hput := HB.out.set 0 2 rfl (.bool (bt (k / 4)))
        rw [show Array.setIfInBounds _ 2 (.bool (bt (k / 4))) = btA k 3 from rfl] at hput
        simp only [List.set_cons_zero] at hput
        refine ⟨⟨3, by omega, rfl, hput⟩, by simp [intOf]⟩
      · have f0 : wr.frozen? ⟨gb, 3, none⟩ = false := HB.out.frozen 0 3 rfl
        have c0 : wr.cell? ⟨gb, 3, none⟩ = some (.bool false) := HB.out.cell 0 3 rfl rfl
        go_wp2_with fail
        have hput := HB.out.set 0 3 rfl (.bool (bt (k / 8)))
        rw [show Array.setIfInBounds _ 3 (.bool (bt (k / 8))) = btA k 4 from rfl] at hput
        simp only [List.set_cons_zero] at hput
        refine ⟨⟨4, by omega, rfl, hput⟩, by simp [intOf]⟩
      · have f0 : wr.frozen? ⟨gb, 4, none⟩ = false := HB.out.frozen 0 4 rfl
        have c0 : wr.cell? ⟨gb, 4, none⟩ = some (.bool false) := HB.out.cell 0 4 rfl rfl
        go_wp2_with fail
        have hput := HB.out.set 0 4 rfl (.bool (bt (k / 16)))
        rw [show Array.setIfInBounds _ 4 (.bool (bt (k / 16))) = btA k 5 from rfl] at hput
        simp only [List.set_cons_zero] at hput
        refine ⟨⟨5, by omega, rfl, hput⟩, by simp [intOf]⟩
      · have f0 : wr.frozen? ⟨gb, 5, none⟩ = false := HB.out.frozen 0 5 rfl
        have c0 : wr.cell? ⟨gb, 5, none⟩ = some (.bool false) := HB.out.cell 0 5 rfl rfl
        go_wp2_with fail
        have hput := HB.out.set 0 5 rfl (.bool (bt (k / 32)))
        rw [show Array.setIfInBounds _ 5 (.bool (bt (k / 32))) = btA k 6 from rfl] at hput
        simp only [List.set_cons_zero] at hput
        refine ⟨⟨6, by omega, rfl, hput⟩, by simp [intOf]⟩
    · obtain rfl : q = 6 := by omega
      obtain ⟨b0, hb0⟩ : ∃ b, bt k = b := ⟨_, rfl⟩
      obtain ⟨b1, hb1⟩ : ∃ b, bt (k / 2) = b := ⟨_, rfl⟩
      obtain ⟨b2, hb2⟩ : ∃ b, bt (k / 4) = b := ⟨_, rfl⟩
      obtain ⟨b3, hb3⟩ : ∃ b, bt (k / 8) = b := ⟨_, rfl⟩
      obtain ⟨b4, hb4⟩ : ∃ b, bt (k / 16) = b := ⟨_, rfl⟩
      obtain ⟨b5, hb5⟩ : ∃ b, bt (k / 32) = b := ⟨_, rfl⟩
      have k0' : wr.cell? ⟨gb, 0, none⟩ = some (.bool b0) := by rw [← hb0]; exact HB.out.cell 0 0 rfl rfl
      have k1' : wr.cell? ⟨gb, 1, none⟩ = some (.bool b1) := by rw [← hb1]; exact HB.out.cell 0 1 rfl rfl
      have k2' : wr.cell? ⟨gb, 2, none⟩ = some (.bool b2) := by rw [← hb2]; exact HB.out.cell 0 2 rfl rfl
      have k3' : wr.cell? ⟨gb, 3, none⟩ = some (.bool b3) := by rw [← hb3]; exact HB.out.cell 0 3 rfl rfl
      have k4' : wr.cell? ⟨gb, 4, none⟩ = some (.bool b4) := by rw [← hb4]; exact HB.out.cell 0 4 rfl rfl
      have k5' : wr.cell? ⟨gb, 5, none⟩ = some (.bool b5) := by rw [← hb5]; exact HB.out.cell 0 5 rfl rfl
      obtain ⟨D, hD⟩ : ∃ D, cueV k = D := ⟨_, rfl⟩
      have HDK := Lib.hid hD
      unfold cueV at hD
      rw [hb0, hb1, hb2, hb3, hb4, hb5] at hD
      have HD := Lib.hid hD
      clear hD hb0 hb1 hb2 hb3 hb4 hb5
      cases b2
      · cases b5
        · have HV : Hid ((⟨k / 1024 % 4 == 0, k / 4096 % 16 == 0, b0, b1, b3, b4, false, k / 128 % 8 == 0⟩ : Cu) = D) := Lib.hid (by rw [← HD.out]; simp)
          go_wp2_with (refine wpList_store_row rfl 31 _ _ rfl gz #[.bool (k / 1024 % 4 == 0), .bool (k / 4096 % 16 == 0), .bool b0, .bool b1, .bool b3, .bool b4, .bool false, .bool (k / 128 % 8 == 0)] rfl rfl 31 _ (HB.out.at 1 rfl) infoCu rfl (by simp [Value.oneCell']) ?_)
          have hput := HB.out.put 1 rfl #[.bool (k / 1024 % 4 == 0), .bool (k / 4096 % 16 == 0), .bool b0, .bool b1, .bool b3, .bool b4, .bool false, .bool (k / 128 % 8 == 0)]
          simp only [List.set_cons_succ, List.set_cons_zero] at hput
          generalize World.setRow _ gz _ = vz at hput ⊢
          have HG := Lib.hid hput
          clear hput
          (try go_wp2_with fail)
          (try simp only [Exit.inBlock, Exit.then])
          refine bodyPost_ret (v := .agg #[.bool (k / 1024 % 4 == 0), .bool (k / 4096 % 16 == 0), .bool b0, .bool b1, .bool b3, .bool b4, .bool false, .bool (k / 128 % 8 == 0)]) ?_ rfl ⟨by rw [HDK.out, ← HV.out]; rfl, HG.out.bel⟩
          exact results_cell_row rfl _ _ gz 31 _ (0, 0) _ rfl (HG.out.at 1 rfl) Try.underlying31 rfl infoCu
        · have HV : Hid ((⟨k / 1024 % 4 == 0, k / 4096 % 16 == 0, b0, b1, b3, b4, bt (k / 64), k / 128 % 8 == 0⟩ : Cu) = D) := Lib.hid (by rw [← HD.out]; simp)
          go_wp2_with (refine wpList_store_row rfl 31 _ _ rfl gz #[.bool (k / 1024 % 4 == 0), .bool (k / 4096 % 16 == 0), .bool b0, .bool b1, .bool b3, .bool b4, .bool (bt (k / 64)), .bool (k / 128 % 8 == 0)] rfl rfl 31 _ (HB.out.at 1 rfl) infoCu rfl (by simp [Value.oneCell']) ?_)
          have hput := HB.out.put 1 rfl #[.bool (k / 1024 % 4 == 0), .bool (k / 4096 % 16 == 0), .bool b0, .bool b1, .bool b3, .bool b4, .bool (bt (k / 64)), .bool (k / 128 % 8 == 0)]
          simp only [List.set_cons_succ, List.set_cons_zero] at hput
          generalize World.setRow _ gz _ = vz at hput ⊢
          have HG := Lib.hid hput
          clear hput
          (try go_wp2_with fail)
          (try simp only [Exit.inBlock, Exit.then])
          refine bodyPost_ret (v := .agg #[.bool (k / 1024 % 4 == 0), .bool (k / 4096 % 16 == 0), .bool b0, .bool b1, .bool b3, .bool b4, .bool (bt (k / 64)), .bool (k / 128 % 8 == 0)]) ?_ rfl ⟨by rw [HDK.out, ← HV.out]; rfl, HG.out.bel⟩
          exact results_cell_row rfl _ _ gz 31 _ (0, 0) _ rfl (HG.out.at 1 rfl) Try.underlying31 rfl infoCu
      · cases b5
        · have HV : Hid ((⟨k / 1024 % 4 == 0, k / 4096 % 16 == 0, b0, b1, true, b4, false, k / 128 % 8 == 0⟩ : Cu) = D) := Lib.hid (by rw [← HD.out]; simp)
          go_wp2_with (refine wpList_store_row rfl 31 _ _ rfl gz #[.bool (k / 1024 % 4 == 0), .bool (k / 4096 % 16 == 0), .bool b0, .bool b1, .bool true, .bool b4, .bool false, .bool (k / 128 % 8 == 0)] rfl rfl 31 _ (HB.out.at 1 rfl) infoCu rfl (by simp [Value.oneCell']) ?_)
          have hput := HB.out.put 1 rfl #[.bool (k / 1024 % 4 == 0), .bool (k / 4096 % 16 == 0), .bool b0, .bool b1, .bool true, .bool b4, .bool false, .bool (k / 128 % 8 == 0)]
          simp only [List.set_cons_succ, List.set_cons_zero] at hput
          generalize World.setRow _ gz _ = vz at hput ⊢
          have HG := Lib.hid hput
          clear hput
          (try go_wp2_with fail)
          (try simp only [Exit.inBlock, Exit.then])
          refine bodyPost_ret (v := .agg #[.bool (k / 1024 % 4 == 0), .bool (k / 4096 % 16 == 0), .bool b0, .bool b1, .bool true, .bool b4, .bool false, .bool (k / 128 % 8 == 0)]) ?_ rfl ⟨by rw [HDK.out, ← HV.out]; rfl, HG.out.bel⟩
          exact results_cell_row rfl _ _ gz 31 _ (0, 0) _ rfl (HG.out.at 1 rfl) Try.underlying31 rfl infoCu
        · have HV : Hid ((⟨k / 1024 % 4 == 0, k / 4096 % 16 == 0, b0, b1, true, b4, bt (k / 64), k / 128 % 8 == 0⟩ : Cu) = D) := Lib.hid (by rw [← HD.out]; simp)
          go_wp2_with (refine wpList_store_row rfl 31 _ _ rfl gz #[.bool (k / 1024 % 4 == 0), .bool (k / 4096 % 16 == 0), .bool b0, .bool b1, .bool true, .bool b4, .bool (bt (k / 64)), .bool (k / 128 % 8 == 0)] rfl rfl 31 _ (HB.out.at 1 rfl) infoCu rfl (by simp [Value.oneCell']) ?_)
          have hput := HB.out.put 1 rfl #[.bool (k / 1024 % 4 == 0), .bool (k / 4096 % 16 == 0), .bool b0, .bool b1, .bool true, .bool b4, .bool (bt (k / 64)), .bool (k / 128 % 8 == 0)]
          simp only [List.set_cons_succ, List.set_cons_zero] at hput
          generalize World.setRow _ gz _ = vz at hput ⊢
          have HG := Lib.hid hput
          clear hput
          (try go_wp2_with fail)
          (try simp only [Exit.inBlock, Exit.then])
          refine bodyPost_ret (v := .agg #[.bool (k / 1024 % 4 == 0), .bool (k / 4096 % 16 == 0), .bool b0, .bool b1, .bool true, .bool b4, .bool (bt (k / 64)), .bool (k / 128 % 8 == 0)]) ?_ rfl ⟨by rw [HDK.out, ← HV.out]; rfl, HG.out.bel⟩
          exact results_cell_row rfl _ _ gz 31 _ (0, 0) _ rfl (HG.out.at 1 rfl) Try.underlying31 rfl infoCu
end Go.Proofs.Ytbpfknkbiaplpaa.Ru
