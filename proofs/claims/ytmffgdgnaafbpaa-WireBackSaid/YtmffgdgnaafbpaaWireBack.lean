/- WireBack returns true at any slice of ints and any slice of floats: at most 20 of each, put one behind the other, are read back bit by bit. No condition. -/
import Derived.Test.YtmffgdgnaafbpaaRows
import Derived.Test.YtmffgdgnaafbpaaWa
import Derived.Test.YtmffgdgnaafbpaaQB
import Derived.Test.YtmffgdgnaafbpaaPh
import Derived.Test.YtmffgdgnaafbpaaRecs
import Derived.Test.YtmffgdgnaafbpaaBk
import Derived.WalkKit
import Derived.WalkLawsBesides
import Derived.ProofKit
import Derived.OpenShut
import Derived.ShutString
import Derived.ChangeOld
import Derived.Below
namespace Go.Proofs.Ytmffgdgnaafbpaa.wireBack
open Go.ChangeShapes Go.WideShapes Go.ChangeAt Go.RowKit
open B Put Rd Nx Nm
set_option linter.unusedVariables false
set_option linter.unusedSimpArgs false

theorem own : ownKnob Try.prog.godebug = none := by kernel_rfl
theorem laidOut : laidOutB Try.prog = true := by kernel_rfl

/-- WHAT THE WALK IS TOLD OF A SLICE OF INTEGERS THAT CAME IN: it is nil; or it leads to a row of 'cap' cells, the numbers 'zs' (the first 'len' are its elements, the rest its spare room), each fitting its kind. -/
def IsRow (k : IntKind) (w : World) (a : Option Addr) (len cap : Nat) (zs : List Int) : Prop :=
  (a = none ∧ len = 0 ∧ cap = 0 ∧ zs = []) ∨
  ∃ x, a = some x ∧ len ≤ cap ∧ cap ≤ maxLen ∧ zs.length = cap ∧ (∀ i, i < zs.length → w.cell? (x.add i) = some (.int k (zs.getD i 0))) ∧ ∀ n ∈ zs, (Lit.int k n).wf = true

theorem chain {a b c : World} (h : Below a.heap.size a b) (k : Below b.heap.size b c) : Below a.heap.size a c := h.trans (k.mono h.size)

/-- How the Reader stands before and behind the one call of a region that reads. -/
def D (g : Nat) (ad : Option Addr) (cap : Nat) (T : List Nat) (p p' : Nat) (w : World) (q : Nat) (w' : World) : Prop :=
  Rd w' g ad cap T (if q = 0 then p else p') 0 0 ∧ Below w.heap.size w w'
theorem mask_wrap (k : Nat) (hk : k ≤ 7) : wrap64 (wrap64 ((2 : Int) ^ (8 * k)) - 1) = 2 ^ (8 * k) - 1 := by
  have h0 : k = 0 ∨ k = 1 ∨ k = 2 ∨ k = 3 ∨ k = 4 ∨ k = 5 ∨ k = 6 ∨ k = 7 := by omega
  unfold wrap64
  rcases h0 with rfl | rfl | rfl | rfl | rfl | rfl | rfl | rfl <;> omega
theorem link_num {g : Nat} {ad : Option Addr} {cap : Nat} {T A M R : List Nat} {k p' : Nat} {w w' : World} {kk m E : Int} (hl : T.length ≤ 10000) (hT : T = A ++ (M ++ R)) (hM : M.length = k) (hk : lim kk 7 = k) (hp : p' = A.length + k)
    (hm : (be M : Int) ≤ m) (hE : (be M : Int) = E) (hg : w.heap.size ≤ g) (hd : D g ad cap T A.length p' w 0 w') :
    Calls Try.prog 14 #[.pointer (some ⟨g, 0, none⟩), .int .i64 kk, .int .i64 0, .int .i64 m] w' fun e w'' => e = .returned (.int .i64 E) ∧ D g ad cap T A.length p' w 1 w'' := by
  subst hM hp hE
  have hv : val T A.length M.length = be M := by rw [hT, Bk.val_mid]
  have hlen : A.length + M.length ≤ T.length := by rw [hT]; simp
  have hnum : num T ⟨A.length, 0, 0⟩ M.length 0 m = ((be M : Int), (⟨A.length + M.length, 0, 0⟩ : St)) := by
    unfold num
    rw [if_neg (by simp), if_neg (by simp; omega), hv, if_neg (by omega)]
  have h := num_any g ad cap T ⟨A.length, 0, 0⟩ kk 0 m w' hd.1 hl ⟨by simp; omega, fun _ => rfl⟩
  rw [hk, hnum] at h
  exact h.mono fun e w'' ⟨he, hr, hb⟩ => ⟨he, hr, hd.2.trans (hb.below hd.2.size hg)⟩
theorem link_float {g : Nat} {ad : Option Addr} {cap : Nat} {T A M R : List Nat} {p' E : Nat} {w w' : World} (hl : T.length ≤ 10000) (hT : T = A ++ (M ++ R)) (hM : M.length = 8) (hp : p' = A.length + 8)
    (hE : be M = E) (hg : w.heap.size ≤ g) (hd : D g ad cap T A.length p' w 0 w') :
    Calls Try.prog 17 #[.pointer (some ⟨g, 0, none⟩)] w' fun e w'' => e = .returned (.float .f64 E) ∧ D g ad cap T A.length p' w 1 w'' := by
  subst hp hE
  have hv : val T A.length 8 = be M := by rw [hT, ← hM, Bk.val_mid]
  have hlen : A.length + 8 ≤ T.length := by rw [hT, ← hM]; simp
  have hflt : flt T ⟨A.length, 0, 0⟩ = (be M, (⟨A.length + 8, 0, 0⟩ : St)) := by
    unfold flt
    rw [if_neg (by simp), if_neg (by simp; omega), hv]
  have h := float_any g ad cap T ⟨A.length, 0, 0⟩ w' hd.1 hl ⟨by simp; omega, fun _ => rfl⟩
  rw [hflt] at h
  exact h.mono fun e w'' ⟨he, hr, hb⟩ => ⟨he, hr, hd.2.trans (hb.below hd.2.size hg)⟩
theorem field_code (c f : Int) (w : World) : (Instr.field 35 (.agg #[.int .i64 c, .int .i64 f]) 0).run Try.prog w = .ok (.int .i64 c) w := by
  first
    | rfl
    | simp [Instr.field, run_underlying Try.underlying35, go_sem, Result.andThen]
theorem own_nilcap {B : Nat} {w : World} {a : Option Addr} {n cap : Nat} {l : List Nat} (h : Own B w (.slice a n cap) l) : a = none → cap = 0 := by
  rintro rfl
  rcases h.2 with ⟨h0, _⟩ | ⟨g, c, cur, h1, _⟩
  · cases h0; rfl
  · cases h1
theorem own_mono {B C : Nat} {w : World} {v : Value} {l : List Nat} (h : Own B w v l) (hC : C ≤ B) : Own C w v l := by
  refine ⟨h.1, ?_⟩
  rcases h.2 with h0 | ⟨g, cap, cur, h1, h2, h3⟩
  · exact .inl h0
  · exact .inr ⟨g, cap, cur, h1, Nat.le_trans hC h2, h3⟩

/-! ### the walk -/
set_option maxRecDepth 100000 in
set_option maxHeartbeats 4000000 in
theorem walk (a0 : Option Addr) (len0 cap0 : Nat) (z0 : List Int) (a1 : Option Addr) (len1 cap1 : Nat) (z1 : Nat → Nat) (w : World) (w0 : IsRow .i64 w a0 len0 cap0 z0) (w1 : Recs.IsFlts w a1 len1 cap1 z1) :
    Calls Try.prog 5 #[.slice a0 len0 cap0, .slice a1 len1 cap1] w fun e w' => e = .returned (.bool true) ∧ Below w.heap.size w w' := by
  have Hz : Hid (∀ j, j < len0 → ∃ x, a0 = some x ∧ w.cell? (x.add j) = some (.int .i64 (z0.getD j 0))) := by
    intro j hj
    rcases w0 with ⟨_, h0, _⟩ | ⟨x, hx, hl, hm, hz, hc, hw⟩
    · omega
    · exact ⟨x, hx, hc j (by omega)⟩
  have Hx : Hid (∀ j, j < len1 → ∃ x, a1 = some x ∧ w.cell? (x.add j) = some (.float .f64 (z1 j)) ∧ z1 j < 18446744073709551616) := by
    intro j hj
    rcases w1 with ⟨_, h0, _⟩ | ⟨x, hx, hl, hm, hc⟩
    · omega
    · exact ⟨x, hx, (hc j hj).1, by simpa [Lit.wf] using (hc j hj).2⟩
  clear w0 w1
  by_cases hl : 20 < len0
  · go_enter Try.func5, Try.ntmps5
    go_wp2_with fail
    refine (Wa.awake_any _).mono ?_
    rintro e w1 ⟨rfl, hb⟩
    go_wp2
    go_ret
    exact ⟨rfl, hb⟩
  · by_cases hl2 : 20 < len1
    · have hd : decide ((20 : Int) < (len0 : Int)) = false := decide_eq_false (by omega)
      go_enter Try.func5, Try.ntmps5
      go_wp2_with fail
      refine (Wa.awake_any _).mono ?_
      rintro e w1 ⟨rfl, hb⟩
      go_wp2
      go_ret
      exact ⟨rfl, hb⟩
    · go_enter Try.func5, Try.ntmps5
      go_wp2_with fail
      go_loopw [5, 6] (fun b i wr => ∃ j : Nat, j ≤ len0 ∧ i = .int .i64 j ∧ Own w.heap.size wr b (Bk.nums z0 j) ∧ Below w.heap.size w wr) (fun _ i _ => len0 - (intOf i).toNat)
      case atStart => exact ⟨0, Nat.zero_le _, rfl, own_nil _ _, Below.refl _ _⟩
      case round =>
        obtain ⟨j, hj, rfl, hown, hbel⟩ := hrel
        obtain ⟨b1, cp1, rfl, hr1⟩ := own_row hown (Bk.nums_lt z0 j)
        have Hown := Lib.hid hown
        have R1 := Lib.hid hr1
        have Hb := Lib.hid hbel
        have hnl := Bk.nums_len z0 j
        clear hown hr1 hbel
        by_cases hlt : j < len0
        · obtain ⟨x, rfl, hcl⟩ := Hz.out j hlt
          have hcell := (Hb.out.cell (World.block_lt_of_cell? w _ hcl)).trans hcl
          clear hcl
          have HS := Lib.hid (show Bk.nums z0 (j + 1) = Bk.nums z0 j ++ low (1 + j % 7) (z0.getD j 0) from rfl)
          generalize z0.getD j 0 = n at hcell HS
          have hlim : lim (1 + (j : Int) % 7) 8 = 1 + j % 7 := by unfold lim; omega
          go_wp2_with fail
          refine (put_any b1 cp1 (Bk.nums z0 j) (1 + (j : Int) % 7) n _ R1.out (by omega)).mono ?_
          rintro e w3 ⟨v, rfl, hown3, hb3⟩
          rw [hlim, ← HS.out] at hown3
          have Hown3 := Lib.hid (own_mono hown3 Hb.out.size)
          have B3 := Lib.hid (chain Hb.out hb3)
          clear hown3 hb3 hlim
          go_wp2
          go_roundw
          case rel => exact ⟨j + 1, by omega, by go_num, Hown3.out, B3.out⟩
          case measure => simp [intOf]; omega
        · obtain rfl : j = len0 := by omega
          have HT0 := Lib.hid (Bk.nums_lt z0 j)
          have HL3 := Lib.hid (fun i (hi : i < j) => Bk.nums_split z0 i j hi)
          generalize hT0 : Bk.nums z0 j = T0 at Hown R1 hnl HT0 HL3 ⊢
          have HT := Lib.hid hT0
          clear hT0 R1
          go_wp2_with fail
          go_loopw [5, 7] (fun b i wr => ∃ q : Nat, q ≤ len1 ∧ i = .int .i64 q ∧ Own w.heap.size wr b (Bk.flts T0 z1 q) ∧ Below w.heap.size w wr) (fun _ i _ => len1 - (intOf i).toNat)
          case atStart => exact ⟨0, Nat.zero_le _, rfl, Hown.out, Hb.out⟩
          case round =>
            clear Hown Hb
            obtain ⟨q, hq, rfl, hown, hbel⟩ := hrel
            obtain ⟨b2, cp2, rfl, hr2⟩ := own_row hown (Bk.flts_lt T0 HT0.out z1 q)
            have hnil2 : b2 = none → cp2 = 0 := own_nilcap hown
            have Hown := Lib.hid hown
            have R2 := Lib.hid hr2
            have Hb := Lib.hid hbel
            have HFL := Lib.hid (Bk.flts_len T0 z1 q)
            have hfl : (Bk.flts T0 z1 q).length ≤ 400 := by have := HFL.out; omega
            clear hown hr2 hbel
            by_cases hlt : q < len1
            · obtain ⟨x, rfl, hcl, hx64⟩ := Hx.out q hlt
              have hcell := (Hb.out.cell (World.block_lt_of_cell? w _ hcl)).trans hcl
              clear hcl hx64 hnil2
              have HS := Lib.hid (show Bk.flts T0 z1 (q + 1) = Bk.flts T0 z1 q ++ low 8 (z1 q : Nat) from rfl)
              generalize z1 q = n at hcell HS
              go_wp2_with fail
              refine (putf_any b2 cp2 (Bk.flts T0 z1 q) n _ R2.out (by omega)).mono ?_
              rintro e w3 ⟨v, rfl, hown3, hb3⟩
              rw [← HS.out] at hown3
              have Hown3 := Lib.hid (own_mono hown3 Hb.out.size)
              have B3 := Lib.hid (chain Hb.out hb3)
              clear hown3 hb3
              go_wp2
              go_roundw
              case rel => exact ⟨q + 1, by omega, by go_num, Hown3.out, B3.out⟩
              case measure => simp [intOf]; omega
            · obtain rfl : q = len1 := by omega
              have HL4 := Lib.hid (fun i (hi : i < q) => Bk.flts_split T0 z1 i q hi)
              obtain ⟨R0, hR0⟩ := Bk.flts_pre T0 z1 q
              have HR0 := Lib.hid hR0
              clear hR0
              go_wp2_with fail
              refine (new_any b2 cp2 (Bk.flts T0 z1 q) _ R2.out (by omega) hnil2).mono ?_
              rintro e w4 ⟨g, ad, cap, rfl, hg, hx, hrd, hb4⟩
              have hg2 : w.heap.size ≤ g := Nat.le_trans Hb.out.size hg
              have B4 := Lib.hid (chain Hb.out hb4)
              have Rg := Lib.hid hrd
              clear hrd hb4 hg hx
              generalize hT : Bk.flts T0 z1 q = T at Rg HL4 HR0 hfl HFL ⊢
              have HTT := Lib.hid hT
              clear hT Hown R2 hnil2
              go_wp2_with fail
              go_loopw [9] (fun i wr => ∃ i0 : Nat, i0 ≤ j ∧ i = .int .i64 i0 ∧ Rd wr g ad cap T (Bk.nums z0 i0).length 0 0 ∧ Below w.heap.size w wr) (fun i _ => j - (intOf i).toNat)
              case atStart => exact ⟨0, Nat.zero_le _, rfl, Rg.out, B4.out⟩
              case round =>
                clear Rg B4 Hb
                obtain ⟨i0, hi0, rfl, hrd, hbel⟩ := hrel
                have Rg := Lib.hid hrd
                have Hb := Lib.hid hbel
                clear hrd hbel
                by_cases hlt3 : i0 < j
                · obtain ⟨x, rfl, hcl⟩ := Hz.out i0 hlt3
                  obtain ⟨R, hR⟩ := HL3.out i0 hlt3
                  have HPn := Lib.hid (show (Bk.nums z0 (i0 + 1)).length = (Bk.nums z0 i0).length + (1 + i0 % 7) by rw [Bk.nums, List.length_append, low_len]; rfl)
                  generalize hn : z0.getD i0 0 = n at hcl hR
                  have HTn : Hid (T = Bk.nums z0 i0 ++ (low (1 + i0 % 7) n ++ (R ++ R0))) := by
                    show _ = _
                    rw [HR0.out, hR]
                    simp [Bk.sz]
                  clear hR hn
                  have hk7 : 1 + i0 % 7 ≤ 7 := by omega
                  have hmw := mask_wrap (1 + i0 % 7) hk7
                  have hand := Bk.and_mask n (1 + i0 % 7) hk7
                  have HE := Lib.hid (Bk.be_low (1 + i0 % 7) n)
                  have hE1 : n % 2 ^ (8 * (1 + i0 % 7)) ≤ 2 ^ (8 * (1 + i0 % 7)) - 1 := by
                    have := Int.emod_lt_of_pos n (show (0 : Int) < 2 ^ (8 * (1 + i0 % 7)) from Int.pow_pos (by decide))
                    omega
                  have hlim : lim (1 + (i0 : Int) % 7) 7 = 1 + i0 % 7 := by unfold lim; omega
                  have HLim := Lib.hid hlim
                  generalize hM : (2 : Int) ^ (8 * (1 + i0 % 7)) - 1 = M at hmw hand hE1
                  clear hlim hM
                  generalize n % 2 ^ (8 * (1 + i0 % 7)) = E at hand HE hE1
                  have HE1 := Lib.hid hE1
                  clear hE1
                  go_wp2_with fail
                  have hD0 : D g ad cap T (Bk.nums z0 i0).length (Bk.nums z0 (i0 + 1)).length w 0 wr.drew := ⟨Rg.out.below ((Below.refl _ _).drew), Hb.out.drew⟩
                  generalize hpp : (Bk.nums z0 (i0 + 1)).length = p' at HPn hD0
                  have HPP := Lib.hid hpp
                  clear hpp
                  have hne : Nonempty (Ph.S (D g ad cap T (Bk.nums z0 i0).length p' w)) := ⟨⟨0, _, hD0⟩⟩
                  have hzc : ∀ p : Ph.S (D g ad cap T (Bk.nums z0 i0).length p' w), p.world.cell? (x.add i0) = some (.int .i64 n) := fun p => (p.is.2.cell (World.block_lt_of_cell? w _ hcl)).trans hcl
                  clear hcl
                  have htm : (i0 : Int).tmod 7 = (i0 : Int) % 7 := Int.tmod_eq_emod_of_nonneg (by omega)
                  have hwr : IntKind.i64.wrap (1 + (i0 : Int) % 7) = 1 + (i0 : Int) % 7 := by rw [IntKind.wrap_i64]; omega
                  refine Ph.wp_region_ph (D g ad cap T (Bk.nums z0 i0).length p' w) [5] (by kernel_rfl) (by kernel_rfl) hD0 ?_
                  repeat
                    refine Ph.wpPh_calm rfl (fun K hK => ?_)
                    go_simp
                    refine hK _ ?_
                    clear hK K
                  refine Ph.wpPh_link (p := 0) rfl (fun K hK => ?_)
                  go_simp
                  refine ⟨_, fun w' hd => link_num (by omega) HTn.out (low_len _ _) HLim.out HPn.out (by rw [HE.out]; exact HE1.out) HE.out hg2 hd, hK _ ?_⟩
                  clear hK K
                  repeat
                    refine Ph.wpPh_calm rfl (fun K hK => ?_)
                    go_simp
                    refine hK _ ?_
                    clear hK K
                  refine Ph.wpPh_nil ?_
                  intro w3 hd3
                  have Rg3 : Hid (Rd w3 g ad cap T p' 0 0) := hd3.1
                  have B3 : Hid (Below w.heap.size w w3) := hd3.2
                  clear hzc hne hd3 hD0 hwr htm
                  go_wp2
                  go_roundw
                  case rel => exact ⟨i0 + 1, by omega, by go_num, by rw [HPP.out]; exact Rg3.out, B3.out⟩
                  case measure => simp [intOf]; omega
                · obtain rfl : i0 = j := by omega
                  rw [HT.out] at Rg
                  go_wp2_with fail
                  go_loopw [11] (fun i wr => ∃ q0 : Nat, q0 ≤ q ∧ i = .int .i64 q0 ∧ Rd wr g ad cap T (Bk.flts T0 z1 q0).length 0 0 ∧ Below w.heap.size w wr) (fun i _ => q - (intOf i).toNat)
                  case atStart => exact ⟨0, Nat.zero_le _, rfl, Rg.out, Hb.out⟩
                  case round =>
                    clear Rg Hb
                    obtain ⟨q0, hq0, rfl, hrd, hbel⟩ := hrel
                    have Rg := Lib.hid hrd
                    have Hb := Lib.hid hbel
                    clear hrd hbel
                    by_cases hlt4 : q0 < q
                    · obtain ⟨x, rfl, hcl, hx64⟩ := Hx.out q0 hlt4
                      obtain ⟨R, hR⟩ := HL4.out q0 hlt4
                      have HPn := Lib.hid (show (Bk.flts T0 z1 (q0 + 1)).length = (Bk.flts T0 z1 q0).length + 8 by rw [Bk.flts, List.length_append, low_len])
                      generalize z1 q0 = n at hcl hR hx64
                      have HTn := Lib.hid hR
                      have HE : Hid (be (low 8 (n : Nat)) = n) := by
                        have h := Bk.be_low 8 (n : Int)
                        rw [Int.emod_eq_of_lt (by omega) (by omega)] at h
                        show _ = _
                        omega
                      clear hR hx64
                      go_wp2_with fail
                      have hD0 : D g ad cap T (Bk.flts T0 z1 q0).length (Bk.flts T0 z1 (q0 + 1)).length w 0 wr.drew := ⟨Rg.out.below ((Below.refl _ _).drew), Hb.out.drew⟩
                      generalize hpp : (Bk.flts T0 z1 (q0 + 1)).length = p' at HPn hD0
                      have HPP := Lib.hid hpp
                      clear hpp
                      have hne : Nonempty (Ph.S (D g ad cap T (Bk.flts T0 z1 q0).length p' w)) := ⟨⟨0, _, hD0⟩⟩
                      have hzc : ∀ p : Ph.S (D g ad cap T (Bk.flts T0 z1 q0).length p' w), p.world.cell? (x.add q0) = some (.float .f64 n) := fun p => (p.is.2.cell (World.block_lt_of_cell? w _ hcl)).trans hcl
                      clear hcl
                      refine Ph.wp_region_ph (D g ad cap T (Bk.flts T0 z1 q0).length p' w) [1] (by kernel_rfl) (by kernel_rfl) hD0 ?_
                      repeat
                        refine Ph.wpPh_calm rfl (fun K hK => ?_)
                        go_simp
                        refine hK _ ?_
                        clear hK K
                      refine Ph.wpPh_link (p := 0) rfl (fun K hK => ?_)
                      go_simp
                      refine ⟨_, fun w' hd => link_float (by omega) HTn.out (low_len _ _) HPn.out HE.out hg2 hd, hK _ ?_⟩
                      clear hK K
                      repeat
                        refine Ph.wpPh_calm rfl (fun K hK => ?_)
                        go_simp
                        refine hK _ ?_
                        clear hK K
                      refine Ph.wpPh_calm rfl (fun K hK => ?_)
                      go_simp
                      refine ⟨_, fun p => (Wa.alike_any _ _).mono fun e w'' ⟨he, hw⟩ => ⟨he, hw ▸ p.is⟩, hK _ ?_⟩
                      clear hK K
                      repeat
                        refine Ph.wpPh_calm rfl (fun K hK => ?_)
                        go_simp
                        refine hK _ ?_
                        clear hK K
                      refine Ph.wpPh_nil ?_
                      intro w3 hd3
                      have Rg3 : Hid (Rd w3 g ad cap T p' 0 0) := hd3.1
                      have B3 : Hid (Below w.heap.size w w3) := hd3.2
                      clear hzc hne hd3 hD0
                      go_wp2
                      go_roundw
                      case rel => exact ⟨q0 + 1, by omega, by go_num, by rw [HPP.out]; exact Rg3.out, B3.out⟩
                      case measure => simp [intOf]; omega
                    · obtain rfl : q0 = q := by omega
                      rw [HTT.out] at Rg
                      go_wp2_with fail
                      refine (left_any g ad cap T T.length 0 0 _ Rg.out (by omega) (Nat.le_refl _)).mono ?_
                      rintro e w' ⟨rfl, n, rfl⟩
                      have hdr : Below wr.heap.size wr (wr.drewN n) := below_drewN (Below.refl _ _) n
                      have Rg2 := Lib.hid (Rg.out.below hdr)
                      have B2 := Lib.hid (chain Hb.out hdr)
                      rw [show ((T.length : Int) - (T.length : Int)) = 0 from Int.sub_self _]
                      clear hdr
                      go_wp2_with fail
                      refine (fault_any g ad cap T T.length 0 0 _ Rg2.out).mono ?_
                      rintro e w3 ⟨rfl, hb3⟩
                      have B3 := Lib.hid (chain B2.out hb3)
                      have hfc := field_code
                      clear hb3
                      go_wp2_with fail
                      refine (Wa.awake_any _).mono ?_
                      rintro e w5 ⟨rfl, hb5⟩
                      have B5 := Lib.hid (chain B3.out hb5)
                      clear hb5
                      go_wp2
                      go_ret
                      exact ⟨rfl, B5.out⟩

/-! ### the row's step -/
set_option maxRecDepth 100000 in
theorem lifted (os : Os) (started : os.Started) (H : Type) (enc : TypeId × Value → H) :
    ReturnsInHanded {} Try.checked os 5 .any (Rows.wireBackSpec.pre6 enc Try.prog Try.f5 Rows.wireBackRow.domain false) (Rows.wireBackSpec.post enc Try.prog Try.f5 false true false false) := by
  refine returnsInHanded_of_change (C := Try.checked) own started (by kernel_rfl) Try.func5
    (ChangeSpec.witness6 (enc := enc) (C := Try.checked) false ⟨#[], #[.slice none 0 0, .slice none 0 0], []⟩ 8 (by kernel_rfl) (by kernel_rfl) (by kernel_rfl) (by kernel_rfl)) ?_
  intro W base args ds gs before hval0 hW hcnd _
  have hval : ∀ (j : Nat) t v, Try.f5.params[j]? = some t → args[j]? = some v → Value.okWide Try.prog W .any base t v := hval0
  have hW' := hW
  obtain ⟨p, q, hA0, hV, rfl, hfz, hnd⟩ := hW
  have hA : DataW.TrodAll enc Try.prog W 0 (fun _ => true) true Try.f5.params.toList args.toList ds p := hA0
  rw [Try.params5] at hA hval
  obtain ⟨v0, vs0, d0, ds0, p0, q0, hargs, rfl, rfl, h0, r0⟩ := trodAll_cons hA
  obtain ⟨v1, vs1, d1, ds1, p1, q1, rfl, rfl, rfl, h1, r1⟩ := trodAll_cons r0
  obtain ⟨rfl, rfl, rfl⟩ := trodAll_nil r1
  obtain rfl : args = #[v0, v1] := by cases args; simp_all
  obtain ⟨rfl, rfl⟩ := trodVars_none hV
  obtain ⟨a0, len0, cap0, rfl⟩ := okWide_slice Try.underlying46 (hval 0 46 v0 rfl rfl)
  have k0 := h0
  have lt0 : ∀ x ∈ p0, x.block < W.heap.size := by obtain ⟨m, hm⟩ := k0; exact DataW.trod_lt m _ _ _ hm
  obtain ⟨z0, w0⟩ : ∃ zs, IsRow .i64 W a0 len0 cap0 zs := by
    obtain ⟨fuel, hf⟩ := h0
    rcases open_ints Try.underlying46 Try.underlying3 (by kernel_rfl) hf with ⟨hcs, _⟩ | ⟨x, l, c, zs, hcs, _, hl, hm, hz, _, hcell, hwz⟩
    · simp [Value.cells] at hcs
      obtain ⟨rfl, rfl, rfl⟩ := hcs
      exact ⟨[], .inl ⟨rfl, rfl, rfl, rfl⟩⟩
    · simp [Value.cells] at hcs
      obtain ⟨rfl, rfl, rfl⟩ := hcs
      exact ⟨zs, .inr ⟨_, rfl, hl, hm, by simpa using hz, hcell, hwz⟩⟩
  obtain ⟨a1, len1, cap1, rfl⟩ := okWide_slice Try.underlying47 (hval 1 47 v1 rfl rfl)
  have k1 := h1
  have lt1 : ∀ x ∈ p1, x.block < W.heap.size := by obtain ⟨m, hm⟩ := k1; exact DataW.trod_lt m _ _ _ hm
  obtain ⟨z1, w1⟩ : ∃ zs, Recs.IsFlts W a1 len1 cap1 zs := by
    obtain ⟨fuel, hf⟩ := h1
    exact Recs.open_flts Try.underlying47 Try.underlying23 (by kernel_rfl) hf
  clear hA0 hval0
  refine (walk a0 len0 cap0 z0 a1 len1 cap1 z1 W w0 w1).mono fun e W' ⟨he, bel⟩ => ?_
  subst he
  exact ⟨_, rfl, _, _, _, [], _, [], hW', trodAll_mk1 (shut_bool Try.underlying4 _), (trodAll_cons_mk (Below.trod laidOut (by kernel_rfl) (of_decide_eq_true (by kernel_rfl)) k0 bel lt0) (trodAll_cons_mk (Below.trod laidOut (by kernel_rfl) (of_decide_eq_true (by kernel_rfl)) k1 bel lt1) trodAll_mk0)), rfl, bel.frame _, fun h => by cases h⟩

theorem over : Rows.wireBackRow.holds Try.pinned (OpenSpec.ofChange Rows.wireBackSpec) :=
  OpenClaim.holds_of_wide 5 Try.f5 rfl rfl rfl rfl rfl rfl rfl ⟨rfl, rfl, rfl, rfl, rfl⟩ rfl rfl rfl rfl rfl (by kernel_rfl) Try.func5 (by kernel_rfl)
    (of_decide_eq_true (by kernel_rfl)) (by unfold Func.isWrapper; first | (rw [if_pos (by decide +kernel)]; kernel_rfl) | (rw [if_neg (by decide +kernel)]; exact ⟨rfl, rfl⟩))
    (fun os started H enc _ => lifted os started H enc)

/-- the statement -/
theorem proved : Rows.WireBackSaid :=
  over
#print axioms proved
end Go.Proofs.Ytmffgdgnaafbpaa.wireBack
