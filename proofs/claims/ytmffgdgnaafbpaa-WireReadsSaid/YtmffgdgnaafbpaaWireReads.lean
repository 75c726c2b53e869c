/- WireReads returns true at any slice of bytes and any sequence of reads: of at most 200 bytes and 40 reads every answer, the place, what is left and the Fault are those of the document's own Reader. No condition. -/
import Derived.Test.YtmffgdgnaafbpaaRows
import Derived.Test.YtmffgdgnaafbpaaWa
import Derived.Test.YtmffgdgnaafbpaaQB
import Derived.Test.YtmffgdgnaafbpaaPh
import Derived.Test.YtmffgdgnaafbpaaRecs
import Derived.WalkKit
import Derived.WalkLawsBesides
import Derived.ProofKit
import Derived.OpenShut
import Derived.ShutString
import Derived.ChangeOld
import Derived.Below
namespace Go.Proofs.Ytmffgdgnaafbpaa.wireReads
open Go.ChangeShapes Go.WideShapes Go.ChangeAt Go.RowKit
open B Put Rd Nx Nm
set_option linter.unusedVariables false
set_option linter.unusedSimpArgs false

theorem own : ownKnob Try.prog.godebug = none := by kernel_rfl
theorem laidOut : laidOutB Try.prog = true := by kernel_rfl

/-- WHAT THE WALK IS TOLD OF A SLICE OF INTEGERS THAT CAME IN: it is nil; or it leads to a row of 'cap' cells, the numbers 'zs' (the first 'len' are its elements, the rest its spare room), each fitting its kind. -/
def IsRow (k : IntKind) (w : World) (a : Option Addr) (len cap : Nat) (zs : List Int) : Prop :=
  (a = none ∧ len = 0 ∧ cap = 0 ∧ zs = []) ∨
  ∃ x, a = some x ∧ len ≤ cap ∧ cap ≤ maxLen ∧ zs.length = cap ∧ (∀ i, i < zs.length → w.cell? (x.add i) = some (.int k (zs.getD i 0))) ∧ ∀ n ∈ zs, (Lit.int k n).wf = true

theorem chain {a b c : World} (h : Below a.heap.size a b) (k : Below b.heap.size b c) : Below a.heap.size a c := h.trans (k.mono h.size)
/-- How the two Readers stand while the region's two calls come up, one behind the other. -/
theorem at_b {g : Nat} {ad : Option Addr} {cap : Nat} {l : List Nat} {k : Nat} {code fat : Int} {w : World} (h : Rd w g ad cap l k code fat) :
    Calls Try.prog 21 #[.pointer (some ⟨g, 0, none⟩)] w fun e w' => e = .returned (.int .i64 k) ∧ Below w.heap.size w w' :=
  (at_any g ad cap l k code fat w h).mono fun e w' ⟨he, hw⟩ => ⟨he, by subst hw; exact Below.refl _ _⟩
theorem left_b {g : Nat} {ad : Option Addr} {cap : Nat} {l : List Nat} {k : Nat} {code fat : Int} {w : World} (h : Rd w g ad cap l k code fat) (hl : l.length ≤ 10000) (hk : k ≤ l.length) :
    Calls Try.prog 22 #[.pointer (some ⟨g, 0, none⟩)] w fun e w' => e = .returned (.int .i64 (l.length - k : Int)) ∧ Below w.heap.size w w' :=
  (left_any g ad cap l k code fat w h hl hk).mono fun e w' ⟨he, n, hw⟩ => ⟨he, by subst hw; exact below_drewN (Below.refl _ _) n⟩
/-- How the two Readers stand while the region's two calls come up, one behind the other. -/
def D (g h : Nat) (ad : Option Addr) (cap : Nat) (a0 : Option Addr) (cap0 : Nat) (l : List Nat) (s s1 : St) (w : World) (q : Nat) (w' : World) : Prop :=
  Rs w' g ad cap l (if q = 0 then s else s1) ∧ Rs w' h a0 cap0 l (if q ≤ 1 then s else s1) ∧ Below w.heap.size w w'
theorem link0 {g h : Nat} {ad : Option Addr} {cap : Nat} {a0 : Option Addr} {cap0 : Nat} {l : List Nat} {s : St} {r1 : Int × St} {w w' : World} {c1 c2 c3 : Int} (hl : l.length ≤ 10000) (hgood : Nm.Good l s) (hr : num l s (lim c1 7) c2 c3 = r1)
    (hgh : g ≠ h) (hg : w.heap.size ≤ g) (hah : l ≠ [] → ∀ (x : Addr), a0 = some x → x.block ≠ g) (hd : D g h ad cap a0 cap0 l s r1.2 w 0 w') :
    Calls Try.prog 14 #[.pointer (some ⟨g, 0, none⟩), .int .i64 c1, .int .i64 c2, .int .i64 c3] w' fun e w'' => e = .returned (.int .i64 r1.1) ∧ D g h ad cap a0 cap0 l s r1.2 w 1 w'' := by
  subst hr
  exact (num_any g ad cap l s c1 c2 c3 w' hd.1 hl hgood).mono fun e w'' ⟨he, hr, hb⟩ => ⟨he, hr, Rd.but hd.2.1 hb (Ne.symm hgh) hah, hd.2.2.trans (hb.below hd.2.2.size hg)⟩
theorem link1 {g h : Nat} {ad : Option Addr} {cap : Nat} {a0 : Option Addr} {cap0 : Nat} {l : List Nat} {s : St} {r1 : Int × St} {w w' : World} {c1 c2 c3 : Int} (hl : l.length ≤ 10000) (hgood : Nm.Good l s) (hr : num l s (lim c1 7) c2 c3 = r1)
    (hgh : g ≠ h) (hh : w.heap.size ≤ h) (hxh : ∀ (x : Addr), ad = some x → x.block ≠ h) (hd : D g h ad cap a0 cap0 l s r1.2 w 1 w') :
    Calls Try.prog 15 #[.pointer (some ⟨h, 0, none⟩), .int .i64 c1, .int .i64 c2, .int .i64 c3] w' fun e w'' => e = .returned (.int .i64 r1.1) ∧ D g h ad cap a0 cap0 l s r1.2 w 2 w'' := by
  subst hr
  exact (Rf.num_any h a0 cap0 l s c1 c2 c3 w' hd.2.1 hl hgood).mono fun e w'' ⟨he, hr, hb⟩ => ⟨he, Rd.but hd.1 hb hgh (fun _ => hxh), hr, hd.2.2.trans (hb.below hd.2.2.size hh)⟩

/-! ### the walk -/
set_option maxRecDepth 100000 in
set_option maxHeartbeats 4000000 in
theorem walk (a0 : Option Addr) (len0 cap0 : Nat) (z0 : List Int) (a1 : Option Addr) (len1 cap1 : Nat) (z1 : Nat → Nat → Int) (w : World) (w0 : IsRow .u8 w a0 len0 cap0 z0) (w1 : Recs.IsRecs 4 w a1 len1 cap1 z1) :
    Calls Try.prog 4 #[.slice a0 len0 cap0, .slice a1 len1 cap1] w fun e w' => e = .returned (.bool true) ∧ Below w.heap.size w w' := by
  obtain ⟨l, rfl, hr, hlc, hcm, hnil⟩ := B.row_raw w0
  have Hr := Lib.hid hr
  have Hn := Lib.hid hnil
  clear w0 hr hnil
  have Hz := Lib.hid w1
  clear w1
  by_cases hl : 200 < l.length
  · go_enter Try.func4, Try.ntmps4
    go_wp2_with fail
    refine (Wa.awake_any _).mono ?_
    rintro e w1 ⟨rfl, hb⟩
    go_wp2
    go_ret
    exact ⟨rfl, hb⟩
  · by_cases hl2 : 40 < len1
    · have hd : decide ((200 : Int) < (l.length : Int)) = false := decide_eq_false (by omega)
      go_enter Try.func4, Try.ntmps4
      go_wp2_with fail
      refine (Wa.awake_any _).mono ?_
      rintro e w1 ⟨rfl, hb⟩
      go_wp2
      go_ret
      exact ⟨rfl, hb⟩
    · go_enter Try.func4, Try.ntmps4
      go_wp2_with fail
      refine (new_any a0 cap0 l _ Hr.out (by omega) Hn.out).mono ?_
      rintro e w1 ⟨g, ad, cap, rfl, hg, hx, hrd, hb⟩
      have hrdl := hrd.lt
      have Hrd := Lib.hid hrd
      have Hbb := Lib.hid hb
      clear hrd hb
      go_wp2_with fail
      have hrd := Hrd.out
      have hb := Hbb.out
      clear Hrd Hbb hrdl
      have hRow1 := Hr.out.below hb
      have Rg := Lib.hid (hrd.below ((Below.refl w1.heap.size w1).alloc (Nat.le_refl _) (.cells #[.slice a0 l.length cap0, .int .i64 0, .int .i64 0, .int .i64 0] 37)))
      have Rh : Hid (Rs (w1.alloc (.cells #[.slice a0 l.length cap0, .int .i64 0, .int .i64 0, .int .i64 0] 37)) w1.heap.size a0 cap0 l ⟨0, 0, 0⟩) := by
        refine ⟨by simp, hRow1.below ((Below.refl _ _).alloc (Nat.le_refl _) _), fun hne x hx e => ?_, by simp, by simp, by simp, by simp, fun i => by unfold World.frozen?; rw [heap_alloc_new]; simp, hlc⟩
        have h1 : x.block < w.heap.size := by
          obtain ⟨y, hy, hc⟩ := Hr.out.cells (k := 0) (List.length_pos_iff.2 hne)
          rw [hx] at hy
          cases hy
          have h3 := World.block_lt_of_cell? w _ (hc 0 (List.length_pos_iff.2 hne))
          rwa [add_zero] at h3
        have h2 := hb.size
        omega
      have B2 := Lib.hid (hb.alloc hb.size (.cells #[.slice a0 l.length cap0, .int .i64 0, .int .i64 0, .int .i64 0] 37))
      have hgh : g ≠ w1.heap.size := fun e => by have := hrd.lt; omega
      have hh : w.heap.size ≤ w1.heap.size := hb.size
      have hxh : ∀ x, ad = some x → x.block ≠ w1.heap.size := fun x hx' e => by have := hx x hx'; have := hrd.lt; omega
      have hah : l ≠ [] → ∀ x, a0 = some x → x.block ≠ g := fun hne x hx' e => by
        obtain ⟨y, hy, hc⟩ := Hr.out.cells (k := 0) (List.length_pos_iff.2 hne)
        rw [hx'] at hy
        cases hy
        have h3 := World.block_lt_of_cell? w _ (hc 0 (List.length_pos_iff.2 hne))
        rw [add_zero] at h3
        omega
      generalize w1.alloc (.cells #[.slice a0 l.length cap0, .int .i64 0, .int .i64 0, .int .i64 0] 37) = w2 at Rg Rh B2 ⊢
      clear hrd hb hRow1
      generalize w1.heap.size = h at Rh hgh hh hxh ⊢
      go_loopw [7] (fun i wr => ∃ j : Nat, j ≤ len1 ∧ i = .int .i64 j ∧ (∃ s : St, Nm.Good l s ∧ Rs wr g ad cap l s ∧ Rs wr h a0 cap0 l s) ∧ Below w.heap.size w wr) (fun i _ => len1 - (intOf i).toNat)
      case atStart => exact ⟨0, Nat.zero_le _, rfl, ⟨⟨0, 0, 0⟩, ⟨Nat.zero_le _, fun _ => rfl⟩, Rg.out, Rh.out⟩, B2.out⟩
      case round =>
        clear Rg Rh B2
        obtain ⟨j, hj, rfl, ⟨s, hgood, hrg, hrh⟩, hbel⟩ := hrel
        have Rg := Lib.hid hrg
        have Rh := Lib.hid hrh
        have Hb := Lib.hid hbel
        clear hrg hrh hbel
        by_cases hlt : j < len1
        · rcases Hz.out with ⟨rfl, rfl, rfl⟩ | ⟨x, rfl, hlc1, hcm1, hcells⟩
          · omega
          have hzW : ∀ W, Below w.heap.size w W → ∀ q, q < 4 → W.cell? (x.add (j * 4 + q)) = some (.int .i64 (z1 j q)) := fun W hW q hq => (hW.cell (World.block_lt_of_cell? w _ (hcells j hlt q hq).1)).trans (hcells j hlt q hq).1
          have hz0 : wr.cell? (x.add (j * 4)) = some (.int .i64 (z1 j 0)) := hzW wr Hb.out 0 (by omega)
          have Hz1 : Hid (∀ W, Below w.heap.size w W → W.cell? ⟨(x.add (j * 4)).block, (x.add (j * 4)).off + 1, none⟩ = some (.int .i64 (z1 j 1))) := fun W hW => by have h := hzW W hW 1 (by omega); rw [← addr_add] at h; exact h
          have Hz2 : Hid (∀ W, Below w.heap.size w W → W.cell? ⟨(x.add (j * 4)).block, (x.add (j * 4)).off + 2, none⟩ = some (.int .i64 (z1 j 2))) := fun W hW => by have h := hzW W hW 2 (by omega); rw [← addr_add] at h; exact h
          have Hz3 : Hid (∀ W, Below w.heap.size w W → W.cell? ⟨(x.add (j * 4)).block, (x.add (j * 4)).off + 3, none⟩ = some (.int .i64 (z1 j 3))) := fun W hW => by have h := hzW W hW 3 (by omega); rw [← addr_add] at h; exact h
          clear hcells hzW
          generalize z1 j 1 = c1 at Hz1
          generalize z1 j 2 = c2 at Hz2
          generalize z1 j 3 = c3 at Hz3
          generalize z1 j 0 = k0 at hz0
          by_cases hk1 : k0 = 1
          · subst hk1
            go_wp2_with fail
            generalize hs1 : num l s (lim c1 7) c2 c3 = r1
            have HS1 := Lib.hid hs1
            clear hs1
            have hgood1 : Nm.Good l r1.2 := HS1.out ▸ num_good l s _ _ _ hgood
            have hD0 : D g h ad cap a0 cap0 l s r1.2 w 0 wr.drew := ⟨Rg.out.below ((Below.refl _ _).drew), Rh.out.below ((Below.refl _ _).drew), Hb.out.drew⟩
            have hne : Nonempty (Ph.S (D g h ad cap a0 cap0 l s r1.2 w)) := ⟨⟨0, _, hD0⟩⟩
            have hz1 : ∀ p : Ph.S (D g h ad cap a0 cap0 l s r1.2 w), p.world.cell? ⟨(x.add (j * 4)).block, (x.add (j * 4)).off + 1, none⟩ = some (.int .i64 c1) := fun p => Hz1.out _ p.is.2.2
            have hz2 : ∀ p : Ph.S (D g h ad cap a0 cap0 l s r1.2 w), p.world.cell? ⟨(x.add (j * 4)).block, (x.add (j * 4)).off + 2, none⟩ = some (.int .i64 c2) := fun p => Hz2.out _ p.is.2.2
            have hz3 : ∀ p : Ph.S (D g h ad cap a0 cap0 l s r1.2 w), p.world.cell? ⟨(x.add (j * 4)).block, (x.add (j * 4)).off + 3, none⟩ = some (.int .i64 c3) := fun p => Hz3.out _ p.is.2.2
            refine Ph.wp_region_ph (D g h ad cap a0 cap0 l s r1.2 w) [16, 33] (by kernel_rfl) (by kernel_rfl) hD0 ?_
            repeat
              refine Ph.wpPh_calm rfl (fun K hK => ?_)
              go_simp
              refine hK _ ?_
              clear hK K
            refine Ph.wpPh_link (p := 0) rfl (fun K hK => ?_)
            go_simp
            refine ⟨_, fun w' hd => link0 (by omega) hgood HS1.out hgh hg hah hd, hK _ ?_⟩
            clear hK K
            repeat
              refine Ph.wpPh_calm rfl (fun K hK => ?_)
              go_simp
              refine hK _ ?_
              clear hK K
            refine Ph.wpPh_link (p := 1) rfl (fun K hK => ?_)
            go_simp
            refine ⟨_, fun w' hd => link1 (by omega) hgood HS1.out hgh hh hxh hd, hK _ ?_⟩
            clear hK K
            repeat
              refine Ph.wpPh_calm rfl (fun K hK => ?_)
              go_simp
              refine hK _ ?_
              clear hK K
            refine Ph.wpPh_nil ?_
            intro w3 hd3
            clear hz1 hz2 hz3 hne
            have Rg3 : Hid (Rs w3 g ad cap l r1.2) := hd3.1
            have Rh3 : Hid (Rs w3 h a0 cap0 l r1.2) := hd3.2.1
            have B3 : Hid (Below w.heap.size w w3) := hd3.2.2
            clear hd3 hD0 HS1
            obtain ⟨v1, k1, code1, fat1⟩ := r1
            replace Rg3 : Hid (Rd w3 g ad cap l k1 code1 fat1) := Rg3
            replace Rh3 : Hid (Rd w3 h a0 cap0 l k1 code1 fat1) := Rh3
            replace hgood1 : Nm.Good l ⟨k1, code1, fat1⟩ := hgood1
            go_wp2_with fail
            have hq1 : ∀ p : QB.By w3.heap.size w3, p.world.cell? ⟨h, 1, none⟩ = some (.int .i64 k1) := fun p => (p.below.cell (p := ⟨h, 1, none⟩) Rh3.out.lt).trans Rh3.out.c1
            have hq2 : ∀ p : QB.By w3.heap.size w3, p.world.cell? ⟨h, 2, none⟩ = some (.int .i64 code1) := fun p => (p.below.cell (p := ⟨h, 2, none⟩) Rh3.out.lt).trans Rh3.out.c2
            have hq3 : ∀ p : QB.By w3.heap.size w3, p.world.cell? ⟨h, 3, none⟩ = some (.int .i64 fat1) := fun p => (p.below.cell (p := ⟨h, 3, none⟩) Rh3.out.lt).trans Rh3.out.c3
            have hkl : k1 ≤ l.length := hgood1.1
            have hwr : IntKind.i64.wrap ((l.length : Int) - (k1 : Int)) = (l.length : Int) - (k1 : Int) := by rw [IntKind.wrap_i64]; omega
            refine QB.region_below w3.heap.size (by kernel_rfl) (by kernel_rfl) ?_
            repeat (quiet_step (first
              | (go_at_call 21; exact QB.call_of (Nat.le_refl _) (fun b => at_b (Rg3.out.below b)))
              | (go_at_call 22; exact QB.call_of (Nat.le_refl _) (fun b => left_b (Rg3.out.below b) (by omega) hgood1.1))
              | (go_at_call 23; exact QB.call_of (Nat.le_refl _) (fun b => fault_any g ad cap l k1 code1 fat1 _ (Rg3.out.below b)))))
            refine wpQuiet_nil ?_
            intro _ hw'
            obtain ⟨p, rfl⟩ := hw'
            have Rg4 := Lib.hid (Rg3.out.below p.below)
            have Rh4 := Lib.hid (Rh3.out.below p.below)
            have B4 := Lib.hid (chain B3.out p.below)
            clear hq1 hq2 hq3 hwr
            go_wp2
            go_roundw
            case rel => exact ⟨j + 1, by omega, by go_num, ⟨⟨k1, code1, fat1⟩, hgood1, Rg4.out, Rh4.out⟩, B4.out⟩
            case measure => simp [intOf]; omega
          by_cases hk2 : k0 = 2
          · subst hk2
            go_wp2_with fail
            refine (float_any g ad cap l s _ Rg.out (by omega) hgood).mono ?_
            rintro e w2' ⟨rfl, hr2, hb2⟩
            have Rg2 := Lib.hid hr2
            have Rh2 := Lib.hid (Rd.but Rh.out hb2 (Ne.symm hgh) hah)
            have B2 := Lib.hid (Hb.out.trans (hb2.below Hb.out.size hg))
            clear hr2 hb2
            go_wp2_with fail
            refine (Rf.float_any h a0 cap0 l s _ Rh2.out (by omega) hgood).mono ?_
            rintro e w3 ⟨rfl, hr3, hb3⟩
            have Rh3 := Lib.hid hr3
            have Rg3 := Lib.hid (Rd.but Rg2.out hb3 hgh (fun _ => hxh))
            have B3 := Lib.hid (B2.out.trans (hb3.below B2.out.size hh))
            clear hr3 hb3
            have hgood1 : Nm.Good l (flt l s).2 := flt_good l s hgood
            generalize (flt l s) = r1 at Rg2 Rg3 Rh3 hgood1 ⊢
            obtain ⟨v1, k1, code1, fat1⟩ := r1
            replace Rg3 : Hid (Rd w3 g ad cap l k1 code1 fat1) := Rg3
            replace Rh3 : Hid (Rd w3 h a0 cap0 l k1 code1 fat1) := Rh3
            replace hgood1 : Nm.Good l ⟨k1, code1, fat1⟩ := hgood1
            go_wp2_with fail
            refine (Wa.alike_any _ _).mono ?_
            rintro e w' ⟨rfl, rfl⟩
            go_wp2_with fail
            have hq1 : ∀ p : QB.By w3.heap.size w3, p.world.cell? ⟨h, 1, none⟩ = some (.int .i64 k1) := fun p => (p.below.cell (p := ⟨h, 1, none⟩) Rh3.out.lt).trans Rh3.out.c1
            have hq2 : ∀ p : QB.By w3.heap.size w3, p.world.cell? ⟨h, 2, none⟩ = some (.int .i64 code1) := fun p => (p.below.cell (p := ⟨h, 2, none⟩) Rh3.out.lt).trans Rh3.out.c2
            have hq3 : ∀ p : QB.By w3.heap.size w3, p.world.cell? ⟨h, 3, none⟩ = some (.int .i64 fat1) := fun p => (p.below.cell (p := ⟨h, 3, none⟩) Rh3.out.lt).trans Rh3.out.c3
            have hkl : k1 ≤ l.length := hgood1.1
            have hwr : IntKind.i64.wrap ((l.length : Int) - (k1 : Int)) = (l.length : Int) - (k1 : Int) := by rw [IntKind.wrap_i64]; omega
            refine QB.region_below w3.heap.size (by kernel_rfl) (by kernel_rfl) ?_
            repeat (quiet_step (first
              | (go_at_call 21; exact QB.call_of (Nat.le_refl _) (fun b => at_b (Rg3.out.below b)))
              | (go_at_call 22; exact QB.call_of (Nat.le_refl _) (fun b => left_b (Rg3.out.below b) (by omega) hgood1.1))
              | (go_at_call 23; exact QB.call_of (Nat.le_refl _) (fun b => fault_any g ad cap l k1 code1 fat1 _ (Rg3.out.below b)))))
            refine wpQuiet_nil ?_
            intro _ hw'
            obtain ⟨p, rfl⟩ := hw'
            have Rg4 := Lib.hid (Rg3.out.below p.below)
            have Rh4 := Lib.hid (Rh3.out.below p.below)
            have B4 := Lib.hid (chain B3.out p.below)
            clear hq1 hq2 hq3 hwr
            go_wp2
            go_roundw
            case rel => exact ⟨j + 1, by omega, by go_num, ⟨⟨k1, code1, fat1⟩, hgood1, Rg4.out, Rh4.out⟩, B4.out⟩
            case measure => simp [intOf]; omega
          · go_wp2_with fail
            refine (bool_any g ad cap l s _ Rg.out (by omega) hgood).mono ?_
            rintro e w2' ⟨rfl, hr2, hb2⟩
            have Rg2 := Lib.hid hr2
            have Rh2 := Lib.hid (Rd.but Rh.out hb2 (Ne.symm hgh) hah)
            have B2 := Lib.hid (Hb.out.trans (hb2.below Hb.out.size hg))
            clear hr2 hb2
            go_wp2_with fail
            refine (Rf.bool_any h a0 cap0 l s _ Rh2.out (by omega) hgood).mono ?_
            rintro e w3 ⟨rfl, hr3, hb3⟩
            have Rh3 := Lib.hid hr3
            have Rg3 := Lib.hid (Rd.but Rg2.out hb3 hgh (fun _ => hxh))
            have B3 := Lib.hid (B2.out.trans (hb3.below B2.out.size hh))
            clear hr3 hb3
            have hgood1 : Nm.Good l (num l s 1 0 1).2 := num_good l s _ _ _ hgood
            generalize (num l s 1 0 1) = r1 at Rg2 Rg3 Rh3 hgood1 ⊢
            obtain ⟨v1, k1, code1, fat1⟩ := r1
            replace Rg3 : Hid (Rd w3 g ad cap l k1 code1 fat1) := Rg3
            replace Rh3 : Hid (Rd w3 h a0 cap0 l k1 code1 fat1) := Rh3
            replace hgood1 : Nm.Good l ⟨k1, code1, fat1⟩ := hgood1
            go_wp2_with fail
            have hq1 : ∀ p : QB.By w3.heap.size w3, p.world.cell? ⟨h, 1, none⟩ = some (.int .i64 k1) := fun p => (p.below.cell (p := ⟨h, 1, none⟩) Rh3.out.lt).trans Rh3.out.c1
            have hq2 : ∀ p : QB.By w3.heap.size w3, p.world.cell? ⟨h, 2, none⟩ = some (.int .i64 code1) := fun p => (p.below.cell (p := ⟨h, 2, none⟩) Rh3.out.lt).trans Rh3.out.c2
            have hq3 : ∀ p : QB.By w3.heap.size w3, p.world.cell? ⟨h, 3, none⟩ = some (.int .i64 fat1) := fun p => (p.below.cell (p := ⟨h, 3, none⟩) Rh3.out.lt).trans Rh3.out.c3
            have hkl : k1 ≤ l.length := hgood1.1
            have hwr : IntKind.i64.wrap ((l.length : Int) - (k1 : Int)) = (l.length : Int) - (k1 : Int) := by rw [IntKind.wrap_i64]; omega
            refine QB.region_below w3.heap.size (by kernel_rfl) (by kernel_rfl) ?_
            repeat (quiet_step (first
              | (go_at_call 21; exact QB.call_of (Nat.le_refl _) (fun b => at_b (Rg3.out.below b)))
              | (go_at_call 22; exact QB.call_of (Nat.le_refl _) (fun b => left_b (Rg3.out.below b) (by omega) hgood1.1))
              | (go_at_call 23; exact QB.call_of (Nat.le_refl _) (fun b => fault_any g ad cap l k1 code1 fat1 _ (Rg3.out.below b)))))
            refine wpQuiet_nil ?_
            intro _ hw'
            obtain ⟨p, rfl⟩ := hw'
            have Rg4 := Lib.hid (Rg3.out.below p.below)
            have Rh4 := Lib.hid (Rh3.out.below p.below)
            have B4 := Lib.hid (chain B3.out p.below)
            clear hq1 hq2 hq3 hwr
            go_wp2
            go_roundw
            case rel => exact ⟨j + 1, by omega, by go_num, ⟨⟨k1, code1, fat1⟩, hgood1, Rg4.out, Rh4.out⟩, B4.out⟩
            case measure => simp [intOf]; omega
        · obtain rfl : j = len1 := by omega
          go_wp2_with fail
          refine (Wa.awake_any _).mono ?_
          rintro e w3 ⟨rfl, hb3⟩
          have B3 := Lib.hid (chain Hb.out hb3)
          clear hb3
          go_wp2
          go_ret
          exact ⟨rfl, B3.out⟩

/-! ### the row's step -/
set_option maxRecDepth 100000 in
theorem lifted (os : Os) (started : os.Started) (H : Type) (enc : TypeId × Value → H) :
    ReturnsInHanded {} Try.checked os 4 .any (Rows.wireReadsSpec.pre6 enc Try.prog Try.f4 Rows.wireReadsRow.domain false) (Rows.wireReadsSpec.post enc Try.prog Try.f4 false true false false) := by
  refine returnsInHanded_of_change (C := Try.checked) own started (by kernel_rfl) Try.func4
    (ChangeSpec.witness6 (enc := enc) (C := Try.checked) false ⟨#[], #[.slice none 0 0, .slice none 0 0], []⟩ 8 (by kernel_rfl) (by kernel_rfl) (by kernel_rfl) (by kernel_rfl)) ?_
  intro W base args ds gs before hval0 hW hcnd _
  have hval : ∀ (j : Nat) t v, Try.f4.params[j]? = some t → args[j]? = some v → Value.okWide Try.prog W .any base t v := hval0
  have hW' := hW
  obtain ⟨p, q, hA0, hV, rfl, hfz, hnd⟩ := hW
  have hA : DataW.TrodAll enc Try.prog W 0 (fun _ => true) true Try.f4.params.toList args.toList ds p := hA0
  rw [Try.params4] at hA hval
  obtain ⟨v0, vs0, d0, ds0, p0, q0, hargs, rfl, rfl, h0, r0⟩ := trodAll_cons hA
  obtain ⟨v1, vs1, d1, ds1, p1, q1, rfl, rfl, rfl, h1, r1⟩ := trodAll_cons r0
  obtain ⟨rfl, rfl, rfl⟩ := trodAll_nil r1
  obtain rfl : args = #[v0, v1] := by cases args; simp_all
  obtain ⟨rfl, rfl⟩ := trodVars_none hV
  obtain ⟨a0, len0, cap0, rfl⟩ := okWide_slice Try.underlying22 (hval 0 22 v0 rfl rfl)
  have k0 := h0
  have lt0 : ∀ x ∈ p0, x.block < W.heap.size := by obtain ⟨m, hm⟩ := k0; exact DataW.trod_lt m _ _ _ hm
  obtain ⟨z0, w0⟩ : ∃ zs, IsRow .u8 W a0 len0 cap0 zs := by
    obtain ⟨fuel, hf⟩ := h0
    rcases open_ints Try.underlying22 Try.underlying5 (by kernel_rfl) hf with ⟨hcs, _⟩ | ⟨x, l, c, zs, hcs, _, hl, hm, hz, _, hcell, hwz⟩
    · simp [Value.cells] at hcs
      obtain ⟨rfl, rfl, rfl⟩ := hcs
      exact ⟨[], .inl ⟨rfl, rfl, rfl, rfl⟩⟩
    · simp [Value.cells] at hcs
      obtain ⟨rfl, rfl, rfl⟩ := hcs
      exact ⟨zs, .inr ⟨_, rfl, hl, hm, by simpa using hz, hcell, hwz⟩⟩
  obtain ⟨a1, len1, cap1, rfl⟩ := okWide_slice Try.underlying29 (hval 1 29 v1 rfl rfl)
  have k1 := h1
  have lt1 : ∀ x ∈ p1, x.block < W.heap.size := by obtain ⟨m, hm⟩ := k1; exact DataW.trod_lt m _ _ _ hm
  obtain ⟨z1, w1⟩ : ∃ zs, Recs.IsRecs 4 W a1 len1 cap1 zs := by
    obtain ⟨fuel, hf⟩ := h1
    exact Recs.open_recs Try.underlying29 Try.underlying39 (by kernel_rfl) (by kernel_rfl) hf
  clear hA0 hval0
  refine (walk a0 len0 cap0 z0 a1 len1 cap1 z1 W w0 w1).mono fun e W' ⟨he, bel⟩ => ?_
  subst he
  exact ⟨_, rfl, _, _, _, [], _, [], hW', trodAll_mk1 (shut_bool Try.underlying4 _), (trodAll_cons_mk (Below.trod laidOut (by kernel_rfl) (of_decide_eq_true (by kernel_rfl)) k0 bel lt0) (trodAll_cons_mk (Below.trod laidOut (by kernel_rfl) (of_decide_eq_true (by kernel_rfl)) k1 bel lt1) trodAll_mk0)), rfl, bel.frame _, fun h => by cases h⟩

theorem over : Rows.wireReadsRow.holds Try.pinned (OpenSpec.ofChange Rows.wireReadsSpec) :=
  OpenClaim.holds_of_wide 4 Try.f4 rfl rfl rfl rfl rfl rfl rfl ⟨rfl, rfl, rfl, rfl, rfl⟩ rfl rfl rfl rfl rfl (by kernel_rfl) Try.func4 (by kernel_rfl)
    (of_decide_eq_true (by kernel_rfl)) (by unfold Func.isWrapper; first | (rw [if_pos (by decide +kernel)]; kernel_rfl) | (rw [if_neg (by decide +kernel)]; exact ⟨rfl, rfl⟩))
    (fun os started H enc _ => lifted os started H enc)

/-- the statement -/
theorem proved : Rows.WireReadsSaid :=
  over
#print axioms proved
end Go.Proofs.Ytmffgdgnaafbpaa.wireReads
