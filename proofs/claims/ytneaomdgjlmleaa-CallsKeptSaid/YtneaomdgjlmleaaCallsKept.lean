/- CallsKept returns true at any numbers and any row: a call that is kept is kept until it is answered, who is answered is not called by what was, who wants is On. No condition. -/
import Derived.Test.YtneaomdgjlmleaaRows
import Derived.Test.YtneaomdgjlmleaaPart03
import Derived.Test.YtneaomdgjlmleaaPart06
import Derived.Test.YtneaomdgjlmleaaPart08
import Derived.Test.YtneaomdgjlmleaaPart02
import Derived.Deep.Cut
import Derived.Deep.CutRange
import Derived.LoopTactic
import Derived.BigQuiet
import Derived.WalkKit
import Derived.WalkLawsBesides
import Derived.ProofKit
import Derived.OpenShut
import Derived.ShutString
import Derived.ChangeOld
import Derived.Below
set_option linter.unusedVariables false
set_option linter.unusedSimpArgs false
set_option linter.unusedSectionVars false
set_option maxHeartbeats 8000000
set_option maxRecDepth 100000
namespace Go.Proofs.Ytneaomdgjlmleaa
namespace callsKept
open Go.ChangeShapes Go.WideShapes Go.ChangeAt Go.RowKit
open Tab Cl QL
open GenT (genTab)
theorem own : ownKnob Try.prog.godebug = none := by kernel_rfl
theorem laidOut : laidOutB Try.prog = true := by kernel_rfl
/-- WHAT THE WALK IS TOLD OF A SLICE OF INTEGERS THAT CAME IN: it is nil; or it leads to a row of 'cap' cells, the numbers 'zs' (the first 'len' are its elements, the rest its spare room), each fitting its kind. -/
def IsRow (k : IntKind) (w : World) (a : Option Addr) (len cap : Nat) (zs : List Int) : Prop :=
  (a = none ∧ len = 0 ∧ cap = 0 ∧ zs = []) ∨
  ∃ x, a = some x ∧ len ≤ cap ∧ cap ≤ maxLen ∧ zs.length = cap ∧ (∀ i, i < zs.length → w.cell? (x.add i) = some (.int k (zs.getD i 0))) ∧ ∀ n ∈ zs, (Lit.int k n).wf = true
theorem isRow_int {w : World} {a : Option Addr} {len cap : Nat} {zs : List Int} (h : IsRow .i64 w a len cap zs) : (zs.take len).length = len ∧ Tab.IntRow w ⟨a, cap⟩ (zs.take len) := by
  rcases h with ⟨rfl, rfl, rfl, rfl⟩ | ⟨x, rfl, h1, h2, h3, h4, _⟩
  · exact ⟨rfl, .inl ⟨rfl, rfl, rfl⟩⟩
  · have hl : (zs.take len).length = len := by rw [List.length_take]; omega
    refine ⟨hl, .inr ⟨x, rfl, by rw [hl]; exact h1, h2, fun i v hv j u hu => ?_⟩⟩
    have hi : i < len := by have := (List.getElem?_eq_some_iff.1 hv).1; omega
    match j, hu with
    | 0, hu =>
      simp at hu
      subst hu
      rw [List.getElem?_take, if_pos hi] at hv
      have := h4 i (by omega)
      rw [List.getD_eq_getElem?_getD, hv] at this
      rw [Nat.mul_one, Tab.add_two, Nat.add_zero]
      exact this
    | j + 1, hu => simp at hu
/-! ### the walk -/
theorem walk (a0 : Option Addr) (len0 cap0 : Nat) (z0 : List Int) (a1 : Option Addr) (len1 cap1 : Nat) (z1 : List Int) (w : World) (w0 : IsRow .i64 w a0 len0 cap0 z0) (w1 : IsRow .i64 w a1 len1 cap1 z1) :
    Calls Try.prog 4 #[.slice a0 len0 cap0, .slice a1 len1 cap1] w fun e w' => e = .returned (.bool true) ∧ Below w.heap.size w w' := by
  obtain ⟨hlen, hrow⟩ := isRow_int w0
  obtain ⟨L, hL⟩ : ∃ L, L = z0.take len0 := ⟨_, rfl⟩
  rw [← hL] at hlen hrow
  clear hL w0
  subst hlen
  have hz := (zero_of_info GenT.infoTz).1
  have hZs : (Clone.zTab.cells Clone.zHd).length = 131 := rfl
  generalize hZ : GenT.zTab.cells GenT.zHd = Z at *
  have ZS : Z.toArray.size = 131 := by rw [← hZ]; rfl
  clear hZ hZs
  have FT : Hid (∀ k : Nat, k < 8 → (Clear.phAt (genTab L) k).recall = 3 → 0 < (Clear.phAt (genTab L) k).walk) := Lib.hid (gen_foot L)
  obtain ⟨hlen1, hrow1⟩ := isRow_int w1
  obtain ⟨M, hM⟩ : ∃ M, M = z1.take len1 := ⟨_, rfl⟩
  rw [← hM] at hlen1 hrow1
  clear hM w1
  have HM := Lib.hid hlen1
  have HR1 := Lib.hid (OnS.row_of_int hrow1)
  have hml := hrow1.len
  rw [hlen1] at hml
  unfold maxLen at hml
  clear hlen1 hrow1
  obtain ⟨hml1, hml2⟩ := hml
  go_enter Try.func4, Try.ntmps4
  go_wp2_with fail
  refine (GenT.table_any a0 cap0 L w hrow).mono ?_
  rintro e u0 ⟨hd, rfl, ht, hb⟩
  have CS := GenT.cells_cut hd ht.ph ht.cf ht.fl
  have ONE := (cells_ok ht).one
  have T8 := Lib.hid ht.ph
  have HT : Hid (∀ W, Below u0.heap.size u0 W → IsTab W hd (genTab L)) := Lib.hid (fun W hb => ht.below hb)
  have B0 := Lib.hid hb
  have IA : Hid ((Try.prog.info? 31).map (·.size) = some ((genTab L).cells hd).length) := Lib.hid (by rw [CS]; exact May.infoT)
  clear hb ht
  generalize hc : (genTab L).cells hd = c at *
  have HC := Lib.hid hc
  clear hc
  go_upto_region 2 with (refine Row.wpList_store_new rfl 31 _ _ rfl u0 Z.toArray c.toArray rfl rfl rfl (by rw [List.size_toArray]; exact IA.out) (by rw [ZS, List.size_toArray, CS]) ONE ?_)
  have hb2 : Below u0.heap.size u0 (u0.alloc (.cells c.toArray 31)) := (Below.refl _ _).alloc (Nat.le_refl _) _
  have hl : Lies (u0.alloc (.cells c.toArray 31)) ⟨u0.heap.size, 0, none⟩ c := Row.lies_new _ _ _
  have TB0 : Hid (∀ W, Below (u0.alloc (.cells c.toArray 31)).heap.size (u0.alloc (.cells c.toArray 31)) W → IsTab W hd (genTab L)) := Lib.hid (fun W hb => HT.out W (hb2.trans (hb.mono hb2.size)))
  generalize u0.alloc (.cells c.toArray 31) = u at hb2 hl TB0 ⊢
  have TB : Hid (∀ W, Below u.heap.size u W → IsTab W hd (genTab L)) := TB0
  have AB : Hid (Below w.heap.size w u) := Lib.hid (B0.out.trans (hb2.mono B0.out.size))
  have A1 : Hid (∀ W, Below u.heap.size u W → Lies W ⟨u0.heap.size, 0, none⟩ c) := Lib.hid (fun W hb => Lies.below hl hb)
  clear hb2 hl TB0 HT B0 hrow hz ZS ONE CS
  generalize u0.heap.size = tb at *
  generalize genTab L = T at *
  have ST : Hid (∀ W, Below u.heap.size u W → ∀ car foot here push green walk : Int, Calls Try.prog 13 #[.agg c.toArray, .agg #[I car, I foot], .int .i64 here, .int .i64 push, .int .i64 green, .int .i64 walk] W fun e w' => e = .returned (.agg #[I (whS (rCar green car here) T : Nat), I (whS (rFoot walk foot push) T : Nat)]) ∧ Below W.heap.size W w') := Lib.hid (fun W hb car foot here push green walk => by have := step_any (TB.out W hb) car foot here push green walk; rwa [HC.out] at this)
  have WN : Hid (∀ W, Below u.heap.size u W → ∀ car foot here : Int, Calls Try.prog 15 #[.agg c.toArray, .agg #[I car, I foot], .int .i64 here] W fun e w' => e = .returned (.int .i64 (whS (rWant car foot (whS (rHeld here) T : Nat)) T : Nat)) ∧ Below W.heap.size W w') := Lib.hid (fun W hb car foot here => by have := want_any (TB.out W hb) car foot here; rwa [HC.out] at this)
  have HL : Hid (∀ W, Below u.heap.size u W → ∀ here : Int, Calls Try.prog 11 #[.agg c.toArray, .int .i64 here] W fun e w' => e = .returned (.int .i64 (whS (rHeld here) T : Nat)) ∧ Below W.heap.size W w') := Lib.hid (fun W hb here => by have := held_any (TB.out W hb) here; rwa [HC.out] at this)
  have ONC : Hid (∀ W, Below u.heap.size u W → Calls Try.prog 19 #[.agg c.toArray] W fun e w' => e = .returned (.int .i64 (OnS.onS T : Nat)) ∧ Below W.heap.size W w') := Lib.hid (fun W hb => by have := OnS.on_any T hd W (TB.out W hb); rwa [HC.out] at this)
  have A0 := AB
  go_wp2_with (refine Row.wpList_load_g 31 _ rfl (by first | rfl | go_simp) ⟨tb, 0, none⟩ rfl c _ (A1.out _ (Below.refl _ _)) Try.underlying31 rfl IA.out ?_)
  refine (ONC.out u (Below.refl _ _)).mono ?_
  rintro e u1 ⟨rfl, hb⟩
  generalize hon : ((OnS.onS T : Nat) : Int) = on
  have HON := Lib.hid hon
  clear hon ONC HL FT
  go_upto_region 4 with fail
  have h1 := ((Blk.Bks.nil u).step hb).alloc #[I 0, I 0] 33
  generalize World.alloc u1 _ = u2 at h1 ⊢
  generalize u1.heap.size = gc at h1 ⊢
  have H1 := Lib.hid h1
  clear h1 hb
  go_wp2_with fail
  go_loopw [8] (fun i wr => ∃ (n car foot : Nat), n ≤ 240 ∧ n % 4 = 0 ∧ i = .int .i64 (n : Int) ∧ Kc T car foot ∧ Blk.Bks u [(gc, #[I (car : Int), I (foot : Int)], 33)] wr) (fun i _ => 240 - (intOf i).toNat)
  case atStart => exact ⟨0, 0, 0, by omega, rfl, rfl, Kc.zero T, H1.out⟩
  case round =>
    obtain ⟨n, car, foot, hn, hn4, rfl, hkc, hB⟩ := hrel
    have HK := Lib.hid hkc
    have HB := Lib.hid hB
    clear hkc hB H1
    by_cases hlt : n + 3 < len1 ∧ n < 240
    · obtain ⟨hl1, hl2⟩ := hlt
      obtain ⟨x, hx, hc⟩ := (HR1.out.below (A0.out.trans (HB.out.bel.mono A0.out.size))).cells (k := 0) (by rw [HM.out]; omega)
      obtain rfl : a1 = some x := hx
      rw [HM.out] at hc
      obtain ⟨g0, g1, g2, g3, hc0, hc1, hc2, hc3⟩ : ∃ g0 g1 g2 g3 : Int, wr.cell? (x.add n) = some (.int .i64 g0) ∧ wr.cell? ⟨x.block, x.off + (n + 1), none⟩ = some (.int .i64 g1) ∧ wr.cell? ⟨x.block, x.off + (n + 1 + 1), none⟩ = some (.int .i64 g2) ∧ wr.cell? ⟨x.block, x.off + (n + 1 + 1 + 1), none⟩ = some (.int .i64 g3) := by
        have e1 := hc (n + 1) (by omega)
        have e2 := hc (n + 1 + 1) (by omega)
        have e3 := hc (n + 1 + 1 + 1) (by omega)
        rw [Addr.add, if_neg (by omega)] at e1 e2 e3
        exact ⟨_, _, _, _, hc n (by omega), e1, e2, e3⟩
      clear hc
      have j1 : ((n : Int) + 1).toNat = n + 1 := by omega
      have j2 : ((n : Int) + 2).toNat = n + 1 + 1 := by omega
      have j3 : ((n : Int) + 3).toNat = n + 1 + 1 + 1 := by omega
      go_upto_region 7 with fail
      have q0 : ∀ p : QB.By wr.heap.size wr, p.world.cell? (x.add n) = some (.int .i64 g0) := fun p => (p.below.cell (World.block_lt_of_cell? wr _ hc0)).trans hc0
      have q1 : ∀ p : QB.By wr.heap.size wr, p.world.cell? ⟨x.block, x.off + (n + 1), none⟩ = some (.int .i64 g1) := fun p => (p.below.cell (World.block_lt_of_cell? wr _ hc1)).trans hc1
      have q2 : ∀ p : QB.By wr.heap.size wr, p.world.cell? ⟨x.block, x.off + (n + 1 + 1), none⟩ = some (.int .i64 g2) := fun p => (p.below.cell (World.block_lt_of_cell? wr _ hc2)).trans hc2
      have q3 : ∀ p : QB.By wr.heap.size wr, p.world.cell? ⟨x.block, x.off + (n + 1 + 1 + 1), none⟩ = some (.int .i64 g3) := fun p => (p.below.cell (World.block_lt_of_cell? wr _ hc3)).trans hc3
      refine QB.region_below wr.heap.size (by kernel_rfl) (by kernel_rfl) ?_
      repeat (go_big_quiet_step (fail))
      refine wpQuiet_nil ?_
      intro _ hw'
      obtain ⟨p, rfl⟩ := hw'
      have H2 := Lib.hid (HB.out.by p)
      clear HB q0 q1 q2 q3 hc0 hc1 hc2 hc3
      generalize p.world = v0 at H2 ⊢
      go_wp2_with (first | (refine Row.wpList_load_g 31 _ rfl (by first | rfl | go_simp) ⟨tb, 0, none⟩ rfl c _ (A1.out _ H2.out.bel) Try.underlying31 rfl IA.out ?_) | (refine Row.wpList_load_g 33 _ rfl (by first | rfl | go_simp) ⟨gc, 0, none⟩ rfl [I (car : Int), I (foot : Int)] _ (by have := Row.lies_of_block (H2.out.at 0 rfl); simpa using this) Try.underlying33 rfl infoC2 ?_))
      refine (ST.out _ H2.out.bel car foot g0 g1 g2 g3).mono ?_
      rintro e v1 ⟨rfl, hb⟩
      have KN := Lib.hid (Kc.next (T := T) T8.out car foot g0 g1 g2 g3)
      have D1 := Lib.hid (kept_car T8.out g0 g2 HK.out)
      have D2 := Lib.hid (kept_foot T8.out g1 g3 HK.out)
      have D3 := Lib.hid (none_car (T := T) T8.out g0 g2 (car : Int))
      have D4 := Lib.hid (none_foot (T := T) T8.out g1 g3 (foot : Int))
      clear HK
      generalize whS (rCar g2 car g0) T = r1 at *
      generalize whS (rFoot g3 foot g1) T = r2 at *
      have D5 := Lib.hid (both_on T8.out KN.out)
      have D6 := Lib.hid (want_on (T := T) T8.out g0 (r1 : Int) (r2 : Int))
      have D7 := Lib.hid (both_want T8.out g0 KN.out)
      have WN1 : Hid (∀ W, Below u.heap.size u W → Calls Try.prog 15 #[.agg c.toArray, .agg #[I (r1 : Int), I (r2 : Int)], .int .i64 g0] W fun e w' => e = .returned (.int .i64 (whS (rWant r1 r2 (whS (rHeld g0) T : Nat)) T : Nat)) ∧ Below W.heap.size W w') := Lib.hid (fun W hb => WN.out W hb _ _ _)
      generalize ((whS (rWant r1 r2 (whS (rHeld g0) T : Nat)) T : Nat) : Int) = wn at D6 D7 WN1
      rw [HON.out] at D5 D6
      go_upto_region 9 with fail
      have h3 := (H2.out.step hb).alloc #[I (r1 : Int), I (r2 : Int)] 33
      generalize World.alloc v1 _ = v2 at h3 ⊢
      generalize v1.heap.size = gx at h3 ⊢
      have H3 := Lib.hid h3
      clear h3 hb H2
      have k0_0 : v2.cell? ⟨gx, 0, none⟩ = some (I (r1 : Int)) := H3.out.cell 0 0 rfl rfl
      have k0_1 : v2.cell? ⟨gx, 1, none⟩ = some (I (r2 : Int)) := H3.out.cell 0 1 rfl rfl
      have k1_0 : v2.cell? ⟨gc, 0, none⟩ = some (I (car : Int)) := H3.out.cell 1 0 rfl rfl
      have k1_1 : v2.cell? ⟨gc, 1, none⟩ = some (I (foot : Int)) := H3.out.cell 1 1 rfl rfl
      have d1 : (bits .and .i64 (bits .andNot .i64 (bits .andNot .i64 (car : Int) g2) (r1 : Int)) 255 != 0) = false := by rw [D1.out]; rfl
      have d2 : (bits .and .i64 (bits .andNot .i64 (bits .andNot .i64 (foot : Int) g3) (r2 : Int)) 255 != 0) = false := by rw [D2.out]; rfl
      have d3 : (bits .and .i64 (r1 : Int) g2 != 0) = false := by rw [D3.out]; rfl
      have d4 : (bits .and .i64 (r2 : Int) g3 != 0) = false := by rw [D4.out]; rfl
      have d5 : (bits .andNot .i64 (bits .or .i64 (r1 : Int) (r2 : Int)) on != 0) = false := by rw [D5.out]; rfl
      have d6 : (bits .andNot .i64 wn on != 0) = false := by rw [D6.out]; rfl
      have d7 : (bits .andNot .i64 (bits .or .i64 (r1 : Int) (r2 : Int)) wn != 0) = false := by rw [D7.out]; rfl
      clear D1 D2 D3 D4 D5 D6 D7
      go_upto_region 11 with fail
      clear d1 d2 d3 d4 k0_0 k0_1 k1_0 k1_1
      have UB : Hid (∀ W, Below v2.heap.size v2 W → Below u.heap.size u W) := Lib.hid (fun W b => H3.out.bel.trans (b.mono H3.out.bel.size))
      have A4 : Hid (∀ W, Below v2.heap.size v2 W → Lies W ⟨tb, 0, none⟩ c) := Lib.hid (fun W b => A1.out W (UB.out W b))
      have k0_0 : ∀ p : QB.By v2.heap.size v2, p.world.cell? ⟨gx, 0, none⟩ = some (I (r1 : Int)) := fun p => (H3.out.by p).cell 0 0 rfl rfl
      have k0_1 : ∀ p : QB.By v2.heap.size v2, p.world.cell? ⟨gx, 1, none⟩ = some (I (r2 : Int)) := fun p => (H3.out.by p).cell 0 1 rfl rfl
      refine QB.region_below v2.heap.size (by kernel_rfl) (by kernel_rfl) ?_
      repeat first
        | (refine wpQuiet_load rfl 31 _ rfl ⟨tb, 0, none⟩ rfl c _ (fun w' ⟨p, e⟩ => by rw [e]; exact A4.out _ p.below) Try.underlying31 rfl IA.out ?_
           dsimp only [Act.put]
           simp only [List.setIfInBounds_toArray, List.set_cons_zero, List.set_cons_succ])
        | (refine wpQuiet_load rfl 33 _ rfl ⟨gx, 0, none⟩ rfl [I (r1 : Int), I (r2 : Int)] _ (fun w' ⟨p, e⟩ => by rw [e]; have := Row.lies_of_block ((H3.out.by p).at 0 rfl); simpa using this) Try.underlying33 rfl infoC2 ?_
           dsimp only [Act.put]
           simp only [List.setIfInBounds_toArray, List.set_cons_zero, List.set_cons_succ])
        | (quiet_step (first
            | (go_at_call 15; with_reducible exact QB.call_of (Nat.le_refl _) (fun b => WN1.out _ (UB.out _ b)))))
      refine wpQuiet_nil ?_
      intro _ hw'
      obtain ⟨p, rfl⟩ := hw'
      have H4 := Lib.hid (H3.out.by p)
      clear d5 d6 d7 UB A4 k0_0 k0_1 H3
      generalize p.world = v3 at H4 ⊢
      go_upto_region 13 with fail
      go_upto_region 6 with (first
        | (refine Row.wpList_load_g 33 _ rfl (by first | rfl | go_simp) ⟨gx, 0, none⟩ rfl [I (r1 : Int), I (r2 : Int)] _ (by have := Row.lies_of_block (H4.out.at 0 rfl); simpa using this) Try.underlying33 rfl infoC2 ?_)
        | (refine wpList_store_row rfl 33 _ _ rfl gc #[I (r1 : Int), I (r2 : Int)] rfl rfl 33 _ (H4.out.at 1 rfl) infoC2 rfl (by simp [Value.oneCell']) ?_))
      have hput := H4.out.put 1 rfl #[I (r1 : Int), I (r2 : Int)]
      simp only [List.set_cons_succ, List.set_cons_zero] at hput
      generalize World.setRow v3 gc _ = v4 at hput ⊢
      have H5 := Lib.hid hput.drop
      clear hput H4
      go_wp2
      go_roundw
      case rel => exact ⟨n + 4, r1, r2, by omega, by omega, by go_num, KN.out, H5.out⟩
      case measure => simp [intOf]; omega
    · have HF := Lib.hid HB.out.bel
      by_cases hs : len1 ≤ n + 3
      · clear hlt
        go_wp2_with fail
        refine (Cl.awake_any _).mono ?_
        rintro e v6 ⟨rfl, hb⟩
        have BF := Lib.hid (A0.out.trans ((HF.out.trans (hb.mono HF.out.size)).mono A0.out.size))
        clear hb
        go_wp2
        go_ret
        exact ⟨rfl, BF.out⟩
      · obtain rfl : n = 240 := by omega
        have hs2 : 240 + 3 < len1 := by omega
        clear hlt
        go_wp2_with fail
        refine (Cl.awake_any _).mono ?_
        rintro e v6 ⟨rfl, hb⟩
        have BF := Lib.hid (A0.out.trans ((HF.out.trans (hb.mono HF.out.size)).mono A0.out.size))
        clear hb
        go_wp2
        go_ret
        exact ⟨rfl, BF.out⟩
/-! ### the row's step -/
theorem lifted (os : Os) (started : os.Started) (H : Type) (enc : TypeId × Value → H) :
    ReturnsInHanded {} Try.checked os 4 .any (Rows.callsKeptSpec.pre6 enc Try.prog Try.f4 Rows.callsKeptRow.domain false) (Rows.callsKeptSpec.post enc Try.prog Try.f4 false true false false) := by
  refine returnsInHanded_of_change (C := Try.checked) own started (by kernel_rfl) Try.func4
    (ChangeSpec.witness6 (enc := enc) (C := Try.checked) false ⟨#[], #[.slice none 0 0, .slice none 0 0], []⟩ 8 (by kernel_rfl) (by kernel_rfl) (by kernel_rfl) (by kernel_rfl)) ?_
  intro W base args ds gs before hval0 hW hcnd _
  have hval : ∀ (j : Nat) t v, Try.f4.params[j]? = some t → args[j]? = some v → Value.okWide Try.prog W .any base t v := hval0
  have hW' := hW
  obtain ⟨p, q, hA0, hV, rfl, hfz, hnd⟩ := hW
  have hA : DataW.TrodAll enc Try.prog W 0 (fun _ => true) true Try.f4.params.toList args.toList ds p := hA0
  rw [Try.params4] at hA hval
  obtain ⟨v0, vs0, d0, ds0, p0, q0, hargs, rfl, rfl, h0, r0⟩ := trodAll_cons hA
  obtain ⟨v1, vs1, d1, ds1, p1, q1, rfl, rfl, rfl, h1, r1⟩ := trodAll_cons r0
  obtain ⟨rfl, rfl, rfl⟩ := trodAll_nil r1
  obtain rfl : args = #[v0, v1] := by cases args; simp_all
  obtain ⟨rfl, rfl⟩ := trodVars_none hV
  obtain ⟨a0, len0, cap0, rfl⟩ := okWide_slice Try.underlying39 (hval 0 39 v0 rfl rfl)
  have k0 := h0
  have lt0 : ∀ x ∈ p0, x.block < W.heap.size := by obtain ⟨m, hm⟩ := k0; exact DataW.trod_lt m _ _ _ hm
  obtain ⟨z0, w0⟩ : ∃ zs, IsRow .i64 W a0 len0 cap0 zs := by
    obtain ⟨fuel, hf⟩ := h0
    rcases open_ints Try.underlying39 Try.underlying3 (by kernel_rfl) hf with ⟨hcs, _⟩ | ⟨x, l, c, zs, hcs, _, hl, hm, hz, _, hcell, hwz⟩
    · simp [Value.cells] at hcs
      obtain ⟨rfl, rfl, rfl⟩ := hcs
      exact ⟨[], .inl ⟨rfl, rfl, rfl, rfl⟩⟩
    · simp [Value.cells] at hcs
      obtain ⟨rfl, rfl, rfl⟩ := hcs
      exact ⟨zs, .inr ⟨_, rfl, hl, hm, by simpa using hz, hcell, hwz⟩⟩
  obtain ⟨a1, len1, cap1, rfl⟩ := okWide_slice Try.underlying39 (hval 1 39 v1 rfl rfl)
  have k1 := h1
  have lt1 : ∀ x ∈ p1, x.block < W.heap.size := by obtain ⟨m, hm⟩ := k1; exact DataW.trod_lt m _ _ _ hm
  obtain ⟨z1, w1⟩ : ∃ zs, IsRow .i64 W a1 len1 cap1 zs := by
    obtain ⟨fuel, hf⟩ := h1
    rcases open_ints Try.underlying39 Try.underlying3 (by kernel_rfl) hf with ⟨hcs, _⟩ | ⟨x, l, c, zs, hcs, _, hl, hm, hz, _, hcell, hwz⟩
    · simp [Value.cells] at hcs
      obtain ⟨rfl, rfl, rfl⟩ := hcs
      exact ⟨[], .inl ⟨rfl, rfl, rfl, rfl⟩⟩
    · simp [Value.cells] at hcs
      obtain ⟨rfl, rfl, rfl⟩ := hcs
      exact ⟨zs, .inr ⟨_, rfl, hl, hm, by simpa using hz, hcell, hwz⟩⟩
  clear hA0 hval0
  refine (walk a0 len0 cap0 z0 a1 len1 cap1 z1 W w0 w1).mono fun e W' ⟨he, bel⟩ => ?_
  subst he
  exact ⟨_, rfl, _, _, _, [], _, [], hW', trodAll_mk1 (shut_bool Try.underlying4 _), (trodAll_cons_mk (Below.trod laidOut (by kernel_rfl) (of_decide_eq_true (by kernel_rfl)) k0 bel lt0) (trodAll_cons_mk (Below.trod laidOut (by kernel_rfl) (of_decide_eq_true (by kernel_rfl)) k1 bel lt1) trodAll_mk0)), rfl, bel.frame _, fun h => by cases h⟩
theorem over : Rows.callsKeptRow.holds Try.pinned (OpenSpec.ofChange Rows.callsKeptSpec) :=
  OpenClaim.holds_of_wide 4 Try.f4 rfl rfl rfl rfl rfl rfl rfl ⟨rfl, rfl, rfl, rfl, rfl⟩ rfl rfl rfl rfl rfl (by kernel_rfl) Try.func4 (by kernel_rfl)
    (of_decide_eq_true (by kernel_rfl)) (by unfold Func.isWrapper; first | (rw [if_pos (by decide +kernel)]; kernel_rfl) | (rw [if_neg (by decide +kernel)]; exact ⟨rfl, rfl⟩))
    (fun os started H enc _ => lifted os started H enc)
/-- the statement -/
theorem proved : Rows.CallsKeptSaid :=
  over
#print axioms proved
end callsKept
end Go.Proofs.Ytneaomdgjlmleaa
