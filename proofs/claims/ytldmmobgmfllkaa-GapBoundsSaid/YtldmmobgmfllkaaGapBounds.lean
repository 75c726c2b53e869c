/- GapBounds returns true at any numbers of a table, any place and any row of green times: the limit changes by a step after two green times of one kind, and stays from Max to Top. No condition. -/
import Derived.Test.YtldmmobgmfllkaaRows
import Derived.Test.YtldmmobgmfllkaaPart01
import Derived.Test.YtldmmobgmfllkaaPart02
import Derived.Deep.Cut
import Derived.LoopTactic
import Derived.BigQuiet
import Derived.Test.YtldmmobgmfllkaaPart06
import Derived.Test.YtldmmobgmfllkaaPart07
import Derived.WalkKit
import Derived.WalkLawsBesides
import Derived.ProofKit
import Derived.OpenShut
import Derived.ShutString
import Derived.ChangeOld
import Derived.Below
set_option linter.unusedVariables false
set_option linter.unusedSimpArgs false
set_option linter.unusedSectionVars false
set_option maxHeartbeats 8000000
set_option maxRecDepth 100000
namespace Go.Proofs.Ytldmmobgmfllkaa
namespace gapBounds
open Go.ChangeShapes Go.WideShapes Go.ChangeAt Go.RowKit
open Tab Gap QL
open GenT (genTab)
open May (infoP)
theorem own : ownKnob Try.prog.godebug = none := by kernel_rfl
theorem laidOut : laidOutB Try.prog = true := by kernel_rfl
/-- WHAT THE WALK IS TOLD OF A SLICE OF INTEGERS THAT CAME IN: it is nil; or it leads to a row of 'cap' cells, the numbers 'zs' (the first 'len' are its elements, the rest its spare room), each fitting its kind. -/
def IsRow (k : IntKind) (w : World) (a : Option Addr) (len cap : Nat) (zs : List Int) : Prop :=
  (a = none ∧ len = 0 ∧ cap = 0 ∧ zs = []) ∨
  ∃ x, a = some x ∧ len ≤ cap ∧ cap ≤ maxLen ∧ zs.length = cap ∧ (∀ i, i < zs.length → w.cell? (x.add i) = some (.int k (zs.getD i 0))) ∧ ∀ n ∈ zs, (Lit.int k n).wf = true
theorem isRow_int {w : World} {a : Option Addr} {len cap : Nat} {zs : List Int} (h : IsRow .i64 w a len cap zs) : (zs.take len).length = len ∧ Tab.IntRow w ⟨a, cap⟩ (zs.take len) := by
  rcases h with ⟨rfl, rfl, rfl, rfl⟩ | ⟨x, rfl, h1, h2, h3, h4, _⟩
  · exact ⟨rfl, .inl ⟨rfl, rfl, rfl⟩⟩
  · have hl : (zs.take len).length = len := by rw [List.length_take]; omega
    refine ⟨hl, .inr ⟨x, rfl, by rw [hl]; exact h1, h2, fun i v hv j u hu => ?_⟩⟩
    have hi : i < len := by have := (List.getElem?_eq_some_iff.1 hv).1; omega
    match j, hu with
    | 0, hu =>
      simp at hu
      subst hu
      rw [List.getElem?_take, if_pos hi] at hv
      have := h4 i (by omega)
      rw [List.getD_eq_getElem?_getD, hv] at this
      rw [Nat.mul_one, Tab.add_two, Nat.add_zero]
      exact this
    | j + 1, hu => simp at hu
/-- What is known between two green times. -/
def Iv (p : Ph) (z : Nat → Bool) (q : Nat) (m lim up dn : Int) : Prop :=
  p.max ≤ lim ∧ lim ≤ p.top ∧ 0 ≤ m ∧ m ≤ q ∧ ((q = 0 ∧ m = 0 ∧ up = 0 ∧ dn = 0) ∨ (0 < q ∧ up = (if z (q - 1) = true then m % 2 else 0) ∧ dn = (if z (q - 1) = true then 0 else m % 2)))
def nx (z : Nat → Bool) (q : Nat) (m : Int) : Int := if 0 < q ∧ z q ≠ z (q - 1) then 1 else m + 1
def wn (p : Ph) (b : Bool) (m lim : Int) : Int := if m % 2 = 0 then (if b = true then min p.top (lim + p.step) else max p.max (lim - p.step)) else lim
theorem lm_in {p : Ph} {n : Int} (h0 : p.max ≤ n) (h1 : n ≤ p.top) : lm p n = n := by unfold lm; rw [if_neg (by omega), if_neg (by omega)]
theorem lm_minmax (p : Ph) (n : Int) : lm p n = max (min n p.top) p.max := by
  unfold lm
  by_cases h : p.top < n
  · simp only [h, if_true]; split <;> omega
  · simp only [h, if_false]; split <;> omega
theorem wr_in {n : Int} (h0 : -1000 ≤ n) (h1 : n ≤ 1000) : wr n = n := IntWalk.wrap64_in n (by omega)
theorem iv_start {p : Ph} {z : Nat → Bool} (h : p.max ≤ p.top) : Iv p z 0 0 p.max 0 0 := ⟨Int.le_refl _, h, Int.le_refl _, Int.le_refl _, .inl ⟨rfl, rfl, rfl, rfl⟩⟩
theorem iv_step {p : Ph} {z : Nat → Bool} {q : Nat} {m lim up dn : Int} (s0 : 0 ≤ p.step) (s1 : p.step ≤ 6) (m0 : 0 ≤ p.max) (m1 : p.max ≤ p.top) (t1 : p.top ≤ 60) (h : Iv p z q m lim up dn) :
    ∃ up' dn', gr p ⟨lim, up, dn⟩ (z q) = ⟨wn p (z q) (nx z q m) lim, up', dn'⟩ ∧ Iv p z (q + 1) (nx z q m) (wn p (z q) (nx z q m) lim) up' dn' := by
  obtain ⟨h0, h1, h2, h3, h4⟩ := h
  have hl := lm_in h0 h1
  have e1 : wr (lim + p.step) = lim + p.step := wr_in (by omega) (by omega)
  have e2 : wr (lim - p.step) = lim - p.step := wr_in (by omega) (by omega)
  have l1 : lm p (lim + p.step) = min p.top (lim + p.step) := by rw [lm_minmax]; omega
  have l2 : lm p (lim - p.step) = max p.max (lim - p.step) := by rw [lm_minmax]; omega
  unfold Iv gr
  simp only [hl, e1, e2, l1, l2, Nat.add_sub_cancel]
  unfold nx wn
  generalize z (q - 1) = pb at *
  generalize z q = b at *
  rcases h4 with ⟨rfl, rfl, rfl, rfl⟩ | ⟨hq, hu, hd⟩
  · cases b <;> simp <;> exact ⟨_, _, ⟨rfl, rfl⟩, by omega⟩
  · rcases (show m % 2 = 0 ∨ m % 2 = 1 by omega) with hm | hm
    · rw [hm] at hu hd
      have hm1 : (m + 1) % 2 = 1 := by omega
      cases b <;> cases pb <;> simp at hu hd <;> subst hu hd <;> simp [hq, hm1] <;> exact ⟨_, _, ⟨rfl, rfl⟩, by omega⟩
    · rw [hm] at hu hd
      have hm1 : (m + 1) % 2 = 0 := by omega
      cases b <;> cases pb <;> simp at hu hd <;> subst hu hd <;> simp [hq, hm1] <;> exact ⟨_, _, ⟨rfl, rfl⟩, by omega⟩
/-! ### the walk -/
theorem walk (a0 : Option Addr) (len0 cap0 : Nat) (z0 : List Int) (a1 : Int) (s2 : Tab.Sl) (l2 : List Bool) (w : World) (w0 : IsRow .i64 w a0 len0 cap0 z0) (w1 : (Lit.int .i64 a1).wf = true) (w2 : Tab.RowOf 1 (fun b : Bool => [Value.bool b]) w s2 l2) :
    Calls Try.prog 5 #[.slice a0 len0 cap0, .int .i64 a1, .slice s2.a l2.length s2.cap] w fun e w' => e = .returned (.bool true) ∧ Below w.heap.size w w' := by
  obtain ⟨x, z, hA, hl1, hc1⟩ := Arg.bools_at w2
  obtain ⟨sa, cap⟩ := s2
  dsimp only at hA hl1 hc1 ⊢
  generalize l2.length = len at hA hl1 ⊢
  have HA := Lib.hid hA
  unfold maxLen at hc1
  clear hA w2
  obtain ⟨hlen, hrow⟩ := isRow_int w0
  obtain ⟨L, hL⟩ : ∃ L, L = z0.take len0 := ⟨_, rfl⟩
  rw [← hL] at hlen hrow
  clear hL w0
  subst hlen
  have hz := (zero_of_info GenT.infoTz).1
  have hZs : (Clone.zTab.cells Clone.zHd).length = 131 := rfl
  generalize hZ : GenT.zTab.cells GenT.zHd = Z at *
  have ZS : Z.toArray.size = 131 := by rw [← hZ]; rfl
  clear hZ hZs
  have GF : Hid (∀ k : Nat, k < 8 → (Clear.phAt (genTab L) k).on = true → 0 ≤ (Clear.phAt (genTab L) k).step ∧ (Clear.phAt (genTab L) k).step ≤ 6 ∧ 0 ≤ (Clear.phAt (genTab L) k).max ∧ (Clear.phAt (genTab L) k).max ≤ (Clear.phAt (genTab L) k).top ∧ (Clear.phAt (genTab L) k).top ≤ 60) := Lib.hid (GenQ.gen_gap L)
  go_enter Try.func5, Try.ntmps5
  go_wp2_with fail
  refine (GenT.table_any a0 cap0 L w hrow).mono ?_
  rintro e u0 ⟨hd, rfl, ht, hb⟩
  have CS := GenT.cells_cut hd ht.ph ht.cf ht.fl
  have ONE := (cells_ok ht).one
  have T8 := Lib.hid ht.ph
  have HT : Hid (∀ W, Below u0.heap.size u0 W → IsTab W hd (genTab L)) := Lib.hid (fun W hb => ht.below hb)
  have B0 := Lib.hid hb
  have IA : Hid ((Try.prog.info? 43).map (·.size) = some ((genTab L).cells hd).length) := Lib.hid (by rw [CS]; exact May.infoT)
  clear hb ht
  generalize hc : (genTab L).cells hd = c at *
  have HC := Lib.hid hc
  clear hc
  go_upto_region 2 with (refine Row.wpList_store_new rfl 43 _ _ rfl u0 Z.toArray c.toArray rfl rfl rfl (by rw [List.size_toArray]; exact IA.out) (by rw [ZS, List.size_toArray, CS]) ONE ?_)
  have hb2 : Below u0.heap.size u0 (u0.alloc (.cells c.toArray 43)) := (Below.refl _ _).alloc (Nat.le_refl _) _
  have hl : Lies (u0.alloc (.cells c.toArray 43)) ⟨u0.heap.size, 0, none⟩ c := Row.lies_new _ _ _
  have TB0 : Hid (∀ W, Below (u0.alloc (.cells c.toArray 43)).heap.size (u0.alloc (.cells c.toArray 43)) W → IsTab W hd (genTab L)) := Lib.hid (fun W hb => HT.out W (hb2.trans (hb.mono hb2.size)))
  generalize u0.alloc (.cells c.toArray 43) = u at hb2 hl TB0 ⊢
  have TB : Hid (∀ W, Below u.heap.size u W → IsTab W hd (genTab L)) := TB0
  have A0 : Hid (Below w.heap.size w u) := Lib.hid (B0.out.trans (hb2.mono B0.out.size))
  have A1 : Hid (∀ W, Below u.heap.size u W → Lies W ⟨u0.heap.size, 0, none⟩ c) := Lib.hid (fun W hb => Lies.below hl hb)
  clear hb2 hl TB0 HT B0 hrow hz ZS ONE CS
  generalize u0.heap.size = tb at *
  generalize genTab L = T at *
  obtain ⟨k, hk⟩ : ∃ k : Nat, a1 % 8 = (k : Int) := ⟨(a1 % 8).toNat, by have := Int.emod_nonneg a1 (show (8 : Int) ≠ 0 by decide); omega⟩
  have hk8 : k < 8 := by have := Int.emod_lt_of_pos a1 (show (0 : Int) < 8 by decide); omega
  have PL : Hid (∀ W, Calls Try.prog 17 #[.int .i64 a1, .int .i64 8] W fun e w' => e = .returned (.int .i64 k) ∧ W = w') := Lib.hid (fun W => by have := RefS.place_any a1 8 W (by decide) (by decide); rwa [hk] at this)
  have KK := Lib.hid hk8
  clear hk
  have LP : Lies u ⟨tb, k * 13, none⟩ (Clear.phAt T k).cells := by
    have h := A1.out u (Below.refl _ _)
    rw [← HC.out] at h
    intro j v hj
    have := h (k * 13 + j) v (GenQ.cells_at (TB.out u (Below.refl _ _)) KK.out hj)
    rw [Addr.add_mid, Nat.zero_add] at this
    rwa [Addr.add_mid]
  have PG := Lib.hid (GF.out k hk8)
  generalize hph : Clear.phAt T k = p at LP PG
  clear hph GF
  have LP0 := Lib.hid LP
  clear LP
  have IP : (Try.prog.info? 23).map (·.size) = some p.cells.length := infoP
  go_upto_region 3 with (first | (go_at_call 17; refine (PL.out _).mono ?_; rintro e w' ⟨rfl, rfl⟩) | (refine Row.wpList_load_lies rfl 23 _ rfl ⟨tb, k * 13, none⟩ rfl p.cells _ LP0.out Try.underlying23 rfl IP ?_) | (refine Row.wpList_store_new rfl 23 _ _ rfl _ _ p.cells.toArray rfl rfl rfl May.infoP rfl (Ph.one _) ?_))
  dsimp only [Act.put]
  (try simp only [List.setIfInBounds_toArray, List.set_cons_zero, List.set_cons_succ])
  have h1 := (Blk.Bks.nil u).alloc p.cells.toArray 23
  generalize World.alloc u _ = v1 at h1 ⊢
  generalize u.heap.size = gx at h1 ⊢
  have H1 := Lib.hid h1
  clear h1 LP0
  have k0 : v1.cell? ⟨gx, 0, none⟩ = some (.bool p.on) := H1.out.cell 0 0 rfl rfl
  have PG2 := Lib.hid PG.out
  clear PG
  generalize hon : p.on = on at k0
  by_cases hl : 100 < len
  · have hl2 : decide ((len : Int) > 100) = true := decide_eq_true (by omega)
    go_wp2_with fail
    refine (awake_any _).mono ?_
    rintro e u9 ⟨rfl, b9⟩
    go_wp2
    go_ret
    exact ⟨rfl, (A0.out.trans ((H1.out.step b9).bel.mono A0.out.size))⟩
  have hl2 : decide ((len : Int) > 100) = false := decide_eq_false (by omega)
  cases on
  · go_wp2_with fail
    refine (awake_any _).mono ?_
    rintro e u9 ⟨rfl, b9⟩
    go_wp2
    go_ret
    exact ⟨rfl, (A0.out.trans ((H1.out.step b9).bel.mono A0.out.size))⟩
  have PG := Lib.hid (PG2.out hon)
  clear hon PG2
  have BG : Hid (∀ W, Calls Try.prog 9 #[.agg p.cells.toArray] W fun e w' => e = .returned (.agg #[I p.max, I 0, I 0]) ∧ Below W.heap.size W w') := Lib.hid (fun W => begin_any p W)
  go_wp2_with (refine Row.wpList_load_g 23 _ rfl (by first | rfl | go_simp) ⟨gx, 0, none⟩ rfl p.cells _ (by have := Row.lies_of_block (H1.out.at 0 rfl); simpa using this) Try.underlying23 rfl infoP ?_)
  refine (BG.out _).mono ?_
  rintro e v2 ⟨rfl, hb⟩
  go_upto_region 6 with fail
  have h2 := (H1.out.step hb).alloc #[I p.max, I 0, I 0] 25
  generalize World.alloc v2 _ = v3 at h2 ⊢
  generalize v2.heap.size = gs at h2 ⊢
  have H2 := Lib.hid h2
  clear h2 hb H1 BG k0
  go_wp2_with fail
  go_loopw [10, 11] (fun n i wr => ∃ (q : Nat) (m a b c : Int), q ≤ len ∧ i = .int .i64 q ∧ n = .int .i64 m ∧ Hid (Iv p z q m a b c) ∧ Blk.Bks u [(gs, #[I a, I b, I c], 25), (gx, p.cells.toArray, 23)] wr) (fun _ i _ => len - (intOf i).toNat)
  case atStart => exact ⟨0, 0, p.max, 0, 0, by omega, rfl, rfl, Lib.hid (iv_start PG.out.2.2.2.1), H2.out⟩
  case round =>
    obtain ⟨q, m, a, b, c, hq, rfl, rfl, HI, hB⟩ := hrel
    have HB := Lib.hid hB
    clear hB H2
    by_cases hlt : q < len
    · obtain ⟨hx, hzl⟩ := HA.out q hlt
      have HZ := Lib.hid hzl
      have HZP : Hid (0 < q → Lies w (x.add ((q - 1) * 1)) [.bool (z (q - 1))]) := Lib.hid (fun h => (HA.out (q - 1) (by omega)).2)
      clear hzl
      subst hx
      obtain ⟨b', c', hs, hi2⟩ := iv_step PG.out.1 PG.out.2.1 PG.out.2.2.1 PG.out.2.2.2.1 PG.out.2.2.2.2 HI.out
      have hm := HI.out.2.2.1
      have hm2 := HI.out.2.2.2.1
      have hq0 : q = 0 → m = 0 := by intro h; rcases HI.out.2.2.2.2 with h2 | h2; exact h2.2.1; omega
      obtain ⟨bq, hbq⟩ : ∃ bq, z q = bq := ⟨_, rfl⟩
      obtain ⟨m', hm'⟩ : ∃ m', nx z q m = m' := ⟨_, rfl⟩
      obtain ⟨l', hl'⟩ : ∃ l', wn p bq m' a = l' := ⟨_, rfl⟩
      rw [hbq, hm', hl'] at hs
      rw [hbq, hm', hl'] at hi2
      have IV := Lib.hid hi2
      have la := hi2.1
      have lb := hi2.2.1
      have ha0 := HI.out.1
      have ha1 := HI.out.2.1
      obtain ⟨st0, st1, mx0, mx1, tp1⟩ := PG.out
      clear hi2 HI
      rw [hbq] at HZ
      have G1 : Hid (∀ W, Calls Try.prog 14 #[.agg p.cells.toArray, .agg #[I a, I b, I c], .bool bq] W fun e w' => e = .returned (.agg #[I l', I b', I c']) ∧ Below W.heap.size W w') := Lib.hid (fun W => grow_is hs W)
      clear hs
      have F4 : Hid (∀ W, Calls Try.prog 10 #[.agg p.cells.toArray, .agg #[I l', I b', I c']] W fun e w' => e = .returned (.int .i64 l') ∧ Below W.heap.size W w') := Lib.hid (fun W => by have := lim_any p l' b' c' W; rwa [lm_in la lb] at this)
      have HM := Lib.hid hm'
      have HL := Lib.hid hl'
      have HBQ := Lib.hid hbq
      clear hm' hl' hbq
      have s0 : wr.cell? ⟨gs, 0, none⟩ = some (I a) := HB.out.cell 0 0 rfl rfl
      go_upto_region 11 with fail
      clear s0
      have kq : ∀ r : QB.By wr.heap.size wr, r.world.cell? (x.add q) = some (.bool bq) := fun r => Arg.one_below HZ.out (A0.out.trans ((HB.out.by r).bel.mono A0.out.size))
      go_upto_region 11 with fail
      refine QT.region wr.heap.size 6 (by kernel_rfl) (by kernel_rfl) ?_
      simp only [List.take_succ_cons, List.take_zero]
      repeat first
        | (refine wpQuiet_load rfl 23 _ rfl ⟨gx, 0, none⟩ rfl p.cells _ (fun w' ⟨p, e⟩ => by rw [e]; have := Row.lies_of_block ((HB.out.by p).at 1 rfl); simpa using this) Try.underlying23 rfl infoP ?_
           dsimp only [Act.put]
           simp only [List.setIfInBounds_toArray, List.set_cons_zero, List.set_cons_succ])
        | (refine wpQuiet_load rfl 25 _ rfl ⟨gs, 0, none⟩ rfl [I a, I b, I c] _ (fun w' ⟨p, e⟩ => by rw [e]; have := Row.lies_of_block ((HB.out.by p).at 0 rfl); simpa using this) Try.underlying25 rfl infoTn ?_
           dsimp only [Act.put]
           simp only [List.setIfInBounds_toArray, List.set_cons_zero, List.set_cons_succ])
        | (quiet_step (fail))
      refine wpQuiet_nil ?_
      intro _ hw'
      obtain ⟨pq, rfl⟩ := hw'
      have HP := Lib.hid (HB.out.by pq)
      clear kq
      generalize pq.world = vp at HP ⊢
      simp only [List.drop_succ_cons, List.drop_zero]
      go_wp2_with fail
      refine (G1.out _).mono ?_
      rintro e vc ⟨rfl, bc⟩
      have HD := Lib.hid (HP.out.step bc)
      clear bc HP
      go_upto_region 12 with (refine wpList_store_row rfl 25 _ _ rfl gs #[I l', I b', I c'] rfl rfl 25 _ (HD.out.at 0 rfl) infoTn rfl (by simp [Value.oneCell']) ?_)
      have he := HD.out.put 0 rfl #[I l', I b', I c']
      simp only [List.set_cons_succ, List.set_cons_zero] at he
      generalize World.setRow _ gs _ = v4 at he ⊢
      have HE := Lib.hid he
      clear he HD
      by_cases hq1 : 0 < q
      · obtain ⟨pb, hpb⟩ : ∃ pb, z (q - 1) = pb := ⟨_, rfl⟩
        cases bq <;> cases pb
        · rw [hpb] at HZP
          rcases (show (m + 1) % 2 = 0 ∨ (m + 1) % 2 = 1 by omega) with hpar | hpar
          · have HM2 : Hid ((m + 1) = m') := Lib.hid (by rw [← HM.out]; unfold nx; rw [if_neg (by rw [HBQ.out, hpb]; simp)])
            have hl2 : max p.max (a - p.step) = l' := by rw [← HL.out]; unfold wn; rw [if_pos (by rw [← HM2.out]; omega)]; simp
            have hl3 : (if p.max < a - p.step then a - p.step else p.max) = l' := by rw [← hl2]; split <;> omega
            have ew : wrap64 (a - p.step) = a - p.step := wr_in (by omega) (by omega)
            have d1 : ¬ l' < p.max := by omega
            have d2 : ¬ p.top < l' := by omega
            clear HL HM HBQ
            have hd : decide ((q : Int) > 0) = true := decide_eq_true (by omega)
            have hi0 : 0 ≤ (q : Int) - 1 := by omega
            have hi1 : (q : Int) - 1 < len := by omega
            have hi2 : ((q : Int) - 1).toNat = q - 1 := by omega
            have kq : ∀ r : QB.By v4.heap.size v4, r.world.cell? (x.add q) = some (.bool false) := fun r => Arg.one_below HZ.out (A0.out.trans ((HE.out.by r).bel.mono A0.out.size))
            have kp : ∀ r : QB.By v4.heap.size v4, r.world.cell? (x.add (q - 1)) = some (.bool false) := fun r => Arg.one_below (HZP.out hq1) (A0.out.trans ((HE.out.by r).bel.mono A0.out.size))
            (try dsimp only [Act.put])
            refine QB.region_below v4.heap.size (by kernel_rfl) (by kernel_rfl) ?_
            repeat (go_big_quiet_step (fail))
            refine wpQuiet_nil ?_
            intro _ hw'
            obtain ⟨pq, rfl⟩ := hw'
            have HP := Lib.hid (HE.out.by pq)
            have hz := kq pq
            clear kq kp
            generalize pq.world = v5 at HP hz ⊢
            have k3 : v5.cell? ⟨gx, 3, none⟩ = some (I p.max) := HP.out.cell 1 3 rfl rfl
            have k4 : v5.cell? ⟨gx, 4, none⟩ = some (I p.top) := HP.out.cell 1 4 rfl rfl
            have k5 : v5.cell? ⟨gx, 5, none⟩ = some (I p.step) := HP.out.cell 1 5 rfl rfl
            have s0 : v5.cell? ⟨gs, 0, none⟩ = some (I l') := HP.out.cell 0 0 rfl rfl
            have hr : Int.tmod (m + 1) 2 = 0 := by rw [Int.tmod_eq_emod_of_nonneg (by omega)]; omega
            go_wp2_with (first | (refine Row.wpList_load_g 23 _ rfl (by first | rfl | go_simp) ⟨gx, 0, none⟩ rfl p.cells _ (by have := Row.lies_of_block (HP.out.at 1 rfl); simpa using this) Try.underlying23 rfl infoP ?_) | (refine Row.wpList_load_g 25 _ rfl (by first | rfl | go_simp) ⟨gs, 0, none⟩ rfl [I l', I b', I c'] _ (by have := Row.lies_of_block (HP.out.at 0 rfl); simpa using this) Try.underlying25 rfl infoTn ?_))
            refine (F4.out _).mono ?_
            rintro e v6 ⟨rfl, b6⟩
            have HQ := Lib.hid (HP.out.step b6)
            clear b6 HP k3 k4 k5 s0
            have k3 : v6.cell? ⟨gx, 3, none⟩ = some (I p.max) := HQ.out.cell 1 3 rfl rfl
            have k4 : v6.cell? ⟨gx, 4, none⟩ = some (I p.top) := HQ.out.cell 1 4 rfl rfl
            go_wp2
            go_roundw
            case rel => exact ⟨q + 1, m + 1, l', b', c', by omega, by go_num, rfl, Lib.hid (by have := IV.out; rwa [← HM2.out] at this), HQ.out⟩
            case measure => simp [intOf]; omega
          · have HM2 : Hid ((m + 1) = m') := Lib.hid (by rw [← HM.out]; unfold nx; rw [if_neg (by rw [HBQ.out, hpb]; simp)])
            obtain rfl : a = l' := by rw [← HL.out]; unfold wn; rw [if_neg (by rw [← HM2.out]; omega)]
            have d1 : ¬ a < p.max := by omega
            have d2 : ¬ p.top < a := by omega
            clear HL HM HBQ
            have hd : decide ((q : Int) > 0) = true := decide_eq_true (by omega)
            have hi0 : 0 ≤ (q : Int) - 1 := by omega
            have hi1 : (q : Int) - 1 < len := by omega
            have hi2 : ((q : Int) - 1).toNat = q - 1 := by omega
            have kq : ∀ r : QB.By v4.heap.size v4, r.world.cell? (x.add q) = some (.bool false) := fun r => Arg.one_below HZ.out (A0.out.trans ((HE.out.by r).bel.mono A0.out.size))
            have kp : ∀ r : QB.By v4.heap.size v4, r.world.cell? (x.add (q - 1)) = some (.bool false) := fun r => Arg.one_below (HZP.out hq1) (A0.out.trans ((HE.out.by r).bel.mono A0.out.size))
            (try dsimp only [Act.put])
            refine QB.region_below v4.heap.size (by kernel_rfl) (by kernel_rfl) ?_
            repeat (go_big_quiet_step (fail))
            refine wpQuiet_nil ?_
            intro _ hw'
            obtain ⟨pq, rfl⟩ := hw'
            have HP := Lib.hid (HE.out.by pq)
            have hz := kq pq
            clear kq kp
            generalize pq.world = v5 at HP hz ⊢
            have k3 : v5.cell? ⟨gx, 3, none⟩ = some (I p.max) := HP.out.cell 1 3 rfl rfl
            have k4 : v5.cell? ⟨gx, 4, none⟩ = some (I p.top) := HP.out.cell 1 4 rfl rfl
            have k5 : v5.cell? ⟨gx, 5, none⟩ = some (I p.step) := HP.out.cell 1 5 rfl rfl
            have s0 : v5.cell? ⟨gs, 0, none⟩ = some (I a) := HP.out.cell 0 0 rfl rfl
            have hr : Int.tmod (m + 1) 2 = 1 := by rw [Int.tmod_eq_emod_of_nonneg (by omega)]; omega
            go_wp2_with (first | (refine Row.wpList_load_g 23 _ rfl (by first | rfl | go_simp) ⟨gx, 0, none⟩ rfl p.cells _ (by have := Row.lies_of_block (HP.out.at 1 rfl); simpa using this) Try.underlying23 rfl infoP ?_) | (refine Row.wpList_load_g 25 _ rfl (by first | rfl | go_simp) ⟨gs, 0, none⟩ rfl [I a, I b', I c'] _ (by have := Row.lies_of_block (HP.out.at 0 rfl); simpa using this) Try.underlying25 rfl infoTn ?_))
            refine (F4.out _).mono ?_
            rintro e v6 ⟨rfl, b6⟩
            have HQ := Lib.hid (HP.out.step b6)
            clear b6 HP k3 k4 k5 s0
            have k3 : v6.cell? ⟨gx, 3, none⟩ = some (I p.max) := HQ.out.cell 1 3 rfl rfl
            have k4 : v6.cell? ⟨gx, 4, none⟩ = some (I p.top) := HQ.out.cell 1 4 rfl rfl
            go_wp2
            go_roundw
            case rel => exact ⟨q + 1, m + 1, a, b', c', by omega, by go_num, rfl, Lib.hid (by have := IV.out; rwa [← HM2.out] at this), HQ.out⟩
            case measure => simp [intOf]; omega
        · rw [hpb] at HZP
          have HM2 : Hid ((1 : Int) = m') := Lib.hid (by rw [← HM.out]; unfold nx; rw [if_pos ⟨hq1, by rw [HBQ.out, hpb]; simp⟩])
          obtain rfl : a = l' := by rw [← HL.out]; unfold wn; rw [if_neg (by rw [← HM2.out]; omega)]
          have d1 : ¬ a < p.max := by omega
          have d2 : ¬ p.top < a := by omega
          clear HL HM HBQ
          have hd : decide ((q : Int) > 0) = true := decide_eq_true (by omega)
          have hi0 : 0 ≤ (q : Int) - 1 := by omega
          have hi1 : (q : Int) - 1 < len := by omega
          have hi2 : ((q : Int) - 1).toNat = q - 1 := by omega
          have kq : ∀ r : QB.By v4.heap.size v4, r.world.cell? (x.add q) = some (.bool false) := fun r => Arg.one_below HZ.out (A0.out.trans ((HE.out.by r).bel.mono A0.out.size))
          have kp : ∀ r : QB.By v4.heap.size v4, r.world.cell? (x.add (q - 1)) = some (.bool true) := fun r => Arg.one_below (HZP.out hq1) (A0.out.trans ((HE.out.by r).bel.mono A0.out.size))
          (try dsimp only [Act.put])
          refine QB.region_below v4.heap.size (by kernel_rfl) (by kernel_rfl) ?_
          repeat (go_big_quiet_step (fail))
          refine wpQuiet_nil ?_
          intro _ hw'
          obtain ⟨pq, rfl⟩ := hw'
          have HP := Lib.hid (HE.out.by pq)
          have hz := kq pq
          clear kq kp
          generalize pq.world = v5 at HP hz ⊢
          have k3 : v5.cell? ⟨gx, 3, none⟩ = some (I p.max) := HP.out.cell 1 3 rfl rfl
          have k4 : v5.cell? ⟨gx, 4, none⟩ = some (I p.top) := HP.out.cell 1 4 rfl rfl
          have k5 : v5.cell? ⟨gx, 5, none⟩ = some (I p.step) := HP.out.cell 1 5 rfl rfl
          have s0 : v5.cell? ⟨gs, 0, none⟩ = some (I a) := HP.out.cell 0 0 rfl rfl
          go_wp2_with (first | (refine Row.wpList_load_g 23 _ rfl (by first | rfl | go_simp) ⟨gx, 0, none⟩ rfl p.cells _ (by have := Row.lies_of_block (HP.out.at 1 rfl); simpa using this) Try.underlying23 rfl infoP ?_) | (refine Row.wpList_load_g 25 _ rfl (by first | rfl | go_simp) ⟨gs, 0, none⟩ rfl [I a, I b', I c'] _ (by have := Row.lies_of_block (HP.out.at 0 rfl); simpa using this) Try.underlying25 rfl infoTn ?_))
          refine (F4.out _).mono ?_
          rintro e v6 ⟨rfl, b6⟩
          have HQ := Lib.hid (HP.out.step b6)
          clear b6 HP k3 k4 k5 s0
          have k3 : v6.cell? ⟨gx, 3, none⟩ = some (I p.max) := HQ.out.cell 1 3 rfl rfl
          have k4 : v6.cell? ⟨gx, 4, none⟩ = some (I p.top) := HQ.out.cell 1 4 rfl rfl
          go_wp2
          go_roundw
          case rel => exact ⟨q + 1, 1, a, b', c', by omega, by go_num, rfl, Lib.hid (by have := IV.out; rwa [← HM2.out] at this), HQ.out⟩
          case measure => simp [intOf]; omega
        · rw [hpb] at HZP
          have HM2 : Hid ((1 : Int) = m') := Lib.hid (by rw [← HM.out]; unfold nx; rw [if_pos ⟨hq1, by rw [HBQ.out, hpb]; simp⟩])
          obtain rfl : a = l' := by rw [← HL.out]; unfold wn; rw [if_neg (by rw [← HM2.out]; omega)]
          have d1 : ¬ a < p.max := by omega
          have d2 : ¬ p.top < a := by omega
          clear HL HM HBQ
          have hd : decide ((q : Int) > 0) = true := decide_eq_true (by omega)
          have hi0 : 0 ≤ (q : Int) - 1 := by omega
          have hi1 : (q : Int) - 1 < len := by omega
          have hi2 : ((q : Int) - 1).toNat = q - 1 := by omega
          have kq : ∀ r : QB.By v4.heap.size v4, r.world.cell? (x.add q) = some (.bool true) := fun r => Arg.one_below HZ.out (A0.out.trans ((HE.out.by r).bel.mono A0.out.size))
          have kp : ∀ r : QB.By v4.heap.size v4, r.world.cell? (x.add (q - 1)) = some (.bool false) := fun r => Arg.one_below (HZP.out hq1) (A0.out.trans ((HE.out.by r).bel.mono A0.out.size))
          (try dsimp only [Act.put])
          refine QB.region_below v4.heap.size (by kernel_rfl) (by kernel_rfl) ?_
          repeat (go_big_quiet_step (fail))
          refine wpQuiet_nil ?_
          intro _ hw'
          obtain ⟨pq, rfl⟩ := hw'
          have HP := Lib.hid (HE.out.by pq)
          have hz := kq pq
          clear kq kp
          generalize pq.world = v5 at HP hz ⊢
          have k3 : v5.cell? ⟨gx, 3, none⟩ = some (I p.max) := HP.out.cell 1 3 rfl rfl
          have k4 : v5.cell? ⟨gx, 4, none⟩ = some (I p.top) := HP.out.cell 1 4 rfl rfl
          have k5 : v5.cell? ⟨gx, 5, none⟩ = some (I p.step) := HP.out.cell 1 5 rfl rfl
          have s0 : v5.cell? ⟨gs, 0, none⟩ = some (I a) := HP.out.cell 0 0 rfl rfl
          go_wp2_with (first | (refine Row.wpList_load_g 23 _ rfl (by first | rfl | go_simp) ⟨gx, 0, none⟩ rfl p.cells _ (by have := Row.lies_of_block (HP.out.at 1 rfl); simpa using this) Try.underlying23 rfl infoP ?_) | (refine Row.wpList_load_g 25 _ rfl (by first | rfl | go_simp) ⟨gs, 0, none⟩ rfl [I a, I b', I c'] _ (by have := Row.lies_of_block (HP.out.at 0 rfl); simpa using this) Try.underlying25 rfl infoTn ?_))
          refine (F4.out _).mono ?_
          rintro e v6 ⟨rfl, b6⟩
          have HQ := Lib.hid (HP.out.step b6)
          clear b6 HP k3 k4 k5 s0
          have k3 : v6.cell? ⟨gx, 3, none⟩ = some (I p.max) := HQ.out.cell 1 3 rfl rfl
          have k4 : v6.cell? ⟨gx, 4, none⟩ = some (I p.top) := HQ.out.cell 1 4 rfl rfl
          go_wp2
          go_roundw
          case rel => exact ⟨q + 1, 1, a, b', c', by omega, by go_num, rfl, Lib.hid (by have := IV.out; rwa [← HM2.out] at this), HQ.out⟩
          case measure => simp [intOf]; omega
        · rw [hpb] at HZP
          rcases (show (m + 1) % 2 = 0 ∨ (m + 1) % 2 = 1 by omega) with hpar | hpar
          · have HM2 : Hid ((m + 1) = m') := Lib.hid (by rw [← HM.out]; unfold nx; rw [if_neg (by rw [HBQ.out, hpb]; simp)])
            have hl2 : min p.top (a + p.step) = l' := by rw [← HL.out]; unfold wn; rw [if_pos (by rw [← HM2.out]; omega)]; simp
            have hl3 : (if a + p.step < p.top then a + p.step else p.top) = l' := by rw [← hl2]; split <;> omega
            have ew : wrap64 (a + p.step) = a + p.step := wr_in (by omega) (by omega)
            have d1 : ¬ l' < p.max := by omega
            have d2 : ¬ p.top < l' := by omega
            clear HL HM HBQ
            have hd : decide ((q : Int) > 0) = true := decide_eq_true (by omega)
            have hi0 : 0 ≤ (q : Int) - 1 := by omega
            have hi1 : (q : Int) - 1 < len := by omega
            have hi2 : ((q : Int) - 1).toNat = q - 1 := by omega
            have kq : ∀ r : QB.By v4.heap.size v4, r.world.cell? (x.add q) = some (.bool true) := fun r => Arg.one_below HZ.out (A0.out.trans ((HE.out.by r).bel.mono A0.out.size))
            have kp : ∀ r : QB.By v4.heap.size v4, r.world.cell? (x.add (q - 1)) = some (.bool true) := fun r => Arg.one_below (HZP.out hq1) (A0.out.trans ((HE.out.by r).bel.mono A0.out.size))
            (try dsimp only [Act.put])
            refine QB.region_below v4.heap.size (by kernel_rfl) (by kernel_rfl) ?_
            repeat (go_big_quiet_step (fail))
            refine wpQuiet_nil ?_
            intro _ hw'
            obtain ⟨pq, rfl⟩ := hw'
            have HP := Lib.hid (HE.out.by pq)
            have hz := kq pq
            clear kq kp
            generalize pq.world = v5 at HP hz ⊢
            have k3 : v5.cell? ⟨gx, 3, none⟩ = some (I p.max) := HP.out.cell 1 3 rfl rfl
            have k4 : v5.cell? ⟨gx, 4, none⟩ = some (I p.top) := HP.out.cell 1 4 rfl rfl
            have k5 : v5.cell? ⟨gx, 5, none⟩ = some (I p.step) := HP.out.cell 1 5 rfl rfl
            have s0 : v5.cell? ⟨gs, 0, none⟩ = some (I l') := HP.out.cell 0 0 rfl rfl
            have hr : Int.tmod (m + 1) 2 = 0 := by rw [Int.tmod_eq_emod_of_nonneg (by omega)]; omega
            go_wp2_with (first | (refine Row.wpList_load_g 23 _ rfl (by first | rfl | go_simp) ⟨gx, 0, none⟩ rfl p.cells _ (by have := Row.lies_of_block (HP.out.at 1 rfl); simpa using this) Try.underlying23 rfl infoP ?_) | (refine Row.wpList_load_g 25 _ rfl (by first | rfl | go_simp) ⟨gs, 0, none⟩ rfl [I l', I b', I c'] _ (by have := Row.lies_of_block (HP.out.at 0 rfl); simpa using this) Try.underlying25 rfl infoTn ?_))
            refine (F4.out _).mono ?_
            rintro e v6 ⟨rfl, b6⟩
            have HQ := Lib.hid (HP.out.step b6)
            clear b6 HP k3 k4 k5 s0
            have k3 : v6.cell? ⟨gx, 3, none⟩ = some (I p.max) := HQ.out.cell 1 3 rfl rfl
            have k4 : v6.cell? ⟨gx, 4, none⟩ = some (I p.top) := HQ.out.cell 1 4 rfl rfl
            go_wp2
            go_roundw
            case rel => exact ⟨q + 1, m + 1, l', b', c', by omega, by go_num, rfl, Lib.hid (by have := IV.out; rwa [← HM2.out] at this), HQ.out⟩
            case measure => simp [intOf]; omega
          · have HM2 : Hid ((m + 1) = m') := Lib.hid (by rw [← HM.out]; unfold nx; rw [if_neg (by rw [HBQ.out, hpb]; simp)])
            obtain rfl : a = l' := by rw [← HL.out]; unfold wn; rw [if_neg (by rw [← HM2.out]; omega)]
            have d1 : ¬ a < p.max := by omega
            have d2 : ¬ p.top < a := by omega
            clear HL HM HBQ
            have hd : decide ((q : Int) > 0) = true := decide_eq_true (by omega)
            have hi0 : 0 ≤ (q : Int) - 1 := by omega
            have hi1 : (q : Int) - 1 < len := by omega
            have hi2 : ((q : Int) - 1).toNat = q - 1 := by omega
            have kq : ∀ r : QB.By v4.heap.size v4, r.world.cell? (x.add q) = some (.bool true) := fun r => Arg.one_below HZ.out (A0.out.trans ((HE.out.by r).bel.mono A0.out.size))
            have kp : ∀ r : QB.By v4.heap.size v4, r.world.cell? (x.add (q - 1)) = some (.bool true) := fun r => Arg.one_below (HZP.out hq1) (A0.out.trans ((HE.out.by r).bel.mono A0.out.size))
            (try dsimp only [Act.put])
            refine QB.region_below v4.heap.size (by kernel_rfl) (by kernel_rfl) ?_
            repeat (go_big_quiet_step (fail))
            refine wpQuiet_nil ?_
            intro _ hw'
            obtain ⟨pq, rfl⟩ := hw'
            have HP := Lib.hid (HE.out.by pq)
            have hz := kq pq
            clear kq kp
            generalize pq.world = v5 at HP hz ⊢
            have k3 : v5.cell? ⟨gx, 3, none⟩ = some (I p.max) := HP.out.cell 1 3 rfl rfl
            have k4 : v5.cell? ⟨gx, 4, none⟩ = some (I p.top) := HP.out.cell 1 4 rfl rfl
            have k5 : v5.cell? ⟨gx, 5, none⟩ = some (I p.step) := HP.out.cell 1 5 rfl rfl
            have s0 : v5.cell? ⟨gs, 0, none⟩ = some (I a) := HP.out.cell 0 0 rfl rfl
            have hr : Int.tmod (m + 1) 2 = 1 := by rw [Int.tmod_eq_emod_of_nonneg (by omega)]; omega
            go_wp2_with (first | (refine Row.wpList_load_g 23 _ rfl (by first | rfl | go_simp) ⟨gx, 0, none⟩ rfl p.cells _ (by have := Row.lies_of_block (HP.out.at 1 rfl); simpa using this) Try.underlying23 rfl infoP ?_) | (refine Row.wpList_load_g 25 _ rfl (by first | rfl | go_simp) ⟨gs, 0, none⟩ rfl [I a, I b', I c'] _ (by have := Row.lies_of_block (HP.out.at 0 rfl); simpa using this) Try.underlying25 rfl infoTn ?_))
            refine (F4.out _).mono ?_
            rintro e v6 ⟨rfl, b6⟩
            have HQ := Lib.hid (HP.out.step b6)
            clear b6 HP k3 k4 k5 s0
            have k3 : v6.cell? ⟨gx, 3, none⟩ = some (I p.max) := HQ.out.cell 1 3 rfl rfl
            have k4 : v6.cell? ⟨gx, 4, none⟩ = some (I p.top) := HQ.out.cell 1 4 rfl rfl
            go_wp2
            go_roundw
            case rel => exact ⟨q + 1, m + 1, a, b', c', by omega, by go_num, rfl, Lib.hid (by have := IV.out; rwa [← HM2.out] at this), HQ.out⟩
            case measure => simp [intOf]; omega
      · have hpar : (m + 1) % 2 = 1 := by have := hq0 (by omega); omega
        cases bq
        · have HM2 : Hid ((m + 1) = m') := Lib.hid (by rw [← HM.out]; unfold nx; rw [if_neg (by omega)])
          obtain rfl : a = l' := by rw [← HL.out]; unfold wn; rw [if_neg (by rw [← HM2.out]; omega)]
          have d1 : ¬ a < p.max := by omega
          have d2 : ¬ p.top < a := by omega
          clear HL HM HBQ
          have hd : decide ((q : Int) > 0) = false := decide_eq_false (by omega)
          have kq : ∀ r : QB.By v4.heap.size v4, r.world.cell? (x.add q) = some (.bool false) := fun r => Arg.one_below HZ.out (A0.out.trans ((HE.out.by r).bel.mono A0.out.size))
          (try dsimp only [Act.put])
          refine QB.region_below v4.heap.size (by kernel_rfl) (by kernel_rfl) ?_
          repeat (go_big_quiet_step (fail))
          refine wpQuiet_nil ?_
          intro _ hw'
          obtain ⟨pq, rfl⟩ := hw'
          have HP := Lib.hid (HE.out.by pq)
          have hz := kq pq
          clear kq 
          generalize pq.world = v5 at HP hz ⊢
          have k3 : v5.cell? ⟨gx, 3, none⟩ = some (I p.max) := HP.out.cell 1 3 rfl rfl
          have k4 : v5.cell? ⟨gx, 4, none⟩ = some (I p.top) := HP.out.cell 1 4 rfl rfl
          have k5 : v5.cell? ⟨gx, 5, none⟩ = some (I p.step) := HP.out.cell 1 5 rfl rfl
          have s0 : v5.cell? ⟨gs, 0, none⟩ = some (I a) := HP.out.cell 0 0 rfl rfl
          have hr : Int.tmod (m + 1) 2 = 1 := by rw [Int.tmod_eq_emod_of_nonneg (by omega)]; omega
          go_wp2_with (first | (refine Row.wpList_load_g 23 _ rfl (by first | rfl | go_simp) ⟨gx, 0, none⟩ rfl p.cells _ (by have := Row.lies_of_block (HP.out.at 1 rfl); simpa using this) Try.underlying23 rfl infoP ?_) | (refine Row.wpList_load_g 25 _ rfl (by first | rfl | go_simp) ⟨gs, 0, none⟩ rfl [I a, I b', I c'] _ (by have := Row.lies_of_block (HP.out.at 0 rfl); simpa using this) Try.underlying25 rfl infoTn ?_))
          refine (F4.out _).mono ?_
          rintro e v6 ⟨rfl, b6⟩
          have HQ := Lib.hid (HP.out.step b6)
          clear b6 HP k3 k4 k5 s0
          have k3 : v6.cell? ⟨gx, 3, none⟩ = some (I p.max) := HQ.out.cell 1 3 rfl rfl
          have k4 : v6.cell? ⟨gx, 4, none⟩ = some (I p.top) := HQ.out.cell 1 4 rfl rfl
          go_wp2
          go_roundw
          case rel => exact ⟨q + 1, m + 1, a, b', c', by omega, by go_num, rfl, Lib.hid (by have := IV.out; rwa [← HM2.out] at this), HQ.out⟩
          case measure => simp [intOf]; omega
        · have HM2 : Hid ((m + 1) = m') := Lib.hid (by rw [← HM.out]; unfold nx; rw [if_neg (by omega)])
          obtain rfl : a = l' := by rw [← HL.out]; unfold wn; rw [if_neg (by rw [← HM2.out]; omega)]
          have d1 : ¬ a < p.max := by omega
          have d2 : ¬ p.top < a := by omega
          clear HL HM HBQ
          have hd : decide ((q : Int) > 0) = false := decide_eq_false (by omega)
          have kq : ∀ r : QB.By v4.heap.size v4, r.world.cell? (x.add q) = some (.bool true) := fun r => Arg.one_below HZ.out (A0.out.trans ((HE.out.by r).bel.mono A0.out.size))
          (try dsimp only [Act.put])
          refine QB.region_below v4.heap.size (by kernel_rfl) (by kernel_rfl) ?_
          repeat (go_big_quiet_step (fail))
          refine wpQuiet_nil ?_
          intro _ hw'
          obtain ⟨pq, rfl⟩ := hw'
          have HP := Lib.hid (HE.out.by pq)
          have hz := kq pq
          clear kq 
          generalize pq.world = v5 at HP hz ⊢
          have k3 : v5.cell? ⟨gx, 3, none⟩ = some (I p.max) := HP.out.cell 1 3 rfl rfl
          have k4 : v5.cell? ⟨gx, 4, none⟩ = some (I p.top) := HP.out.cell 1 4 rfl rfl
          have k5 : v5.cell? ⟨gx, 5, none⟩ = some (I p.step) := HP.out.cell 1 5 rfl rfl
          have s0 : v5.cell? ⟨gs, 0, none⟩ = some (I a) := HP.out.cell 0 0 rfl rfl
          have hr : Int.tmod (m + 1) 2 = 1 := by rw [Int.tmod_eq_emod_of_nonneg (by omega)]; omega
          go_wp2_with (first | (refine Row.wpList_load_g 23 _ rfl (by first | rfl | go_simp) ⟨gx, 0, none⟩ rfl p.cells _ (by have := Row.lies_of_block (HP.out.at 1 rfl); simpa using this) Try.underlying23 rfl infoP ?_) | (refine Row.wpList_load_g 25 _ rfl (by first | rfl | go_simp) ⟨gs, 0, none⟩ rfl [I a, I b', I c'] _ (by have := Row.lies_of_block (HP.out.at 0 rfl); simpa using this) Try.underlying25 rfl infoTn ?_))
          refine (F4.out _).mono ?_
          rintro e v6 ⟨rfl, b6⟩
          have HQ := Lib.hid (HP.out.step b6)
          clear b6 HP k3 k4 k5 s0
          have k3 : v6.cell? ⟨gx, 3, none⟩ = some (I p.max) := HQ.out.cell 1 3 rfl rfl
          have k4 : v6.cell? ⟨gx, 4, none⟩ = some (I p.top) := HQ.out.cell 1 4 rfl rfl
          go_wp2
          go_roundw
          case rel => exact ⟨q + 1, m + 1, a, b', c', by omega, by go_num, rfl, Lib.hid (by have := IV.out; rwa [← HM2.out] at this), HQ.out⟩
          case measure => simp [intOf]; omega
    · obtain rfl : q = len := by omega
      have lz := HI.out.1
      have ly := HI.out.2.1
      have F4 : Hid (∀ W, Calls Try.prog 10 #[.agg p.cells.toArray, .agg #[I a, I b, I c]] W fun e w' => e = .returned (.int .i64 a) ∧ Below W.heap.size W w') := Lib.hid (fun W => by have := lim_any p a b c W; rwa [lm_in lz ly] at this)
      clear lz ly HI
      have s0 : ∀ r : QB.By wr.heap.size wr, r.world.cell? ⟨gs, 0, none⟩ = some (I a) := fun r => (HB.out.by r).cell 0 0 rfl rfl
      go_upto_region 22 with fail
      refine QB.region_below wr.heap.size (by kernel_rfl) (by kernel_rfl) ?_
      repeat first
        | (refine wpQuiet_load rfl 23 _ rfl ⟨gx, 0, none⟩ rfl p.cells _ (fun w' ⟨p, e⟩ => by rw [e]; have := Row.lies_of_block ((HB.out.by p).at 1 rfl); simpa using this) Try.underlying23 rfl infoP ?_
           dsimp only [Act.put]
           simp only [List.setIfInBounds_toArray, List.set_cons_zero, List.set_cons_succ])
        | (refine wpQuiet_load rfl 25 _ rfl ⟨gs, 0, none⟩ rfl [I a, I b, I c] _ (fun w' ⟨p, e⟩ => by rw [e]; have := Row.lies_of_block ((HB.out.by p).at 0 rfl); simpa using this) Try.underlying25 rfl infoTn ?_
           dsimp only [Act.put]
           simp only [List.setIfInBounds_toArray, List.set_cons_zero, List.set_cons_succ])
        | (quiet_step (first
            | (go_at_call 10; with_reducible exact QB.call_of (Nat.le_refl _) (fun b => F4.out _))
            | (go_at_call 12; with_reducible exact QB.call_of (Nat.le_refl _) (fun b => awake_any _))); try simp only [beq_self_eq_true])
      refine wpQuiet_nil ?_
      intro _ hw'
      obtain ⟨pq, rfl⟩ := hw'
      have HP := Lib.hid (HB.out.by pq)
      go_wp2
      go_ret
      exact ⟨rfl, A0.out.trans (HP.out.bel.mono A0.out.size)⟩
/-! ### the row's step -/
theorem lifted (os : Os) (started : os.Started) (H : Type) (enc : TypeId × Value → H) :
    ReturnsInHanded {} Try.checked os 5 .any (Rows.gapBoundsSpec.pre6 enc Try.prog Try.f5 Rows.gapBoundsRow.domain false) (Rows.gapBoundsSpec.post enc Try.prog Try.f5 false true false false) := by
  refine returnsInHanded_of_change (C := Try.checked) own started (by kernel_rfl) Try.func5
    (ChangeSpec.witness6 (enc := enc) (C := Try.checked) false ⟨#[], #[.slice none 0 0, .int .i64 0, .slice none 0 0], []⟩ 8 (by kernel_rfl) (by kernel_rfl) (by kernel_rfl) (by kernel_rfl)) ?_
  intro W base args ds gs before hval0 hW hcnd _
  have hval : ∀ (j : Nat) t v, Try.f5.params[j]? = some t → args[j]? = some v → Value.okWide Try.prog W .any base t v := hval0
  have hW' := hW
  obtain ⟨p, q, hA0, hV, rfl, hfz, hnd⟩ := hW
  have hA : DataW.TrodAll enc Try.prog W 0 (fun _ => true) true Try.f5.params.toList args.toList ds p := hA0
  rw [Try.params5] at hA hval
  obtain ⟨v0, vs0, d0, ds0, p0, q0, hargs, rfl, rfl, h0, r0⟩ := trodAll_cons hA
  obtain ⟨v1, vs1, d1, ds1, p1, q1, rfl, rfl, rfl, h1, r1⟩ := trodAll_cons r0
  obtain ⟨v2, vs2, d2, ds2, p2, q2, rfl, rfl, rfl, h2, r2⟩ := trodAll_cons r1
  obtain ⟨rfl, rfl, rfl⟩ := trodAll_nil r2
  obtain rfl : args = #[v0, v1, v2] := by cases args; simp_all
  obtain ⟨rfl, rfl⟩ := trodVars_none hV
  obtain ⟨a0, len0, cap0, rfl⟩ := okWide_slice Try.underlying35 (hval 0 35 v0 rfl rfl)
  have k0 := h0
  have lt0 : ∀ x ∈ p0, x.block < W.heap.size := by obtain ⟨m, hm⟩ := k0; exact DataW.trod_lt m _ _ _ hm
  obtain ⟨z0, w0⟩ : ∃ zs, IsRow .i64 W a0 len0 cap0 zs := by
    obtain ⟨fuel, hf⟩ := h0
    rcases open_ints Try.underlying35 Try.underlying3 (by kernel_rfl) hf with ⟨hcs, _⟩ | ⟨x, l, c, zs, hcs, _, hl, hm, hz, _, hcell, hwz⟩
    · simp [Value.cells] at hcs
      obtain ⟨rfl, rfl, rfl⟩ := hcs
      exact ⟨[], .inl ⟨rfl, rfl, rfl, rfl⟩⟩
    · simp [Value.cells] at hcs
      obtain ⟨rfl, rfl, rfl⟩ := hcs
      exact ⟨zs, .inr ⟨_, rfl, hl, hm, by simpa using hz, hcell, hwz⟩⟩
  obtain ⟨a1, rfl, rfl, rfl, w1⟩ := open_int Try.underlying3 (hval 1 3 v1 rfl rfl) h1
  obtain ⟨a2, len2, cap2, rfl⟩ := okWide_slice Try.underlying31 (hval 2 31 v2 rfl rfl)
  have k2 := h2
  have lt2 : ∀ x ∈ p2, x.block < W.heap.size := by obtain ⟨m, hm⟩ := k2; exact DataW.trod_lt m _ _ _ hm
  obtain ⟨s2, l2, e2, w2⟩ : ∃ (s : Tab.Sl) (l : List Bool), Value.slice a2 len2 cap2 = s.val l.length ∧ Tab.RowOf 1 (fun b : Bool => [Value.bool b]) W s l := by
    obtain ⟨fuel, hf⟩ := h2
    obtain ⟨s, l, e, r, _⟩ := TabArg.tr_row (k := 1) (f := (fun b : Bool => [Value.bool b])) (p := fun _ => True) Try.underlying31 (by kernel_rfl) (fun n cs x hx => by obtain ⟨z, hz, _⟩ := DataW.trod_bool Try.underlying4 hx; exact ⟨z, hz, trivial⟩) ⟨fuel, _, hf⟩
    exact ⟨s, l, e, r⟩
  simp only [Tab.Sl.val, Value.slice.injEq] at e2
  obtain ⟨rfl, rfl, rfl⟩ := e2
  clear hA0 hval0
  refine (walk a0 len0 cap0 z0 a1 s2 l2 W w0 w1 w2).mono fun e W' ⟨he, bel⟩ => ?_
  subst he
  exact ⟨_, rfl, _, _, _, [], _, [], hW', trodAll_mk1 (shut_bool Try.underlying4 _), (trodAll_cons_mk (Below.trod laidOut (by kernel_rfl) (of_decide_eq_true (by kernel_rfl)) k0 bel lt0) (trodAll_cons_mk (shut_int Try.underlying3 w1) (trodAll_cons_mk (Below.trod laidOut (by kernel_rfl) (of_decide_eq_true (by kernel_rfl)) k2 bel lt2) trodAll_mk0))), rfl, bel.frame _, fun h => by cases h⟩
theorem over : Rows.gapBoundsRow.holds Try.pinned (OpenSpec.ofChange Rows.gapBoundsSpec) :=
  OpenClaim.holds_of_wide 5 Try.f5 rfl rfl rfl rfl rfl rfl rfl ⟨rfl, rfl, rfl, rfl, rfl⟩ rfl rfl rfl rfl rfl (by kernel_rfl) Try.func5 (by kernel_rfl)
    (of_decide_eq_true (by kernel_rfl)) (by unfold Func.isWrapper; first | (rw [if_pos (by decide +kernel)]; kernel_rfl) | (rw [if_neg (by decide +kernel)]; exact ⟨rfl, rfl⟩))
    (fun os started H enc _ => lifted os started H enc)
/-- the statement -/
theorem proved : Rows.GapBoundsSaid :=
  over
#print axioms proved
end gapBounds
end Go.Proofs.Ytldmmobgmfllkaa
