/- BoundSerial returns true at any numbers: each waits as long as all of its crossing take, and its own group once more. No condition. -/
import Derived.Test.YtjolhoilcibdfaaGreatRows
import Derived.Test.YtjolhoilcibdfaaGreatPart07
import Derived.Test.YtjolhoilcibdfaaGreatPart11
import Derived.Test.YtjolhoilcibdfaaGreatPart12
import Derived.Test.YtjolhoilcibdfaaGreatPart09
import Derived.Test.YtjolhoilcibdfaaGreatPart03
import Derived.Deep.Cut
import Derived.LoopTactic
import Derived.WalkKit
import Derived.WalkLawsBesides
import Derived.ProofKit
import Derived.OpenShut
import Derived.ShutString
import Derived.ChangeOld
import Derived.Below
set_option linter.unusedVariables false
set_option linter.unusedSimpArgs false
set_option linter.unusedSectionVars false
namespace Go.Proofs.YtjolhoilcibdfaaGreat.boundSerial
open Go.ChangeShapes Go.WideShapes Go.ChangeAt Go.RowKit
open Tab PlaceM PlanM OnS GenT GenG WaitS FreeS EntryS OverS PassS ServeS BdQ
open May (infoT)
set_option linter.unusedVariables false
set_option linter.unusedSimpArgs false

theorem own : ownKnob Tryz.prog.godebug = none := by kernel_rfl
theorem laidOut : laidOutB Tryz.prog = true := by kernel_rfl

/-- WHAT THE WALK IS TOLD OF A SLICE OF INTEGERS THAT CAME IN: it is nil; or it leads to a row of 'cap' cells, the numbers 'zs' (the first 'len' are its elements, the rest its spare room), each fitting its kind. -/
def IsRow (k : IntKind) (w : World) (a : Option Addr) (len cap : Nat) (zs : List Int) : Prop :=
  (a = none ∧ len = 0 ∧ cap = 0 ∧ zs = []) ∨
  ∃ x, a = some x ∧ len ≤ cap ∧ cap ≤ maxLen ∧ zs.length = cap ∧ (∀ i, i < zs.length → w.cell? (x.add i) = some (.int k (zs.getD i 0))) ∧ ∀ n ∈ zs, (Lit.int k n).wf = true

theorem isRow_int {w : World} {a : Option Addr} {len cap : Nat} {zs : List Int} (h : IsRow .i64 w a len cap zs) : (zs.take len).length = len ∧ Tab.IntRow w ⟨a, cap⟩ (zs.take len) := by
  rcases h with ⟨rfl, rfl, rfl, rfl⟩ | ⟨x, rfl, h1, h2, h3, h4, _⟩
  · exact ⟨rfl, .inl ⟨rfl, rfl, rfl⟩⟩
  · have hl : (zs.take len).length = len := by rw [List.length_take]; omega
    refine ⟨hl, .inr ⟨x, rfl, by rw [hl]; exact h1, h2, fun i v hv j u hu => ?_⟩⟩
    have hi : i < len := by have := (List.getElem?_eq_some_iff.1 hv).1; omega
    match j, hu with
    | 0, hu =>
      simp at hu
      subst hu
      rw [List.getElem?_take, if_pos hi] at hv
      have := h4 i (by omega)
      rw [List.getD_eq_getElem?_getD, hv] at this
      rw [Nat.mul_one, Tab.add_two, Nat.add_zero]
      exact this
    | j + 1, hu => simp at hu
theorem infoS : (Tryz.prog.info? 55).map (·.size) = some 4 := by kernel_rfl

/-! ### the walk -/
set_option maxRecDepth 10000 in
set_option maxHeartbeats 8000000 in
theorem walk (a0 : Option Addr) (len0 cap0 : Nat) (z0 : List Int) (a1 : Int) (a2 : Int) (w : World) (w0 : IsRow .i64 w a0 len0 cap0 z0) (w1 : (Lit.int .i64 a1).wf = true) (w2 : (Lit.int .i64 a2).wf = true) :
    Calls Tryz.prog 10 #[.slice a0 len0 cap0, .int .i64 a1, .int .i64 a2] w fun e w' => e = .returned (.bool true) ∧ Below w.heap.size w w' := by
  obtain ⟨hlen, hrow⟩ := isRow_int w0
  obtain ⟨L, hL⟩ : ∃ L, L = z0.take len0 := ⟨_, rfl⟩
  rw [← hL] at hlen hrow
  clear hL w0
  subst hlen
  have hz := (zero_of_info GenT.infoTz).1
  have hZs : (Clone.zTab.cells Clone.zHd).length = 131 := rfl
  generalize hZ : GenT.zTab.cells GenT.zHd = Z at *
  have ZS : Z.toArray.size = 131 := by rw [← hZ]; rfl
  clear hZ hZs
  have G8 := Lib.hid (GenT.genTab_few L)
  have GL := Lib.hid (BdX.gen_lo L)
  have A0 : Hid (Below w.heap.size w w) := Lib.hid (Below.refl _ _)
  go_enter Tryz.func10, Tryz.ntmps10
  go_wp2_with fail
  refine (GenT.table_any a0 cap0 L w hrow).mono ?_
  rintro e u0 ⟨hd, rfl, ht, hb⟩
  have CS := GenT.cells_cut hd ht.ph ht.cf ht.fl
  have ON := (cells_ok ht).one
  have HT0 := Lib.hid ht
  have B0 : Hid (Below w.heap.size w u0) := Lib.hid (A0.out.trans (hb.mono A0.out.size))
  have IA : Hid ((Tryz.prog.info? 32).map (·.size) = some ((genTab L).cells hd).length) := Lib.hid (by rw [CS]; exact infoT)
  clear hb ht
  generalize hc : (genTab L).cells hd = c at *
  have HC := Lib.hid hc
  clear hc
  go_upto_region 2 with (refine Row.wpList_store_new rfl 32 _ _ rfl u0 Z.toArray c.toArray rfl rfl rfl (by rw [List.size_toArray]; exact IA.out) (by rw [ZS, List.size_toArray, CS]) ON ?_)
  have hb2 : Hid (Below u0.heap.size u0 (u0.alloc (.cells c.toArray 32))) := Lib.hid ((Below.refl _ _).alloc (Nat.le_refl _) _)
  have KX : Hid (Kx.Kx u0 u0.heap.size hd (genTab L) (u0.alloc (.cells c.toArray 32))) := Lib.hid ⟨hb2.out, Nat.le_refl _, by rw [HC.out]; exact heap_alloc_new u0 _, HT0.out⟩
  generalize u0.alloc (.cells c.toArray 32) = u at hb2 KX ⊢
  clear HT0 hrow hz ZS A0 hb2
  go_wp2_with fail
  refine (RefS.place_any a1 8 _ (by decide) (by decide)).mono ?_
  rintro e w' ⟨rfl, rfl⟩
  obtain ⟨k, ek, k8⟩ : ∃ k : Nat, a1 % 8 = (k : Int) ∧ k < 8 := ⟨(a1 % 8).toNat, by omega, by omega⟩
  rw [ek]
  clear ek
  go_wp2_with fail
  refine (RefS.place_any a2 8 _ (by decide) (by decide)).mono ?_
  rintro e w' ⟨rfl, rfl⟩
  obtain ⟨j, ej, j8⟩ : ∃ k : Nat, a2 % 8 = (k : Int) ∧ k < 8 := ⟨(a2 % 8).toNat, by omega, by omega⟩
  rw [ej]
  clear ej
  clear w1 w2
  have C0 : Hid (Below w.heap.size w u) := Lib.hid (B0.out.trans (KX.out.bel.mono B0.out.size))
  have HW0 : Hid (∀ p : Int, SetM.has (onS (genTab L) : Nat) p = true → ∃ x, where_ (genTab L) p = some x) := Lib.hid (fun p h => BdX.has_where h)
  clear B0
  generalize genTab L = T at *
  generalize u0.heap.size = tb at *
  obtain ⟨pa, ha⟩ : ∃ x, T.phases[k]? = some x := ⟨_, List.getElem?_eq_getElem (by rw [GL.out.h8]; exact k8)⟩
  obtain ⟨pb, hb⟩ : ∃ x, T.phases[j]? = some x := ⟨_, List.getElem?_eq_getElem (by rw [GL.out.h8]; exact j8)⟩
  have ca : u.cell? ⟨tb, k * 13, none⟩ = some (.bool pa.on) := by have := Ky.cell_at KX.out ha (j := 0) (by omega); rw [Nat.add_zero] at this; exact this
  have cb : u.cell? ⟨tb, j * 13, none⟩ = some (.bool pb.on) := by have := Ky.cell_at KX.out hb (j := 0) (by omega); rw [Nat.add_zero] at this; exact this
  have oa : Hid (SetM.has (onS T : Nat) (k : Nat) = pa.on) := Lib.hid (by rw [ChkX.has_on GL.out.h8 (by omega) (by omega)]; unfold ChkM.phAt; rw [Int.toNat_natCast, List.getD_eq_getElem?_getD, ha]; rfl)
  have ob : Hid (SetM.has (onS T : Nat) (j : Nat) = pb.on) := Lib.hid (by rw [ChkX.has_on GL.out.h8 (by omega) (by omega)]; unfold ChkM.phAt; rw [Int.toNat_natCast, List.getD_eq_getElem?_getD, hb]; rfl)
  have ki : (k : Int) < 8 := by omega
  have ji : (j : Int) < 8 := by omega
  have LTU : Hid (∀ W, Below u.heap.size u W → Lies W ⟨tb, 0, none⟩ c) := Lib.hid (fun W hb => by have := (KX.out.step hb).lies; rwa [HC.out] at this)
  have FC : Hid (∀ (p : Int) W, Below u.heap.size u W → Calls Tryz.prog 29 #[.agg c.toArray, .int .i64 p] W fun e w' => e = .returned (.int .i64 (freeS T p)) ∧ Below W.heap.size W w') := Lib.hid (fun p W hb => by rw [← HC.out]; exact BdF.pfree_any T hd p W (KX.out.step hb).isTab G8.out)
  have SC : Hid (∀ (p : Int) W, Below u.heap.size u W → Calls Tryz.prog 25 #[.agg c.toArray, .int .i64 p] W fun e w' => e = .returned (.int .i64 (serveS T p)) ∧ Below W.heap.size W w') := Lib.hid (fun p W hb => by rw [← HC.out]; exact BdV.pserve_any T hd p W (KX.out.step hb).isTab)
  have PC : Hid (∀ (g : Int) W, Below u.heap.size u W → Calls Tryz.prog 27 #[.agg c.toArray, .int .i64 g] W fun e w' => e = .returned (.int .i64 (passS T g)) ∧ Below W.heap.size W w') := Lib.hid (fun g W hb => by rw [← HC.out]; exact BdP.ppass_any T hd g W (KX.out.step hb).isTab G8.out)
  have WC : Hid (∀ (p : Int) W, Below u.heap.size u W → Calls Tryz.prog 35 #[.agg c.toArray, .int .i64 p] W fun e w' => e = .returned (.int .i64 (waitS T p)) ∧ Below W.heap.size W w') := Lib.hid (fun p W hb => by rw [← HC.out]; exact BdW.pwait_any T hd p W (KX.out.step hb).isTab G8.out)
  have HR : Hid (∀ (p : Int) x W, where_ T p = some x → Below u.heap.size u W → Calls Tryz.prog 39 #[.agg c.toArray, .int .i64 p] W fun e w' => e = .returned (.tuple #[.agg #[I x.g, I x.k, I x.i, I x.p], .bool true]) ∧ Below W.heap.size W w') := Lib.hid (fun p x W hx hb => by have := Where.where_any T hd p W (KX.out.step hb).isTab G8.out; rw [hx, HC.out] at this; exact this)
  obtain ⟨⟨ga, gc⟩, hg⟩ : ∃ x, x = hd.g := ⟨_, rfl⟩
  have QG : Hid (∀ W, Below u.heap.size u W → W.cell? ⟨tb, 104, none⟩ = some (.slice ga T.groups.length gc)) := Lib.hid (fun W hb => by
    rw [(KX.out.step hb).cell, ← List.getElem?_toArray, (cells_ok KX.out.tab).g, ← hg])
  clear hg ha hb KX k8 j8 CS ON
  cases hpa : pa.on with
  | false =>
    rw [hpa] at ca
    clear hpa
    have F8 : Hid (freeS T 8 = 0) := Lib.hid (BdX.free_eight T)
    go_upto_region 5 with fail
    clear ca cb
    go_wp2_with (refine Row.wpList_load_g 32 _ rfl (by first | rfl | go_simp) ⟨tb, 0, none⟩ rfl c _ (LTU.out _ (Below.refl _ _)) Tryz.underlying32 rfl IA.out ?_)
    refine (FC.out _ _ (Below.refl _ _)).mono ?_
    rintro e u1 ⟨rfl, hb⟩
    have C1 := Lib.hid (C0.out.trans (hb.mono C0.out.size))
    rw [F8.out]
    clear hb
    go_wp2_with fail
    refine (Wa10.awake_any _).mono ?_
    rintro e u2 ⟨rfl, hb⟩
    have C2 := Lib.hid (C1.out.trans (hb.mono C1.out.size))
    clear hb
    go_wp2
    go_ret
    exact ⟨rfl, C2.out⟩
  | true =>
  cases hpb : pb.on with
  | false =>
    rw [hpa] at ca
    rw [hpb] at cb
    clear hpa hpb
    have F8 : Hid (freeS T 8 = 0) := Lib.hid (BdX.free_eight T)
    go_upto_region 5 with fail
    clear ca cb
    go_wp2_with (refine Row.wpList_load_g 32 _ rfl (by first | rfl | go_simp) ⟨tb, 0, none⟩ rfl c _ (LTU.out _ (Below.refl _ _)) Tryz.underlying32 rfl IA.out ?_)
    refine (FC.out _ _ (Below.refl _ _)).mono ?_
    rintro e u1 ⟨rfl, hb⟩
    have C1 := Lib.hid (C0.out.trans (hb.mono C0.out.size))
    rw [F8.out]
    clear hb
    go_wp2_with fail
    refine (Wa10.awake_any _).mono ?_
    rintro e u2 ⟨rfl, hb⟩
    have C2 := Lib.hid (C1.out.trans (hb.mono C1.out.size))
    clear hb
    go_wp2
    go_ret
    exact ⟨rfl, C2.out⟩
  | true =>
  rw [hpa] at ca oa
  rw [hpb] at cb ob
  clear hpa hpb
  obtain ⟨x, hx⟩ := HW0.out _ oa.out
  obtain ⟨y, hy⟩ := HW0.out _ ob.out
  have FV := Lib.hid (free_val GL.out hx oa.out)
  have F2 := Lib.hid (free_two GL.out hx oa.out)
  have WF := Lib.hid (wait_free GL.out (k : Int))
  have AL : Hid (x.g = y.g → waitS T (k : Int) = waitS T (j : Int)) := Lib.hid (fun e => BdX.alike GL.out hx hy oa.out ob.out e)
  have HX := Lib.hid (fun W => HR.out _ x W hx)
  have HY := Lib.hid (fun W => HR.out _ y W hy)
  have SB := Lib.hid (serve_le GL.out (k : Int))
  have PB := Lib.hid (fun g => pass_le GL.out g)
  have UB : Hid (∀ q, q ≤ T.groups.length → 0 ≤ BdM.tot (upL T q) ∧ BdM.tot (upL T q) ≤ 720048) := Lib.hid (fun q hq => up_le GL.out hq)
  have US : Hid (∀ q, BdM.tot (upL T (q + 1)) = BdM.tot (upL T q) + passS T q) := Lib.hid (up_tot GL.out)
  have U0 : Hid (BdM.tot (upL T 0) = 0) := Lib.hid rfl
  have NG := Lib.hid GL.out.gr
  clear hx hy HR HW0 oa ob GL G8 HC
  generalize hut : (fun q => BdM.tot (upL T q)) = ut
  have HU : Hid (∀ q, BdM.tot (upL T q) = ut q) := Lib.hid (fun q => by rw [← hut])
  clear hut
  have UB2 : Hid (∀ q, q ≤ T.groups.length → 0 ≤ ut q ∧ ut q ≤ 720048) := Lib.hid (fun q hq => by rw [← HU.out]; exact UB.out q hq)
  have US2 : Hid (∀ q, ut (q + 1) = ut q + passS T q) := Lib.hid (fun q => by rw [← HU.out, ← HU.out]; exact US.out q)
  have FV2 : Hid (freeS T (k : Int) = ut T.groups.length + passS T x.g) := Lib.hid (by rw [← HU.out]; exact FV.out)
  have U02 : Hid ((0 : Int) = ut 0) := Lib.hid (by rw [← HU.out]; exact U0.out.symm)
  clear UB US FV U0 HU
  generalize T.groups.length = n at *
  generalize passS T = pS at *
  have FCk := Lib.hid (fun W => FC.out (k : Int) W)
  have SCk := Lib.hid (fun W => SC.out (k : Int) W)
  have WCk := Lib.hid (fun W => WC.out (k : Int) W)
  have WCj := Lib.hid (fun W => WC.out (j : Int) W)
  clear FC SC WC
  generalize freeS T (k : Int) = fr at *
  generalize serveS T (k : Int) = se at *
  generalize waitS T (k : Int) = wk at *
  generalize waitS T (j : Int) = wj at *
  go_upto_region 6 with fail
  clear ca cb
  go_wp2_with (refine Row.wpList_load_g 32 _ rfl (by first | rfl | go_simp) ⟨tb, 0, none⟩ rfl c _ (LTU.out _ (Below.refl u.heap.size u)) Tryz.underlying32 rfl IA.out ?_)
  refine (HX.out _ (Below.refl u.heap.size u)).mono ?_
  rintro e xaw ⟨rfl, hb⟩
  have xaB : Hid (Below u.heap.size u (xaw.alloc (.cells #[I x.g, I x.k, I x.i, I x.p] 55))) := Lib.hid (((Below.refl u.heap.size u).trans (hb.mono (Below.refl u.heap.size u).size)).alloc ((Below.refl u.heap.size u).trans (hb.mono (Below.refl u.heap.size u).size)).size _)
  have xaK := Lib.hid (heap_alloc_new xaw (.cells #[I x.g, I x.k, I x.i, I x.p] 55))
  have xaD : Hid (Below u.heap.size u (xaw.alloc (.cells #[I x.g, I x.k, I x.i, I x.p] 55))) := Lib.hid (hb.alloc hb.size _)
  clear hb
  go_upto_region 7 with (refine Row.wpList_store_new rfl 55 _ _ rfl xaw _ #[I x.g, I x.k, I x.i, I x.p] rfl rfl rfl infoS rfl (by simp [Value.oneCell']) ?_)
  generalize xaw.alloc (.cells #[I x.g, I x.k, I x.i, I x.p] 55) = u1 at xaB xaK xaD ⊢
  generalize xaw.heap.size = xas at xaK ⊢
  go_wp2_with (refine Row.wpList_load_g 32 _ rfl (by first | rfl | go_simp) ⟨tb, 0, none⟩ rfl c _ (LTU.out _ xaB.out) Tryz.underlying32 rfl IA.out ?_)
  refine (HY.out _ xaB.out).mono ?_
  rintro e yaw ⟨rfl, hb⟩
  have yaB : Hid (Below u.heap.size u (yaw.alloc (.cells #[I y.g, I y.k, I y.i, I y.p] 55))) := Lib.hid ((xaB.out.trans (hb.mono xaB.out.size)).alloc (xaB.out.trans (hb.mono xaB.out.size)).size _)
  have yaK := Lib.hid (heap_alloc_new yaw (.cells #[I y.g, I y.k, I y.i, I y.p] 55))
  have yaD : Hid (Below u1.heap.size u1 (yaw.alloc (.cells #[I y.g, I y.k, I y.i, I y.p] 55))) := Lib.hid (hb.alloc hb.size _)
  clear hb
  go_upto_region 8 with (refine Row.wpList_store_new rfl 55 _ _ rfl yaw _ #[I y.g, I y.k, I y.i, I y.p] rfl rfl rfl infoS rfl (by simp [Value.oneCell']) ?_)
  generalize yaw.alloc (.cells #[I y.g, I y.k, I y.i, I y.p] 55) = u2 at yaB yaK yaD ⊢
  generalize yaw.heap.size = yas at yaK ⊢
  have SX : Hid (∀ W, Below u2.heap.size u2 W → W.cell? ⟨xas, 0, none⟩ = some (I x.g)) := Lib.hid (fun W hb => by
    have h1 := (yaD.out.block _ (Array.getElem?_eq_some_iff.1 xaK.out).1).trans xaK.out
    have h2 := (hb.block _ (Array.getElem?_eq_some_iff.1 h1).1).trans h1
    rw [cell_of_row _ _ _ _ _ _ h2]; rfl)
  have SY : Hid (∀ W, Below u2.heap.size u2 W → W.cell? ⟨yas, 0, none⟩ = some (I y.g)) := Lib.hid (fun W hb => by
    have h2 := (hb.block _ (Array.getElem?_eq_some_iff.1 yaK.out).1).trans yaK.out
    rw [cell_of_row _ _ _ _ _ _ h2]; rfl)
  clear xaB xaK xaD yaK yaD HX HY
  have C2 := Lib.hid (C0.out.trans (yaB.out.mono C0.out.size))
  have DU : Hid (∀ W, Below u2.heap.size u2 W → Below u.heap.size u W) := Lib.hid (fun W hb => yaB.out.trans (hb.mono yaB.out.size))
  clear yaB C0
  go_wp2_with fail
  go_loopw [14, 15] (fun v i wr => ∃ q : Nat, q ≤ n ∧ i = .int .i64 q ∧ v = .int .i64 (ut q) ∧ Below u2.heap.size u2 wr) (fun _ i _ => n - (intOf i).toNat)
  case atStart => exact ⟨0, by omega, rfl, by rw [← U02.out], Below.refl _ _⟩
  case round =>
    obtain ⟨q, hq, rfl, rfl, hB⟩ := hrel
    have HB := Lib.hid hB
    clear hB
    have qg := QG.out _ (DU.out _ HB.out)
    by_cases hlt : q < n
    · have HL := Lib.hid hlt
      go_upto_region 12 with fail
      clear qg
      have LTW := Lib.hid (LTU.out _ (DU.out _ HB.out))
      have HS := Lib.hid (US2.out q)
      have PCq := Lib.hid (PC.out (q : Nat) _ (DU.out _ HB.out))
      have pb := PB.out (q : Nat)
      have ub := UB2.out q hq
      generalize pS (q : Nat) = pq at HS PCq pb
      have ew : IntKind.i64.wrap (ut q + pq) = ut q + pq := by rw [IntKind.wrap_i64]; omega
      go_wp2_with (refine Row.wpList_load_g 32 _ rfl (by first | rfl | go_simp) ⟨tb, 0, none⟩ rfl c _ LTW.out Tryz.underlying32 rfl IA.out ?_)
      refine PCq.out.mono ?_
      rintro e u5 ⟨rfl, hb⟩
      have HB5 := Lib.hid (HB.out.trans (hb.mono HB.out.size))
      clear hb LTW PCq pb ub
      have ng := NG.out
      have hl := HL.out
      go_wp2
      go_roundw
      case rel => exact ⟨q + 1, by have := HL.out; omega, by go_num, by rw [HS.out], HB5.out⟩
      case measure => simp [intOf]; have := HL.out; omega
    · obtain rfl : q = n := by omega
      go_upto_region 13 with fail
      clear qg hlt hq
      have LTW : Hid (∀ w', Below wr.heap.size wr w' → Lies w' ⟨tb, 0, none⟩ c) := Lib.hid (fun w' hb => LTU.out _ (DU.out _ (HB.out.trans (hb.mono HB.out.size))))
      have CX : Hid (∀ w', Below wr.heap.size wr w' → w'.cell? ⟨xas, 0, none⟩ = some (I x.g)) := Lib.hid (fun w' hb => SX.out _ (HB.out.trans (hb.mono HB.out.size)))
      have DW : Hid (∀ w', Below wr.heap.size wr w' → Below u.heap.size u w') := Lib.hid (fun w' hb => DU.out _ (HB.out.trans (hb.mono HB.out.size)))
      have PCx := Lib.hid (fun W => PC.out (x.g : Nat) W)
      have pb := PB.out (x.g : Nat)
      have ub := UB2.out q (Nat.le_refl _)
      have sb := SB.out
      have f2 := F2.out
      have fv := FV2.out
      generalize pS (x.g : Nat) = px at PCx pb fv
      generalize ut q = uq at ub fv ⊢
      have EW : Hid (IntKind.i64.wrap (uq + px) = uq + px) := Lib.hid (by rw [IntKind.wrap_i64]; omega)
      have EW2 : Hid (IntKind.i64.wrap (2 * se) = 2 * se) := Lib.hid (by rw [IntKind.wrap_i64]; omega)
      have EQ1 : Hid ((fr == uq + px) = true) := Lib.hid (by rw [fv]; simp)
      have EQ2 : Hid (decide (fr ≥ 2 * se) = true) := Lib.hid (decide_eq_true f2)
      clear pb ub sb f2 fv
      refine wp_region_held (S := fun w' => Below wr.heap.size wr w') (by kernel_rfl) ?_
      have hS : Below wr.heap.size wr { wr with drawn := wr.drawn + 1 } := (Below.refl _ _).drew
      generalize ({ wr with drawn := wr.drawn + 1 } : World) = v at hS ⊢
      refine Held.take_load (i := 0) (some 68) rfl 32 (.tmp 7) ⟨tb, 0, none⟩ c _ rfl rfl (by kernel_rfl) (by kernel_rfl) (by kernel_rfl) (fun _ _ _ h => h) (by rfl) hS rfl (fun w' hw' => LTW.out w' hw') Tryz.underlying32 rfl IA.out ?_
      (try dsimp only [Act.put]); (try simp only [List.setIfInBounds_toArray, List.set_cons_zero, List.set_cons_succ])
      refine Held.take (i := 1) (some 69) rfl (v := ?_) rfl (by kernel_rfl) (by kernel_rfl) (by kernel_rfl) (fun _ _ _ h => h) (Or.inl ⟨by rfl, ?_⟩) hS ?_
      rotate_left
      · intro w' hw'
        go_simp
        try with_reducible rfl
      (try dsimp only [Act.put]); (try simp only [List.setIfInBounds_toArray, List.set_cons_zero, List.set_cons_succ])
      refine Held.take (i := 3) (some 71) rfl (v := ?_) rfl (by kernel_rfl) (by kernel_rfl) (by kernel_rfl) (fun _ _ _ h => h) (Or.inl ⟨by rfl, ?_⟩) hS ?_
      rotate_left
      · intro w' hw'
        go_simp
        try with_reducible rfl
      (try dsimp only [Act.put]); (try simp only [List.setIfInBounds_toArray, List.set_cons_zero, List.set_cons_succ])
      refine Held.take_load (i := 4) (some 72) rfl 32 (.tmp 7) ⟨tb, 0, none⟩ c _ rfl rfl (by kernel_rfl) (by kernel_rfl) (by kernel_rfl) (fun _ _ _ h => h) (by rfl) hS rfl (fun w' hw' => LTW.out w' hw') Tryz.underlying32 rfl IA.out ?_
      (try dsimp only [Act.put]); (try simp only [List.setIfInBounds_toArray, List.set_cons_zero, List.set_cons_succ])
      refine Held.take (i := 5) (some 73) rfl (v := ?_) rfl (by kernel_rfl) (by kernel_rfl) (by kernel_rfl) (fun _ _ _ h => h) (Or.inl ⟨by rfl, ?_⟩) hS ?_
      rotate_left
      · intro w' hw'
        go_simp
        try with_reducible rfl
      (try dsimp only [Act.put]); (try simp only [List.setIfInBounds_toArray, List.set_cons_zero, List.set_cons_succ])
      refine Held.take (i := 6) (some 74) rfl (v := ?_) rfl (by kernel_rfl) (by kernel_rfl) (by kernel_rfl) (fun _ _ _ h => h) (Or.inl ⟨by rfl, ?_⟩) hS ?_
      rotate_left
      · intro w' hw'
        have cf := CX.out w' hw'
        go_simp
        try with_reducible rfl
      (try dsimp only [Act.put]); (try simp only [List.setIfInBounds_toArray, List.set_cons_zero, List.set_cons_succ])
      refine wpAnyH_ready (rs := [2]) (by kernel_rfl) (by simp) (AllReadyH.cons rfl (fun K hK => ?_) AllReadyH.nil)
      go_simp
      refine (FCk.out _ (DW.out _ hS)).mono ?_
      rintro e w' ⟨rfl, hb⟩
      have hq := hS.trans (hb.mono hS.size)
      clear hS hb
      rename World => v
      go_simp
      refine hK.out _ _ hq (fun hS => ?_)
      clear hK K hq
      refine wpAnyH_ready (rs := [7]) (by kernel_rfl) (by simp) (AllReadyH.cons rfl (fun K hK => ?_) AllReadyH.nil)
      go_simp
      refine (PCx.out _ (DW.out _ hS)).mono ?_
      rintro e w' ⟨rfl, hb⟩
      have hq := hS.trans (hb.mono hS.size)
      clear hS hb
      rename World => v
      go_simp
      refine hK.out _ _ hq (fun hS => ?_)
      clear hK K hq
      refine Held.take (i := 8) (some 76) rfl (v := .int .i64 (uq + px)) rfl (by kernel_rfl) (by kernel_rfl) (by kernel_rfl) (fun _ _ _ h => h) (Or.inl ⟨by rfl, ?_⟩) hS ?_
      · intro w' hw'
        have ew := EW.out
        go_simp
        try with_reducible rfl
      (try dsimp only [Act.put]); (try simp only [List.setIfInBounds_toArray, List.set_cons_zero, List.set_cons_succ])
      refine Held.take (i := 9) (some 77) rfl (v := .bool true) rfl (by kernel_rfl) (by kernel_rfl) (by kernel_rfl) (fun _ _ _ h => h) (Or.inl ⟨by rfl, ?_⟩) hS ?_
      · intro w' hw'
        have eq := EQ1.out
        go_simp
        try with_reducible rfl
      (try dsimp only [Act.put]); (try simp only [List.setIfInBounds_toArray, List.set_cons_zero, List.set_cons_succ])
      refine Held.take (i := 10) (some 78) rfl (v := .bool true) rfl (by kernel_rfl) (by kernel_rfl) (by kernel_rfl) (fun _ _ _ h => h) (Or.inl ⟨by rfl, ?_⟩) hS ?_
      · intro w' hw'
        go_simp
        try with_reducible rfl
      (try dsimp only [Act.put]); (try simp only [List.setIfInBounds_toArray, List.set_cons_zero, List.set_cons_succ])
      refine Held.take_load (i := 11) (some 79) rfl 32 (.tmp 7) ⟨tb, 0, none⟩ c _ rfl rfl (by kernel_rfl) (by kernel_rfl) (by kernel_rfl) (fun _ _ _ h => h) (by rfl) hS rfl (fun w' hw' => LTW.out w' hw') Tryz.underlying32 rfl IA.out ?_
      (try dsimp only [Act.put]); (try simp only [List.setIfInBounds_toArray, List.set_cons_zero, List.set_cons_succ])
      refine Held.take (i := 12) (some 80) rfl (v := ?_) rfl (by kernel_rfl) (by kernel_rfl) (by kernel_rfl) (fun _ _ _ h => h) (Or.inl ⟨by rfl, ?_⟩) hS ?_
      rotate_left
      · intro w' hw'
        go_simp
        try with_reducible rfl
      (try dsimp only [Act.put]); (try simp only [List.setIfInBounds_toArray, List.set_cons_zero, List.set_cons_succ])
      refine Held.take_load (i := 14) (some 82) rfl 32 (.tmp 7) ⟨tb, 0, none⟩ c _ rfl rfl (by kernel_rfl) (by kernel_rfl) (by kernel_rfl) (fun _ _ _ h => h) (by rfl) hS rfl (fun w' hw' => LTW.out w' hw') Tryz.underlying32 rfl IA.out ?_
      (try dsimp only [Act.put]); (try simp only [List.setIfInBounds_toArray, List.set_cons_zero, List.set_cons_succ])
      refine Held.take (i := 15) (some 83) rfl (v := ?_) rfl (by kernel_rfl) (by kernel_rfl) (by kernel_rfl) (fun _ _ _ h => h) (Or.inl ⟨by rfl, ?_⟩) hS ?_
      rotate_left
      · intro w' hw'
        go_simp
        try with_reducible rfl
      (try dsimp only [Act.put]); (try simp only [List.setIfInBounds_toArray, List.set_cons_zero, List.set_cons_succ])
      refine wpAnyH_ready (rs := [13]) (by kernel_rfl) (by simp) (AllReadyH.cons rfl (fun K hK => ?_) AllReadyH.nil)
      go_simp
      refine (FCk.out _ (DW.out _ hS)).mono ?_
      rintro e w' ⟨rfl, hb⟩
      have hq := hS.trans (hb.mono hS.size)
      clear hS hb
      rename World => v
      go_simp
      refine hK.out _ _ hq (fun hS => ?_)
      clear hK K hq
      refine wpAnyH_ready (rs := [16]) (by kernel_rfl) (by simp) (AllReadyH.cons rfl (fun K hK => ?_) AllReadyH.nil)
      go_simp
      refine (SCk.out _ (DW.out _ hS)).mono ?_
      rintro e w' ⟨rfl, hb⟩
      have hq := hS.trans (hb.mono hS.size)
      clear hS hb
      rename World => v
      go_simp
      refine hK.out _ _ hq (fun hS => ?_)
      clear hK K hq
      refine Held.take (i := 17) (some 85) rfl (v := .int .i64 (2 * se)) rfl (by kernel_rfl) (by kernel_rfl) (by kernel_rfl) (fun _ _ _ h => h) (Or.inl ⟨by rfl, ?_⟩) hS ?_
      · intro w' hw'
        have ew := EW2.out
        go_simp
        try with_reducible rfl
      (try dsimp only [Act.put]); (try simp only [List.setIfInBounds_toArray, List.set_cons_zero, List.set_cons_succ])
      refine Held.take (i := 18) (some 86) rfl (v := .bool true) rfl (by kernel_rfl) (by kernel_rfl) (by kernel_rfl) (fun _ _ _ h => h) (Or.inl ⟨by rfl, ?_⟩) hS ?_
      · intro w' hw'
        have eq := of_decide_eq_true EQ2.out
        go_simp
        try with_reducible rfl
      (try dsimp only [Act.put]); (try simp only [List.setIfInBounds_toArray, List.set_cons_zero, List.set_cons_succ])
      refine Held.take (i := 19) (some 87) rfl (v := .bool true) rfl (by kernel_rfl) (by kernel_rfl) (by kernel_rfl) (fun _ _ _ h => h) (Or.inl ⟨by rfl, ?_⟩) hS ?_
      · intro w' hw'
        go_simp
        try with_reducible rfl
      (try dsimp only [Act.put]); (try simp only [List.setIfInBounds_toArray, List.set_cons_zero, List.set_cons_succ])
      refine Held.take (i := 20) (some 16) rfl (v := .bool true) rfl (by kernel_rfl) (by kernel_rfl) (by kernel_rfl) (fun _ _ _ h => h) (Or.inl ⟨by rfl, ?_⟩) hS ?_
      · intro w' hw'
        go_simp
        try with_reducible rfl
      (try dsimp only [Act.put]); (try simp only [List.setIfInBounds_toArray, List.set_cons_zero, List.set_cons_succ])
      refine wpAnyH_done (by kernel_rfl) ?_ _
      have HV := Lib.hid (HB.out.trans (hS.mono HB.out.size))
      clear hS EW EW2 EQ1 EQ2 PCx LTW CX DW HB
      go_upto_region 14 with fail
      have LTW : Hid (∀ w', Below v.heap.size v w' → Lies w' ⟨tb, 0, none⟩ c) := Lib.hid (fun w' hb => LTU.out _ (DU.out _ (HV.out.trans (hb.mono HV.out.size))))
      have CX : Hid (∀ w', Below v.heap.size v w' → w'.cell? ⟨xas, 0, none⟩ = some (I x.g)) := Lib.hid (fun w' hb => SX.out _ (HV.out.trans (hb.mono HV.out.size)))
      have CY : Hid (∀ w', Below v.heap.size v w' → w'.cell? ⟨yas, 0, none⟩ = some (I y.g)) := Lib.hid (fun w' hb => SY.out _ (HV.out.trans (hb.mono HV.out.size)))
      have DW : Hid (∀ w', Below v.heap.size v w' → Below u.heap.size u w') := Lib.hid (fun w' hb => DU.out _ (HV.out.trans (hb.mono HV.out.size)))
      generalize x.g = xg at *
      generalize y.g = yg at *
      by_cases hxy : xg = yg
      · have EQ := Lib.hid (AL.out hxy)
        have NQ : Hid (((xg : Int) != (yg : Int)) = false) := Lib.hid (by rw [hxy]; simp)
        clear hxy
        refine wp_region_held (S := fun w' => Below v.heap.size v w') (by kernel_rfl) ?_
        have hS : Below v.heap.size v { v with drawn := v.drawn + 1 } := (Below.refl _ _).drew
        generalize ({ v with drawn := v.drawn + 1 } : World) = z at hS ⊢
        refine Held.take (i := 0) (some 88) rfl (v := ?_) rfl (by kernel_rfl) (by kernel_rfl) (by kernel_rfl) (fun _ _ _ h => h) (Or.inl ⟨by rfl, ?_⟩) hS ?_
        rotate_left
        · intro w' hw'
          go_simp
          try with_reducible rfl
        (try dsimp only [Act.put]); (try simp only [List.setIfInBounds_toArray, List.set_cons_zero, List.set_cons_succ])
        refine Held.take (i := 1) (some 89) rfl (v := ?_) rfl (by kernel_rfl) (by kernel_rfl) (by kernel_rfl) (fun _ _ _ h => h) (Or.inl ⟨by rfl, ?_⟩) hS ?_
        rotate_left
        · intro w' hw'
          have cf := CX.out w' hw'
          go_simp
          try with_reducible rfl
        (try dsimp only [Act.put]); (try simp only [List.setIfInBounds_toArray, List.set_cons_zero, List.set_cons_succ])
        refine Held.take (i := 2) (some 90) rfl (v := ?_) rfl (by kernel_rfl) (by kernel_rfl) (by kernel_rfl) (fun _ _ _ h => h) (Or.inl ⟨by rfl, ?_⟩) hS ?_
        rotate_left
        · intro w' hw'
          go_simp
          try with_reducible rfl
        (try dsimp only [Act.put]); (try simp only [List.setIfInBounds_toArray, List.set_cons_zero, List.set_cons_succ])
        refine Held.take (i := 3) (some 91) rfl (v := ?_) rfl (by kernel_rfl) (by kernel_rfl) (by kernel_rfl) (fun _ _ _ h => h) (Or.inl ⟨by rfl, ?_⟩) hS ?_
        rotate_left
        · intro w' hw'
          have cf := CY.out w' hw'
          go_simp
          try with_reducible rfl
        (try dsimp only [Act.put]); (try simp only [List.setIfInBounds_toArray, List.set_cons_zero, List.set_cons_succ])
        refine Held.take (i := 4) (some 92) rfl (v := .bool false) rfl (by kernel_rfl) (by kernel_rfl) (by kernel_rfl) (fun _ _ _ h => h) (Or.inl ⟨by rfl, ?_⟩) hS ?_
        · intro w' hw'
          have nq := NQ.out
          go_simp
          try with_reducible rfl
        (try dsimp only [Act.put]); (try simp only [List.setIfInBounds_toArray, List.set_cons_zero, List.set_cons_succ])
        refine Held.take (i := 5) (some 93) rfl (v := .bool false) rfl (by kernel_rfl) (by kernel_rfl) (by kernel_rfl) (fun _ _ _ h => h) (Or.inl ⟨by rfl, ?_⟩) hS ?_
        · intro w' hw'
          go_simp
          try with_reducible rfl
        (try dsimp only [Act.put]); (try simp only [List.setIfInBounds_toArray, List.set_cons_zero, List.set_cons_succ])
        refine Held.take_load (i := 6) (some 94) rfl 32 (.tmp 7) ⟨tb, 0, none⟩ c _ rfl rfl (by kernel_rfl) (by kernel_rfl) (by kernel_rfl) (fun _ _ _ h => h) (by rfl) hS rfl (fun w' hw' => LTW.out w' hw') Tryz.underlying32 rfl IA.out ?_
        (try dsimp only [Act.put]); (try simp only [List.setIfInBounds_toArray, List.set_cons_zero, List.set_cons_succ])
        refine Held.take (i := 7) (some 95) rfl (v := ?_) rfl (by kernel_rfl) (by kernel_rfl) (by kernel_rfl) (fun _ _ _ h => h) (Or.inl ⟨by rfl, ?_⟩) hS ?_
        rotate_left
        · intro w' hw'
          go_simp
          try with_reducible rfl
        (try dsimp only [Act.put]); (try simp only [List.setIfInBounds_toArray, List.set_cons_zero, List.set_cons_succ])
        refine Held.take_load (i := 9) (some 97) rfl 32 (.tmp 7) ⟨tb, 0, none⟩ c _ rfl rfl (by kernel_rfl) (by kernel_rfl) (by kernel_rfl) (fun _ _ _ h => h) (by rfl) hS rfl (fun w' hw' => LTW.out w' hw') Tryz.underlying32 rfl IA.out ?_
        (try dsimp only [Act.put]); (try simp only [List.setIfInBounds_toArray, List.set_cons_zero, List.set_cons_succ])
        refine Held.take (i := 10) (some 98) rfl (v := ?_) rfl (by kernel_rfl) (by kernel_rfl) (by kernel_rfl) (fun _ _ _ h => h) (Or.inl ⟨by rfl, ?_⟩) hS ?_
        rotate_left
        · intro w' hw'
          go_simp
          try with_reducible rfl
        (try dsimp only [Act.put]); (try simp only [List.setIfInBounds_toArray, List.set_cons_zero, List.set_cons_succ])
        refine wpAnyH_ready (rs := [8]) (by kernel_rfl) (by simp) (AllReadyH.cons rfl (fun K hK => ?_) AllReadyH.nil)
        go_simp
        refine (WCk.out _ (DW.out _ hS)).mono ?_
        rintro e w' ⟨rfl, hb⟩
        have hq := hS.trans (hb.mono hS.size)
        clear hS hb
        rename World => z
        go_simp
        refine hK.out _ _ hq (fun hS => ?_)
        clear hK K hq
        refine wpAnyH_ready (rs := [11]) (by kernel_rfl) (by simp) (AllReadyH.cons rfl (fun K hK => ?_) AllReadyH.nil)
        go_simp
        refine (WCj.out _ (DW.out _ hS)).mono ?_
        rintro e w' ⟨rfl, hb⟩
        have hq := hS.trans (hb.mono hS.size)
        clear hS hb
        rename World => z
        go_simp
        refine hK.out _ _ hq (fun hS => ?_)
        clear hK K hq
        refine Held.take (i := 12) (some 100) rfl (v := .bool true) rfl (by kernel_rfl) (by kernel_rfl) (by kernel_rfl) (fun _ _ _ h => h) (Or.inl ⟨by rfl, ?_⟩) hS ?_
        · intro w' hw'
          have nq := EQ.out
          go_simp
          try with_reducible rfl
        (try dsimp only [Act.put]); (try simp only [List.setIfInBounds_toArray, List.set_cons_zero, List.set_cons_succ])
        refine Held.take (i := 13) (some 101) rfl (v := .bool true) rfl (by kernel_rfl) (by kernel_rfl) (by kernel_rfl) (fun _ _ _ h => h) (Or.inl ⟨by rfl, ?_⟩) hS ?_
        · intro w' hw'
          go_simp
          try with_reducible rfl
        (try dsimp only [Act.put]); (try simp only [List.setIfInBounds_toArray, List.set_cons_zero, List.set_cons_succ])
        refine Held.take (i := 14) (some 17) rfl (v := .bool true) rfl (by kernel_rfl) (by kernel_rfl) (by kernel_rfl) (fun _ _ _ h => h) (Or.inl ⟨by rfl, ?_⟩) hS ?_
        · intro w' hw'
          go_simp
          try with_reducible rfl
        (try dsimp only [Act.put]); (try simp only [List.setIfInBounds_toArray, List.set_cons_zero, List.set_cons_succ])
        refine wpAnyH_done (by kernel_rfl) ?_ _
        have HZ := Lib.hid (HV.out.trans (hS.mono HV.out.size))
        clear hS LTW CX CY DW HV
        go_upto_region 15 with fail
        have LTW : Hid (∀ w', Below z.heap.size z w' → Lies w' ⟨tb, 0, none⟩ c) := Lib.hid (fun w' hb => LTU.out _ (DU.out _ (HZ.out.trans (hb.mono HZ.out.size))))
        have DW : Hid (∀ w', Below z.heap.size z w' → Below u.heap.size u w') := Lib.hid (fun w' hb => DU.out _ (HZ.out.trans (hb.mono HZ.out.size)))
        have EQ3 : Hid (decide (wk ≥ fr) = true) := Lib.hid (decide_eq_true WF.out)
        refine wp_region_held (S := fun w' => Below z.heap.size z w') (by kernel_rfl) ?_
        have hS : Below z.heap.size z { z with drawn := z.drawn + 1 } := (Below.refl _ _).drew
        generalize ({ z with drawn := z.drawn + 1 } : World) = v at hS ⊢
        refine Held.take (i := 0) (some 102) rfl (v := ?_) rfl (by kernel_rfl) (by kernel_rfl) (by kernel_rfl) (fun _ _ _ h => h) (Or.inl ⟨by rfl, ?_⟩) hS ?_
        rotate_left
        · intro w' hw'
          go_simp
          try with_reducible rfl
        (try dsimp only [Act.put]); (try simp only [List.setIfInBounds_toArray, List.set_cons_zero, List.set_cons_succ])
        refine Held.take (i := 1) (some 103) rfl (v := ?_) rfl (by kernel_rfl) (by kernel_rfl) (by kernel_rfl) (fun _ _ _ h => h) (Or.inl ⟨by rfl, ?_⟩) hS ?_
        rotate_left
        · intro w' hw'
          go_simp
          try with_reducible rfl
        (try dsimp only [Act.put]); (try simp only [List.setIfInBounds_toArray, List.set_cons_zero, List.set_cons_succ])
        refine Held.take (i := 2) (some 104) rfl (v := ?_) rfl (by kernel_rfl) (by kernel_rfl) (by kernel_rfl) (fun _ _ _ h => h) (Or.inl ⟨by rfl, ?_⟩) hS ?_
        rotate_left
        · intro w' hw'
          go_simp
          try with_reducible rfl
        (try dsimp only [Act.put]); (try simp only [List.setIfInBounds_toArray, List.set_cons_zero, List.set_cons_succ])
        refine Held.take (i := 3) (some 105) rfl (v := ?_) rfl (by kernel_rfl) (by kernel_rfl) (by kernel_rfl) (fun _ _ _ h => h) (Or.inl ⟨by rfl, ?_⟩) hS ?_
        rotate_left
        · intro w' hw'
          go_simp
          try with_reducible rfl
        (try dsimp only [Act.put]); (try simp only [List.setIfInBounds_toArray, List.set_cons_zero, List.set_cons_succ])
        refine Held.take (i := 4) (some 106) rfl (v := ?_) rfl (by kernel_rfl) (by kernel_rfl) (by kernel_rfl) (fun _ _ _ h => h) (Or.inl ⟨by rfl, ?_⟩) hS ?_
        rotate_left
        · intro w' hw'
          go_simp
          try with_reducible rfl
        (try dsimp only [Act.put]); (try simp only [List.setIfInBounds_toArray, List.set_cons_zero, List.set_cons_succ])
        refine Held.take_load (i := 5) (some 107) rfl 32 (.tmp 7) ⟨tb, 0, none⟩ c _ rfl rfl (by kernel_rfl) (by kernel_rfl) (by kernel_rfl) (fun _ _ _ h => h) (by rfl) hS rfl (fun w' hw' => LTW.out w' hw') Tryz.underlying32 rfl IA.out ?_
        (try dsimp only [Act.put]); (try simp only [List.setIfInBounds_toArray, List.set_cons_zero, List.set_cons_succ])
        refine Held.take (i := 6) (some 108) rfl (v := ?_) rfl (by kernel_rfl) (by kernel_rfl) (by kernel_rfl) (fun _ _ _ h => h) (Or.inl ⟨by rfl, ?_⟩) hS ?_
        rotate_left
        · intro w' hw'
          go_simp
          try with_reducible rfl
        (try dsimp only [Act.put]); (try simp only [List.setIfInBounds_toArray, List.set_cons_zero, List.set_cons_succ])
        refine Held.take_load (i := 8) (some 110) rfl 32 (.tmp 7) ⟨tb, 0, none⟩ c _ rfl rfl (by kernel_rfl) (by kernel_rfl) (by kernel_rfl) (fun _ _ _ h => h) (by rfl) hS rfl (fun w' hw' => LTW.out w' hw') Tryz.underlying32 rfl IA.out ?_
        (try dsimp only [Act.put]); (try simp only [List.setIfInBounds_toArray, List.set_cons_zero, List.set_cons_succ])
        refine Held.take (i := 9) (some 111) rfl (v := ?_) rfl (by kernel_rfl) (by kernel_rfl) (by kernel_rfl) (fun _ _ _ h => h) (Or.inl ⟨by rfl, ?_⟩) hS ?_
        rotate_left
        · intro w' hw'
          go_simp
          try with_reducible rfl
        (try dsimp only [Act.put]); (try simp only [List.setIfInBounds_toArray, List.set_cons_zero, List.set_cons_succ])
        refine wpAnyH_ready (rs := [7]) (by kernel_rfl) (by simp) (AllReadyH.cons rfl (fun K hK => ?_) AllReadyH.nil)
        go_simp
        refine (WCk.out _ (DW.out _ hS)).mono ?_
        rintro e w' ⟨rfl, hb⟩
        have hq := hS.trans (hb.mono hS.size)
        clear hS hb
        rename World => v
        go_simp
        refine hK.out _ _ hq (fun hS => ?_)
        clear hK K hq
        refine wpAnyH_ready (rs := [10]) (by kernel_rfl) (by simp) (AllReadyH.cons rfl (fun K hK => ?_) AllReadyH.nil)
        go_simp
        refine (FCk.out _ (DW.out _ hS)).mono ?_
        rintro e w' ⟨rfl, hb⟩
        have hq := hS.trans (hb.mono hS.size)
        clear hS hb
        rename World => v
        go_simp
        refine hK.out _ _ hq (fun hS => ?_)
        clear hK K hq
        refine Held.take (i := 11) (some 113) rfl (v := .bool true) rfl (by kernel_rfl) (by kernel_rfl) (by kernel_rfl) (fun _ _ _ h => h) (Or.inl ⟨by rfl, ?_⟩) hS ?_
        · intro w' hw'
          have eq := of_decide_eq_true EQ3.out
          go_simp
          try with_reducible rfl
        (try dsimp only [Act.put]); (try simp only [List.setIfInBounds_toArray, List.set_cons_zero, List.set_cons_succ])
        refine Held.take (i := 12) (some 114) rfl (v := .bool true) rfl (by kernel_rfl) (by kernel_rfl) (by kernel_rfl) (fun _ _ _ h => h) (Or.inl ⟨by rfl, ?_⟩) hS ?_
        · intro w' hw'
          go_simp
          try with_reducible rfl
        (try dsimp only [Act.put]); (try simp only [List.setIfInBounds_toArray, List.set_cons_zero, List.set_cons_succ])
        refine Held.take (i := 13) (some 115) rfl (v := .bool true) rfl (by kernel_rfl) (by kernel_rfl) (by kernel_rfl) (fun _ _ _ h => h) (Or.inl ⟨by rfl, ?_⟩) hS ?_
        · intro w' hw'
          go_simp
          try with_reducible rfl
        (try dsimp only [Act.put]); (try simp only [List.setIfInBounds_toArray, List.set_cons_zero, List.set_cons_succ])
        refine wpAnyH_ready (rs := [14]) (by kernel_rfl) (by simp) (AllReadyH.cons rfl (fun K hK => ?_) AllReadyH.nil)
        go_simp
        refine (Wa10.awake_any _).mono ?_
        rintro e w' ⟨rfl, hb⟩
        have hq := hS.trans (hb.mono hS.size)
        clear hS hb
        rename World => v
        go_simp
        refine hK.out _ _ hq (fun hS => ?_)
        clear hK K hq
        refine Held.take (i := 15) (some 117) rfl (v := .bool true) rfl (by kernel_rfl) (by kernel_rfl) (by kernel_rfl) (fun _ _ _ h => h) (Or.inl ⟨by rfl, ?_⟩) hS ?_
        · intro w' hw'
          go_simp
          try with_reducible rfl
        (try dsimp only [Act.put]); (try simp only [List.setIfInBounds_toArray, List.set_cons_zero, List.set_cons_succ])
        refine Held.take (i := 16) (some 6) rfl (v := .bool true) rfl (by kernel_rfl) (by kernel_rfl) (by kernel_rfl) (fun _ _ _ h => h) (Or.inl ⟨by rfl, ?_⟩) hS ?_
        · intro w' hw'
          go_simp
          try with_reducible rfl
        (try dsimp only [Act.put]); (try simp only [List.setIfInBounds_toArray, List.set_cons_zero, List.set_cons_succ])
        refine wpAnyH_done (by kernel_rfl) ?_ _
        have E := Lib.hid (C2.out.trans ((HZ.out.trans (hS.mono HZ.out.size)).mono C2.out.size))
        clear hS
        go_wp2
        go_ret
        exact ⟨rfl, E.out⟩
      · have NQ : Hid (((xg : Int) != (yg : Int)) = true) := Lib.hid (by simp; omega)
        clear hxy
        refine wp_region_held (S := fun w' => Below v.heap.size v w') (by kernel_rfl) ?_
        have hS : Below v.heap.size v { v with drawn := v.drawn + 1 } := (Below.refl _ _).drew
        generalize ({ v with drawn := v.drawn + 1 } : World) = z at hS ⊢
        refine Held.take (i := 0) (some 88) rfl (v := ?_) rfl (by kernel_rfl) (by kernel_rfl) (by kernel_rfl) (fun _ _ _ h => h) (Or.inl ⟨by rfl, ?_⟩) hS ?_
        rotate_left
        · intro w' hw'
          go_simp
          try with_reducible rfl
        (try dsimp only [Act.put]); (try simp only [List.setIfInBounds_toArray, List.set_cons_zero, List.set_cons_succ])
        refine Held.take (i := 1) (some 89) rfl (v := ?_) rfl (by kernel_rfl) (by kernel_rfl) (by kernel_rfl) (fun _ _ _ h => h) (Or.inl ⟨by rfl, ?_⟩) hS ?_
        rotate_left
        · intro w' hw'
          have cf := CX.out w' hw'
          go_simp
          try with_reducible rfl
        (try dsimp only [Act.put]); (try simp only [List.setIfInBounds_toArray, List.set_cons_zero, List.set_cons_succ])
        refine Held.take (i := 2) (some 90) rfl (v := ?_) rfl (by kernel_rfl) (by kernel_rfl) (by kernel_rfl) (fun _ _ _ h => h) (Or.inl ⟨by rfl, ?_⟩) hS ?_
        rotate_left
        · intro w' hw'
          go_simp
          try with_reducible rfl
        (try dsimp only [Act.put]); (try simp only [List.setIfInBounds_toArray, List.set_cons_zero, List.set_cons_succ])
        refine Held.take (i := 3) (some 91) rfl (v := ?_) rfl (by kernel_rfl) (by kernel_rfl) (by kernel_rfl) (fun _ _ _ h => h) (Or.inl ⟨by rfl, ?_⟩) hS ?_
        rotate_left
        · intro w' hw'
          have cf := CY.out w' hw'
          go_simp
          try with_reducible rfl
        (try dsimp only [Act.put]); (try simp only [List.setIfInBounds_toArray, List.set_cons_zero, List.set_cons_succ])
        refine Held.take (i := 4) (some 92) rfl (v := .bool true) rfl (by kernel_rfl) (by kernel_rfl) (by kernel_rfl) (fun _ _ _ h => h) (Or.inl ⟨by rfl, ?_⟩) hS ?_
        · intro w' hw'
          have nq := NQ.out
          go_simp
          try with_reducible rfl
        (try dsimp only [Act.put]); (try simp only [List.setIfInBounds_toArray, List.set_cons_zero, List.set_cons_succ])
        refine Held.take (i := 5) (some 93) rfl (v := .bool true) rfl (by kernel_rfl) (by kernel_rfl) (by kernel_rfl) (fun _ _ _ h => h) (Or.inl ⟨by rfl, ?_⟩) hS ?_
        · intro w' hw'
          go_simp
          try with_reducible rfl
        (try dsimp only [Act.put]); (try simp only [List.setIfInBounds_toArray, List.set_cons_zero, List.set_cons_succ])
        refine Held.take_skip (i := 6) (some 94) rfl rfl (by kernel_rfl) (by kernel_rfl) (by kernel_rfl) (fun _ _ _ h => h) (by rfl) hS ?_
        (try dsimp only [Act.put]); (try simp only [List.setIfInBounds_toArray, List.set_cons_zero, List.set_cons_succ])
        refine Held.take_skip (i := 7) (some 95) rfl rfl (by kernel_rfl) (by kernel_rfl) (by kernel_rfl) (fun _ _ _ h => h) (by rfl) hS ?_
        (try dsimp only [Act.put]); (try simp only [List.setIfInBounds_toArray, List.set_cons_zero, List.set_cons_succ])
        refine Held.take_skip (i := 8) (some 96) rfl rfl (by kernel_rfl) (by kernel_rfl) (by kernel_rfl) (fun _ _ _ h => h) (by rfl) hS ?_
        (try dsimp only [Act.put]); (try simp only [List.setIfInBounds_toArray, List.set_cons_zero, List.set_cons_succ])
        refine Held.take_skip (i := 9) (some 97) rfl rfl (by kernel_rfl) (by kernel_rfl) (by kernel_rfl) (fun _ _ _ h => h) (by rfl) hS ?_
        (try dsimp only [Act.put]); (try simp only [List.setIfInBounds_toArray, List.set_cons_zero, List.set_cons_succ])
        refine Held.take_skip (i := 10) (some 98) rfl rfl (by kernel_rfl) (by kernel_rfl) (by kernel_rfl) (fun _ _ _ h => h) (by rfl) hS ?_
        (try dsimp only [Act.put]); (try simp only [List.setIfInBounds_toArray, List.set_cons_zero, List.set_cons_succ])
        refine Held.take_skip (i := 11) (some 99) rfl rfl (by kernel_rfl) (by kernel_rfl) (by kernel_rfl) (fun _ _ _ h => h) (by rfl) hS ?_
        (try dsimp only [Act.put]); (try simp only [List.setIfInBounds_toArray, List.set_cons_zero, List.set_cons_succ])
        refine Held.take_skip (i := 12) (some 100) rfl rfl (by kernel_rfl) (by kernel_rfl) (by kernel_rfl) (fun _ _ _ h => h) (by rfl) hS ?_
        (try dsimp only [Act.put]); (try simp only [List.setIfInBounds_toArray, List.set_cons_zero, List.set_cons_succ])
        refine Held.take (i := 13) (some 101) rfl (v := .bool true) rfl (by kernel_rfl) (by kernel_rfl) (by kernel_rfl) (fun _ _ _ h => h) (Or.inl ⟨by rfl, ?_⟩) hS ?_
        · intro w' hw'
          go_simp
          try with_reducible rfl
        (try dsimp only [Act.put]); (try simp only [List.setIfInBounds_toArray, List.set_cons_zero, List.set_cons_succ])
        refine Held.take (i := 14) (some 17) rfl (v := .bool true) rfl (by kernel_rfl) (by kernel_rfl) (by kernel_rfl) (fun _ _ _ h => h) (Or.inl ⟨by rfl, ?_⟩) hS ?_
        · intro w' hw'
          go_simp
          try with_reducible rfl
        (try dsimp only [Act.put]); (try simp only [List.setIfInBounds_toArray, List.set_cons_zero, List.set_cons_succ])
        refine wpAnyH_done (by kernel_rfl) ?_ _
        have HZ := Lib.hid (HV.out.trans (hS.mono HV.out.size))
        clear hS LTW CX CY DW HV
        go_upto_region 15 with fail
        have LTW : Hid (∀ w', Below z.heap.size z w' → Lies w' ⟨tb, 0, none⟩ c) := Lib.hid (fun w' hb => LTU.out _ (DU.out _ (HZ.out.trans (hb.mono HZ.out.size))))
        have DW : Hid (∀ w', Below z.heap.size z w' → Below u.heap.size u w') := Lib.hid (fun w' hb => DU.out _ (HZ.out.trans (hb.mono HZ.out.size)))
        have EQ3 : Hid (decide (wk ≥ fr) = true) := Lib.hid (decide_eq_true WF.out)
        refine wp_region_held (S := fun w' => Below z.heap.size z w') (by kernel_rfl) ?_
        have hS : Below z.heap.size z { z with drawn := z.drawn + 1 } := (Below.refl _ _).drew
        generalize ({ z with drawn := z.drawn + 1 } : World) = v at hS ⊢
        refine Held.take (i := 0) (some 102) rfl (v := ?_) rfl (by kernel_rfl) (by kernel_rfl) (by kernel_rfl) (fun _ _ _ h => h) (Or.inl ⟨by rfl, ?_⟩) hS ?_
        rotate_left
        · intro w' hw'
          go_simp
          try with_reducible rfl
        (try dsimp only [Act.put]); (try simp only [List.setIfInBounds_toArray, List.set_cons_zero, List.set_cons_succ])
        refine Held.take (i := 1) (some 103) rfl (v := ?_) rfl (by kernel_rfl) (by kernel_rfl) (by kernel_rfl) (fun _ _ _ h => h) (Or.inl ⟨by rfl, ?_⟩) hS ?_
        rotate_left
        · intro w' hw'
          go_simp
          try with_reducible rfl
        (try dsimp only [Act.put]); (try simp only [List.setIfInBounds_toArray, List.set_cons_zero, List.set_cons_succ])
        refine Held.take (i := 2) (some 104) rfl (v := ?_) rfl (by kernel_rfl) (by kernel_rfl) (by kernel_rfl) (fun _ _ _ h => h) (Or.inl ⟨by rfl, ?_⟩) hS ?_
        rotate_left
        · intro w' hw'
          go_simp
          try with_reducible rfl
        (try dsimp only [Act.put]); (try simp only [List.setIfInBounds_toArray, List.set_cons_zero, List.set_cons_succ])
        refine Held.take (i := 3) (some 105) rfl (v := ?_) rfl (by kernel_rfl) (by kernel_rfl) (by kernel_rfl) (fun _ _ _ h => h) (Or.inl ⟨by rfl, ?_⟩) hS ?_
        rotate_left
        · intro w' hw'
          go_simp
          try with_reducible rfl
        (try dsimp only [Act.put]); (try simp only [List.setIfInBounds_toArray, List.set_cons_zero, List.set_cons_succ])
        refine Held.take (i := 4) (some 106) rfl (v := ?_) rfl (by kernel_rfl) (by kernel_rfl) (by kernel_rfl) (fun _ _ _ h => h) (Or.inl ⟨by rfl, ?_⟩) hS ?_
        rotate_left
        · intro w' hw'
          go_simp
          try with_reducible rfl
        (try dsimp only [Act.put]); (try simp only [List.setIfInBounds_toArray, List.set_cons_zero, List.set_cons_succ])
        refine Held.take_load (i := 5) (some 107) rfl 32 (.tmp 7) ⟨tb, 0, none⟩ c _ rfl rfl (by kernel_rfl) (by kernel_rfl) (by kernel_rfl) (fun _ _ _ h => h) (by rfl) hS rfl (fun w' hw' => LTW.out w' hw') Tryz.underlying32 rfl IA.out ?_
        (try dsimp only [Act.put]); (try simp only [List.setIfInBounds_toArray, List.set_cons_zero, List.set_cons_succ])
        refine Held.take (i := 6) (some 108) rfl (v := ?_) rfl (by kernel_rfl) (by kernel_rfl) (by kernel_rfl) (fun _ _ _ h => h) (Or.inl ⟨by rfl, ?_⟩) hS ?_
        rotate_left
        · intro w' hw'
          go_simp
          try with_reducible rfl
        (try dsimp only [Act.put]); (try simp only [List.setIfInBounds_toArray, List.set_cons_zero, List.set_cons_succ])
        refine Held.take_load (i := 8) (some 110) rfl 32 (.tmp 7) ⟨tb, 0, none⟩ c _ rfl rfl (by kernel_rfl) (by kernel_rfl) (by kernel_rfl) (fun _ _ _ h => h) (by rfl) hS rfl (fun w' hw' => LTW.out w' hw') Tryz.underlying32 rfl IA.out ?_
        (try dsimp only [Act.put]); (try simp only [List.setIfInBounds_toArray, List.set_cons_zero, List.set_cons_succ])
        refine Held.take (i := 9) (some 111) rfl (v := ?_) rfl (by kernel_rfl) (by kernel_rfl) (by kernel_rfl) (fun _ _ _ h => h) (Or.inl ⟨by rfl, ?_⟩) hS ?_
        rotate_left
        · intro w' hw'
          go_simp
          try with_reducible rfl
        (try dsimp only [Act.put]); (try simp only [List.setIfInBounds_toArray, List.set_cons_zero, List.set_cons_succ])
        refine wpAnyH_ready (rs := [7]) (by kernel_rfl) (by simp) (AllReadyH.cons rfl (fun K hK => ?_) AllReadyH.nil)
        go_simp
        refine (WCk.out _ (DW.out _ hS)).mono ?_
        rintro e w' ⟨rfl, hb⟩
        have hq := hS.trans (hb.mono hS.size)
        clear hS hb
        rename World => v
        go_simp
        refine hK.out _ _ hq (fun hS => ?_)
        clear hK K hq
        refine wpAnyH_ready (rs := [10]) (by kernel_rfl) (by simp) (AllReadyH.cons rfl (fun K hK => ?_) AllReadyH.nil)
        go_simp
        refine (FCk.out _ (DW.out _ hS)).mono ?_
        rintro e w' ⟨rfl, hb⟩
        have hq := hS.trans (hb.mono hS.size)
        clear hS hb
        rename World => v
        go_simp
        refine hK.out _ _ hq (fun hS => ?_)
        clear hK K hq
        refine Held.take (i := 11) (some 113) rfl (v := .bool true) rfl (by kernel_rfl) (by kernel_rfl) (by kernel_rfl) (fun _ _ _ h => h) (Or.inl ⟨by rfl, ?_⟩) hS ?_
        · intro w' hw'
          have eq := of_decide_eq_true EQ3.out
          go_simp
          try with_reducible rfl
        (try dsimp only [Act.put]); (try simp only [List.setIfInBounds_toArray, List.set_cons_zero, List.set_cons_succ])
        refine Held.take (i := 12) (some 114) rfl (v := .bool true) rfl (by kernel_rfl) (by kernel_rfl) (by kernel_rfl) (fun _ _ _ h => h) (Or.inl ⟨by rfl, ?_⟩) hS ?_
        · intro w' hw'
          go_simp
          try with_reducible rfl
        (try dsimp only [Act.put]); (try simp only [List.setIfInBounds_toArray, List.set_cons_zero, List.set_cons_succ])
        refine Held.take (i := 13) (some 115) rfl (v := .bool true) rfl (by kernel_rfl) (by kernel_rfl) (by kernel_rfl) (fun _ _ _ h => h) (Or.inl ⟨by rfl, ?_⟩) hS ?_
        · intro w' hw'
          go_simp
          try with_reducible rfl
        (try dsimp only [Act.put]); (try simp only [List.setIfInBounds_toArray, List.set_cons_zero, List.set_cons_succ])
        refine wpAnyH_ready (rs := [14]) (by kernel_rfl) (by simp) (AllReadyH.cons rfl (fun K hK => ?_) AllReadyH.nil)
        go_simp
        refine (Wa10.awake_any _).mono ?_
        rintro e w' ⟨rfl, hb⟩
        have hq := hS.trans (hb.mono hS.size)
        clear hS hb
        rename World => v
        go_simp
        refine hK.out _ _ hq (fun hS => ?_)
        clear hK K hq
        refine Held.take (i := 15) (some 117) rfl (v := .bool true) rfl (by kernel_rfl) (by kernel_rfl) (by kernel_rfl) (fun _ _ _ h => h) (Or.inl ⟨by rfl, ?_⟩) hS ?_
        · intro w' hw'
          go_simp
          try with_reducible rfl
        (try dsimp only [Act.put]); (try simp only [List.setIfInBounds_toArray, List.set_cons_zero, List.set_cons_succ])
        refine Held.take (i := 16) (some 6) rfl (v := .bool true) rfl (by kernel_rfl) (by kernel_rfl) (by kernel_rfl) (fun _ _ _ h => h) (Or.inl ⟨by rfl, ?_⟩) hS ?_
        · intro w' hw'
          go_simp
          try with_reducible rfl
        (try dsimp only [Act.put]); (try simp only [List.setIfInBounds_toArray, List.set_cons_zero, List.set_cons_succ])
        refine wpAnyH_done (by kernel_rfl) ?_ _
        have E := Lib.hid (C2.out.trans ((HZ.out.trans (hS.mono HZ.out.size)).mono C2.out.size))
        clear hS
        go_wp2
        go_ret
        exact ⟨rfl, E.out⟩

/-! ### the row's step -/
set_option maxRecDepth 100000 in
theorem lifted (os : Os) (started : os.Started) (H : Type) (enc : TypeId × Value → H) :
    ReturnsInHanded {} Tryz.checked os 10 .any (Rows.boundSerialSpec.pre6 enc Tryz.prog Tryz.f10 Rows.boundSerialRow.domain false) (Rows.boundSerialSpec.post enc Tryz.prog Tryz.f10 false true false false) := by
  refine returnsInHanded_of_change (C := Tryz.checked) own started (by kernel_rfl) Tryz.func10
    (ChangeSpec.witness6 (enc := enc) (C := Tryz.checked) false ⟨#[], #[.slice none 0 0, .int .i64 0, .int .i64 0], []⟩ 8 (by kernel_rfl) (by kernel_rfl) (by kernel_rfl) (by kernel_rfl)) ?_
  intro W base args ds gs before hval0 hW hcnd _
  have hval : ∀ (j : Nat) t v, Tryz.f10.params[j]? = some t → args[j]? = some v → Value.okWide Tryz.prog W .any base t v := hval0
  have hW' := hW
  obtain ⟨p, q, hA0, hV, rfl, hfz, hnd⟩ := hW
  have hA : DataW.TrodAll enc Tryz.prog W 0 (fun _ => true) true Tryz.f10.params.toList args.toList ds p := hA0
  rw [Tryz.params10] at hA hval
  obtain ⟨v0, vs0, d0, ds0, p0, q0, hargs, rfl, rfl, h0, r0⟩ := trodAll_cons hA
  obtain ⟨v1, vs1, d1, ds1, p1, q1, rfl, rfl, rfl, h1, r1⟩ := trodAll_cons r0
  obtain ⟨v2, vs2, d2, ds2, p2, q2, rfl, rfl, rfl, h2, r2⟩ := trodAll_cons r1
  obtain ⟨rfl, rfl, rfl⟩ := trodAll_nil r2
  obtain rfl : args = #[v0, v1, v2] := by cases args; simp_all
  obtain ⟨rfl, rfl⟩ := trodVars_none hV
  obtain ⟨a0, len0, cap0, rfl⟩ := okWide_slice Tryz.underlying22 (hval 0 22 v0 rfl rfl)
  have k0 := h0
  have lt0 : ∀ x ∈ p0, x.block < W.heap.size := by obtain ⟨m, hm⟩ := k0; exact DataW.trod_lt m _ _ _ hm
  obtain ⟨z0, w0⟩ : ∃ zs, IsRow .i64 W a0 len0 cap0 zs := by
    obtain ⟨fuel, hf⟩ := h0
    rcases open_ints Tryz.underlying22 Tryz.underlying3 (by kernel_rfl) hf with ⟨hcs, _⟩ | ⟨x, l, c, zs, hcs, _, hl, hm, hz, _, hcell, hwz⟩
    · simp [Value.cells] at hcs
      obtain ⟨rfl, rfl, rfl⟩ := hcs
      exact ⟨[], .inl ⟨rfl, rfl, rfl, rfl⟩⟩
    · simp [Value.cells] at hcs
      obtain ⟨rfl, rfl, rfl⟩ := hcs
      exact ⟨zs, .inr ⟨_, rfl, hl, hm, by simpa using hz, hcell, hwz⟩⟩
  obtain ⟨a1, rfl, rfl, rfl, w1⟩ := open_int Tryz.underlying3 (hval 1 3 v1 rfl rfl) h1
  obtain ⟨a2, rfl, rfl, rfl, w2⟩ := open_int Tryz.underlying3 (hval 2 3 v2 rfl rfl) h2
  clear hA0 hval0
  refine (walk a0 len0 cap0 z0 a1 a2 W w0 w1 w2).mono fun e W' ⟨he, bel⟩ => ?_
  subst he
  exact ⟨_, rfl, _, _, _, [], _, [], hW', trodAll_mk1 (shut_bool Tryz.underlying4 _), (trodAll_cons_mk (Below.trod laidOut (by kernel_rfl) (of_decide_eq_true (by kernel_rfl)) k0 bel lt0) (trodAll_cons_mk (shut_int Tryz.underlying3 w1) (trodAll_cons_mk (shut_int Tryz.underlying3 w2) trodAll_mk0))), rfl, bel.frame _, fun h => by cases h⟩

theorem over : Rows.boundSerialRow.holds Tryz.pinned (OpenSpec.ofChange Rows.boundSerialSpec) :=
  OpenClaim.holds_of_wide 10 Tryz.f10 rfl rfl rfl rfl rfl rfl rfl ⟨rfl, rfl, rfl, rfl, rfl⟩ rfl rfl rfl rfl rfl (by kernel_rfl) Tryz.func10 (by kernel_rfl)
    (of_decide_eq_true (by kernel_rfl)) (by unfold Func.isWrapper; first | (rw [if_pos (by decide +kernel)]; kernel_rfl) | (rw [if_neg (by decide +kernel)]; exact ⟨rfl, rfl⟩))
    (fun os started H enc _ => lifted os started H enc)

/-- the statement -/
theorem proved : Rows.BoundSerialSaid :=
  over
#print axioms proved
end Go.Proofs.YtjolhoilcibdfaaGreat.boundSerial
