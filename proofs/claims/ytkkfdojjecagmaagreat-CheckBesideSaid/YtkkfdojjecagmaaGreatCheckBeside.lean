/- CheckBeside returns true at any table, any numbers: where package check's Check finds no Fault, phases that stand beside each other do not conflict, conflicts are symmetric, each phase that is On stands once. No condition. -/
import Derived.Test.YtkkfdojjecagmaaGreatPart01
import Derived.Test.YtkkfdojjecagmaaGreatRows
import Derived.Test.YtkkfdojjecagmaaGreatPart06
import Derived.Test.YtkkfdojjecagmaaGreatPart08
import Derived.Test.YtkkfdojjecagmaaGreatPart09
import Derived.Test.YtkkfdojjecagmaaGreatPart03
import Derived.Test.YtkkfdojjecagmaaGreatPart04
import Derived.Deep.Cut
import Derived.LoopTactic
import Derived.WalkKit
import Derived.WalkLawsBesides
import Derived.ProofKit
import Derived.OpenShut
import Derived.ShutString
import Derived.ChangeOld
import Derived.Below
set_option linter.unusedVariables false
set_option linter.unusedSimpArgs false
set_option linter.unusedSectionVars false
set_option maxHeartbeats 8000000
set_option maxRecDepth 100000
namespace Go.Proofs.YtkkfdojjecagmaaGreat
namespace checkBeside
open Zip
open Go.ChangeShapes Go.WideShapes Go.ChangeAt Go.RowKit
open Tab PlaceM PlanM OnS ChkM GenT GenG
open May (infoT)
open RefS (row_of)
theorem own:ownKnob Tryz.prog.godebug=none:=by kernel_rfl
theorem laidOut:laidOutB Tryz.prog=true:=by kernel_rfl
def IsRow (k:IntKind) (w:World) (a:Option Addr) (len cap:Nat) (zs:List Int):Prop :=
 (a=none∧len=0∧cap=0∧zs=[]) ∨
 ∃ x,a=some x∧len≤cap∧cap≤maxLen∧zs.length=cap∧(∀ i,i < zs.length→w.cell? (x.add i)=some (.int k (zs.getD i 0)))∧∀ n ∈ zs,(Lit.int k n).wf=true
theorem isRow_int {w:World} {a:Option Addr} {len cap:Nat} {zs:List Int} (h:IsRow .i64 w a len cap zs):(zs.take len).length=len∧Tab.IntRow w ⟨a,cap⟩ (zs.take len):=by
 rcases h with ⟨rfl,rfl,rfl,rfl⟩ | ⟨x,rfl,h1,h2,h3,h4,_⟩
 ·exact ⟨rfl,.inl ⟨rfl,rfl,rfl⟩⟩
 ·have hl:(zs.take len).length=len:=by rw [List.length_take];omega
  refine ⟨hl,.inr ⟨x,rfl,by rw [hl];exact h1,h2,fun i v hv j u hu=>?_⟩⟩
  have hi:i < len:=by have:=(List.getElem?_eq_some_iff.1 hv).1;omega
  match j,hu with
  | 0,hu =>
   simp at hu
   subst hu
   rw [List.getElem?_take,if_pos hi] at hv
   have:=h4 i (by omega)
   rw [List.getD_eq_getElem?_getD,hv] at this
   rw [Nat.mul_one,Tab.add_two,Nat.add_zero]
   exact this
  | j+1,hu=>simp at hu
theorem few {T:Tab} (h:Light9.IsLight T):PlaceM.Few T:=by
 obtain ⟨h1,_,_,_,h5⟩:=h
 exact ⟨by omega,fun g hg=>by have:=h5 g hg;omega⟩
theorem tab_after {B:Nat} {W:World} {hd:Hd} {T:Tab} {tb:Nat} {old:Array Value} (h:IsTab W hd T) (o:Own3 B W hd T) (htb:tb < B) (hl:tb < W.heap.size) (hb:W.heap[tb]?=some (.cells old 31 (0,0))) (cs:Array Value):IsTab (W.setRow tb cs) hd T:=by
 have hg:=setRow_grown W tb cs hl
 have hne:∀ {e size:Nat} {v:Value} {n:Nat} {xs:List Value},W.ownsRow B e size v n xs→v.ownBlock=none∨v.ownBlock ≠ some tb:=fun h=>by
  rename_i v _ _
  cases hv:v.ownBlock with
  | none=>exact .inl rfl
  | some k =>
   refine .inr (fun e=>?_)
   have:=(h.lt k hv).1
   have:=Option.some.inj e
   omega
 exact ⟨h.ph,h.cf,h.fl,(o.groups.grown hg (fun m e=>by cases e;exact ⟨_,_,hb,by decide,by decide⟩)).lie,own_is (fun _=>rfl) (World.ownsRow.kept o.dets hg (hne o.dets)),own_is (fun _=>rfl) (World.ownsRow.kept o.rails hg (hne o.rails)),own_is (fun _=>rfl) (World.ownsRow.kept o.buses hg (hne o.buses))⟩
theorem walk (T0:Tab.Tab) (H0:Tab.Hd) (a1:Option Addr) (len1 cap1:Nat) (z1:List Int) (a2:Bool) (w:World) (w0:Tab.IsTab w H0 T0) (w1:IsRow .i64 w a1 len1 cap1 z1) :
  Calls Tryz.prog 9 #[.agg (T0.cells H0).toArray,.slice a1 len1 cap1,.bool a2] w fun e w'=>e=.returned (.bool true)∧Below w.heap.size w w':=by
 have K0:=hJJ w0
 obtain ⟨hlen,hrow⟩:=isRow_int w1
 obtain ⟨L,hL⟩:∃ L,L=z1.take len1:=⟨_,rfl⟩
 rw [← hL] at hlen hrow
 clear hL w1
 subst hlen
 have HROW:=hJJ hrow
 clear hrow
 have hz1:=(cells_ok w0).size
 have IA:Hid ((Tryz.prog.info? 31).map (·.size)=some (T0.cells H0).length):=hJJ (by rw [List.size_toArray] at hz1;rw [hz1];exact infoT)
 have L1:Hid (∀ W,Below w.heap.size w W→Calls Tryz.prog 22 #[.agg (T0.cells H0).toArray] W fun e w'=>e=.returned (.bool (decide (Light9.IsLight T0)))∧Below W.heap.size W w'):=hJJ (fun W hb=>Light9.light_any T0 H0 W (w0.below hb))
 have A0:Hid (Below w.heap.size w (w.alloc (.cells (T0.cells H0).toArray 31))):=hJJ ((Below.refl _ _).alloc (Nat.le_refl _) _)
 have A1:Hid (Lies (w.alloc (.cells (T0.cells H0).toArray 31)) ⟨w.heap.size,0,none⟩ (T0.cells H0)):=hJJ (Row.lies_new w _ _)
 clear w0
 generalize hc:T0.cells H0=c at *
 have HC0:=hJJ hc
 clear hc
 go_enter Tryz.func9,Tryz.ntmps9
 go_upto_region 1 with fail
 have BL0:=hJJ (heap_alloc_new w (.cells c.toArray 31))
 generalize w.alloc (.cells c.toArray 31)=u at A0 A1 BL0 ⊢
 clear hz1
 go_wp2_with (refine lgZ 31 ⟨w.heap.size,0,none⟩ c rfl A1.out Tryz.underlying31 IA.out ?_)
 refine (L1.out _ A0.out).mono ?_
 rintro e v0 ⟨rfl,hb⟩
 have BW:Hid (Below w.heap.size w v0):=hJJ (A0.out.trans (hb.mono A0.out.size))
 have BLK:=hJJ ((hb.block _ (Array.getElem?_eq_some_iff.1 BL0.out).1).trans BL0.out)
 clear hb A0 A1 BL0
 by_cases hl:Light9.IsLight T0
 rotate_left
 ·rw [decide_eq_false hl]
  clear hl
  go_wp2_with fail
  refine (Wa9.awake_any _).mono ?_
  rintro e u2 ⟨rfl,hb⟩
  have E:=hJJ (BW.out.trans (hb.mono BW.out.size))
  clear hb
  go_wp2
  go_ret
  exact ⟨rfl,E.out⟩
 rw [decide_eq_true hl]
 have SM:=hJJ (few hl)
 clear hl L1
 have TBs:=hJJ (Nat.le_refl w.heap.size)
 have IT0:Hid (IsTab v0 H0 T0):=hJJ (K0.out.below BW.out)
 cases a2 with
 | false =>
  clear HROW
  obtain ⟨T,hT⟩:∃ T,T=T0:=⟨_,rfl⟩
  obtain ⟨hd,hH⟩:∃ h,h=H0:=⟨_,rfl⟩
  rw [← hT] at IT0 HC0 SM
  rw [← hH] at IT0 HC0
  have IT:=IT0
  have HC:=HC0
  clear hT hH IT0 HC0 IA K0
  go_upto_region 5 with fail
  have LV:Hid (∀ W,Below v0.heap.size v0 W→Lies W ⟨w.heap.size,0,none⟩ c):=hJJ (fun W hb=>(Row.lies_of_block ((hb.block _ (Array.getElem?_eq_some_iff.1 BLK.out).1).trans BLK.out)))
  have IA:Hid ((Tryz.prog.info? 31).map (·.size)=some c.length):=hJJ (by rw [← HC.out,cells_cut hd IT.out.ph IT.out.cf IT.out.fl];exact infoT)
  have CK0:Hid (∀ W,Below v0.heap.size v0 W→Calls Tryz.prog 24 #[.agg c.toArray] W fun e w'=>e=.returned (.agg (fcells (chkC T)))∧Below W.heap.size W w'):=hJJ (fun W hb=>by rw [← HC.out];exact ChkK.check_any T hd W (IT.out.below hb))
  have SP:Hid (∀ W,Below v0.heap.size v0 W→Calls Tryz.prog 25 #[.agg c.toArray] W fun e w'=>∃ (sa:Option Addr) (sc:Nat),e=.returned (.slice sa (spots T).length sc)∧RowOf 4 Spt.cells w' ⟨sa,sc⟩ (spots T)∧Below W.heap.size W w'):=hJJ (fun W hb=>by rw [← HC.out];exact (Spots.spots_any T hd W (IT.out.below hb) SM.out).mono (by rintro e w' ⟨⟨sa,sc⟩,rfl,h1,h2⟩;exact ⟨sa,sc,rfl,h1,h2⟩))
  have CL:Hid (∀ p q W,Below v0.heap.size v0 W→0≤p∧p < 8→0≤q∧q < 8→Calls Tryz.prog 26 #[.agg c.toArray,.int .i64 p,.int .i64 q] W fun e w'=>e=.returned (.bool (SetM.has (cfAt T p) q || SetM.has (cfAt T q) p))∧Below W.heap.size W w'):=hJJ (fun p q W hb hp hq=>by rw [← HC.out];exact Lcl.lclash_any T hd p q W (IT.out.below hb) hp hq)
  have ONC:Hid (∀ W,Below v0.heap.size v0 W→Calls Tryz.prog 29 #[.agg c.toArray] W fun e w'=>e=.returned (.int .i64 (onS T:Nat))∧Below W.heap.size W w'):=hJJ (fun W hb=>by rw [← HC.out];exact OnS.on_any T hd W (IT.out.below hb))
  have CFC:Hid (∀ p W,0≤p∧p < 8→Below v0.heap.size v0 W→W.cell? ⟨w.heap.size,105+p.toNat,none⟩=some (I (cfAt T p))):=hJJ (fun p W hp hb=>by
   have h1:=LV.out W hb
   have h2:=(cells_ok IT.out).conflict
   have h3:((c.drop 105).take 8)[p.toNat]?=some (I (cfAt T p)):=by
    rw [← HC.out]
    have:((T.cells hd).drop 105).take 8=T.conflict.map I:=h2
    rw [this,List.getElem?_map]
    unfold cfAt
    rw [List.getD_eq_getElem?_getD,List.getElem?_eq_getElem (show p.toNat < T.conflict.length by rw [IT.out.cf];omega)];rfl
   rw [List.getElem?_take_of_lt (by omega),List.getElem?_drop] at h3
   have:=h1 (105+p.toNat) _ h3
   rwa [Addr.add_mid,Nat.zero_add] at this)
  obtain ⟨⟨f1,f2⟩,hf⟩:∃ x,chkC T=x:=⟨_,rfl⟩
  rw [hf] at CK0
  have CK:Hid (∀ W,Below v0.heap.size v0 W→Calls Tryz.prog 24 #[.agg c.toArray] W fun e w'=>e=.returned (.agg #[I f1,I f2])∧Below W.heap.size W w'):=hJJ CK0.out
  have EF:Hid (Same.Eqs 40 [I f1,I f2] [I 0,I 0] (decide (f1=0∧f2=0))):=hJJ (ChkK.fault_eqs f1 f2 0 0)
  have HF:=hJJ hf
  have SL:Hid ((spots T).length≤2000000):=hJJ (small_len SM.out.groups SM.out.rows)
  clear CK0 hf BLK IT HC SM
  go_wp2_with (refine lgZ 31 ⟨w.heap.size,0,none⟩ c rfl (LV.out _ (Below.refl _ _)) Tryz.underlying31 IA.out ?_)
  refine (CK.out _ (Below.refl _ _)).mono ?_
  rintro e v1 ⟨rfl,hb⟩
  have B1:=hJJ (BW.out.trans (hb.mono BW.out.size))
  have D1:=hJJ hb
  clear hb CK
  by_cases h0:f1=0∧f2=0
  rotate_left
  ·have EF2:Hid (Same.Eqs 40 [I f1,I f2] [I 0,I 0] false):=hJJ (by have:=EF.out;rwa [decide_eq_false h0] at this)
   clear EF h0 HF
   go_upto_region 6 with (refine Row.wpList_neq 40 _ _ _ rfl (by rfl) #[I f1,I f2] #[I 0,I 0] rfl rfl ChkK.guardF false EF2.out ?_)
   go_wp2_with fail
   refine (Wa9.awake_any _).mono ?_
   rintro e u2 ⟨rfl,hb⟩
   have E:=hJJ (B1.out.trans (hb.mono B1.out.size))
   clear hb
   go_wp2
   go_ret
   exact ⟨rfl,E.out⟩
  obtain ⟨rfl,rfl⟩:=h0
  have EF2:Hid (Same.Eqs 40 [I 0,I 0] [I 0,I 0] true):=hJJ (by have:=EF.out;rwa [decide_eq_true (by simp)] at this)
  have FI:=hJJ (Bes.fine HF.out)
  have CNT:Hid ((spots T).length=(SetM.list (onS T:Nat)).length):=hJJ FI.out.count
  have INJ:Hid (∀ (i k:Nat) x y,(spots T)[i]?=some x→(spots T)[k]?=some y→i ≠ k→(x.p == y.p)=false):=hJJ (fun i k x y hi hk hne=>by have:=FI.out.two hi hk hne;simpa using this)
  have SYM:Hid (∀ (i k:Nat) x y,(spots T)[i]?=some x→(spots T)[k]?=some y→(SetM.has (cfAt T x.p) y.p != SetM.has (cfAt T y.p) x.p)=false):=hJJ (fun i k x y hi hk=>by have:=FI.out.symm (List.mem_of_getElem? hi) (List.mem_of_getElem? hk);rw [this];simp)
  have CLA:Hid (∀ (i k:Nat) x y,(spots T)[i]?=some x→(spots T)[k]?=some y→x.g=y.g→x.k ≠ y.k→(SetM.has (cfAt T x.p) y.p || SetM.has (cfAt T y.p) x.p)=false):=hJJ (fun i k x y hi hk hg hr=>by have:=FI.out.clash (List.mem_of_getElem? hi) (List.mem_of_getElem? hk) hg hr;rw [this.1,this.2];rfl)
  have RNG:Hid (∀ (i:Nat) x,(spots T)[i]?=some x→0≤x.p∧x.p < 8):=hJJ (fun i x hi=>by obtain ⟨_,_,_,h⟩:=PlanM.mem_spots.1 (List.mem_of_getElem? hi);exact h)
  clear EF HF FI
  go_upto_region 7 with (refine Row.wpList_neq 40 _ _ _ rfl (by rfl) #[I 0,I 0] #[I 0,I 0] rfl rfl ChkK.guardF true EF2.out ?_)
  clear EF2
  go_wp2_with (refine lgZ 31 ⟨w.heap.size,0,none⟩ c rfl (LV.out _ D1.out) Tryz.underlying31 IA.out ?_)
  refine (SP.out _ D1.out).mono ?_
  rintro e v2 ⟨sa,sc,rfl,hrow,hb⟩
  have B2:=hJJ (B1.out.trans (hb.mono B1.out.size))
  have D2:=hJJ (D1.out.trans (hb.mono D1.out.size))
  have RW:=hJJ hrow
  clear hb hrow SP B1 D1
  generalize hs:spots T=ss at *
  clear hs
  generalize hn:ss.length=n at *
  have HN:=hJJ hn
  have sl:=SL.out
  clear hn
  go_upto_region 9 with fail
  go_loopw [8] (fun v wr=>∃ i:Nat,i≤n∧v=.int .i64 i∧Below v2.heap.size v2 wr) (fun v _=>n - (intOf v).toNat)
  case atStart=>exact ⟨0,by omega,rfl,Below.refl _ _⟩
  case round =>
   obtain ⟨i,hi,rfl,hB⟩:=hrel
   have HB:=hJJ hB
   clear hB
   by_cases hlt:i < n
   ·have HL:=hJJ hlt
    go_upto_region 12 with fail
    go_loopw [9] (fun v wz=>∃ k:Nat,k≤n∧v=.int .i64 k∧Below v2.heap.size v2 wz) (fun v _=>n - (intOf v).toNat)
    case atStart=>exact ⟨0,by omega,rfl,HB.out⟩
    case round =>
     obtain ⟨k,hk,rfl,hB⟩:=hrel
     have HZ:=hJJ hB
     clear hB
     rename World=>wz
     by_cases hlk:k < n
     ·have hx:ss[i]?=some (ss[i]'(by rw [HN.out];exact HL.out)):=List.getElem?_eq_getElem _
      have hy:ss[k]?=some (ss[k]'(by rw [HN.out];exact hlk)):=List.getElem?_eq_getElem _
      generalize ss[i]'(by rw [HN.out];exact HL.out)=x at hx
      generalize ss[k]'(by rw [HN.out];exact hlk)=y at hy
      obtain ⟨xg,xk,xi,xp⟩:=x
      obtain ⟨yg,yk,yi,yp⟩:=y
      have rx:=RNG.out i _ hx
      have ry:=RNG.out k _ hy
      simp only at rx ry
      obtain ⟨px,rfl⟩:=Int.eq_ofNat_of_zero_le rx.1
      obtain ⟨py,rfl⟩:=Int.eq_ofNat_of_zero_le ry.1
      obtain ⟨ax,rfl,hcx⟩:=RW.out.at hx
      obtain ⟨ay,ey,hcy⟩:=RW.out.at hy
      obtain rfl:=Option.some.inj ey
      have INq:Hid (i ≠ k→((px:Int) == (py:Int))=false):=hJJ (fun h=>INJ.out i k _ _ hx hy h)
      have SYq:Hid ((SetM.has (cfAt T px) py != SetM.has (cfAt T py) px)=false):=hJJ (SYM.out i k _ _ hx hy)
      have CLq:Hid (xg=yg→xk ≠ yk→(SetM.has (cfAt T px) py || SetM.has (cfAt T py) px)=false):=hJJ (fun h1 h2=>CLA.out i k _ _ hx hy h1 h2)
      have DZ:Hid (∀ w',Below wz.heap.size wz w'→Below v0.heap.size v0 w'):=hJJ (fun w' hb=>D2.out.trans ((HZ.out.trans (hb.mono HZ.out.size)).mono D2.out.size))
      have FX:Hid (∀ w',Below wz.heap.size wz w'→Lies w' (ax.add (i*4)) [I xg,I xk,I xi,I px]):=hJJ (fun w' hb=>hcx.below (HZ.out.trans (hb.mono HZ.out.size)))
      have FY:Hid (∀ w',Below wz.heap.size wz w'→Lies w' (ax.add (k*4)) [I yg,I yk,I yi,I py]):=hJJ (fun w' hb=>hcy.below (HZ.out.trans (hb.mono HZ.out.size)))
      have X0:Hid (∀ w',Below wz.heap.size wz w'→w'.cell? (ax.add (i*4))=some (I xg)):=hJJ (fun w' hb=>by have:=FX.out w' hb 0 _ rfl;rwa [Tab.add_two,Nat.add_zero] at this)
      have Y0:Hid (∀ w',Below wz.heap.size wz w'→w'.cell? (ax.add (k*4))=some (I yg)):=hJJ (fun w' hb=>by have:=FY.out w' hb 0 _ rfl;rwa [Tab.add_two,Nat.add_zero] at this)
      have X1:Hid (∀ w',Below wz.heap.size wz w'→w'.cell? ⟨(ax.add (i*4)).block,(ax.add (i*4)).off+1,none⟩=some (I xk)):=hJJ (fun w' hb=>FX.out w' hb 1 _ rfl)
      have Y1:Hid (∀ w',Below wz.heap.size wz w'→w'.cell? ⟨(ax.add (k*4)).block,(ax.add (k*4)).off+1,none⟩=some (I yk)):=hJJ (fun w' hb=>FY.out w' hb 1 _ rfl)
      have X3:Hid (∀ w',Below wz.heap.size wz w'→w'.cell? ⟨(ax.add (i*4)).block,(ax.add (i*4)).off+3,none⟩=some (I px)):=hJJ (fun w' hb=>FX.out w' hb 3 _ rfl)
      have Y3:Hid (∀ w',Below wz.heap.size wz w'→w'.cell? ⟨(ax.add (k*4)).block,(ax.add (k*4)).off+3,none⟩=some (I py)):=hJJ (fun w' hb=>FY.out w' hb 3 _ rfl)
      have lx:(px:Int) < 8:=rx.2
      have ly:(py:Int) < 8:=ry.2
      have CFx:Hid (∀ w',Below wz.heap.size wz w'→w'.cell? ⟨w.heap.size,105+px,none⟩=some (I (cfAt T px))):=hJJ (fun w' hb=>by have:=CFC.out px w' rx (DZ.out w' hb);rwa [Int.toNat_natCast] at this)
      have CFy:Hid (∀ w',Below wz.heap.size wz w'→w'.cell? ⟨w.heap.size,105+py,none⟩=some (I (cfAt T py))):=hJJ (fun w' hb=>by have:=CFC.out py w' ry (DZ.out w' hb);rwa [Int.toNat_natCast] at this)
      have CLc:Hid (∀ w',Below wz.heap.size wz w'→Calls Tryz.prog 26 #[.agg c.toArray,.int .i64 px,.int .i64 py] w' fun e w2=>e=.returned (.bool (SetM.has (cfAt T px) py || SetM.has (cfAt T py) px))∧Below w'.heap.size w' w2):=hJJ (fun w' hb=>CL.out px py w' (DZ.out w' hb) rx ry)
      have HSx:=hJJ (fun w'=>RefS.rhas_any (cfAt T px) (py:Int) w')
      have HSy:=hJJ (fun w'=>RefS.rhas_any (cfAt T py) (px:Int) w')
      have LTW:Hid (∀ w',Below wz.heap.size wz w'→Lies w' ⟨w.heap.size,0,none⟩ c):=hJJ (fun w' hb=>LV.out _ (DZ.out w' hb))
      clear hcx hcy hx hy rx ry FX FY INJ SYM CLA RNG CFC CL
      generalize cfAt T px=cx at *
      generalize cfAt T py=cy at *
      generalize SetM.has cx py=h1 at *
      generalize SetM.has cy px=h2 at *
      have hl2:=HL.out
      go_upto_region 14 with fail
      refine wp_region_held (S:=fun w'=>Below wz.heap.size wz w') (by kernel_rfl) ?_
      have hS:Below wz.heap.size wz { wz with drawn:=wz.drawn+1 }:=(Below.refl _ _).drew
      generalize ({ wz with drawn:=wz.drawn+1 }:World)=v at hS ⊢
      refine tkZ 0 39 ?_ rfl ?_ hS ?_
      rotate_left
      ·intro w' hw'
       go_simp
       try with_reducible rfl
      (try dsimp only [Act.put]);(try simp only [zA,zB,zC])
      refine tkZ 1 40 ?_ rfl ?_ hS ?_
      rotate_left
      ·intro w' hw'
       go_simp
       try with_reducible rfl
      (try dsimp only [Act.put]);(try simp only [zA,zB,zC])
      refine tkZ 2 41 ?_ rfl ?_ hS ?_
      rotate_left
      ·intro w' hw'
       go_simp
       try with_reducible rfl
      (try dsimp only [Act.put]);(try simp only [zA,zB,zC])
      refine tkZ 3 42 ?_ rfl ?_ hS ?_
      rotate_left
      ·intro w' hw'
       go_simp
       try with_reducible rfl
      (try dsimp only [Act.put]);(try simp only [zA,zB,zC])
      refine tkZ 4 43 ?_ rfl ?_ hS ?_
      rotate_left
      ·intro w' hw'
       have cf:=X3.out w' hw'
       go_simp
       try with_reducible rfl
      (try dsimp only [Act.put]);(try simp only [zA,zB,zC])
      refine tkZ 5 44 ?_ rfl ?_ hS ?_
      rotate_left
      ·intro w' hw'
       go_simp
       try with_reducible rfl
      (try dsimp only [Act.put]);(try simp only [zA,zB,zC])
      refine tkZ 6 45 ?_ rfl ?_ hS ?_
      rotate_left
      ·intro w' hw'
       go_simp
       try with_reducible rfl
      (try dsimp only [Act.put]);(try simp only [zA,zB,zC])
      refine tkZ 7 46 ?_ rfl ?_ hS ?_
      rotate_left
      ·intro w' hw'
       go_simp
       try with_reducible rfl
      (try dsimp only [Act.put]);(try simp only [zA,zB,zC])
      refine tkZ 8 47 ?_ rfl ?_ hS ?_
      rotate_left
      ·intro w' hw'
       go_simp
       try with_reducible rfl
      (try dsimp only [Act.put]);(try simp only [zA,zB,zC])
      refine tkZ 9 48 ?_ rfl ?_ hS ?_
      rotate_left
      ·intro w' hw'
       have cf:=Y3.out w' hw'
       go_simp
       try with_reducible rfl
      (try dsimp only [Act.put]);(try simp only [zA,zB,zC])
      refine tkZ 10 10 ?_ rfl ?_ hS ?_
      rotate_left
      ·intro w' hw'
       go_simp
       try with_reducible rfl
      (try dsimp only [Act.put]);(try simp only [zA,zB,zC])
      refine tkZ 11 11 ?_ rfl ?_ hS ?_
      rotate_left
      ·intro w' hw'
       go_simp
       try with_reducible rfl
      (try dsimp only [Act.put]);(try simp only [zA,zB,zC])
      refine wpAnyH_done (by kernel_rfl) ?_ _
      have HV:=hJJ (HZ.out.trans (hS.mono HZ.out.size))
      have WV:=hJJ hS
      clear hS
      go_upto_region 15 with fail
      by_cases hgq:xg=yg
      ·have NG:Hid (((xg:Int) == (yg:Int))=true):=hJJ (by rw [hgq];simp)
       by_cases hkq:xk=yk
       ·have NK:Hid (((xk:Int) != (yk:Int))=false):=hJJ (by rw [hkq];simp)
        clear hgq hkq
        refine wp_region_held (S:=fun w'=>Below wz.heap.size wz w') (by kernel_rfl) ?_
        have hS:Below wz.heap.size wz { v with drawn:=v.drawn+1 }:=WV.out.drew
        generalize ({ v with drawn:=v.drawn+1 }:World)=z at hS ⊢
        refine tkZ 0 49 ?_ rfl ?_ hS ?_
        rotate_left
        ·intro w' hw'
         go_simp
         try with_reducible rfl
        (try dsimp only [Act.put]);(try simp only [zA,zB,zC])
        refine tkZ 1 50 ?_ rfl ?_ hS ?_
        rotate_left
        ·intro w' hw'
         go_simp
         try with_reducible rfl
        (try dsimp only [Act.put]);(try simp only [zA,zB,zC])
        refine tkZ 2 51 ?_ rfl ?_ hS ?_
        rotate_left
        ·intro w' hw'
         go_simp
         try with_reducible rfl
        (try dsimp only [Act.put]);(try simp only [zA,zB,zC])
        refine tkZ 3 52 ?_ rfl ?_ hS ?_
        rotate_left
        ·intro w' hw'
         go_simp
         try with_reducible rfl
        (try dsimp only [Act.put]);(try simp only [zA,zB,zC])
        refine tkZ 4 53 ?_ rfl ?_ hS ?_
        rotate_left
        ·intro w' hw'
         have cf:=X0.out w' hw'
         go_simp
         try with_reducible rfl
        (try dsimp only [Act.put]);(try simp only [zA,zB,zC])
        refine tkZ 5 54 ?_ rfl ?_ hS ?_
        rotate_left
        ·intro w' hw'
         go_simp
         try with_reducible rfl
        (try dsimp only [Act.put]);(try simp only [zA,zB,zC])
        refine tkZ 6 55 ?_ rfl ?_ hS ?_
        rotate_left
        ·intro w' hw'
         go_simp
         try with_reducible rfl
        (try dsimp only [Act.put]);(try simp only [zA,zB,zC])
        refine tkZ 7 56 ?_ rfl ?_ hS ?_
        rotate_left
        ·intro w' hw'
         go_simp
         try with_reducible rfl
        (try dsimp only [Act.put]);(try simp only [zA,zB,zC])
        refine tkZ 8 57 ?_ rfl ?_ hS ?_
        rotate_left
        ·intro w' hw'
         go_simp
         try with_reducible rfl
        (try dsimp only [Act.put]);(try simp only [zA,zB,zC])
        refine tkZ 9 58 ?_ rfl ?_ hS ?_
        rotate_left
        ·intro w' hw'
         have cf:=Y0.out w' hw'
         go_simp
         try with_reducible rfl
        (try dsimp only [Act.put]);(try simp only [zA,zB,zC])
        refine tkZ 10 59 (.bool true) rfl ?_ hS ?_
        ·intro w' hw'
         have nq:=NG.out
         go_simp
         try with_reducible rfl
        (try dsimp only [Act.put]);(try simp only [zA,zB,zC])
        refine tkZ 11 60 (.bool true) rfl ?_ hS ?_
        ·intro w' hw'
         go_simp
         try with_reducible rfl
        (try dsimp only [Act.put]);(try simp only [zA,zB,zC])
        refine tkZ 12 61 ?_ rfl ?_ hS ?_
        rotate_left
        ·intro w' hw'
         go_simp
         try with_reducible rfl
        (try dsimp only [Act.put]);(try simp only [zA,zB,zC])
        refine tkZ 13 62 ?_ rfl ?_ hS ?_
        rotate_left
        ·intro w' hw'
         go_simp
         try with_reducible rfl
        (try dsimp only [Act.put]);(try simp only [zA,zB,zC])
        refine tkZ 14 63 ?_ rfl ?_ hS ?_
        rotate_left
        ·intro w' hw'
         go_simp
         try with_reducible rfl
        (try dsimp only [Act.put]);(try simp only [zA,zB,zC])
        refine tkZ 15 64 ?_ rfl ?_ hS ?_
        rotate_left
        ·intro w' hw'
         go_simp
         try with_reducible rfl
        (try dsimp only [Act.put]);(try simp only [zA,zB,zC])
        refine tkZ 16 65 ?_ rfl ?_ hS ?_
        rotate_left
        ·intro w' hw'
         have cf:=X1.out w' hw'
         go_simp
         try with_reducible rfl
        (try dsimp only [Act.put]);(try simp only [zA,zB,zC])
        refine tkZ 17 66 ?_ rfl ?_ hS ?_
        rotate_left
        ·intro w' hw'
         go_simp
         try with_reducible rfl
        (try dsimp only [Act.put]);(try simp only [zA,zB,zC])
        refine tkZ 18 67 ?_ rfl ?_ hS ?_
        rotate_left
        ·intro w' hw'
         go_simp
         try with_reducible rfl
        (try dsimp only [Act.put]);(try simp only [zA,zB,zC])
        refine tkZ 19 68 ?_ rfl ?_ hS ?_
        rotate_left
        ·intro w' hw'
         go_simp
         try with_reducible rfl
        (try dsimp only [Act.put]);(try simp only [zA,zB,zC])
        refine tkZ 20 69 ?_ rfl ?_ hS ?_
        rotate_left
        ·intro w' hw'
         go_simp
         try with_reducible rfl
        (try dsimp only [Act.put]);(try simp only [zA,zB,zC])
        refine tkZ 21 70 ?_ rfl ?_ hS ?_
        rotate_left
        ·intro w' hw'
         have cf:=Y1.out w' hw'
         go_simp
         try with_reducible rfl
        (try dsimp only [Act.put]);(try simp only [zA,zB,zC])
        refine tkZ 22 71 (.bool false) rfl ?_ hS ?_
        ·intro w' hw'
         have nq:=NK.out
         go_simp
         try with_reducible rfl
        (try dsimp only [Act.put]);(try simp only [zA,zB,zC])
        refine tkZ 23 72 (.bool false) rfl ?_ hS ?_
        ·intro w' hw'
         go_simp
         try with_reducible rfl
        (try dsimp only [Act.put]);(try simp only [zA,zB,zC])
        refine tkZ 24 12 (.bool false) rfl ?_ hS ?_
        ·intro w' hw'
         go_simp
         try with_reducible rfl
        (try dsimp only [Act.put]);(try simp only [zA,zB,zC])
        refine wpAnyH_done (by kernel_rfl) ?_ _
        have WZ:=hJJ hS
        clear hS WV HV
        go_upto_region 16 with fail
        by_cases hik:i=k
        ·have NI:Hid (((i:Int) != (k:Int))=false):=hJJ (by rw [hik];simp)
         clear hik
         refine wp_region_held (S:=fun w'=>Below wz.heap.size wz w') (by kernel_rfl) ?_
         have hS:Below wz.heap.size wz { z with drawn:=z.drawn+1 }:=WZ.out.drew
         generalize ({ z with drawn:=z.drawn+1 }:World)=q at hS ⊢
         refine tkZ 0 73 ?_ rfl ?_ hS ?_
         rotate_left
         ·intro w' hw'
          go_simp
          try with_reducible rfl
         (try dsimp only [Act.put]);(try simp only [zA,zB,zC])
         refine tkZ 1 74 ?_ rfl ?_ hS ?_
         rotate_left
         ·intro w' hw'
          go_simp
          try with_reducible rfl
         (try dsimp only [Act.put]);(try simp only [zA,zB,zC])
         refine tkZ 2 75 (.bool false) rfl ?_ hS ?_
         ·intro w' hw'
          have nq:=NI.out
          go_simp
          try with_reducible rfl
         (try dsimp only [Act.put]);(try simp only [zA,zB,zC])
         refine tkZ 3 76 (.bool false) rfl ?_ hS ?_
         ·intro w' hw'
          go_simp
          try with_reducible rfl
         (try dsimp only [Act.put]);(try simp only [zA,zB,zC])
         refine Held.take_skip (i:=4) (some 77) rfl rfl (by kernel_rfl) (by kernel_rfl) (by kernel_rfl) (fun _ _ _ h=>h) (by rfl) hS ?_
         (try dsimp only [Act.put]);(try simp only [zA,zB,zC])
         refine Held.take_skip (i:=5) (some 78) rfl rfl (by kernel_rfl) (by kernel_rfl) (by kernel_rfl) (fun _ _ _ h=>h) (by rfl) hS ?_
         (try dsimp only [Act.put]);(try simp only [zA,zB,zC])
         refine Held.take_skip (i:=6) (some 79) rfl rfl (by kernel_rfl) (by kernel_rfl) (by kernel_rfl) (fun _ _ _ h=>h) (by rfl) hS ?_
         (try dsimp only [Act.put]);(try simp only [zA,zB,zC])
         refine tkZ 7 80 (.bool false) rfl ?_ hS ?_
         ·intro w' hw'
          go_simp
          try with_reducible rfl
         (try dsimp only [Act.put]);(try simp only [zA,zB,zC])
         refine tkZ 8 81 (.bool false) rfl ?_ hS ?_
         ·intro w' hw'
          go_simp
          try with_reducible rfl
         (try dsimp only [Act.put]);(try simp only [zA,zB,zC])
         refine tkZ 9 82 ?_ rfl ?_ hS ?_
         rotate_left
         ·intro w' hw'
          go_simp
          try with_reducible rfl
         (try dsimp only [Act.put]);(try simp only [zA,zB,zC])
         refine tkZ 10 83 ?_ rfl ?_ hS ?_
         rotate_left
         ·intro w' hw'
          go_simp
          try with_reducible rfl
         (try dsimp only [Act.put]);(try simp only [zA,zB,zC])
         refine Held.take_skip (i:=11) (some 84) rfl rfl (by kernel_rfl) (by kernel_rfl) (by kernel_rfl) (fun _ _ _ h=>h) (by rfl) hS ?_
         (try dsimp only [Act.put]);(try simp only [zA,zB,zC])
         refine Held.take_skip (i:=12) (some 85) rfl rfl (by kernel_rfl) (by kernel_rfl) (by kernel_rfl) (fun _ _ _ h=>h) (by rfl) hS ?_
         (try dsimp only [Act.put]);(try simp only [zA,zB,zC])
         refine Held.take_skip (i:=13) (some 86) rfl rfl (by kernel_rfl) (by kernel_rfl) (by kernel_rfl) (fun _ _ _ h=>h) (by rfl) hS ?_
         (try dsimp only [Act.put]);(try simp only [zA,zB,zC])
         refine Held.take_skip (i:=14) (some 87) rfl rfl (by kernel_rfl) (by kernel_rfl) (by kernel_rfl) (fun _ _ _ h=>h) (by rfl) hS ?_
         (try dsimp only [Act.put]);(try simp only [zA,zB,zC])
         refine tkZ 15 88 (.bool false) rfl ?_ hS ?_
         ·intro w' hw'
          go_simp
          try with_reducible rfl
         (try dsimp only [Act.put]);(try simp only [zA,zB,zC])
         refine tkZ 16 89 (.bool false) rfl ?_ hS ?_
         ·intro w' hw'
          go_simp
          try with_reducible rfl
         (try dsimp only [Act.put]);(try simp only [zA,zB,zC])
         refine tkZ 17 90 (.bool false) rfl ?_ hS ?_
         ·intro w' hw'
          go_simp
          try with_reducible rfl
         (try dsimp only [Act.put]);(try simp only [zA,zB,zC])
         refine tkZ 18 91 ?_ rfl ?_ hS ?_
         rotate_left
         ·intro w' hw'
          go_simp
          try with_reducible rfl
         (try dsimp only [Act.put]);(try simp only [zA,zB,zC])
         refine tkZ 19 92 ?_ rfl ?_ hS ?_
         rotate_left
         ·intro w' hw'
          go_simp
          try with_reducible rfl
         (try dsimp only [Act.put]);(try simp only [zA,zB,zC])
         refine tkZ 20 93 ?_ rfl ?_ hS ?_
         rotate_left
         ·intro w' hw'
          go_simp
          try with_reducible rfl
         (try dsimp only [Act.put]);(try simp only [zA,zB,zC])
         refine tkZ 21 94 ?_ rfl ?_ hS ?_
         rotate_left
         ·intro w' hw'
          have cf:=CFx.out w' hw'
          go_simp
          try with_reducible rfl
         (try dsimp only [Act.put]);(try simp only [zA,zB,zC])
         refine tkZ 22 95 ?_ rfl ?_ hS ?_
         rotate_left
         ·intro w' hw'
          go_simp
          try with_reducible rfl
         (try dsimp only [Act.put]);(try simp only [zA,zB,zC])
         refine tkZ 24 97 ?_ rfl ?_ hS ?_
         rotate_left
         ·intro w' hw'
          go_simp
          try with_reducible rfl
         (try dsimp only [Act.put]);(try simp only [zA,zB,zC])
         refine tkZ 25 98 ?_ rfl ?_ hS ?_
         rotate_left
         ·intro w' hw'
          go_simp
          try with_reducible rfl
         (try dsimp only [Act.put]);(try simp only [zA,zB,zC])
         refine tkZ 26 99 ?_ rfl ?_ hS ?_
         rotate_left
         ·intro w' hw'
          go_simp
          try with_reducible rfl
         (try dsimp only [Act.put]);(try simp only [zA,zB,zC])
         refine tkZ 27 100 ?_ rfl ?_ hS ?_
         rotate_left
         ·intro w' hw'
          have cf:=CFy.out w' hw'
          go_simp
          try with_reducible rfl
         (try dsimp only [Act.put]);(try simp only [zA,zB,zC])
         refine tkZ 28 101 ?_ rfl ?_ hS ?_
         rotate_left
         ·intro w' hw'
          go_simp
          try with_reducible rfl
         (try dsimp only [Act.put]);(try simp only [zA,zB,zC])
         refine rdZ 23 rfl (fun K hK=>?_)
         go_simp
         refine (HSx.out _).mono ?_
         rintro e w' ⟨rfl,rfl⟩
         go_simp
         refine hK.out _ _ hS (fun hS=>?_)
         clear hK K
         refine rdZ 29 rfl (fun K hK=>?_)
         go_simp
         refine (HSy.out _).mono ?_
         rintro e w' ⟨rfl,rfl⟩
         go_simp
         refine hK.out _ _ hS (fun hS=>?_)
         clear hK K
         refine tkZ 30 103 (.bool false) rfl ?_ hS ?_
         ·intro w' hw'
          have nq:h1=h2:=by have:=SYq.out;simpa using this
          subst nq
          go_simp
          try with_reducible rfl
         (try dsimp only [Act.put]);(try simp only [zA,zB,zC])
         refine tkZ 31 104 (.bool false) rfl ?_ hS ?_
         ·intro w' hw'
          go_simp
          try with_reducible rfl
         (try dsimp only [Act.put]);(try simp only [zA,zB,zC])
         refine wpAnyH_done (by kernel_rfl) ?_ _
         have HQ:=hJJ (HZ.out.trans (hS.mono HZ.out.size))
         clear hS WZ
         go_wp2
         go_roundw
         case rel=>exact ⟨k+1,by omega,by go_num,HQ.out⟩
         case measure=>simp [intOf];omega
        ·have NI:Hid (((i:Int) != (k:Int))=true):=hJJ (by simp;omega)
         have NP:=hJJ (INq.out hik)
         clear hik
         refine wp_region_held (S:=fun w'=>Below wz.heap.size wz w') (by kernel_rfl) ?_
         have hS:Below wz.heap.size wz { z with drawn:=z.drawn+1 }:=WZ.out.drew
         generalize ({ z with drawn:=z.drawn+1 }:World)=q at hS ⊢
         refine tkZ 0 73 ?_ rfl ?_ hS ?_
         rotate_left
         ·intro w' hw'
          go_simp
          try with_reducible rfl
         (try dsimp only [Act.put]);(try simp only [zA,zB,zC])
         refine tkZ 1 74 ?_ rfl ?_ hS ?_
         rotate_left
         ·intro w' hw'
          go_simp
          try with_reducible rfl
         (try dsimp only [Act.put]);(try simp only [zA,zB,zC])
         refine tkZ 2 75 (.bool true) rfl ?_ hS ?_
         ·intro w' hw'
          have nq:=NI.out
          go_simp
          try with_reducible rfl
         (try dsimp only [Act.put]);(try simp only [zA,zB,zC])
         refine tkZ 3 76 (.bool true) rfl ?_ hS ?_
         ·intro w' hw'
          go_simp
          try with_reducible rfl
         (try dsimp only [Act.put]);(try simp only [zA,zB,zC])
         refine tkZ 4 77 ?_ rfl ?_ hS ?_
         rotate_left
         ·intro w' hw'
          go_simp
          try with_reducible rfl
         (try dsimp only [Act.put]);(try simp only [zA,zB,zC])
         refine tkZ 5 78 ?_ rfl ?_ hS ?_
         rotate_left
         ·intro w' hw'
          go_simp
          try with_reducible rfl
         (try dsimp only [Act.put]);(try simp only [zA,zB,zC])
         refine tkZ 6 79 (.bool false) rfl ?_ hS ?_
         ·intro w' hw'
          have nq:=NP.out
          go_simp
          try with_reducible rfl
         (try dsimp only [Act.put]);(try simp only [zA,zB,zC])
         refine tkZ 7 80 (.bool false) rfl ?_ hS ?_
         ·intro w' hw'
          go_simp
          try with_reducible rfl
         (try dsimp only [Act.put]);(try simp only [zA,zB,zC])
         refine tkZ 8 81 (.bool false) rfl ?_ hS ?_
         ·intro w' hw'
          go_simp
          try with_reducible rfl
         (try dsimp only [Act.put]);(try simp only [zA,zB,zC])
         refine tkZ 9 82 ?_ rfl ?_ hS ?_
         rotate_left
         ·intro w' hw'
          go_simp
          try with_reducible rfl
         (try dsimp only [Act.put]);(try simp only [zA,zB,zC])
         refine tkZ 10 83 ?_ rfl ?_ hS ?_
         rotate_left
         ·intro w' hw'
          go_simp
          try with_reducible rfl
         (try dsimp only [Act.put]);(try simp only [zA,zB,zC])
         refine Held.take_skip (i:=11) (some 84) rfl rfl (by kernel_rfl) (by kernel_rfl) (by kernel_rfl) (fun _ _ _ h=>h) (by rfl) hS ?_
         (try dsimp only [Act.put]);(try simp only [zA,zB,zC])
         refine Held.take_skip (i:=12) (some 85) rfl rfl (by kernel_rfl) (by kernel_rfl) (by kernel_rfl) (fun _ _ _ h=>h) (by rfl) hS ?_
         (try dsimp only [Act.put]);(try simp only [zA,zB,zC])
         refine Held.take_skip (i:=13) (some 86) rfl rfl (by kernel_rfl) (by kernel_rfl) (by kernel_rfl) (fun _ _ _ h=>h) (by rfl) hS ?_
         (try dsimp only [Act.put]);(try simp only [zA,zB,zC])
         refine Held.take_skip (i:=14) (some 87) rfl rfl (by kernel_rfl) (by kernel_rfl) (by kernel_rfl) (fun _ _ _ h=>h) (by rfl) hS ?_
         (try dsimp only [Act.put]);(try simp only [zA,zB,zC])
         refine tkZ 15 88 (.bool false) rfl ?_ hS ?_
         ·intro w' hw'
          go_simp
          try with_reducible rfl
         (try dsimp only [Act.put]);(try simp only [zA,zB,zC])
         refine tkZ 16 89 (.bool false) rfl ?_ hS ?_
         ·intro w' hw'
          go_simp
          try with_reducible rfl
         (try dsimp only [Act.put]);(try simp only [zA,zB,zC])
         refine tkZ 17 90 (.bool false) rfl ?_ hS ?_
         ·intro w' hw'
          go_simp
          try with_reducible rfl
         (try dsimp only [Act.put]);(try simp only [zA,zB,zC])
         refine tkZ 18 91 ?_ rfl ?_ hS ?_
         rotate_left
         ·intro w' hw'
          go_simp
          try with_reducible rfl
         (try dsimp only [Act.put]);(try simp only [zA,zB,zC])
         refine tkZ 19 92 ?_ rfl ?_ hS ?_
         rotate_left
         ·intro w' hw'
          go_simp
          try with_reducible rfl
         (try dsimp only [Act.put]);(try simp only [zA,zB,zC])
         refine tkZ 20 93 ?_ rfl ?_ hS ?_
         rotate_left
         ·intro w' hw'
          go_simp
          try with_reducible rfl
         (try dsimp only [Act.put]);(try simp only [zA,zB,zC])
         refine tkZ 21 94 ?_ rfl ?_ hS ?_
         rotate_left
         ·intro w' hw'
          have cf:=CFx.out w' hw'
          go_simp
          try with_reducible rfl
         (try dsimp only [Act.put]);(try simp only [zA,zB,zC])
         refine tkZ 22 95 ?_ rfl ?_ hS ?_
         rotate_left
         ·intro w' hw'
          go_simp
          try with_reducible rfl
         (try dsimp only [Act.put]);(try simp only [zA,zB,zC])
         refine tkZ 24 97 ?_ rfl ?_ hS ?_
         rotate_left
         ·intro w' hw'
          go_simp
          try with_reducible rfl
         (try dsimp only [Act.put]);(try simp only [zA,zB,zC])
         refine tkZ 25 98 ?_ rfl ?_ hS ?_
         rotate_left
         ·intro w' hw'
          go_simp
          try with_reducible rfl
         (try dsimp only [Act.put]);(try simp only [zA,zB,zC])
         refine tkZ 26 99 ?_ rfl ?_ hS ?_
         rotate_left
         ·intro w' hw'
          go_simp
          try with_reducible rfl
         (try dsimp only [Act.put]);(try simp only [zA,zB,zC])
         refine tkZ 27 100 ?_ rfl ?_ hS ?_
         rotate_left
         ·intro w' hw'
          have cf:=CFy.out w' hw'
          go_simp
          try with_reducible rfl
         (try dsimp only [Act.put]);(try simp only [zA,zB,zC])
         refine tkZ 28 101 ?_ rfl ?_ hS ?_
         rotate_left
         ·intro w' hw'
          go_simp
          try with_reducible rfl
         (try dsimp only [Act.put]);(try simp only [zA,zB,zC])
         refine rdZ 23 rfl (fun K hK=>?_)
         go_simp
         refine (HSx.out _).mono ?_
         rintro e w' ⟨rfl,rfl⟩
         go_simp
         refine hK.out _ _ hS (fun hS=>?_)
         clear hK K
         refine rdZ 29 rfl (fun K hK=>?_)
         go_simp
         refine (HSy.out _).mono ?_
         rintro e w' ⟨rfl,rfl⟩
         go_simp
         refine hK.out _ _ hS (fun hS=>?_)
         clear hK K
         refine tkZ 30 103 (.bool false) rfl ?_ hS ?_
         ·intro w' hw'
          have nq:h1=h2:=by have:=SYq.out;simpa using this
          subst nq
          go_simp
          try with_reducible rfl
         (try dsimp only [Act.put]);(try simp only [zA,zB,zC])
         refine tkZ 31 104 (.bool false) rfl ?_ hS ?_
         ·intro w' hw'
          go_simp
          try with_reducible rfl
         (try dsimp only [Act.put]);(try simp only [zA,zB,zC])
         refine wpAnyH_done (by kernel_rfl) ?_ _
         have HQ:=hJJ (HZ.out.trans (hS.mono HZ.out.size))
         clear hS WZ
         go_wp2
         go_roundw
         case rel=>exact ⟨k+1,by omega,by go_num,HQ.out⟩
         case measure=>simp [intOf];omega
       ·have NK:Hid (((xk:Int) != (yk:Int))=true):=hJJ (by simp;omega)
        refine wp_region_held (S:=fun w'=>Below wz.heap.size wz w') (by kernel_rfl) ?_
        have hS:Below wz.heap.size wz { v with drawn:=v.drawn+1 }:=WV.out.drew
        generalize ({ v with drawn:=v.drawn+1 }:World)=z at hS ⊢
        refine tkZ 0 49 ?_ rfl ?_ hS ?_
        rotate_left
        ·intro w' hw'
         go_simp
         try with_reducible rfl
        (try dsimp only [Act.put]);(try simp only [zA,zB,zC])
        refine tkZ 1 50 ?_ rfl ?_ hS ?_
        rotate_left
        ·intro w' hw'
         go_simp
         try with_reducible rfl
        (try dsimp only [Act.put]);(try simp only [zA,zB,zC])
        refine tkZ 2 51 ?_ rfl ?_ hS ?_
        rotate_left
        ·intro w' hw'
         go_simp
         try with_reducible rfl
        (try dsimp only [Act.put]);(try simp only [zA,zB,zC])
        refine tkZ 3 52 ?_ rfl ?_ hS ?_
        rotate_left
        ·intro w' hw'
         go_simp
         try with_reducible rfl
        (try dsimp only [Act.put]);(try simp only [zA,zB,zC])
        refine tkZ 4 53 ?_ rfl ?_ hS ?_
        rotate_left
        ·intro w' hw'
         have cf:=X0.out w' hw'
         go_simp
         try with_reducible rfl
        (try dsimp only [Act.put]);(try simp only [zA,zB,zC])
        refine tkZ 5 54 ?_ rfl ?_ hS ?_
        rotate_left
        ·intro w' hw'
         go_simp
         try with_reducible rfl
        (try dsimp only [Act.put]);(try simp only [zA,zB,zC])
        refine tkZ 6 55 ?_ rfl ?_ hS ?_
        rotate_left
        ·intro w' hw'
         go_simp
         try with_reducible rfl
        (try dsimp only [Act.put]);(try simp only [zA,zB,zC])
        refine tkZ 7 56 ?_ rfl ?_ hS ?_
        rotate_left
        ·intro w' hw'
         go_simp
         try with_reducible rfl
        (try dsimp only [Act.put]);(try simp only [zA,zB,zC])
        refine tkZ 8 57 ?_ rfl ?_ hS ?_
        rotate_left
        ·intro w' hw'
         go_simp
         try with_reducible rfl
        (try dsimp only [Act.put]);(try simp only [zA,zB,zC])
        refine tkZ 9 58 ?_ rfl ?_ hS ?_
        rotate_left
        ·intro w' hw'
         have cf:=Y0.out w' hw'
         go_simp
         try with_reducible rfl
        (try dsimp only [Act.put]);(try simp only [zA,zB,zC])
        refine tkZ 10 59 (.bool true) rfl ?_ hS ?_
        ·intro w' hw'
         have nq:=NG.out
         go_simp
         try with_reducible rfl
        (try dsimp only [Act.put]);(try simp only [zA,zB,zC])
        refine tkZ 11 60 (.bool true) rfl ?_ hS ?_
        ·intro w' hw'
         go_simp
         try with_reducible rfl
        (try dsimp only [Act.put]);(try simp only [zA,zB,zC])
        refine tkZ 12 61 ?_ rfl ?_ hS ?_
        rotate_left
        ·intro w' hw'
         go_simp
         try with_reducible rfl
        (try dsimp only [Act.put]);(try simp only [zA,zB,zC])
        refine tkZ 13 62 ?_ rfl ?_ hS ?_
        rotate_left
        ·intro w' hw'
         go_simp
         try with_reducible rfl
        (try dsimp only [Act.put]);(try simp only [zA,zB,zC])
        refine tkZ 14 63 ?_ rfl ?_ hS ?_
        rotate_left
        ·intro w' hw'
         go_simp
         try with_reducible rfl
        (try dsimp only [Act.put]);(try simp only [zA,zB,zC])
        refine tkZ 15 64 ?_ rfl ?_ hS ?_
        rotate_left
        ·intro w' hw'
         go_simp
         try with_reducible rfl
        (try dsimp only [Act.put]);(try simp only [zA,zB,zC])
        refine tkZ 16 65 ?_ rfl ?_ hS ?_
        rotate_left
        ·intro w' hw'
         have cf:=X1.out w' hw'
         go_simp
         try with_reducible rfl
        (try dsimp only [Act.put]);(try simp only [zA,zB,zC])
        refine tkZ 17 66 ?_ rfl ?_ hS ?_
        rotate_left
        ·intro w' hw'
         go_simp
         try with_reducible rfl
        (try dsimp only [Act.put]);(try simp only [zA,zB,zC])
        refine tkZ 18 67 ?_ rfl ?_ hS ?_
        rotate_left
        ·intro w' hw'
         go_simp
         try with_reducible rfl
        (try dsimp only [Act.put]);(try simp only [zA,zB,zC])
        refine tkZ 19 68 ?_ rfl ?_ hS ?_
        rotate_left
        ·intro w' hw'
         go_simp
         try with_reducible rfl
        (try dsimp only [Act.put]);(try simp only [zA,zB,zC])
        refine tkZ 20 69 ?_ rfl ?_ hS ?_
        rotate_left
        ·intro w' hw'
         go_simp
         try with_reducible rfl
        (try dsimp only [Act.put]);(try simp only [zA,zB,zC])
        refine tkZ 21 70 ?_ rfl ?_ hS ?_
        rotate_left
        ·intro w' hw'
         have cf:=Y1.out w' hw'
         go_simp
         try with_reducible rfl
        (try dsimp only [Act.put]);(try simp only [zA,zB,zC])
        refine tkZ 22 71 (.bool true) rfl ?_ hS ?_
        ·intro w' hw'
         have nq:=NK.out
         go_simp
         try with_reducible rfl
        (try dsimp only [Act.put]);(try simp only [zA,zB,zC])
        refine tkZ 23 72 (.bool true) rfl ?_ hS ?_
        ·intro w' hw'
         go_simp
         try with_reducible rfl
        (try dsimp only [Act.put]);(try simp only [zA,zB,zC])
        refine tkZ 24 12 (.bool true) rfl ?_ hS ?_
        ·intro w' hw'
         go_simp
         try with_reducible rfl
        (try dsimp only [Act.put]);(try simp only [zA,zB,zC])
        refine wpAnyH_done (by kernel_rfl) ?_ _
        have WZ:=hJJ hS
        clear hS WV HV
        go_upto_region 16 with fail
        by_cases hik:i=k
        ·have NI:Hid (((i:Int) != (k:Int))=false):=hJJ (by rw [hik];simp)
         clear hik
         have CLv:Hid ((h1 || h2)=false):=hJJ (CLq.out (by omega) (by omega))
         refine wp_region_held (S:=fun w'=>Below wz.heap.size wz w') (by kernel_rfl) ?_
         have hS:Below wz.heap.size wz { z with drawn:=z.drawn+1 }:=WZ.out.drew
         generalize ({ z with drawn:=z.drawn+1 }:World)=q at hS ⊢
         refine tkZ 0 73 ?_ rfl ?_ hS ?_
         rotate_left
         ·intro w' hw'
          go_simp
          try with_reducible rfl
         (try dsimp only [Act.put]);(try simp only [zA,zB,zC])
         refine tkZ 1 74 ?_ rfl ?_ hS ?_
         rotate_left
         ·intro w' hw'
          go_simp
          try with_reducible rfl
         (try dsimp only [Act.put]);(try simp only [zA,zB,zC])
         refine tkZ 2 75 (.bool false) rfl ?_ hS ?_
         ·intro w' hw'
          have nq:=NI.out
          go_simp
          try with_reducible rfl
         (try dsimp only [Act.put]);(try simp only [zA,zB,zC])
         refine tkZ 3 76 (.bool false) rfl ?_ hS ?_
         ·intro w' hw'
          go_simp
          try with_reducible rfl
         (try dsimp only [Act.put]);(try simp only [zA,zB,zC])
         refine Held.take_skip (i:=4) (some 77) rfl rfl (by kernel_rfl) (by kernel_rfl) (by kernel_rfl) (fun _ _ _ h=>h) (by rfl) hS ?_
         (try dsimp only [Act.put]);(try simp only [zA,zB,zC])
         refine Held.take_skip (i:=5) (some 78) rfl rfl (by kernel_rfl) (by kernel_rfl) (by kernel_rfl) (fun _ _ _ h=>h) (by rfl) hS ?_
         (try dsimp only [Act.put]);(try simp only [zA,zB,zC])
         refine Held.take_skip (i:=6) (some 79) rfl rfl (by kernel_rfl) (by kernel_rfl) (by kernel_rfl) (fun _ _ _ h=>h) (by rfl) hS ?_
         (try dsimp only [Act.put]);(try simp only [zA,zB,zC])
         refine tkZ 7 80 (.bool false) rfl ?_ hS ?_
         ·intro w' hw'
          go_simp
          try with_reducible rfl
         (try dsimp only [Act.put]);(try simp only [zA,zB,zC])
         refine tkZ 8 81 (.bool false) rfl ?_ hS ?_
         ·intro w' hw'
          go_simp
          try with_reducible rfl
         (try dsimp only [Act.put]);(try simp only [zA,zB,zC])
         refine tkZ 9 82 ?_ rfl ?_ hS ?_
         rotate_left
         ·intro w' hw'
          go_simp
          try with_reducible rfl
         (try dsimp only [Act.put]);(try simp only [zA,zB,zC])
         refine tkZ 10 83 ?_ rfl ?_ hS ?_
         rotate_left
         ·intro w' hw'
          go_simp
          try with_reducible rfl
         (try dsimp only [Act.put]);(try simp only [zA,zB,zC])
         refine tlZ 11 84 31 (.tmp 3) ⟨w.heap.size,0,none⟩ c rfl hS (fun w' hw'=>LTW.out w' hw') Tryz.underlying31 IA.out ?_
         (try dsimp only [Act.put]);(try simp only [zA,zB,zC])
         refine tkZ 12 85 ?_ rfl ?_ hS ?_
         rotate_left
         ·intro w' hw'
          go_simp
          try with_reducible rfl
         (try dsimp only [Act.put]);(try simp only [zA,zB,zC])
         refine tkZ 13 86 ?_ rfl ?_ hS ?_
         rotate_left
         ·intro w' hw'
          go_simp
          try with_reducible rfl
         (try dsimp only [Act.put]);(try simp only [zA,zB,zC])
         refine rdZ 14 rfl (fun K hK=>?_)
         go_simp
         refine (CLc.out _ hS).mono ?_
         rintro e w' ⟨rfl,hb⟩
         have hq:=hS.trans (hb.mono hS.size)
         clear hS hb
         rename World=>q
         go_simp
         refine hK.out _ _ hq (fun hS=>?_)
         clear hK K hq
         rw [CLv.out]
         refine tkZ 15 88 (.bool false) rfl ?_ hS ?_
         ·intro w' hw'
          go_simp
          try with_reducible rfl
         (try dsimp only [Act.put]);(try simp only [zA,zB,zC])
         refine tkZ 16 89 (.bool false) rfl ?_ hS ?_
         ·intro w' hw'
          go_simp
          try with_reducible rfl
         (try dsimp only [Act.put]);(try simp only [zA,zB,zC])
         refine tkZ 17 90 (.bool false) rfl ?_ hS ?_
         ·intro w' hw'
          go_simp
          try with_reducible rfl
         (try dsimp only [Act.put]);(try simp only [zA,zB,zC])
         refine tkZ 18 91 ?_ rfl ?_ hS ?_
         rotate_left
         ·intro w' hw'
          go_simp
          try with_reducible rfl
         (try dsimp only [Act.put]);(try simp only [zA,zB,zC])
         refine tkZ 19 92 ?_ rfl ?_ hS ?_
         rotate_left
         ·intro w' hw'
          go_simp
          try with_reducible rfl
         (try dsimp only [Act.put]);(try simp only [zA,zB,zC])
         refine tkZ 20 93 ?_ rfl ?_ hS ?_
         rotate_left
         ·intro w' hw'
          go_simp
          try with_reducible rfl
         (try dsimp only [Act.put]);(try simp only [zA,zB,zC])
         refine tkZ 21 94 ?_ rfl ?_ hS ?_
         rotate_left
         ·intro w' hw'
          have cf:=CFx.out w' hw'
          go_simp
          try with_reducible rfl
         (try dsimp only [Act.put]);(try simp only [zA,zB,zC])
         refine tkZ 22 95 ?_ rfl ?_ hS ?_
         rotate_left
         ·intro w' hw'
          go_simp
          try with_reducible rfl
         (try dsimp only [Act.put]);(try simp only [zA,zB,zC])
         refine tkZ 24 97 ?_ rfl ?_ hS ?_
         rotate_left
         ·intro w' hw'
          go_simp
          try with_reducible rfl
         (try dsimp only [Act.put]);(try simp only [zA,zB,zC])
         refine tkZ 25 98 ?_ rfl ?_ hS ?_
         rotate_left
         ·intro w' hw'
          go_simp
          try with_reducible rfl
         (try dsimp only [Act.put]);(try simp only [zA,zB,zC])
         refine tkZ 26 99 ?_ rfl ?_ hS ?_
         rotate_left
         ·intro w' hw'
          go_simp
          try with_reducible rfl
         (try dsimp only [Act.put]);(try simp only [zA,zB,zC])
         refine tkZ 27 100 ?_ rfl ?_ hS ?_
         rotate_left
         ·intro w' hw'
          have cf:=CFy.out w' hw'
          go_simp
          try with_reducible rfl
         (try dsimp only [Act.put]);(try simp only [zA,zB,zC])
         refine tkZ 28 101 ?_ rfl ?_ hS ?_
         rotate_left
         ·intro w' hw'
          go_simp
          try with_reducible rfl
         (try dsimp only [Act.put]);(try simp only [zA,zB,zC])
         refine rdZ 23 rfl (fun K hK=>?_)
         go_simp
         refine (HSx.out _).mono ?_
         rintro e w' ⟨rfl,rfl⟩
         go_simp
         refine hK.out _ _ hS (fun hS=>?_)
         clear hK K
         refine rdZ 29 rfl (fun K hK=>?_)
         go_simp
         refine (HSy.out _).mono ?_
         rintro e w' ⟨rfl,rfl⟩
         go_simp
         refine hK.out _ _ hS (fun hS=>?_)
         clear hK K
         refine tkZ 30 103 (.bool false) rfl ?_ hS ?_
         ·intro w' hw'
          have nq:h1=h2:=by have:=SYq.out;simpa using this
          subst nq
          go_simp
          try with_reducible rfl
         (try dsimp only [Act.put]);(try simp only [zA,zB,zC])
         refine tkZ 31 104 (.bool false) rfl ?_ hS ?_
         ·intro w' hw'
          go_simp
          try with_reducible rfl
         (try dsimp only [Act.put]);(try simp only [zA,zB,zC])
         refine wpAnyH_done (by kernel_rfl) ?_ _
         have HQ:=hJJ (HZ.out.trans (hS.mono HZ.out.size))
         clear hS WZ
         go_wp2
         go_roundw
         case rel=>exact ⟨k+1,by omega,by go_num,HQ.out⟩
         case measure=>simp [intOf];omega
        ·have NI:Hid (((i:Int) != (k:Int))=true):=hJJ (by simp;omega)
         have NP:=hJJ (INq.out hik)
         clear hik
         have CLv:Hid ((h1 || h2)=false):=hJJ (CLq.out (by omega) (by omega))
         refine wp_region_held (S:=fun w'=>Below wz.heap.size wz w') (by kernel_rfl) ?_
         have hS:Below wz.heap.size wz { z with drawn:=z.drawn+1 }:=WZ.out.drew
         generalize ({ z with drawn:=z.drawn+1 }:World)=q at hS ⊢
         refine tkZ 0 73 ?_ rfl ?_ hS ?_
         rotate_left
         ·intro w' hw'
          go_simp
          try with_reducible rfl
         (try dsimp only [Act.put]);(try simp only [zA,zB,zC])
         refine tkZ 1 74 ?_ rfl ?_ hS ?_
         rotate_left
         ·intro w' hw'
          go_simp
          try with_reducible rfl
         (try dsimp only [Act.put]);(try simp only [zA,zB,zC])
         refine tkZ 2 75 (.bool true) rfl ?_ hS ?_
         ·intro w' hw'
          have nq:=NI.out
          go_simp
          try with_reducible rfl
         (try dsimp only [Act.put]);(try simp only [zA,zB,zC])
         refine tkZ 3 76 (.bool true) rfl ?_ hS ?_
         ·intro w' hw'
          go_simp
          try with_reducible rfl
         (try dsimp only [Act.put]);(try simp only [zA,zB,zC])
         refine tkZ 4 77 ?_ rfl ?_ hS ?_
         rotate_left
         ·intro w' hw'
          go_simp
          try with_reducible rfl
         (try dsimp only [Act.put]);(try simp only [zA,zB,zC])
         refine tkZ 5 78 ?_ rfl ?_ hS ?_
         rotate_left
         ·intro w' hw'
          go_simp
          try with_reducible rfl
         (try dsimp only [Act.put]);(try simp only [zA,zB,zC])
         refine tkZ 6 79 (.bool false) rfl ?_ hS ?_
         ·intro w' hw'
          have nq:=NP.out
          go_simp
          try with_reducible rfl
         (try dsimp only [Act.put]);(try simp only [zA,zB,zC])
         refine tkZ 7 80 (.bool false) rfl ?_ hS ?_
         ·intro w' hw'
          go_simp
          try with_reducible rfl
         (try dsimp only [Act.put]);(try simp only [zA,zB,zC])
         refine tkZ 8 81 (.bool false) rfl ?_ hS ?_
         ·intro w' hw'
          go_simp
          try with_reducible rfl
         (try dsimp only [Act.put]);(try simp only [zA,zB,zC])
         refine tkZ 9 82 ?_ rfl ?_ hS ?_
         rotate_left
         ·intro w' hw'
          go_simp
          try with_reducible rfl
         (try dsimp only [Act.put]);(try simp only [zA,zB,zC])
         refine tkZ 10 83 ?_ rfl ?_ hS ?_
         rotate_left
         ·intro w' hw'
          go_simp
          try with_reducible rfl
         (try dsimp only [Act.put]);(try simp only [zA,zB,zC])
         refine tlZ 11 84 31 (.tmp 3) ⟨w.heap.size,0,none⟩ c rfl hS (fun w' hw'=>LTW.out w' hw') Tryz.underlying31 IA.out ?_
         (try dsimp only [Act.put]);(try simp only [zA,zB,zC])
         refine tkZ 12 85 ?_ rfl ?_ hS ?_
         rotate_left
         ·intro w' hw'
          go_simp
          try with_reducible rfl
         (try dsimp only [Act.put]);(try simp only [zA,zB,zC])
         refine tkZ 13 86 ?_ rfl ?_ hS ?_
         rotate_left
         ·intro w' hw'
          go_simp
          try with_reducible rfl
         (try dsimp only [Act.put]);(try simp only [zA,zB,zC])
         refine rdZ 14 rfl (fun K hK=>?_)
         go_simp
         refine (CLc.out _ hS).mono ?_
         rintro e w' ⟨rfl,hb⟩
         have hq:=hS.trans (hb.mono hS.size)
         clear hS hb
         rename World=>q
         go_simp
         refine hK.out _ _ hq (fun hS=>?_)
         clear hK K hq
         rw [CLv.out]
         refine tkZ 15 88 (.bool false) rfl ?_ hS ?_
         ·intro w' hw'
          go_simp
          try with_reducible rfl
         (try dsimp only [Act.put]);(try simp only [zA,zB,zC])
         refine tkZ 16 89 (.bool false) rfl ?_ hS ?_
         ·intro w' hw'
          go_simp
          try with_reducible rfl
         (try dsimp only [Act.put]);(try simp only [zA,zB,zC])
         refine tkZ 17 90 (.bool false) rfl ?_ hS ?_
         ·intro w' hw'
          go_simp
          try with_reducible rfl
         (try dsimp only [Act.put]);(try simp only [zA,zB,zC])
         refine tkZ 18 91 ?_ rfl ?_ hS ?_
         rotate_left
         ·intro w' hw'
          go_simp
          try with_reducible rfl
         (try dsimp only [Act.put]);(try simp only [zA,zB,zC])
         refine tkZ 19 92 ?_ rfl ?_ hS ?_
         rotate_left
         ·intro w' hw'
          go_simp
          try with_reducible rfl
         (try dsimp only [Act.put]);(try simp only [zA,zB,zC])
         refine tkZ 20 93 ?_ rfl ?_ hS ?_
         rotate_left
         ·intro w' hw'
          go_simp
          try with_reducible rfl
         (try dsimp only [Act.put]);(try simp only [zA,zB,zC])
         refine tkZ 21 94 ?_ rfl ?_ hS ?_
         rotate_left
         ·intro w' hw'
          have cf:=CFx.out w' hw'
          go_simp
          try with_reducible rfl
         (try dsimp only [Act.put]);(try simp only [zA,zB,zC])
         refine tkZ 22 95 ?_ rfl ?_ hS ?_
         rotate_left
         ·intro w' hw'
          go_simp
          try with_reducible rfl
         (try dsimp only [Act.put]);(try simp only [zA,zB,zC])
         refine tkZ 24 97 ?_ rfl ?_ hS ?_
         rotate_left
         ·intro w' hw'
          go_simp
          try with_reducible rfl
         (try dsimp only [Act.put]);(try simp only [zA,zB,zC])
         refine tkZ 25 98 ?_ rfl ?_ hS ?_
         rotate_left
         ·intro w' hw'
          go_simp
          try with_reducible rfl
         (try dsimp only [Act.put]);(try simp only [zA,zB,zC])
         refine tkZ 26 99 ?_ rfl ?_ hS ?_
         rotate_left
         ·intro w' hw'
          go_simp
          try with_reducible rfl
         (try dsimp only [Act.put]);(try simp only [zA,zB,zC])
         refine tkZ 27 100 ?_ rfl ?_ hS ?_
         rotate_left
         ·intro w' hw'
          have cf:=CFy.out w' hw'
          go_simp
          try with_reducible rfl
         (try dsimp only [Act.put]);(try simp only [zA,zB,zC])
         refine tkZ 28 101 ?_ rfl ?_ hS ?_
         rotate_left
         ·intro w' hw'
          go_simp
          try with_reducible rfl
         (try dsimp only [Act.put]);(try simp only [zA,zB,zC])
         refine rdZ 23 rfl (fun K hK=>?_)
         go_simp
         refine (HSx.out _).mono ?_
         rintro e w' ⟨rfl,rfl⟩
         go_simp
         refine hK.out _ _ hS (fun hS=>?_)
         clear hK K
         refine rdZ 29 rfl (fun K hK=>?_)
         go_simp
         refine (HSy.out _).mono ?_
         rintro e w' ⟨rfl,rfl⟩
         go_simp
         refine hK.out _ _ hS (fun hS=>?_)
         clear hK K
         refine tkZ 30 103 (.bool false) rfl ?_ hS ?_
         ·intro w' hw'
          have nq:h1=h2:=by have:=SYq.out;simpa using this
          subst nq
          go_simp
          try with_reducible rfl
         (try dsimp only [Act.put]);(try simp only [zA,zB,zC])
         refine tkZ 31 104 (.bool false) rfl ?_ hS ?_
         ·intro w' hw'
          go_simp
          try with_reducible rfl
         (try dsimp only [Act.put]);(try simp only [zA,zB,zC])
         refine wpAnyH_done (by kernel_rfl) ?_ _
         have HQ:=hJJ (HZ.out.trans (hS.mono HZ.out.size))
         clear hS WZ
         go_wp2
         go_roundw
         case rel=>exact ⟨k+1,by omega,by go_num,HQ.out⟩
         case measure=>simp [intOf];omega
      ·have NG:Hid (((xg:Int) == (yg:Int))=false):=hJJ (by simp;omega)
       clear hgq
       refine wp_region_held (S:=fun w'=>Below wz.heap.size wz w') (by kernel_rfl) ?_
       have hS:Below wz.heap.size wz { v with drawn:=v.drawn+1 }:=WV.out.drew
       generalize ({ v with drawn:=v.drawn+1 }:World)=z at hS ⊢
       refine tkZ 0 49 ?_ rfl ?_ hS ?_
       rotate_left
       ·intro w' hw'
        go_simp
        try with_reducible rfl
       (try dsimp only [Act.put]);(try simp only [zA,zB,zC])
       refine tkZ 1 50 ?_ rfl ?_ hS ?_
       rotate_left
       ·intro w' hw'
        go_simp
        try with_reducible rfl
       (try dsimp only [Act.put]);(try simp only [zA,zB,zC])
       refine tkZ 2 51 ?_ rfl ?_ hS ?_
       rotate_left
       ·intro w' hw'
        go_simp
        try with_reducible rfl
       (try dsimp only [Act.put]);(try simp only [zA,zB,zC])
       refine tkZ 3 52 ?_ rfl ?_ hS ?_
       rotate_left
       ·intro w' hw'
        go_simp
        try with_reducible rfl
       (try dsimp only [Act.put]);(try simp only [zA,zB,zC])
       refine tkZ 4 53 ?_ rfl ?_ hS ?_
       rotate_left
       ·intro w' hw'
        have cf:=X0.out w' hw'
        go_simp
        try with_reducible rfl
       (try dsimp only [Act.put]);(try simp only [zA,zB,zC])
       refine tkZ 5 54 ?_ rfl ?_ hS ?_
       rotate_left
       ·intro w' hw'
        go_simp
        try with_reducible rfl
       (try dsimp only [Act.put]);(try simp only [zA,zB,zC])
       refine tkZ 6 55 ?_ rfl ?_ hS ?_
       rotate_left
       ·intro w' hw'
        go_simp
        try with_reducible rfl
       (try dsimp only [Act.put]);(try simp only [zA,zB,zC])
       refine tkZ 7 56 ?_ rfl ?_ hS ?_
       rotate_left
       ·intro w' hw'
        go_simp
        try with_reducible rfl
       (try dsimp only [Act.put]);(try simp only [zA,zB,zC])
       refine tkZ 8 57 ?_ rfl ?_ hS ?_
       rotate_left
       ·intro w' hw'
        go_simp
        try with_reducible rfl
       (try dsimp only [Act.put]);(try simp only [zA,zB,zC])
       refine tkZ 9 58 ?_ rfl ?_ hS ?_
       rotate_left
       ·intro w' hw'
        have cf:=Y0.out w' hw'
        go_simp
        try with_reducible rfl
       (try dsimp only [Act.put]);(try simp only [zA,zB,zC])
       refine tkZ 10 59 (.bool false) rfl ?_ hS ?_
       ·intro w' hw'
        have nq:=NG.out
        go_simp
        try with_reducible rfl
       (try dsimp only [Act.put]);(try simp only [zA,zB,zC])
       refine tkZ 11 60 (.bool false) rfl ?_ hS ?_
       ·intro w' hw'
        go_simp
        try with_reducible rfl
       (try dsimp only [Act.put]);(try simp only [zA,zB,zC])
       refine Held.take_skip (i:=12) (some 61) rfl rfl (by kernel_rfl) (by kernel_rfl) (by kernel_rfl) (fun _ _ _ h=>h) (by rfl) hS ?_
       (try dsimp only [Act.put]);(try simp only [zA,zB,zC])
       refine Held.take_skip (i:=13) (some 62) rfl rfl (by kernel_rfl) (by kernel_rfl) (by kernel_rfl) (fun _ _ _ h=>h) (by rfl) hS ?_
       (try dsimp only [Act.put]);(try simp only [zA,zB,zC])
       refine Held.take_skip (i:=14) (some 63) rfl rfl (by kernel_rfl) (by kernel_rfl) (by kernel_rfl) (fun _ _ _ h=>h) (by rfl) hS ?_
       (try dsimp only [Act.put]);(try simp only [zA,zB,zC])
       refine Held.take_skip (i:=15) (some 64) rfl rfl (by kernel_rfl) (by kernel_rfl) (by kernel_rfl) (fun _ _ _ h=>h) (by rfl) hS ?_
       (try dsimp only [Act.put]);(try simp only [zA,zB,zC])
       refine Held.take_skip (i:=16) (some 65) rfl rfl (by kernel_rfl) (by kernel_rfl) (by kernel_rfl) (fun _ _ _ h=>h) (by rfl) hS ?_
       (try dsimp only [Act.put]);(try simp only [zA,zB,zC])
       refine Held.take_skip (i:=17) (some 66) rfl rfl (by kernel_rfl) (by kernel_rfl) (by kernel_rfl) (fun _ _ _ h=>h) (by rfl) hS ?_
       (try dsimp only [Act.put]);(try simp only [zA,zB,zC])
       refine Held.take_skip (i:=18) (some 67) rfl rfl (by kernel_rfl) (by kernel_rfl) (by kernel_rfl) (fun _ _ _ h=>h) (by rfl) hS ?_
       (try dsimp only [Act.put]);(try simp only [zA,zB,zC])
       refine Held.take_skip (i:=19) (some 68) rfl rfl (by kernel_rfl) (by kernel_rfl) (by kernel_rfl) (fun _ _ _ h=>h) (by rfl) hS ?_
       (try dsimp only [Act.put]);(try simp only [zA,zB,zC])
       refine Held.take_skip (i:=20) (some 69) rfl rfl (by kernel_rfl) (by kernel_rfl) (by kernel_rfl) (fun _ _ _ h=>h) (by rfl) hS ?_
       (try dsimp only [Act.put]);(try simp only [zA,zB,zC])
       refine Held.take_skip (i:=21) (some 70) rfl rfl (by kernel_rfl) (by kernel_rfl) (by kernel_rfl) (fun _ _ _ h=>h) (by rfl) hS ?_
       (try dsimp only [Act.put]);(try simp only [zA,zB,zC])
       refine Held.take_skip (i:=22) (some 71) rfl rfl (by kernel_rfl) (by kernel_rfl) (by kernel_rfl) (fun _ _ _ h=>h) (by rfl) hS ?_
       (try dsimp only [Act.put]);(try simp only [zA,zB,zC])
       refine tkZ 23 72 (.bool false) rfl ?_ hS ?_
       ·intro w' hw'
        go_simp
        try with_reducible rfl
       (try dsimp only [Act.put]);(try simp only [zA,zB,zC])
       refine tkZ 24 12 (.bool false) rfl ?_ hS ?_
       ·intro w' hw'
        go_simp
        try with_reducible rfl
       (try dsimp only [Act.put]);(try simp only [zA,zB,zC])
       refine wpAnyH_done (by kernel_rfl) ?_ _
       have WZ:=hJJ hS
       clear hS WV HV
       go_upto_region 16 with fail
       by_cases hik:i=k
       ·have NI:Hid (((i:Int) != (k:Int))=false):=hJJ (by rw [hik];simp)
        clear hik
        refine wp_region_held (S:=fun w'=>Below wz.heap.size wz w') (by kernel_rfl) ?_
        have hS:Below wz.heap.size wz { z with drawn:=z.drawn+1 }:=WZ.out.drew
        generalize ({ z with drawn:=z.drawn+1 }:World)=q at hS ⊢
        refine tkZ 0 73 ?_ rfl ?_ hS ?_
        rotate_left
        ·intro w' hw'
         go_simp
         try with_reducible rfl
        (try dsimp only [Act.put]);(try simp only [zA,zB,zC])
        refine tkZ 1 74 ?_ rfl ?_ hS ?_
        rotate_left
        ·intro w' hw'
         go_simp
         try with_reducible rfl
        (try dsimp only [Act.put]);(try simp only [zA,zB,zC])
        refine tkZ 2 75 (.bool false) rfl ?_ hS ?_
        ·intro w' hw'
         have nq:=NI.out
         go_simp
         try with_reducible rfl
        (try dsimp only [Act.put]);(try simp only [zA,zB,zC])
        refine tkZ 3 76 (.bool false) rfl ?_ hS ?_
        ·intro w' hw'
         go_simp
         try with_reducible rfl
        (try dsimp only [Act.put]);(try simp only [zA,zB,zC])
        refine Held.take_skip (i:=4) (some 77) rfl rfl (by kernel_rfl) (by kernel_rfl) (by kernel_rfl) (fun _ _ _ h=>h) (by rfl) hS ?_
        (try dsimp only [Act.put]);(try simp only [zA,zB,zC])
        refine Held.take_skip (i:=5) (some 78) rfl rfl (by kernel_rfl) (by kernel_rfl) (by kernel_rfl) (fun _ _ _ h=>h) (by rfl) hS ?_
        (try dsimp only [Act.put]);(try simp only [zA,zB,zC])
        refine Held.take_skip (i:=6) (some 79) rfl rfl (by kernel_rfl) (by kernel_rfl) (by kernel_rfl) (fun _ _ _ h=>h) (by rfl) hS ?_
        (try dsimp only [Act.put]);(try simp only [zA,zB,zC])
        refine tkZ 7 80 (.bool false) rfl ?_ hS ?_
        ·intro w' hw'
         go_simp
         try with_reducible rfl
        (try dsimp only [Act.put]);(try simp only [zA,zB,zC])
        refine tkZ 8 81 (.bool false) rfl ?_ hS ?_
        ·intro w' hw'
         go_simp
         try with_reducible rfl
        (try dsimp only [Act.put]);(try simp only [zA,zB,zC])
        refine tkZ 9 82 ?_ rfl ?_ hS ?_
        rotate_left
        ·intro w' hw'
         go_simp
         try with_reducible rfl
        (try dsimp only [Act.put]);(try simp only [zA,zB,zC])
        refine tkZ 10 83 ?_ rfl ?_ hS ?_
        rotate_left
        ·intro w' hw'
         go_simp
         try with_reducible rfl
        (try dsimp only [Act.put]);(try simp only [zA,zB,zC])
        refine Held.take_skip (i:=11) (some 84) rfl rfl (by kernel_rfl) (by kernel_rfl) (by kernel_rfl) (fun _ _ _ h=>h) (by rfl) hS ?_
        (try dsimp only [Act.put]);(try simp only [zA,zB,zC])
        refine Held.take_skip (i:=12) (some 85) rfl rfl (by kernel_rfl) (by kernel_rfl) (by kernel_rfl) (fun _ _ _ h=>h) (by rfl) hS ?_
        (try dsimp only [Act.put]);(try simp only [zA,zB,zC])
        refine Held.take_skip (i:=13) (some 86) rfl rfl (by kernel_rfl) (by kernel_rfl) (by kernel_rfl) (fun _ _ _ h=>h) (by rfl) hS ?_
        (try dsimp only [Act.put]);(try simp only [zA,zB,zC])
        refine Held.take_skip (i:=14) (some 87) rfl rfl (by kernel_rfl) (by kernel_rfl) (by kernel_rfl) (fun _ _ _ h=>h) (by rfl) hS ?_
        (try dsimp only [Act.put]);(try simp only [zA,zB,zC])
        refine tkZ 15 88 (.bool false) rfl ?_ hS ?_
        ·intro w' hw'
         go_simp
         try with_reducible rfl
        (try dsimp only [Act.put]);(try simp only [zA,zB,zC])
        refine tkZ 16 89 (.bool false) rfl ?_ hS ?_
        ·intro w' hw'
         go_simp
         try with_reducible rfl
        (try dsimp only [Act.put]);(try simp only [zA,zB,zC])
        refine tkZ 17 90 (.bool false) rfl ?_ hS ?_
        ·intro w' hw'
         go_simp
         try with_reducible rfl
        (try dsimp only [Act.put]);(try simp only [zA,zB,zC])
        refine tkZ 18 91 ?_ rfl ?_ hS ?_
        rotate_left
        ·intro w' hw'
         go_simp
         try with_reducible rfl
        (try dsimp only [Act.put]);(try simp only [zA,zB,zC])
        refine tkZ 19 92 ?_ rfl ?_ hS ?_
        rotate_left
        ·intro w' hw'
         go_simp
         try with_reducible rfl
        (try dsimp only [Act.put]);(try simp only [zA,zB,zC])
        refine tkZ 20 93 ?_ rfl ?_ hS ?_
        rotate_left
        ·intro w' hw'
         go_simp
         try with_reducible rfl
        (try dsimp only [Act.put]);(try simp only [zA,zB,zC])
        refine tkZ 21 94 ?_ rfl ?_ hS ?_
        rotate_left
        ·intro w' hw'
         have cf:=CFx.out w' hw'
         go_simp
         try with_reducible rfl
        (try dsimp only [Act.put]);(try simp only [zA,zB,zC])
        refine tkZ 22 95 ?_ rfl ?_ hS ?_
        rotate_left
        ·intro w' hw'
         go_simp
         try with_reducible rfl
        (try dsimp only [Act.put]);(try simp only [zA,zB,zC])
        refine tkZ 24 97 ?_ rfl ?_ hS ?_
        rotate_left
        ·intro w' hw'
         go_simp
         try with_reducible rfl
        (try dsimp only [Act.put]);(try simp only [zA,zB,zC])
        refine tkZ 25 98 ?_ rfl ?_ hS ?_
        rotate_left
        ·intro w' hw'
         go_simp
         try with_reducible rfl
        (try dsimp only [Act.put]);(try simp only [zA,zB,zC])
        refine tkZ 26 99 ?_ rfl ?_ hS ?_
        rotate_left
        ·intro w' hw'
         go_simp
         try with_reducible rfl
        (try dsimp only [Act.put]);(try simp only [zA,zB,zC])
        refine tkZ 27 100 ?_ rfl ?_ hS ?_
        rotate_left
        ·intro w' hw'
         have cf:=CFy.out w' hw'
         go_simp
         try with_reducible rfl
        (try dsimp only [Act.put]);(try simp only [zA,zB,zC])
        refine tkZ 28 101 ?_ rfl ?_ hS ?_
        rotate_left
        ·intro w' hw'
         go_simp
         try with_reducible rfl
        (try dsimp only [Act.put]);(try simp only [zA,zB,zC])
        refine rdZ 23 rfl (fun K hK=>?_)
        go_simp
        refine (HSx.out _).mono ?_
        rintro e w' ⟨rfl,rfl⟩
        go_simp
        refine hK.out _ _ hS (fun hS=>?_)
        clear hK K
        refine rdZ 29 rfl (fun K hK=>?_)
        go_simp
        refine (HSy.out _).mono ?_
        rintro e w' ⟨rfl,rfl⟩
        go_simp
        refine hK.out _ _ hS (fun hS=>?_)
        clear hK K
        refine tkZ 30 103 (.bool false) rfl ?_ hS ?_
        ·intro w' hw'
         have nq:h1=h2:=by have:=SYq.out;simpa using this
         subst nq
         go_simp
         try with_reducible rfl
        (try dsimp only [Act.put]);(try simp only [zA,zB,zC])
        refine tkZ 31 104 (.bool false) rfl ?_ hS ?_
        ·intro w' hw'
         go_simp
         try with_reducible rfl
        (try dsimp only [Act.put]);(try simp only [zA,zB,zC])
        refine wpAnyH_done (by kernel_rfl) ?_ _
        have HQ:=hJJ (HZ.out.trans (hS.mono HZ.out.size))
        clear hS WZ
        go_wp2
        go_roundw
        case rel=>exact ⟨k+1,by omega,by go_num,HQ.out⟩
        case measure=>simp [intOf];omega
       ·have NI:Hid (((i:Int) != (k:Int))=true):=hJJ (by simp;omega)
        have NP:=hJJ (INq.out hik)
        clear hik
        refine wp_region_held (S:=fun w'=>Below wz.heap.size wz w') (by kernel_rfl) ?_
        have hS:Below wz.heap.size wz { z with drawn:=z.drawn+1 }:=WZ.out.drew
        generalize ({ z with drawn:=z.drawn+1 }:World)=q at hS ⊢
        refine tkZ 0 73 ?_ rfl ?_ hS ?_
        rotate_left
        ·intro w' hw'
         go_simp
         try with_reducible rfl
        (try dsimp only [Act.put]);(try simp only [zA,zB,zC])
        refine tkZ 1 74 ?_ rfl ?_ hS ?_
        rotate_left
        ·intro w' hw'
         go_simp
         try with_reducible rfl
        (try dsimp only [Act.put]);(try simp only [zA,zB,zC])
        refine tkZ 2 75 (.bool true) rfl ?_ hS ?_
        ·intro w' hw'
         have nq:=NI.out
         go_simp
         try with_reducible rfl
        (try dsimp only [Act.put]);(try simp only [zA,zB,zC])
        refine tkZ 3 76 (.bool true) rfl ?_ hS ?_
        ·intro w' hw'
         go_simp
         try with_reducible rfl
        (try dsimp only [Act.put]);(try simp only [zA,zB,zC])
        refine tkZ 4 77 ?_ rfl ?_ hS ?_
        rotate_left
        ·intro w' hw'
         go_simp
         try with_reducible rfl
        (try dsimp only [Act.put]);(try simp only [zA,zB,zC])
        refine tkZ 5 78 ?_ rfl ?_ hS ?_
        rotate_left
        ·intro w' hw'
         go_simp
         try with_reducible rfl
        (try dsimp only [Act.put]);(try simp only [zA,zB,zC])
        refine tkZ 6 79 (.bool false) rfl ?_ hS ?_
        ·intro w' hw'
         have nq:=NP.out
         go_simp
         try with_reducible rfl
        (try dsimp only [Act.put]);(try simp only [zA,zB,zC])
        refine tkZ 7 80 (.bool false) rfl ?_ hS ?_
        ·intro w' hw'
         go_simp
         try with_reducible rfl
        (try dsimp only [Act.put]);(try simp only [zA,zB,zC])
        refine tkZ 8 81 (.bool false) rfl ?_ hS ?_
        ·intro w' hw'
         go_simp
         try with_reducible rfl
        (try dsimp only [Act.put]);(try simp only [zA,zB,zC])
        refine tkZ 9 82 ?_ rfl ?_ hS ?_
        rotate_left
        ·intro w' hw'
         go_simp
         try with_reducible rfl
        (try dsimp only [Act.put]);(try simp only [zA,zB,zC])
        refine tkZ 10 83 ?_ rfl ?_ hS ?_
        rotate_left
        ·intro w' hw'
         go_simp
         try with_reducible rfl
        (try dsimp only [Act.put]);(try simp only [zA,zB,zC])
        refine Held.take_skip (i:=11) (some 84) rfl rfl (by kernel_rfl) (by kernel_rfl) (by kernel_rfl) (fun _ _ _ h=>h) (by rfl) hS ?_
        (try dsimp only [Act.put]);(try simp only [zA,zB,zC])
        refine Held.take_skip (i:=12) (some 85) rfl rfl (by kernel_rfl) (by kernel_rfl) (by kernel_rfl) (fun _ _ _ h=>h) (by rfl) hS ?_
        (try dsimp only [Act.put]);(try simp only [zA,zB,zC])
        refine Held.take_skip (i:=13) (some 86) rfl rfl (by kernel_rfl) (by kernel_rfl) (by kernel_rfl) (fun _ _ _ h=>h) (by rfl) hS ?_
        (try dsimp only [Act.put]);(try simp only [zA,zB,zC])
        refine Held.take_skip (i:=14) (some 87) rfl rfl (by kernel_rfl) (by kernel_rfl) (by kernel_rfl) (fun _ _ _ h=>h) (by rfl) hS ?_
        (try dsimp only [Act.put]);(try simp only [zA,zB,zC])
        refine tkZ 15 88 (.bool false) rfl ?_ hS ?_
        ·intro w' hw'
         go_simp
         try with_reducible rfl
        (try dsimp only [Act.put]);(try simp only [zA,zB,zC])
        refine tkZ 16 89 (.bool false) rfl ?_ hS ?_
        ·intro w' hw'
         go_simp
         try with_reducible rfl
        (try dsimp only [Act.put]);(try simp only [zA,zB,zC])
        refine tkZ 17 90 (.bool false) rfl ?_ hS ?_
        ·intro w' hw'
         go_simp
         try with_reducible rfl
        (try dsimp only [Act.put]);(try simp only [zA,zB,zC])
        refine tkZ 18 91 ?_ rfl ?_ hS ?_
        rotate_left
        ·intro w' hw'
         go_simp
         try with_reducible rfl
        (try dsimp only [Act.put]);(try simp only [zA,zB,zC])
        refine tkZ 19 92 ?_ rfl ?_ hS ?_
        rotate_left
        ·intro w' hw'
         go_simp
         try with_reducible rfl
        (try dsimp only [Act.put]);(try simp only [zA,zB,zC])
        refine tkZ 20 93 ?_ rfl ?_ hS ?_
        rotate_left
        ·intro w' hw'
         go_simp
         try with_reducible rfl
        (try dsimp only [Act.put]);(try simp only [zA,zB,zC])
        refine tkZ 21 94 ?_ rfl ?_ hS ?_
        rotate_left
        ·intro w' hw'
         have cf:=CFx.out w' hw'
         go_simp
         try with_reducible rfl
        (try dsimp only [Act.put]);(try simp only [zA,zB,zC])
        refine tkZ 22 95 ?_ rfl ?_ hS ?_
        rotate_left
        ·intro w' hw'
         go_simp
         try with_reducible rfl
        (try dsimp only [Act.put]);(try simp only [zA,zB,zC])
        refine tkZ 24 97 ?_ rfl ?_ hS ?_
        rotate_left
        ·intro w' hw'
         go_simp
         try with_reducible rfl
        (try dsimp only [Act.put]);(try simp only [zA,zB,zC])
        refine tkZ 25 98 ?_ rfl ?_ hS ?_
        rotate_left
        ·intro w' hw'
         go_simp
         try with_reducible rfl
        (try dsimp only [Act.put]);(try simp only [zA,zB,zC])
        refine tkZ 26 99 ?_ rfl ?_ hS ?_
        rotate_left
        ·intro w' hw'
         go_simp
         try with_reducible rfl
        (try dsimp only [Act.put]);(try simp only [zA,zB,zC])
        refine tkZ 27 100 ?_ rfl ?_ hS ?_
        rotate_left
        ·intro w' hw'
         have cf:=CFy.out w' hw'
         go_simp
         try with_reducible rfl
        (try dsimp only [Act.put]);(try simp only [zA,zB,zC])
        refine tkZ 28 101 ?_ rfl ?_ hS ?_
        rotate_left
        ·intro w' hw'
         go_simp
         try with_reducible rfl
        (try dsimp only [Act.put]);(try simp only [zA,zB,zC])
        refine rdZ 23 rfl (fun K hK=>?_)
        go_simp
        refine (HSx.out _).mono ?_
        rintro e w' ⟨rfl,rfl⟩
        go_simp
        refine hK.out _ _ hS (fun hS=>?_)
        clear hK K
        refine rdZ 29 rfl (fun K hK=>?_)
        go_simp
        refine (HSy.out _).mono ?_
        rintro e w' ⟨rfl,rfl⟩
        go_simp
        refine hK.out _ _ hS (fun hS=>?_)
        clear hK K
        refine tkZ 30 103 (.bool false) rfl ?_ hS ?_
        ·intro w' hw'
         have nq:h1=h2:=by have:=SYq.out;simpa using this
         subst nq
         go_simp
         try with_reducible rfl
        (try dsimp only [Act.put]);(try simp only [zA,zB,zC])
        refine tkZ 31 104 (.bool false) rfl ?_ hS ?_
        ·intro w' hw'
         go_simp
         try with_reducible rfl
        (try dsimp only [Act.put]);(try simp only [zA,zB,zC])
        refine wpAnyH_done (by kernel_rfl) ?_ _
        have HQ:=hJJ (HZ.out.trans (hS.mono HZ.out.size))
        clear hS WZ
        go_wp2
        go_roundw
        case rel=>exact ⟨k+1,by omega,by go_num,HQ.out⟩
        case measure=>simp [intOf];omega
     ·obtain rfl:k=n:=by omega
      clear hk hlk
      go_wp2
      go_roundw
      case rel=>exact ⟨i+1,by have:=HL.out;omega,by go_num,HZ.out⟩
      case measure=>simp [intOf];have:=HL.out;omega
   ·obtain rfl:i=n:=by omega
    have C2:=hJJ (D2.out.trans (HB.out.mono D2.out.size))
    have E2:=hJJ (B2.out.trans (HB.out.mono B2.out.size))
    clear hi hlt RW INJ SYM CLA RNG CFC CL
    go_upto_region 18 with fail
    go_wp2_with (refine lgZ 31 ⟨w.heap.size,0,none⟩ c rfl (LV.out _ C2.out) Tryz.underlying31 IA.out ?_)
    refine (ONC.out _ C2.out).mono ?_
    rintro e v5 ⟨rfl,hb⟩
    have E5:=hJJ (E2.out.trans (hb.mono E2.out.size))
    clear hb E2 C2
    go_wp2_with fail
    refine (RefS.rlist_any _ _).mono ?_
    rintro e v6 ⟨z0,rfl,hown,hb⟩
    have E6:=hJJ (E5.out.trans (hb.mono E5.out.size))
    obtain ⟨sb,sd,rfl,hrow'⟩:=row_of hown
    clear hown hb hrow' E5
    rw [← CNT.out]
    go_wp2_with fail
    refine (Wa9.awake_any _).mono ?_
    rintro e u2 ⟨rfl,hb⟩
    have E:=hJJ (E6.out.trans (hb.mono E6.out.size))
    clear hb
    go_wp2
    go_ret
    exact ⟨rfl,E.out⟩
 | true =>
  go_wp2_with fail
  refine (GenT.table_own a1 cap1 L v0 (HROW.out.below BW.out)).mono ?_
  rintro e v3 ⟨hd,rfl,ht,ow,hb⟩
  have LT0:=(Array.getElem?_eq_some_iff.1 BLK.out).1
  have BK3:=(hb.block _ LT0).trans BLK.out
  have CS:=cells_cut hd ht.ph ht.cf ht.fl
  have ON:=(cells_ok ht).one
  have IT:Hid (IsTab (v3.setRow w.heap.size ((genTab L).cells hd).toArray) hd (genTab L)):=hJJ (tab_after ht ow LT0 (Nat.lt_of_lt_of_le LT0 hb.size) BK3 _)
  have BW2:Hid (Below w.heap.size w (v3.setRow w.heap.size ((genTab L).cells hd).toArray)):=hJJ (Same.below_setRow (BW.out.trans (hb.mono BW.out.size)) TBs.out _)
  have BL2:=hJJ (setRow_heap v3 w.heap.size _ ((genTab L).cells hd).toArray _ _ BK3)
  have SM2:Hid (Few (genTab L)):=hJJ (genTab_few L)
  have IZ:Hid ((Tryz.prog.info? 31).map (·.size)=some ((genTab L).cells hd).length):=hJJ (by rw [CS];exact infoT)
  have OZ:(T0.cells H0).length=131:=cells_cut H0 K0.out.ph K0.out.cf K0.out.fl
  rw [HC0.out] at OZ
  have BK:=hJJ BK3
  clear ht ow hb BK3 BLK BW SM IT0 K0 HC0 HROW LT0 IA
  generalize hc2:(genTab L).cells hd=c2 at *
  generalize genTab L=T at *
  have HC:=hJJ hc2
  clear hc2
  go_upto_region 5 with (refine wpList_store_row rfl 31 _ _ rfl w.heap.size c2.toArray rfl rfl 31 _ BK.out (by rw [List.size_toArray];exact IZ.out) (by rw [List.size_toArray,List.size_toArray,OZ,CS]) ON ?_)
  clear BK IZ OZ CS ON TBs
  generalize v3.setRow w.heap.size c2.toArray=v4 at IT BW2 BL2 ⊢
  have BW:=BW2
  have BLK:=BL2
  have SM:=SM2
  clear BW2 BL2 SM2
  have LV:Hid (∀ W,Below v4.heap.size v4 W→Lies W ⟨w.heap.size,0,none⟩ c2):=hJJ (fun W hb=>(Row.lies_of_block ((hb.block _ (Array.getElem?_eq_some_iff.1 BLK.out).1).trans BLK.out)))
  have IA:Hid ((Tryz.prog.info? 31).map (·.size)=some c2.length):=hJJ (by rw [← HC.out,cells_cut hd IT.out.ph IT.out.cf IT.out.fl];exact infoT)
  have CK0:Hid (∀ W,Below v4.heap.size v4 W→Calls Tryz.prog 24 #[.agg c2.toArray] W fun e w'=>e=.returned (.agg (fcells (chkC T)))∧Below W.heap.size W w'):=hJJ (fun W hb=>by rw [← HC.out];exact ChkK.check_any T hd W (IT.out.below hb))
  have SP:Hid (∀ W,Below v4.heap.size v4 W→Calls Tryz.prog 25 #[.agg c2.toArray] W fun e w'=>∃ (sa:Option Addr) (sc:Nat),e=.returned (.slice sa (spots T).length sc)∧RowOf 4 Spt.cells w' ⟨sa,sc⟩ (spots T)∧Below W.heap.size W w'):=hJJ (fun W hb=>by rw [← HC.out];exact (Spots.spots_any T hd W (IT.out.below hb) SM.out).mono (by rintro e w' ⟨⟨sa,sc⟩,rfl,h1,h2⟩;exact ⟨sa,sc,rfl,h1,h2⟩))
  have CL:Hid (∀ p q W,Below v4.heap.size v4 W→0≤p∧p < 8→0≤q∧q < 8→Calls Tryz.prog 26 #[.agg c2.toArray,.int .i64 p,.int .i64 q] W fun e w'=>e=.returned (.bool (SetM.has (cfAt T p) q || SetM.has (cfAt T q) p))∧Below W.heap.size W w'):=hJJ (fun p q W hb hp hq=>by rw [← HC.out];exact Lcl.lclash_any T hd p q W (IT.out.below hb) hp hq)
  have ONC:Hid (∀ W,Below v4.heap.size v4 W→Calls Tryz.prog 29 #[.agg c2.toArray] W fun e w'=>e=.returned (.int .i64 (onS T:Nat))∧Below W.heap.size W w'):=hJJ (fun W hb=>by rw [← HC.out];exact OnS.on_any T hd W (IT.out.below hb))
  have CFC:Hid (∀ p W,0≤p∧p < 8→Below v4.heap.size v4 W→W.cell? ⟨w.heap.size,105+p.toNat,none⟩=some (I (cfAt T p))):=hJJ (fun p W hp hb=>by
   have h1:=LV.out W hb
   have h2:=(cells_ok IT.out).conflict
   have h3:((c2.drop 105).take 8)[p.toNat]?=some (I (cfAt T p)):=by
    rw [← HC.out]
    have:((T.cells hd).drop 105).take 8=T.conflict.map I:=h2
    rw [this,List.getElem?_map]
    unfold cfAt
    rw [List.getD_eq_getElem?_getD,List.getElem?_eq_getElem (show p.toNat < T.conflict.length by rw [IT.out.cf];omega)];rfl
   rw [List.getElem?_take_of_lt (by omega),List.getElem?_drop] at h3
   have:=h1 (105+p.toNat) _ h3
   rwa [Addr.add_mid,Nat.zero_add] at this)
  obtain ⟨⟨f1,f2⟩,hf⟩:∃ x,chkC T=x:=⟨_,rfl⟩
  rw [hf] at CK0
  have CK:Hid (∀ W,Below v4.heap.size v4 W→Calls Tryz.prog 24 #[.agg c2.toArray] W fun e w'=>e=.returned (.agg #[I f1,I f2])∧Below W.heap.size W w'):=hJJ CK0.out
  have EF:Hid (Same.Eqs 40 [I f1,I f2] [I 0,I 0] (decide (f1=0∧f2=0))):=hJJ (ChkK.fault_eqs f1 f2 0 0)
  have HF:=hJJ hf
  have SL:Hid ((spots T).length≤2000000):=hJJ (small_len SM.out.groups SM.out.rows)
  clear CK0 hf BLK IT HC SM
  go_wp2_with (refine lgZ 31 ⟨w.heap.size,0,none⟩ c2 rfl (LV.out _ (Below.refl _ _)) Tryz.underlying31 IA.out ?_)
  refine (CK.out _ (Below.refl _ _)).mono ?_
  rintro e v1 ⟨rfl,hb⟩
  have B1:=hJJ (BW.out.trans (hb.mono BW.out.size))
  have D1:=hJJ hb
  clear hb CK
  by_cases h0:f1=0∧f2=0
  rotate_left
  ·have EF2:Hid (Same.Eqs 40 [I f1,I f2] [I 0,I 0] false):=hJJ (by have:=EF.out;rwa [decide_eq_false h0] at this)
   clear EF h0 HF
   go_upto_region 6 with (refine Row.wpList_neq 40 _ _ _ rfl (by rfl) #[I f1,I f2] #[I 0,I 0] rfl rfl ChkK.guardF false EF2.out ?_)
   go_wp2_with fail
   refine (Wa9.awake_any _).mono ?_
   rintro e u2 ⟨rfl,hb⟩
   have E:=hJJ (B1.out.trans (hb.mono B1.out.size))
   clear hb
   go_wp2
   go_ret
   exact ⟨rfl,E.out⟩
  obtain ⟨rfl,rfl⟩:=h0
  have EF2:Hid (Same.Eqs 40 [I 0,I 0] [I 0,I 0] true):=hJJ (by have:=EF.out;rwa [decide_eq_true (by simp)] at this)
  have FI:=hJJ (Bes.fine HF.out)
  have CNT:Hid ((spots T).length=(SetM.list (onS T:Nat)).length):=hJJ FI.out.count
  have INJ:Hid (∀ (i k:Nat) x y,(spots T)[i]?=some x→(spots T)[k]?=some y→i ≠ k→(x.p == y.p)=false):=hJJ (fun i k x y hi hk hne=>by have:=FI.out.two hi hk hne;simpa using this)
  have SYM:Hid (∀ (i k:Nat) x y,(spots T)[i]?=some x→(spots T)[k]?=some y→(SetM.has (cfAt T x.p) y.p != SetM.has (cfAt T y.p) x.p)=false):=hJJ (fun i k x y hi hk=>by have:=FI.out.symm (List.mem_of_getElem? hi) (List.mem_of_getElem? hk);rw [this];simp)
  have CLA:Hid (∀ (i k:Nat) x y,(spots T)[i]?=some x→(spots T)[k]?=some y→x.g=y.g→x.k ≠ y.k→(SetM.has (cfAt T x.p) y.p || SetM.has (cfAt T y.p) x.p)=false):=hJJ (fun i k x y hi hk hg hr=>by have:=FI.out.clash (List.mem_of_getElem? hi) (List.mem_of_getElem? hk) hg hr;rw [this.1,this.2];rfl)
  have RNG:Hid (∀ (i:Nat) x,(spots T)[i]?=some x→0≤x.p∧x.p < 8):=hJJ (fun i x hi=>by obtain ⟨_,_,_,h⟩:=PlanM.mem_spots.1 (List.mem_of_getElem? hi);exact h)
  clear EF HF FI
  go_upto_region 7 with (refine Row.wpList_neq 40 _ _ _ rfl (by rfl) #[I 0,I 0] #[I 0,I 0] rfl rfl ChkK.guardF true EF2.out ?_)
  clear EF2
  go_wp2_with (refine lgZ 31 ⟨w.heap.size,0,none⟩ c2 rfl (LV.out _ D1.out) Tryz.underlying31 IA.out ?_)
  refine (SP.out _ D1.out).mono ?_
  rintro e v2 ⟨sa,sc,rfl,hrow,hb⟩
  have B2:=hJJ (B1.out.trans (hb.mono B1.out.size))
  have D2:=hJJ (D1.out.trans (hb.mono D1.out.size))
  have RW:=hJJ hrow
  clear hb hrow SP B1 D1
  generalize hs:spots T=ss at *
  clear hs
  generalize hn:ss.length=n at *
  have HN:=hJJ hn
  have sl:=SL.out
  clear hn
  go_upto_region 9 with fail
  go_loopw [8] (fun v wr=>∃ i:Nat,i≤n∧v=.int .i64 i∧Below v2.heap.size v2 wr) (fun v _=>n - (intOf v).toNat)
  case atStart=>exact ⟨0,by omega,rfl,Below.refl _ _⟩
  case round =>
   obtain ⟨i,hi,rfl,hB⟩:=hrel
   have HB:=hJJ hB
   clear hB
   by_cases hlt:i < n
   ·have HL:=hJJ hlt
    go_upto_region 12 with fail
    go_loopw [9] (fun v wz=>∃ k:Nat,k≤n∧v=.int .i64 k∧Below v2.heap.size v2 wz) (fun v _=>n - (intOf v).toNat)
    case atStart=>exact ⟨0,by omega,rfl,HB.out⟩
    case round =>
     obtain ⟨k,hk,rfl,hB⟩:=hrel
     have HZ:=hJJ hB
     clear hB
     rename World=>wz
     by_cases hlk:k < n
     ·have hx:ss[i]?=some (ss[i]'(by rw [HN.out];exact HL.out)):=List.getElem?_eq_getElem _
      have hy:ss[k]?=some (ss[k]'(by rw [HN.out];exact hlk)):=List.getElem?_eq_getElem _
      generalize ss[i]'(by rw [HN.out];exact HL.out)=x at hx
      generalize ss[k]'(by rw [HN.out];exact hlk)=y at hy
      obtain ⟨xg,xk,xi,xp⟩:=x
      obtain ⟨yg,yk,yi,yp⟩:=y
      have rx:=RNG.out i _ hx
      have ry:=RNG.out k _ hy
      simp only at rx ry
      obtain ⟨px,rfl⟩:=Int.eq_ofNat_of_zero_le rx.1
      obtain ⟨py,rfl⟩:=Int.eq_ofNat_of_zero_le ry.1
      obtain ⟨ax,rfl,hcx⟩:=RW.out.at hx
      obtain ⟨ay,ey,hcy⟩:=RW.out.at hy
      obtain rfl:=Option.some.inj ey
      have INq:Hid (i ≠ k→((px:Int) == (py:Int))=false):=hJJ (fun h=>INJ.out i k _ _ hx hy h)
      have SYq:Hid ((SetM.has (cfAt T px) py != SetM.has (cfAt T py) px)=false):=hJJ (SYM.out i k _ _ hx hy)
      have CLq:Hid (xg=yg→xk ≠ yk→(SetM.has (cfAt T px) py || SetM.has (cfAt T py) px)=false):=hJJ (fun h1 h2=>CLA.out i k _ _ hx hy h1 h2)
      have DZ:Hid (∀ w',Below wz.heap.size wz w'→Below v4.heap.size v4 w'):=hJJ (fun w' hb=>D2.out.trans ((HZ.out.trans (hb.mono HZ.out.size)).mono D2.out.size))
      have FX:Hid (∀ w',Below wz.heap.size wz w'→Lies w' (ax.add (i*4)) [I xg,I xk,I xi,I px]):=hJJ (fun w' hb=>hcx.below (HZ.out.trans (hb.mono HZ.out.size)))
      have FY:Hid (∀ w',Below wz.heap.size wz w'→Lies w' (ax.add (k*4)) [I yg,I yk,I yi,I py]):=hJJ (fun w' hb=>hcy.below (HZ.out.trans (hb.mono HZ.out.size)))
      have X0:Hid (∀ w',Below wz.heap.size wz w'→w'.cell? (ax.add (i*4))=some (I xg)):=hJJ (fun w' hb=>by have:=FX.out w' hb 0 _ rfl;rwa [Tab.add_two,Nat.add_zero] at this)
      have Y0:Hid (∀ w',Below wz.heap.size wz w'→w'.cell? (ax.add (k*4))=some (I yg)):=hJJ (fun w' hb=>by have:=FY.out w' hb 0 _ rfl;rwa [Tab.add_two,Nat.add_zero] at this)
      have X1:Hid (∀ w',Below wz.heap.size wz w'→w'.cell? ⟨(ax.add (i*4)).block,(ax.add (i*4)).off+1,none⟩=some (I xk)):=hJJ (fun w' hb=>FX.out w' hb 1 _ rfl)
      have Y1:Hid (∀ w',Below wz.heap.size wz w'→w'.cell? ⟨(ax.add (k*4)).block,(ax.add (k*4)).off+1,none⟩=some (I yk)):=hJJ (fun w' hb=>FY.out w' hb 1 _ rfl)
      have X3:Hid (∀ w',Below wz.heap.size wz w'→w'.cell? ⟨(ax.add (i*4)).block,(ax.add (i*4)).off+3,none⟩=some (I px)):=hJJ (fun w' hb=>FX.out w' hb 3 _ rfl)
      have Y3:Hid (∀ w',Below wz.heap.size wz w'→w'.cell? ⟨(ax.add (k*4)).block,(ax.add (k*4)).off+3,none⟩=some (I py)):=hJJ (fun w' hb=>FY.out w' hb 3 _ rfl)
      have lx:(px:Int) < 8:=rx.2
      have ly:(py:Int) < 8:=ry.2
      have CFx:Hid (∀ w',Below wz.heap.size wz w'→w'.cell? ⟨w.heap.size,105+px,none⟩=some (I (cfAt T px))):=hJJ (fun w' hb=>by have:=CFC.out px w' rx (DZ.out w' hb);rwa [Int.toNat_natCast] at this)
      have CFy:Hid (∀ w',Below wz.heap.size wz w'→w'.cell? ⟨w.heap.size,105+py,none⟩=some (I (cfAt T py))):=hJJ (fun w' hb=>by have:=CFC.out py w' ry (DZ.out w' hb);rwa [Int.toNat_natCast] at this)
      have CLc:Hid (∀ w',Below wz.heap.size wz w'→Calls Tryz.prog 26 #[.agg c2.toArray,.int .i64 px,.int .i64 py] w' fun e w2=>e=.returned (.bool (SetM.has (cfAt T px) py || SetM.has (cfAt T py) px))∧Below w'.heap.size w' w2):=hJJ (fun w' hb=>CL.out px py w' (DZ.out w' hb) rx ry)
      have HSx:=hJJ (fun w'=>RefS.rhas_any (cfAt T px) (py:Int) w')
      have HSy:=hJJ (fun w'=>RefS.rhas_any (cfAt T py) (px:Int) w')
      have LTW:Hid (∀ w',Below wz.heap.size wz w'→Lies w' ⟨w.heap.size,0,none⟩ c2):=hJJ (fun w' hb=>LV.out _ (DZ.out w' hb))
      clear hcx hcy hx hy rx ry FX FY INJ SYM CLA RNG CFC CL
      generalize cfAt T px=cx at *
      generalize cfAt T py=cy at *
      generalize SetM.has cx py=h1 at *
      generalize SetM.has cy px=h2 at *
      have hl2:=HL.out
      go_upto_region 14 with fail
      refine wp_region_held (S:=fun w'=>Below wz.heap.size wz w') (by kernel_rfl) ?_
      have hS:Below wz.heap.size wz { wz with drawn:=wz.drawn+1 }:=(Below.refl _ _).drew
      generalize ({ wz with drawn:=wz.drawn+1 }:World)=v at hS ⊢
      refine tkZ 0 39 ?_ rfl ?_ hS ?_
      rotate_left
      ·intro w' hw'
       go_simp
       try with_reducible rfl
      (try dsimp only [Act.put]);(try simp only [zA,zB,zC])
      refine tkZ 1 40 ?_ rfl ?_ hS ?_
      rotate_left
      ·intro w' hw'
       go_simp
       try with_reducible rfl
      (try dsimp only [Act.put]);(try simp only [zA,zB,zC])
      refine tkZ 2 41 ?_ rfl ?_ hS ?_
      rotate_left
      ·intro w' hw'
       go_simp
       try with_reducible rfl
      (try dsimp only [Act.put]);(try simp only [zA,zB,zC])
      refine tkZ 3 42 ?_ rfl ?_ hS ?_
      rotate_left
      ·intro w' hw'
       go_simp
       try with_reducible rfl
      (try dsimp only [Act.put]);(try simp only [zA,zB,zC])
      refine tkZ 4 43 ?_ rfl ?_ hS ?_
      rotate_left
      ·intro w' hw'
       have cf:=X3.out w' hw'
       go_simp
       try with_reducible rfl
      (try dsimp only [Act.put]);(try simp only [zA,zB,zC])
      refine tkZ 5 44 ?_ rfl ?_ hS ?_
      rotate_left
      ·intro w' hw'
       go_simp
       try with_reducible rfl
      (try dsimp only [Act.put]);(try simp only [zA,zB,zC])
      refine tkZ 6 45 ?_ rfl ?_ hS ?_
      rotate_left
      ·intro w' hw'
       go_simp
       try with_reducible rfl
      (try dsimp only [Act.put]);(try simp only [zA,zB,zC])
      refine tkZ 7 46 ?_ rfl ?_ hS ?_
      rotate_left
      ·intro w' hw'
       go_simp
       try with_reducible rfl
      (try dsimp only [Act.put]);(try simp only [zA,zB,zC])
      refine tkZ 8 47 ?_ rfl ?_ hS ?_
      rotate_left
      ·intro w' hw'
       go_simp
       try with_reducible rfl
      (try dsimp only [Act.put]);(try simp only [zA,zB,zC])
      refine tkZ 9 48 ?_ rfl ?_ hS ?_
      rotate_left
      ·intro w' hw'
       have cf:=Y3.out w' hw'
       go_simp
       try with_reducible rfl
      (try dsimp only [Act.put]);(try simp only [zA,zB,zC])
      refine tkZ 10 10 ?_ rfl ?_ hS ?_
      rotate_left
      ·intro w' hw'
       go_simp
       try with_reducible rfl
      (try dsimp only [Act.put]);(try simp only [zA,zB,zC])
      refine tkZ 11 11 ?_ rfl ?_ hS ?_
      rotate_left
      ·intro w' hw'
       go_simp
       try with_reducible rfl
      (try dsimp only [Act.put]);(try simp only [zA,zB,zC])
      refine wpAnyH_done (by kernel_rfl) ?_ _
      have HV:=hJJ (HZ.out.trans (hS.mono HZ.out.size))
      have WV:=hJJ hS
      clear hS
      go_upto_region 15 with fail
      by_cases hgq:xg=yg
      ·have NG:Hid (((xg:Int) == (yg:Int))=true):=hJJ (by rw [hgq];simp)
       by_cases hkq:xk=yk
       ·have NK:Hid (((xk:Int) != (yk:Int))=false):=hJJ (by rw [hkq];simp)
        clear hgq hkq
        refine wp_region_held (S:=fun w'=>Below wz.heap.size wz w') (by kernel_rfl) ?_
        have hS:Below wz.heap.size wz { v with drawn:=v.drawn+1 }:=WV.out.drew
        generalize ({ v with drawn:=v.drawn+1 }:World)=z at hS ⊢
        refine tkZ 0 49 ?_ rfl ?_ hS ?_
        rotate_left
        ·intro w' hw'
         go_simp
         try with_reducible rfl
        (try dsimp only [Act.put]);(try simp only [zA,zB,zC])
        refine tkZ 1 50 ?_ rfl ?_ hS ?_
        rotate_left
        ·intro w' hw'
         go_simp
         try with_reducible rfl
        (try dsimp only [Act.put]);(try simp only [zA,zB,zC])
        refine tkZ 2 51 ?_ rfl ?_ hS ?_
        rotate_left
        ·intro w' hw'
         go_simp
         try with_reducible rfl
        (try dsimp only [Act.put]);(try simp only [zA,zB,zC])
        refine tkZ 3 52 ?_ rfl ?_ hS ?_
        rotate_left
        ·intro w' hw'
         go_simp
         try with_reducible rfl
        (try dsimp only [Act.put]);(try simp only [zA,zB,zC])
        refine tkZ 4 53 ?_ rfl ?_ hS ?_
        rotate_left
        ·intro w' hw'
         have cf:=X0.out w' hw'
         go_simp
         try with_reducible rfl
        (try dsimp only [Act.put]);(try simp only [zA,zB,zC])
        refine tkZ 5 54 ?_ rfl ?_ hS ?_
        rotate_left
        ·intro w' hw'
         go_simp
         try with_reducible rfl
        (try dsimp only [Act.put]);(try simp only [zA,zB,zC])
        refine tkZ 6 55 ?_ rfl ?_ hS ?_
        rotate_left
        ·intro w' hw'
         go_simp
         try with_reducible rfl
        (try dsimp only [Act.put]);(try simp only [zA,zB,zC])
        refine tkZ 7 56 ?_ rfl ?_ hS ?_
        rotate_left
        ·intro w' hw'
         go_simp
         try with_reducible rfl
        (try dsimp only [Act.put]);(try simp only [zA,zB,zC])
        refine tkZ 8 57 ?_ rfl ?_ hS ?_
        rotate_left
        ·intro w' hw'
         go_simp
         try with_reducible rfl
        (try dsimp only [Act.put]);(try simp only [zA,zB,zC])
        refine tkZ 9 58 ?_ rfl ?_ hS ?_
        rotate_left
        ·intro w' hw'
         have cf:=Y0.out w' hw'
         go_simp
         try with_reducible rfl
        (try dsimp only [Act.put]);(try simp only [zA,zB,zC])
        refine tkZ 10 59 (.bool true) rfl ?_ hS ?_
        ·intro w' hw'
         have nq:=NG.out
         go_simp
         try with_reducible rfl
        (try dsimp only [Act.put]);(try simp only [zA,zB,zC])
        refine tkZ 11 60 (.bool true) rfl ?_ hS ?_
        ·intro w' hw'
         go_simp
         try with_reducible rfl
        (try dsimp only [Act.put]);(try simp only [zA,zB,zC])
        refine tkZ 12 61 ?_ rfl ?_ hS ?_
        rotate_left
        ·intro w' hw'
         go_simp
         try with_reducible rfl
        (try dsimp only [Act.put]);(try simp only [zA,zB,zC])
        refine tkZ 13 62 ?_ rfl ?_ hS ?_
        rotate_left
        ·intro w' hw'
         go_simp
         try with_reducible rfl
        (try dsimp only [Act.put]);(try simp only [zA,zB,zC])
        refine tkZ 14 63 ?_ rfl ?_ hS ?_
        rotate_left
        ·intro w' hw'
         go_simp
         try with_reducible rfl
        (try dsimp only [Act.put]);(try simp only [zA,zB,zC])
        refine tkZ 15 64 ?_ rfl ?_ hS ?_
        rotate_left
        ·intro w' hw'
         go_simp
         try with_reducible rfl
        (try dsimp only [Act.put]);(try simp only [zA,zB,zC])
        refine tkZ 16 65 ?_ rfl ?_ hS ?_
        rotate_left
        ·intro w' hw'
         have cf:=X1.out w' hw'
         go_simp
         try with_reducible rfl
        (try dsimp only [Act.put]);(try simp only [zA,zB,zC])
        refine tkZ 17 66 ?_ rfl ?_ hS ?_
        rotate_left
        ·intro w' hw'
         go_simp
         try with_reducible rfl
        (try dsimp only [Act.put]);(try simp only [zA,zB,zC])
        refine tkZ 18 67 ?_ rfl ?_ hS ?_
        rotate_left
        ·intro w' hw'
         go_simp
         try with_reducible rfl
        (try dsimp only [Act.put]);(try simp only [zA,zB,zC])
        refine tkZ 19 68 ?_ rfl ?_ hS ?_
        rotate_left
        ·intro w' hw'
         go_simp
         try with_reducible rfl
        (try dsimp only [Act.put]);(try simp only [zA,zB,zC])
        refine tkZ 20 69 ?_ rfl ?_ hS ?_
        rotate_left
        ·intro w' hw'
         go_simp
         try with_reducible rfl
        (try dsimp only [Act.put]);(try simp only [zA,zB,zC])
        refine tkZ 21 70 ?_ rfl ?_ hS ?_
        rotate_left
        ·intro w' hw'
         have cf:=Y1.out w' hw'
         go_simp
         try with_reducible rfl
        (try dsimp only [Act.put]);(try simp only [zA,zB,zC])
        refine tkZ 22 71 (.bool false) rfl ?_ hS ?_
        ·intro w' hw'
         have nq:=NK.out
         go_simp
         try with_reducible rfl
        (try dsimp only [Act.put]);(try simp only [zA,zB,zC])
        refine tkZ 23 72 (.bool false) rfl ?_ hS ?_
        ·intro w' hw'
         go_simp
         try with_reducible rfl
        (try dsimp only [Act.put]);(try simp only [zA,zB,zC])
        refine tkZ 24 12 (.bool false) rfl ?_ hS ?_
        ·intro w' hw'
         go_simp
         try with_reducible rfl
        (try dsimp only [Act.put]);(try simp only [zA,zB,zC])
        refine wpAnyH_done (by kernel_rfl) ?_ _
        have WZ:=hJJ hS
        clear hS WV HV
        go_upto_region 16 with fail
        by_cases hik:i=k
        ·have NI:Hid (((i:Int) != (k:Int))=false):=hJJ (by rw [hik];simp)
         clear hik
         refine wp_region_held (S:=fun w'=>Below wz.heap.size wz w') (by kernel_rfl) ?_
         have hS:Below wz.heap.size wz { z with drawn:=z.drawn+1 }:=WZ.out.drew
         generalize ({ z with drawn:=z.drawn+1 }:World)=q at hS ⊢
         refine tkZ 0 73 ?_ rfl ?_ hS ?_
         rotate_left
         ·intro w' hw'
          go_simp
          try with_reducible rfl
         (try dsimp only [Act.put]);(try simp only [zA,zB,zC])
         refine tkZ 1 74 ?_ rfl ?_ hS ?_
         rotate_left
         ·intro w' hw'
          go_simp
          try with_reducible rfl
         (try dsimp only [Act.put]);(try simp only [zA,zB,zC])
         refine tkZ 2 75 (.bool false) rfl ?_ hS ?_
         ·intro w' hw'
          have nq:=NI.out
          go_simp
          try with_reducible rfl
         (try dsimp only [Act.put]);(try simp only [zA,zB,zC])
         refine tkZ 3 76 (.bool false) rfl ?_ hS ?_
         ·intro w' hw'
          go_simp
          try with_reducible rfl
         (try dsimp only [Act.put]);(try simp only [zA,zB,zC])
         refine Held.take_skip (i:=4) (some 77) rfl rfl (by kernel_rfl) (by kernel_rfl) (by kernel_rfl) (fun _ _ _ h=>h) (by rfl) hS ?_
         (try dsimp only [Act.put]);(try simp only [zA,zB,zC])
         refine Held.take_skip (i:=5) (some 78) rfl rfl (by kernel_rfl) (by kernel_rfl) (by kernel_rfl) (fun _ _ _ h=>h) (by rfl) hS ?_
         (try dsimp only [Act.put]);(try simp only [zA,zB,zC])
         refine Held.take_skip (i:=6) (some 79) rfl rfl (by kernel_rfl) (by kernel_rfl) (by kernel_rfl) (fun _ _ _ h=>h) (by rfl) hS ?_
         (try dsimp only [Act.put]);(try simp only [zA,zB,zC])
         refine tkZ 7 80 (.bool false) rfl ?_ hS ?_
         ·intro w' hw'
          go_simp
          try with_reducible rfl
         (try dsimp only [Act.put]);(try simp only [zA,zB,zC])
         refine tkZ 8 81 (.bool false) rfl ?_ hS ?_
         ·intro w' hw'
          go_simp
          try with_reducible rfl
         (try dsimp only [Act.put]);(try simp only [zA,zB,zC])
         refine tkZ 9 82 ?_ rfl ?_ hS ?_
         rotate_left
         ·intro w' hw'
          go_simp
          try with_reducible rfl
         (try dsimp only [Act.put]);(try simp only [zA,zB,zC])
         refine tkZ 10 83 ?_ rfl ?_ hS ?_
         rotate_left
         ·intro w' hw'
          go_simp
          try with_reducible rfl
         (try dsimp only [Act.put]);(try simp only [zA,zB,zC])
         refine Held.take_skip (i:=11) (some 84) rfl rfl (by kernel_rfl) (by kernel_rfl) (by kernel_rfl) (fun _ _ _ h=>h) (by rfl) hS ?_
         (try dsimp only [Act.put]);(try simp only [zA,zB,zC])
         refine Held.take_skip (i:=12) (some 85) rfl rfl (by kernel_rfl) (by kernel_rfl) (by kernel_rfl) (fun _ _ _ h=>h) (by rfl) hS ?_
         (try dsimp only [Act.put]);(try simp only [zA,zB,zC])
         refine Held.take_skip (i:=13) (some 86) rfl rfl (by kernel_rfl) (by kernel_rfl) (by kernel_rfl) (fun _ _ _ h=>h) (by rfl) hS ?_
         (try dsimp only [Act.put]);(try simp only [zA,zB,zC])
         refine Held.take_skip (i:=14) (some 87) rfl rfl (by kernel_rfl) (by kernel_rfl) (by kernel_rfl) (fun _ _ _ h=>h) (by rfl) hS ?_
         (try dsimp only [Act.put]);(try simp only [zA,zB,zC])
         refine tkZ 15 88 (.bool false) rfl ?_ hS ?_
         ·intro w' hw'
          go_simp
          try with_reducible rfl
         (try dsimp only [Act.put]);(try simp only [zA,zB,zC])
         refine tkZ 16 89 (.bool false) rfl ?_ hS ?_
         ·intro w' hw'
          go_simp
          try with_reducible rfl
         (try dsimp only [Act.put]);(try simp only [zA,zB,zC])
         refine tkZ 17 90 (.bool false) rfl ?_ hS ?_
         ·intro w' hw'
          go_simp
          try with_reducible rfl
         (try dsimp only [Act.put]);(try simp only [zA,zB,zC])
         refine tkZ 18 91 ?_ rfl ?_ hS ?_
         rotate_left
         ·intro w' hw'
          go_simp
          try with_reducible rfl
         (try dsimp only [Act.put]);(try simp only [zA,zB,zC])
         refine tkZ 19 92 ?_ rfl ?_ hS ?_
         rotate_left
         ·intro w' hw'
          go_simp
          try with_reducible rfl
         (try dsimp only [Act.put]);(try simp only [zA,zB,zC])
         refine tkZ 20 93 ?_ rfl ?_ hS ?_
         rotate_left
         ·intro w' hw'
          go_simp
          try with_reducible rfl
         (try dsimp only [Act.put]);(try simp only [zA,zB,zC])
         refine tkZ 21 94 ?_ rfl ?_ hS ?_
         rotate_left
         ·intro w' hw'
          have cf:=CFx.out w' hw'
          go_simp
          try with_reducible rfl
         (try dsimp only [Act.put]);(try simp only [zA,zB,zC])
         refine tkZ 22 95 ?_ rfl ?_ hS ?_
         rotate_left
         ·intro w' hw'
          go_simp
          try with_reducible rfl
         (try dsimp only [Act.put]);(try simp only [zA,zB,zC])
         refine tkZ 24 97 ?_ rfl ?_ hS ?_
         rotate_left
         ·intro w' hw'
          go_simp
          try with_reducible rfl
         (try dsimp only [Act.put]);(try simp only [zA,zB,zC])
         refine tkZ 25 98 ?_ rfl ?_ hS ?_
         rotate_left
         ·intro w' hw'
          go_simp
          try with_reducible rfl
         (try dsimp only [Act.put]);(try simp only [zA,zB,zC])
         refine tkZ 26 99 ?_ rfl ?_ hS ?_
         rotate_left
         ·intro w' hw'
          go_simp
          try with_reducible rfl
         (try dsimp only [Act.put]);(try simp only [zA,zB,zC])
         refine tkZ 27 100 ?_ rfl ?_ hS ?_
         rotate_left
         ·intro w' hw'
          have cf:=CFy.out w' hw'
          go_simp
          try with_reducible rfl
         (try dsimp only [Act.put]);(try simp only [zA,zB,zC])
         refine tkZ 28 101 ?_ rfl ?_ hS ?_
         rotate_left
         ·intro w' hw'
          go_simp
          try with_reducible rfl
         (try dsimp only [Act.put]);(try simp only [zA,zB,zC])
         refine rdZ 23 rfl (fun K hK=>?_)
         go_simp
         refine (HSx.out _).mono ?_
         rintro e w' ⟨rfl,rfl⟩
         go_simp
         refine hK.out _ _ hS (fun hS=>?_)
         clear hK K
         refine rdZ 29 rfl (fun K hK=>?_)
         go_simp
         refine (HSy.out _).mono ?_
         rintro e w' ⟨rfl,rfl⟩
         go_simp
         refine hK.out _ _ hS (fun hS=>?_)
         clear hK K
         refine tkZ 30 103 (.bool false) rfl ?_ hS ?_
         ·intro w' hw'
          have nq:h1=h2:=by have:=SYq.out;simpa using this
          subst nq
          go_simp
          try with_reducible rfl
         (try dsimp only [Act.put]);(try simp only [zA,zB,zC])
         refine tkZ 31 104 (.bool false) rfl ?_ hS ?_
         ·intro w' hw'
          go_simp
          try with_reducible rfl
         (try dsimp only [Act.put]);(try simp only [zA,zB,zC])
         refine wpAnyH_done (by kernel_rfl) ?_ _
         have HQ:=hJJ (HZ.out.trans (hS.mono HZ.out.size))
         clear hS WZ
         go_wp2
         go_roundw
         case rel=>exact ⟨k+1,by omega,by go_num,HQ.out⟩
         case measure=>simp [intOf];omega
        ·have NI:Hid (((i:Int) != (k:Int))=true):=hJJ (by simp;omega)
         have NP:=hJJ (INq.out hik)
         clear hik
         refine wp_region_held (S:=fun w'=>Below wz.heap.size wz w') (by kernel_rfl) ?_
         have hS:Below wz.heap.size wz { z with drawn:=z.drawn+1 }:=WZ.out.drew
         generalize ({ z with drawn:=z.drawn+1 }:World)=q at hS ⊢
         refine tkZ 0 73 ?_ rfl ?_ hS ?_
         rotate_left
         ·intro w' hw'
          go_simp
          try with_reducible rfl
         (try dsimp only [Act.put]);(try simp only [zA,zB,zC])
         refine tkZ 1 74 ?_ rfl ?_ hS ?_
         rotate_left
         ·intro w' hw'
          go_simp
          try with_reducible rfl
         (try dsimp only [Act.put]);(try simp only [zA,zB,zC])
         refine tkZ 2 75 (.bool true) rfl ?_ hS ?_
         ·intro w' hw'
          have nq:=NI.out
          go_simp
          try with_reducible rfl
         (try dsimp only [Act.put]);(try simp only [zA,zB,zC])
         refine tkZ 3 76 (.bool true) rfl ?_ hS ?_
         ·intro w' hw'
          go_simp
          try with_reducible rfl
         (try dsimp only [Act.put]);(try simp only [zA,zB,zC])
         refine tkZ 4 77 ?_ rfl ?_ hS ?_
         rotate_left
         ·intro w' hw'
          go_simp
          try with_reducible rfl
         (try dsimp only [Act.put]);(try simp only [zA,zB,zC])
         refine tkZ 5 78 ?_ rfl ?_ hS ?_
         rotate_left
         ·intro w' hw'
          go_simp
          try with_reducible rfl
         (try dsimp only [Act.put]);(try simp only [zA,zB,zC])
         refine tkZ 6 79 (.bool false) rfl ?_ hS ?_
         ·intro w' hw'
          have nq:=NP.out
          go_simp
          try with_reducible rfl
         (try dsimp only [Act.put]);(try simp only [zA,zB,zC])
         refine tkZ 7 80 (.bool false) rfl ?_ hS ?_
         ·intro w' hw'
          go_simp
          try with_reducible rfl
         (try dsimp only [Act.put]);(try simp only [zA,zB,zC])
         refine tkZ 8 81 (.bool false) rfl ?_ hS ?_
         ·intro w' hw'
          go_simp
          try with_reducible rfl
         (try dsimp only [Act.put]);(try simp only [zA,zB,zC])
         refine tkZ 9 82 ?_ rfl ?_ hS ?_
         rotate_left
         ·intro w' hw'
          go_simp
          try with_reducible rfl
         (try dsimp only [Act.put]);(try simp only [zA,zB,zC])
         refine tkZ 10 83 ?_ rfl ?_ hS ?_
         rotate_left
         ·intro w' hw'
          go_simp
          try with_reducible rfl
         (try dsimp only [Act.put]);(try simp only [zA,zB,zC])
         refine Held.take_skip (i:=11) (some 84) rfl rfl (by kernel_rfl) (by kernel_rfl) (by kernel_rfl) (fun _ _ _ h=>h) (by rfl) hS ?_
         (try dsimp only [Act.put]);(try simp only [zA,zB,zC])
         refine Held.take_skip (i:=12) (some 85) rfl rfl (by kernel_rfl) (by kernel_rfl) (by kernel_rfl) (fun _ _ _ h=>h) (by rfl) hS ?_
         (try dsimp only [Act.put]);(try simp only [zA,zB,zC])
         refine Held.take_skip (i:=13) (some 86) rfl rfl (by kernel_rfl) (by kernel_rfl) (by kernel_rfl) (fun _ _ _ h=>h) (by rfl) hS ?_
         (try dsimp only [Act.put]);(try simp only [zA,zB,zC])
         refine Held.take_skip (i:=14) (some 87) rfl rfl (by kernel_rfl) (by kernel_rfl) (by kernel_rfl) (fun _ _ _ h=>h) (by rfl) hS ?_
         (try dsimp only [Act.put]);(try simp only [zA,zB,zC])
         refine tkZ 15 88 (.bool false) rfl ?_ hS ?_
         ·intro w' hw'
          go_simp
          try with_reducible rfl
         (try dsimp only [Act.put]);(try simp only [zA,zB,zC])
         refine tkZ 16 89 (.bool false) rfl ?_ hS ?_
         ·intro w' hw'
          go_simp
          try with_reducible rfl
         (try dsimp only [Act.put]);(try simp only [zA,zB,zC])
         refine tkZ 17 90 (.bool false) rfl ?_ hS ?_
         ·intro w' hw'
          go_simp
          try with_reducible rfl
         (try dsimp only [Act.put]);(try simp only [zA,zB,zC])
         refine tkZ 18 91 ?_ rfl ?_ hS ?_
         rotate_left
         ·intro w' hw'
          go_simp
          try with_reducible rfl
         (try dsimp only [Act.put]);(try simp only [zA,zB,zC])
         refine tkZ 19 92 ?_ rfl ?_ hS ?_
         rotate_left
         ·intro w' hw'
          go_simp
          try with_reducible rfl
         (try dsimp only [Act.put]);(try simp only [zA,zB,zC])
         refine tkZ 20 93 ?_ rfl ?_ hS ?_
         rotate_left
         ·intro w' hw'
          go_simp
          try with_reducible rfl
         (try dsimp only [Act.put]);(try simp only [zA,zB,zC])
         refine tkZ 21 94 ?_ rfl ?_ hS ?_
         rotate_left
         ·intro w' hw'
          have cf:=CFx.out w' hw'
          go_simp
          try with_reducible rfl
         (try dsimp only [Act.put]);(try simp only [zA,zB,zC])
         refine tkZ 22 95 ?_ rfl ?_ hS ?_
         rotate_left
         ·intro w' hw'
          go_simp
          try with_reducible rfl
         (try dsimp only [Act.put]);(try simp only [zA,zB,zC])
         refine tkZ 24 97 ?_ rfl ?_ hS ?_
         rotate_left
         ·intro w' hw'
          go_simp
          try with_reducible rfl
         (try dsimp only [Act.put]);(try simp only [zA,zB,zC])
         refine tkZ 25 98 ?_ rfl ?_ hS ?_
         rotate_left
         ·intro w' hw'
          go_simp
          try with_reducible rfl
         (try dsimp only [Act.put]);(try simp only [zA,zB,zC])
         refine tkZ 26 99 ?_ rfl ?_ hS ?_
         rotate_left
         ·intro w' hw'
          go_simp
          try with_reducible rfl
         (try dsimp only [Act.put]);(try simp only [zA,zB,zC])
         refine tkZ 27 100 ?_ rfl ?_ hS ?_
         rotate_left
         ·intro w' hw'
          have cf:=CFy.out w' hw'
          go_simp
          try with_reducible rfl
         (try dsimp only [Act.put]);(try simp only [zA,zB,zC])
         refine tkZ 28 101 ?_ rfl ?_ hS ?_
         rotate_left
         ·intro w' hw'
          go_simp
          try with_reducible rfl
         (try dsimp only [Act.put]);(try simp only [zA,zB,zC])
         refine rdZ 23 rfl (fun K hK=>?_)
         go_simp
         refine (HSx.out _).mono ?_
         rintro e w' ⟨rfl,rfl⟩
         go_simp
         refine hK.out _ _ hS (fun hS=>?_)
         clear hK K
         refine rdZ 29 rfl (fun K hK=>?_)
         go_simp
         refine (HSy.out _).mono ?_
         rintro e w' ⟨rfl,rfl⟩
         go_simp
         refine hK.out _ _ hS (fun hS=>?_)
         clear hK K
         refine tkZ 30 103 (.bool false) rfl ?_ hS ?_
         ·intro w' hw'
          have nq:h1=h2:=by have:=SYq.out;simpa using this
          subst nq
          go_simp
          try with_reducible rfl
         (try dsimp only [Act.put]);(try simp only [zA,zB,zC])
         refine tkZ 31 104 (.bool false) rfl ?_ hS ?_
         ·intro w' hw'
          go_simp
          try with_reducible rfl
         (try dsimp only [Act.put]);(try simp only [zA,zB,zC])
         refine wpAnyH_done (by kernel_rfl) ?_ _
         have HQ:=hJJ (HZ.out.trans (hS.mono HZ.out.size))
         clear hS WZ
         go_wp2
         go_roundw
         case rel=>exact ⟨k+1,by omega,by go_num,HQ.out⟩
         case measure=>simp [intOf];omega
       ·have NK:Hid (((xk:Int) != (yk:Int))=true):=hJJ (by simp;omega)
        refine wp_region_held (S:=fun w'=>Below wz.heap.size wz w') (by kernel_rfl) ?_
        have hS:Below wz.heap.size wz { v with drawn:=v.drawn+1 }:=WV.out.drew
        generalize ({ v with drawn:=v.drawn+1 }:World)=z at hS ⊢
        refine tkZ 0 49 ?_ rfl ?_ hS ?_
        rotate_left
        ·intro w' hw'
         go_simp
         try with_reducible rfl
        (try dsimp only [Act.put]);(try simp only [zA,zB,zC])
        refine tkZ 1 50 ?_ rfl ?_ hS ?_
        rotate_left
        ·intro w' hw'
         go_simp
         try with_reducible rfl
        (try dsimp only [Act.put]);(try simp only [zA,zB,zC])
        refine tkZ 2 51 ?_ rfl ?_ hS ?_
        rotate_left
        ·intro w' hw'
         go_simp
         try with_reducible rfl
        (try dsimp only [Act.put]);(try simp only [zA,zB,zC])
        refine tkZ 3 52 ?_ rfl ?_ hS ?_
        rotate_left
        ·intro w' hw'
         go_simp
         try with_reducible rfl
        (try dsimp only [Act.put]);(try simp only [zA,zB,zC])
        refine tkZ 4 53 ?_ rfl ?_ hS ?_
        rotate_left
        ·intro w' hw'
         have cf:=X0.out w' hw'
         go_simp
         try with_reducible rfl
        (try dsimp only [Act.put]);(try simp only [zA,zB,zC])
        refine tkZ 5 54 ?_ rfl ?_ hS ?_
        rotate_left
        ·intro w' hw'
         go_simp
         try with_reducible rfl
        (try dsimp only [Act.put]);(try simp only [zA,zB,zC])
        refine tkZ 6 55 ?_ rfl ?_ hS ?_
        rotate_left
        ·intro w' hw'
         go_simp
         try with_reducible rfl
        (try dsimp only [Act.put]);(try simp only [zA,zB,zC])
        refine tkZ 7 56 ?_ rfl ?_ hS ?_
        rotate_left
        ·intro w' hw'
         go_simp
         try with_reducible rfl
        (try dsimp only [Act.put]);(try simp only [zA,zB,zC])
        refine tkZ 8 57 ?_ rfl ?_ hS ?_
        rotate_left
        ·intro w' hw'
         go_simp
         try with_reducible rfl
        (try dsimp only [Act.put]);(try simp only [zA,zB,zC])
        refine tkZ 9 58 ?_ rfl ?_ hS ?_
        rotate_left
        ·intro w' hw'
         have cf:=Y0.out w' hw'
         go_simp
         try with_reducible rfl
        (try dsimp only [Act.put]);(try simp only [zA,zB,zC])
        refine tkZ 10 59 (.bool true) rfl ?_ hS ?_
        ·intro w' hw'
         have nq:=NG.out
         go_simp
         try with_reducible rfl
        (try dsimp only [Act.put]);(try simp only [zA,zB,zC])
        refine tkZ 11 60 (.bool true) rfl ?_ hS ?_
        ·intro w' hw'
         go_simp
         try with_reducible rfl
        (try dsimp only [Act.put]);(try simp only [zA,zB,zC])
        refine tkZ 12 61 ?_ rfl ?_ hS ?_
        rotate_left
        ·intro w' hw'
         go_simp
         try with_reducible rfl
        (try dsimp only [Act.put]);(try simp only [zA,zB,zC])
        refine tkZ 13 62 ?_ rfl ?_ hS ?_
        rotate_left
        ·intro w' hw'
         go_simp
         try with_reducible rfl
        (try dsimp only [Act.put]);(try simp only [zA,zB,zC])
        refine tkZ 14 63 ?_ rfl ?_ hS ?_
        rotate_left
        ·intro w' hw'
         go_simp
         try with_reducible rfl
        (try dsimp only [Act.put]);(try simp only [zA,zB,zC])
        refine tkZ 15 64 ?_ rfl ?_ hS ?_
        rotate_left
        ·intro w' hw'
         go_simp
         try with_reducible rfl
        (try dsimp only [Act.put]);(try simp only [zA,zB,zC])
        refine tkZ 16 65 ?_ rfl ?_ hS ?_
        rotate_left
        ·intro w' hw'
         have cf:=X1.out w' hw'
         go_simp
         try with_reducible rfl
        (try dsimp only [Act.put]);(try simp only [zA,zB,zC])
        refine tkZ 17 66 ?_ rfl ?_ hS ?_
        rotate_left
        ·intro w' hw'
         go_simp
         try with_reducible rfl
        (try dsimp only [Act.put]);(try simp only [zA,zB,zC])
        refine tkZ 18 67 ?_ rfl ?_ hS ?_
        rotate_left
        ·intro w' hw'
         go_simp
         try with_reducible rfl
        (try dsimp only [Act.put]);(try simp only [zA,zB,zC])
        refine tkZ 19 68 ?_ rfl ?_ hS ?_
        rotate_left
        ·intro w' hw'
         go_simp
         try with_reducible rfl
        (try dsimp only [Act.put]);(try simp only [zA,zB,zC])
        refine tkZ 20 69 ?_ rfl ?_ hS ?_
        rotate_left
        ·intro w' hw'
         go_simp
         try with_reducible rfl
        (try dsimp only [Act.put]);(try simp only [zA,zB,zC])
        refine tkZ 21 70 ?_ rfl ?_ hS ?_
        rotate_left
        ·intro w' hw'
         have cf:=Y1.out w' hw'
         go_simp
         try with_reducible rfl
        (try dsimp only [Act.put]);(try simp only [zA,zB,zC])
        refine tkZ 22 71 (.bool true) rfl ?_ hS ?_
        ·intro w' hw'
         have nq:=NK.out
         go_simp
         try with_reducible rfl
        (try dsimp only [Act.put]);(try simp only [zA,zB,zC])
        refine tkZ 23 72 (.bool true) rfl ?_ hS ?_
        ·intro w' hw'
         go_simp
         try with_reducible rfl
        (try dsimp only [Act.put]);(try simp only [zA,zB,zC])
        refine tkZ 24 12 (.bool true) rfl ?_ hS ?_
        ·intro w' hw'
         go_simp
         try with_reducible rfl
        (try dsimp only [Act.put]);(try simp only [zA,zB,zC])
        refine wpAnyH_done (by kernel_rfl) ?_ _
        have WZ:=hJJ hS
        clear hS WV HV
        go_upto_region 16 with fail
        by_cases hik:i=k
        ·have NI:Hid (((i:Int) != (k:Int))=false):=hJJ (by rw [hik];simp)
         clear hik
         have CLv:Hid ((h1 || h2)=false):=hJJ (CLq.out (by omega) (by omega))
         refine wp_region_held (S:=fun w'=>Below wz.heap.size wz w') (by kernel_rfl) ?_
         have hS:Below wz.heap.size wz { z with drawn:=z.drawn+1 }:=WZ.out.drew
         generalize ({ z with drawn:=z.drawn+1 }:World)=q at hS ⊢
         refine tkZ 0 73 ?_ rfl ?_ hS ?_
         rotate_left
         ·intro w' hw'
          go_simp
          try with_reducible rfl
         (try dsimp only [Act.put]);(try simp only [zA,zB,zC])
         refine tkZ 1 74 ?_ rfl ?_ hS ?_
         rotate_left
         ·intro w' hw'
          go_simp
          try with_reducible rfl
         (try dsimp only [Act.put]);(try simp only [zA,zB,zC])
         refine tkZ 2 75 (.bool false) rfl ?_ hS ?_
         ·intro w' hw'
          have nq:=NI.out
          go_simp
          try with_reducible rfl
         (try dsimp only [Act.put]);(try simp only [zA,zB,zC])
         refine tkZ 3 76 (.bool false) rfl ?_ hS ?_
         ·intro w' hw'
          go_simp
          try with_reducible rfl
         (try dsimp only [Act.put]);(try simp only [zA,zB,zC])
         refine Held.take_skip (i:=4) (some 77) rfl rfl (by kernel_rfl) (by kernel_rfl) (by kernel_rfl) (fun _ _ _ h=>h) (by rfl) hS ?_
         (try dsimp only [Act.put]);(try simp only [zA,zB,zC])
         refine Held.take_skip (i:=5) (some 78) rfl rfl (by kernel_rfl) (by kernel_rfl) (by kernel_rfl) (fun _ _ _ h=>h) (by rfl) hS ?_
         (try dsimp only [Act.put]);(try simp only [zA,zB,zC])
         refine Held.take_skip (i:=6) (some 79) rfl rfl (by kernel_rfl) (by kernel_rfl) (by kernel_rfl) (fun _ _ _ h=>h) (by rfl) hS ?_
         (try dsimp only [Act.put]);(try simp only [zA,zB,zC])
         refine tkZ 7 80 (.bool false) rfl ?_ hS ?_
         ·intro w' hw'
          go_simp
          try with_reducible rfl
         (try dsimp only [Act.put]);(try simp only [zA,zB,zC])
         refine tkZ 8 81 (.bool false) rfl ?_ hS ?_
         ·intro w' hw'
          go_simp
          try with_reducible rfl
         (try dsimp only [Act.put]);(try simp only [zA,zB,zC])
         refine tkZ 9 82 ?_ rfl ?_ hS ?_
         rotate_left
         ·intro w' hw'
          go_simp
          try with_reducible rfl
         (try dsimp only [Act.put]);(try simp only [zA,zB,zC])
         refine tkZ 10 83 ?_ rfl ?_ hS ?_
         rotate_left
         ·intro w' hw'
          go_simp
          try with_reducible rfl
         (try dsimp only [Act.put]);(try simp only [zA,zB,zC])
         refine tlZ 11 84 31 (.tmp 3) ⟨w.heap.size,0,none⟩ c2 rfl hS (fun w' hw'=>LTW.out w' hw') Tryz.underlying31 IA.out ?_
         (try dsimp only [Act.put]);(try simp only [zA,zB,zC])
         refine tkZ 12 85 ?_ rfl ?_ hS ?_
         rotate_left
         ·intro w' hw'
          go_simp
          try with_reducible rfl
         (try dsimp only [Act.put]);(try simp only [zA,zB,zC])
         refine tkZ 13 86 ?_ rfl ?_ hS ?_
         rotate_left
         ·intro w' hw'
          go_simp
          try with_reducible rfl
         (try dsimp only [Act.put]);(try simp only [zA,zB,zC])
         refine rdZ 14 rfl (fun K hK=>?_)
         go_simp
         refine (CLc.out _ hS).mono ?_
         rintro e w' ⟨rfl,hb⟩
         have hq:=hS.trans (hb.mono hS.size)
         clear hS hb
         rename World=>q
         go_simp
         refine hK.out _ _ hq (fun hS=>?_)
         clear hK K hq
         rw [CLv.out]
         refine tkZ 15 88 (.bool false) rfl ?_ hS ?_
         ·intro w' hw'
          go_simp
          try with_reducible rfl
         (try dsimp only [Act.put]);(try simp only [zA,zB,zC])
         refine tkZ 16 89 (.bool false) rfl ?_ hS ?_
         ·intro w' hw'
          go_simp
          try with_reducible rfl
         (try dsimp only [Act.put]);(try simp only [zA,zB,zC])
         refine tkZ 17 90 (.bool false) rfl ?_ hS ?_
         ·intro w' hw'
          go_simp
          try with_reducible rfl
         (try dsimp only [Act.put]);(try simp only [zA,zB,zC])
         refine tkZ 18 91 ?_ rfl ?_ hS ?_
         rotate_left
         ·intro w' hw'
          go_simp
          try with_reducible rfl
         (try dsimp only [Act.put]);(try simp only [zA,zB,zC])
         refine tkZ 19 92 ?_ rfl ?_ hS ?_
         rotate_left
         ·intro w' hw'
          go_simp
          try with_reducible rfl
         (try dsimp only [Act.put]);(try simp only [zA,zB,zC])
         refine tkZ 20 93 ?_ rfl ?_ hS ?_
         rotate_left
         ·intro w' hw'
          go_simp
          try with_reducible rfl
         (try dsimp only [Act.put]);(try simp only [zA,zB,zC])
         refine tkZ 21 94 ?_ rfl ?_ hS ?_
         rotate_left
         ·intro w' hw'
          have cf:=CFx.out w' hw'
          go_simp
          try with_reducible rfl
         (try dsimp only [Act.put]);(try simp only [zA,zB,zC])
         refine tkZ 22 95 ?_ rfl ?_ hS ?_
         rotate_left
         ·intro w' hw'
          go_simp
          try with_reducible rfl
         (try dsimp only [Act.put]);(try simp only [zA,zB,zC])
         refine tkZ 24 97 ?_ rfl ?_ hS ?_
         rotate_left
         ·intro w' hw'
          go_simp
          try with_reducible rfl
         (try dsimp only [Act.put]);(try simp only [zA,zB,zC])
         refine tkZ 25 98 ?_ rfl ?_ hS ?_
         rotate_left
         ·intro w' hw'
          go_simp
          try with_reducible rfl
         (try dsimp only [Act.put]);(try simp only [zA,zB,zC])
         refine tkZ 26 99 ?_ rfl ?_ hS ?_
         rotate_left
         ·intro w' hw'
          go_simp
          try with_reducible rfl
         (try dsimp only [Act.put]);(try simp only [zA,zB,zC])
         refine tkZ 27 100 ?_ rfl ?_ hS ?_
         rotate_left
         ·intro w' hw'
          have cf:=CFy.out w' hw'
          go_simp
          try with_reducible rfl
         (try dsimp only [Act.put]);(try simp only [zA,zB,zC])
         refine tkZ 28 101 ?_ rfl ?_ hS ?_
         rotate_left
         ·intro w' hw'
          go_simp
          try with_reducible rfl
         (try dsimp only [Act.put]);(try simp only [zA,zB,zC])
         refine rdZ 23 rfl (fun K hK=>?_)
         go_simp
         refine (HSx.out _).mono ?_
         rintro e w' ⟨rfl,rfl⟩
         go_simp
         refine hK.out _ _ hS (fun hS=>?_)
         clear hK K
         refine rdZ 29 rfl (fun K hK=>?_)
         go_simp
         refine (HSy.out _).mono ?_
         rintro e w' ⟨rfl,rfl⟩
         go_simp
         refine hK.out _ _ hS (fun hS=>?_)
         clear hK K
         refine tkZ 30 103 (.bool false) rfl ?_ hS ?_
         ·intro w' hw'
          have nq:h1=h2:=by have:=SYq.out;simpa using this
          subst nq
          go_simp
          try with_reducible rfl
         (try dsimp only [Act.put]);(try simp only [zA,zB,zC])
         refine tkZ 31 104 (.bool false) rfl ?_ hS ?_
         ·intro w' hw'
          go_simp
          try with_reducible rfl
         (try dsimp only [Act.put]);(try simp only [zA,zB,zC])
         refine wpAnyH_done (by kernel_rfl) ?_ _
         have HQ:=hJJ (HZ.out.trans (hS.mono HZ.out.size))
         clear hS WZ
         go_wp2
         go_roundw
         case rel=>exact ⟨k+1,by omega,by go_num,HQ.out⟩
         case measure=>simp [intOf];omega
        ·have NI:Hid (((i:Int) != (k:Int))=true):=hJJ (by simp;omega)
         have NP:=hJJ (INq.out hik)
         clear hik
         have CLv:Hid ((h1 || h2)=false):=hJJ (CLq.out (by omega) (by omega))
         refine wp_region_held (S:=fun w'=>Below wz.heap.size wz w') (by kernel_rfl) ?_
         have hS:Below wz.heap.size wz { z with drawn:=z.drawn+1 }:=WZ.out.drew
         generalize ({ z with drawn:=z.drawn+1 }:World)=q at hS ⊢
         refine tkZ 0 73 ?_ rfl ?_ hS ?_
         rotate_left
         ·intro w' hw'
          go_simp
          try with_reducible rfl
         (try dsimp only [Act.put]);(try simp only [zA,zB,zC])
         refine tkZ 1 74 ?_ rfl ?_ hS ?_
         rotate_left
         ·intro w' hw'
          go_simp
          try with_reducible rfl
         (try dsimp only [Act.put]);(try simp only [zA,zB,zC])
         refine tkZ 2 75 (.bool true) rfl ?_ hS ?_
         ·intro w' hw'
          have nq:=NI.out
          go_simp
          try with_reducible rfl
         (try dsimp only [Act.put]);(try simp only [zA,zB,zC])
         refine tkZ 3 76 (.bool true) rfl ?_ hS ?_
         ·intro w' hw'
          go_simp
          try with_reducible rfl
         (try dsimp only [Act.put]);(try simp only [zA,zB,zC])
         refine tkZ 4 77 ?_ rfl ?_ hS ?_
         rotate_left
         ·intro w' hw'
          go_simp
          try with_reducible rfl
         (try dsimp only [Act.put]);(try simp only [zA,zB,zC])
         refine tkZ 5 78 ?_ rfl ?_ hS ?_
         rotate_left
         ·intro w' hw'
          go_simp
          try with_reducible rfl
         (try dsimp only [Act.put]);(try simp only [zA,zB,zC])
         refine tkZ 6 79 (.bool false) rfl ?_ hS ?_
         ·intro w' hw'
          have nq:=NP.out
          go_simp
          try with_reducible rfl
         (try dsimp only [Act.put]);(try simp only [zA,zB,zC])
         refine tkZ 7 80 (.bool false) rfl ?_ hS ?_
         ·intro w' hw'
          go_simp
          try with_reducible rfl
         (try dsimp only [Act.put]);(try simp only [zA,zB,zC])
         refine tkZ 8 81 (.bool false) rfl ?_ hS ?_
         ·intro w' hw'
          go_simp
          try with_reducible rfl
         (try dsimp only [Act.put]);(try simp only [zA,zB,zC])
         refine tkZ 9 82 ?_ rfl ?_ hS ?_
         rotate_left
         ·intro w' hw'
          go_simp
          try with_reducible rfl
         (try dsimp only [Act.put]);(try simp only [zA,zB,zC])
         refine tkZ 10 83 ?_ rfl ?_ hS ?_
         rotate_left
         ·intro w' hw'
          go_simp
          try with_reducible rfl
         (try dsimp only [Act.put]);(try simp only [zA,zB,zC])
         refine tlZ 11 84 31 (.tmp 3) ⟨w.heap.size,0,none⟩ c2 rfl hS (fun w' hw'=>LTW.out w' hw') Tryz.underlying31 IA.out ?_
         (try dsimp only [Act.put]);(try simp only [zA,zB,zC])
         refine tkZ 12 85 ?_ rfl ?_ hS ?_
         rotate_left
         ·intro w' hw'
          go_simp
          try with_reducible rfl
         (try dsimp only [Act.put]);(try simp only [zA,zB,zC])
         refine tkZ 13 86 ?_ rfl ?_ hS ?_
         rotate_left
         ·intro w' hw'
          go_simp
          try with_reducible rfl
         (try dsimp only [Act.put]);(try simp only [zA,zB,zC])
         refine rdZ 14 rfl (fun K hK=>?_)
         go_simp
         refine (CLc.out _ hS).mono ?_
         rintro e w' ⟨rfl,hb⟩
         have hq:=hS.trans (hb.mono hS.size)
         clear hS hb
         rename World=>q
         go_simp
         refine hK.out _ _ hq (fun hS=>?_)
         clear hK K hq
         rw [CLv.out]
         refine tkZ 15 88 (.bool false) rfl ?_ hS ?_
         ·intro w' hw'
          go_simp
          try with_reducible rfl
         (try dsimp only [Act.put]);(try simp only [zA,zB,zC])
         refine tkZ 16 89 (.bool false) rfl ?_ hS ?_
         ·intro w' hw'
          go_simp
          try with_reducible rfl
         (try dsimp only [Act.put]);(try simp only [zA,zB,zC])
         refine tkZ 17 90 (.bool false) rfl ?_ hS ?_
         ·intro w' hw'
          go_simp
          try with_reducible rfl
         (try dsimp only [Act.put]);(try simp only [zA,zB,zC])
         refine tkZ 18 91 ?_ rfl ?_ hS ?_
         rotate_left
         ·intro w' hw'
          go_simp
          try with_reducible rfl
         (try dsimp only [Act.put]);(try simp only [zA,zB,zC])
         refine tkZ 19 92 ?_ rfl ?_ hS ?_
         rotate_left
         ·intro w' hw'
          go_simp
          try with_reducible rfl
         (try dsimp only [Act.put]);(try simp only [zA,zB,zC])
         refine tkZ 20 93 ?_ rfl ?_ hS ?_
         rotate_left
         ·intro w' hw'
          go_simp
          try with_reducible rfl
         (try dsimp only [Act.put]);(try simp only [zA,zB,zC])
         refine tkZ 21 94 ?_ rfl ?_ hS ?_
         rotate_left
         ·intro w' hw'
          have cf:=CFx.out w' hw'
          go_simp
          try with_reducible rfl
         (try dsimp only [Act.put]);(try simp only [zA,zB,zC])
         refine tkZ 22 95 ?_ rfl ?_ hS ?_
         rotate_left
         ·intro w' hw'
          go_simp
          try with_reducible rfl
         (try dsimp only [Act.put]);(try simp only [zA,zB,zC])
         refine tkZ 24 97 ?_ rfl ?_ hS ?_
         rotate_left
         ·intro w' hw'
          go_simp
          try with_reducible rfl
         (try dsimp only [Act.put]);(try simp only [zA,zB,zC])
         refine tkZ 25 98 ?_ rfl ?_ hS ?_
         rotate_left
         ·intro w' hw'
          go_simp
          try with_reducible rfl
         (try dsimp only [Act.put]);(try simp only [zA,zB,zC])
         refine tkZ 26 99 ?_ rfl ?_ hS ?_
         rotate_left
         ·intro w' hw'
          go_simp
          try with_reducible rfl
         (try dsimp only [Act.put]);(try simp only [zA,zB,zC])
         refine tkZ 27 100 ?_ rfl ?_ hS ?_
         rotate_left
         ·intro w' hw'
          have cf:=CFy.out w' hw'
          go_simp
          try with_reducible rfl
         (try dsimp only [Act.put]);(try simp only [zA,zB,zC])
         refine tkZ 28 101 ?_ rfl ?_ hS ?_
         rotate_left
         ·intro w' hw'
          go_simp
          try with_reducible rfl
         (try dsimp only [Act.put]);(try simp only [zA,zB,zC])
         refine rdZ 23 rfl (fun K hK=>?_)
         go_simp
         refine (HSx.out _).mono ?_
         rintro e w' ⟨rfl,rfl⟩
         go_simp
         refine hK.out _ _ hS (fun hS=>?_)
         clear hK K
         refine rdZ 29 rfl (fun K hK=>?_)
         go_simp
         refine (HSy.out _).mono ?_
         rintro e w' ⟨rfl,rfl⟩
         go_simp
         refine hK.out _ _ hS (fun hS=>?_)
         clear hK K
         refine tkZ 30 103 (.bool false) rfl ?_ hS ?_
         ·intro w' hw'
          have nq:h1=h2:=by have:=SYq.out;simpa using this
          subst nq
          go_simp
          try with_reducible rfl
         (try dsimp only [Act.put]);(try simp only [zA,zB,zC])
         refine tkZ 31 104 (.bool false) rfl ?_ hS ?_
         ·intro w' hw'
          go_simp
          try with_reducible rfl
         (try dsimp only [Act.put]);(try simp only [zA,zB,zC])
         refine wpAnyH_done (by kernel_rfl) ?_ _
         have HQ:=hJJ (HZ.out.trans (hS.mono HZ.out.size))
         clear hS WZ
         go_wp2
         go_roundw
         case rel=>exact ⟨k+1,by omega,by go_num,HQ.out⟩
         case measure=>simp [intOf];omega
      ·have NG:Hid (((xg:Int) == (yg:Int))=false):=hJJ (by simp;omega)
       clear hgq
       refine wp_region_held (S:=fun w'=>Below wz.heap.size wz w') (by kernel_rfl) ?_
       have hS:Below wz.heap.size wz { v with drawn:=v.drawn+1 }:=WV.out.drew
       generalize ({ v with drawn:=v.drawn+1 }:World)=z at hS ⊢
       refine tkZ 0 49 ?_ rfl ?_ hS ?_
       rotate_left
       ·intro w' hw'
        go_simp
        try with_reducible rfl
       (try dsimp only [Act.put]);(try simp only [zA,zB,zC])
       refine tkZ 1 50 ?_ rfl ?_ hS ?_
       rotate_left
       ·intro w' hw'
        go_simp
        try with_reducible rfl
       (try dsimp only [Act.put]);(try simp only [zA,zB,zC])
       refine tkZ 2 51 ?_ rfl ?_ hS ?_
       rotate_left
       ·intro w' hw'
        go_simp
        try with_reducible rfl
       (try dsimp only [Act.put]);(try simp only [zA,zB,zC])
       refine tkZ 3 52 ?_ rfl ?_ hS ?_
       rotate_left
       ·intro w' hw'
        go_simp
        try with_reducible rfl
       (try dsimp only [Act.put]);(try simp only [zA,zB,zC])
       refine tkZ 4 53 ?_ rfl ?_ hS ?_
       rotate_left
       ·intro w' hw'
        have cf:=X0.out w' hw'
        go_simp
        try with_reducible rfl
       (try dsimp only [Act.put]);(try simp only [zA,zB,zC])
       refine tkZ 5 54 ?_ rfl ?_ hS ?_
       rotate_left
       ·intro w' hw'
        go_simp
        try with_reducible rfl
       (try dsimp only [Act.put]);(try simp only [zA,zB,zC])
       refine tkZ 6 55 ?_ rfl ?_ hS ?_
       rotate_left
       ·intro w' hw'
        go_simp
        try with_reducible rfl
       (try dsimp only [Act.put]);(try simp only [zA,zB,zC])
       refine tkZ 7 56 ?_ rfl ?_ hS ?_
       rotate_left
       ·intro w' hw'
        go_simp
        try with_reducible rfl
       (try dsimp only [Act.put]);(try simp only [zA,zB,zC])
       refine tkZ 8 57 ?_ rfl ?_ hS ?_
       rotate_left
       ·intro w' hw'
        go_simp
        try with_reducible rfl
       (try dsimp only [Act.put]);(try simp only [zA,zB,zC])
       refine tkZ 9 58 ?_ rfl ?_ hS ?_
       rotate_left
       ·intro w' hw'
        have cf:=Y0.out w' hw'
        go_simp
        try with_reducible rfl
       (try dsimp only [Act.put]);(try simp only [zA,zB,zC])
       refine tkZ 10 59 (.bool false) rfl ?_ hS ?_
       ·intro w' hw'
        have nq:=NG.out
        go_simp
        try with_reducible rfl
       (try dsimp only [Act.put]);(try simp only [zA,zB,zC])
       refine tkZ 11 60 (.bool false) rfl ?_ hS ?_
       ·intro w' hw'
        go_simp
        try with_reducible rfl
       (try dsimp only [Act.put]);(try simp only [zA,zB,zC])
       refine Held.take_skip (i:=12) (some 61) rfl rfl (by kernel_rfl) (by kernel_rfl) (by kernel_rfl) (fun _ _ _ h=>h) (by rfl) hS ?_
       (try dsimp only [Act.put]);(try simp only [zA,zB,zC])
       refine Held.take_skip (i:=13) (some 62) rfl rfl (by kernel_rfl) (by kernel_rfl) (by kernel_rfl) (fun _ _ _ h=>h) (by rfl) hS ?_
       (try dsimp only [Act.put]);(try simp only [zA,zB,zC])
       refine Held.take_skip (i:=14) (some 63) rfl rfl (by kernel_rfl) (by kernel_rfl) (by kernel_rfl) (fun _ _ _ h=>h) (by rfl) hS ?_
       (try dsimp only [Act.put]);(try simp only [zA,zB,zC])
       refine Held.take_skip (i:=15) (some 64) rfl rfl (by kernel_rfl) (by kernel_rfl) (by kernel_rfl) (fun _ _ _ h=>h) (by rfl) hS ?_
       (try dsimp only [Act.put]);(try simp only [zA,zB,zC])
       refine Held.take_skip (i:=16) (some 65) rfl rfl (by kernel_rfl) (by kernel_rfl) (by kernel_rfl) (fun _ _ _ h=>h) (by rfl) hS ?_
       (try dsimp only [Act.put]);(try simp only [zA,zB,zC])
       refine Held.take_skip (i:=17) (some 66) rfl rfl (by kernel_rfl) (by kernel_rfl) (by kernel_rfl) (fun _ _ _ h=>h) (by rfl) hS ?_
       (try dsimp only [Act.put]);(try simp only [zA,zB,zC])
       refine Held.take_skip (i:=18) (some 67) rfl rfl (by kernel_rfl) (by kernel_rfl) (by kernel_rfl) (fun _ _ _ h=>h) (by rfl) hS ?_
       (try dsimp only [Act.put]);(try simp only [zA,zB,zC])
       refine Held.take_skip (i:=19) (some 68) rfl rfl (by kernel_rfl) (by kernel_rfl) (by kernel_rfl) (fun _ _ _ h=>h) (by rfl) hS ?_
       (try dsimp only [Act.put]);(try simp only [zA,zB,zC])
       refine Held.take_skip (i:=20) (some 69) rfl rfl (by kernel_rfl) (by kernel_rfl) (by kernel_rfl) (fun _ _ _ h=>h) (by rfl) hS ?_
       (try dsimp only [Act.put]);(try simp only [zA,zB,zC])
       refine Held.take_skip (i:=21) (some 70) rfl rfl (by kernel_rfl) (by kernel_rfl) (by kernel_rfl) (fun _ _ _ h=>h) (by rfl) hS ?_
       (try dsimp only [Act.put]);(try simp only [zA,zB,zC])
       refine Held.take_skip (i:=22) (some 71) rfl rfl (by kernel_rfl) (by kernel_rfl) (by kernel_rfl) (fun _ _ _ h=>h) (by rfl) hS ?_
       (try dsimp only [Act.put]);(try simp only [zA,zB,zC])
       refine tkZ 23 72 (.bool false) rfl ?_ hS ?_
       ·intro w' hw'
        go_simp
        try with_reducible rfl
       (try dsimp only [Act.put]);(try simp only [zA,zB,zC])
       refine tkZ 24 12 (.bool false) rfl ?_ hS ?_
       ·intro w' hw'
        go_simp
        try with_reducible rfl
       (try dsimp only [Act.put]);(try simp only [zA,zB,zC])
       refine wpAnyH_done (by kernel_rfl) ?_ _
       have WZ:=hJJ hS
       clear hS WV HV
       go_upto_region 16 with fail
       by_cases hik:i=k
       ·have NI:Hid (((i:Int) != (k:Int))=false):=hJJ (by rw [hik];simp)
        clear hik
        refine wp_region_held (S:=fun w'=>Below wz.heap.size wz w') (by kernel_rfl) ?_
        have hS:Below wz.heap.size wz { z with drawn:=z.drawn+1 }:=WZ.out.drew
        generalize ({ z with drawn:=z.drawn+1 }:World)=q at hS ⊢
        refine tkZ 0 73 ?_ rfl ?_ hS ?_
        rotate_left
        ·intro w' hw'
         go_simp
         try with_reducible rfl
        (try dsimp only [Act.put]);(try simp only [zA,zB,zC])
        refine tkZ 1 74 ?_ rfl ?_ hS ?_
        rotate_left
        ·intro w' hw'
         go_simp
         try with_reducible rfl
        (try dsimp only [Act.put]);(try simp only [zA,zB,zC])
        refine tkZ 2 75 (.bool false) rfl ?_ hS ?_
        ·intro w' hw'
         have nq:=NI.out
         go_simp
         try with_reducible rfl
        (try dsimp only [Act.put]);(try simp only [zA,zB,zC])
        refine tkZ 3 76 (.bool false) rfl ?_ hS ?_
        ·intro w' hw'
         go_simp
         try with_reducible rfl
        (try dsimp only [Act.put]);(try simp only [zA,zB,zC])
        refine Held.take_skip (i:=4) (some 77) rfl rfl (by kernel_rfl) (by kernel_rfl) (by kernel_rfl) (fun _ _ _ h=>h) (by rfl) hS ?_
        (try dsimp only [Act.put]);(try simp only [zA,zB,zC])
        refine Held.take_skip (i:=5) (some 78) rfl rfl (by kernel_rfl) (by kernel_rfl) (by kernel_rfl) (fun _ _ _ h=>h) (by rfl) hS ?_
        (try dsimp only [Act.put]);(try simp only [zA,zB,zC])
        refine Held.take_skip (i:=6) (some 79) rfl rfl (by kernel_rfl) (by kernel_rfl) (by kernel_rfl) (fun _ _ _ h=>h) (by rfl) hS ?_
        (try dsimp only [Act.put]);(try simp only [zA,zB,zC])
        refine tkZ 7 80 (.bool false) rfl ?_ hS ?_
        ·intro w' hw'
         go_simp
         try with_reducible rfl
        (try dsimp only [Act.put]);(try simp only [zA,zB,zC])
        refine tkZ 8 81 (.bool false) rfl ?_ hS ?_
        ·intro w' hw'
         go_simp
         try with_reducible rfl
        (try dsimp only [Act.put]);(try simp only [zA,zB,zC])
        refine tkZ 9 82 ?_ rfl ?_ hS ?_
        rotate_left
        ·intro w' hw'
         go_simp
         try with_reducible rfl
        (try dsimp only [Act.put]);(try simp only [zA,zB,zC])
        refine tkZ 10 83 ?_ rfl ?_ hS ?_
        rotate_left
        ·intro w' hw'
         go_simp
         try with_reducible rfl
        (try dsimp only [Act.put]);(try simp only [zA,zB,zC])
        refine Held.take_skip (i:=11) (some 84) rfl rfl (by kernel_rfl) (by kernel_rfl) (by kernel_rfl) (fun _ _ _ h=>h) (by rfl) hS ?_
        (try dsimp only [Act.put]);(try simp only [zA,zB,zC])
        refine Held.take_skip (i:=12) (some 85) rfl rfl (by kernel_rfl) (by kernel_rfl) (by kernel_rfl) (fun _ _ _ h=>h) (by rfl) hS ?_
        (try dsimp only [Act.put]);(try simp only [zA,zB,zC])
        refine Held.take_skip (i:=13) (some 86) rfl rfl (by kernel_rfl) (by kernel_rfl) (by kernel_rfl) (fun _ _ _ h=>h) (by rfl) hS ?_
        (try dsimp only [Act.put]);(try simp only [zA,zB,zC])
        refine Held.take_skip (i:=14) (some 87) rfl rfl (by kernel_rfl) (by kernel_rfl) (by kernel_rfl) (fun _ _ _ h=>h) (by rfl) hS ?_
        (try dsimp only [Act.put]);(try simp only [zA,zB,zC])
        refine tkZ 15 88 (.bool false) rfl ?_ hS ?_
        ·intro w' hw'
         go_simp
         try with_reducible rfl
        (try dsimp only [Act.put]);(try simp only [zA,zB,zC])
        refine tkZ 16 89 (.bool false) rfl ?_ hS ?_
        ·intro w' hw'
         go_simp
         try with_reducible rfl
        (try dsimp only [Act.put]);(try simp only [zA,zB,zC])
        refine tkZ 17 90 (.bool false) rfl ?_ hS ?_
        ·intro w' hw'
         go_simp
         try with_reducible rfl
        (try dsimp only [Act.put]);(try simp only [zA,zB,zC])
        refine tkZ 18 91 ?_ rfl ?_ hS ?_
        rotate_left
        ·intro w' hw'
         go_simp
         try with_reducible rfl
        (try dsimp only [Act.put]);(try simp only [zA,zB,zC])
        refine tkZ 19 92 ?_ rfl ?_ hS ?_
        rotate_left
        ·intro w' hw'
         go_simp
         try with_reducible rfl
        (try dsimp only [Act.put]);(try simp only [zA,zB,zC])
        refine tkZ 20 93 ?_ rfl ?_ hS ?_
        rotate_left
        ·intro w' hw'
         go_simp
         try with_reducible rfl
        (try dsimp only [Act.put]);(try simp only [zA,zB,zC])
        refine tkZ 21 94 ?_ rfl ?_ hS ?_
        rotate_left
        ·intro w' hw'
         have cf:=CFx.out w' hw'
         go_simp
         try with_reducible rfl
        (try dsimp only [Act.put]);(try simp only [zA,zB,zC])
        refine tkZ 22 95 ?_ rfl ?_ hS ?_
        rotate_left
        ·intro w' hw'
         go_simp
         try with_reducible rfl
        (try dsimp only [Act.put]);(try simp only [zA,zB,zC])
        refine tkZ 24 97 ?_ rfl ?_ hS ?_
        rotate_left
        ·intro w' hw'
         go_simp
         try with_reducible rfl
        (try dsimp only [Act.put]);(try simp only [zA,zB,zC])
        refine tkZ 25 98 ?_ rfl ?_ hS ?_
        rotate_left
        ·intro w' hw'
         go_simp
         try with_reducible rfl
        (try dsimp only [Act.put]);(try simp only [zA,zB,zC])
        refine tkZ 26 99 ?_ rfl ?_ hS ?_
        rotate_left
        ·intro w' hw'
         go_simp
         try with_reducible rfl
        (try dsimp only [Act.put]);(try simp only [zA,zB,zC])
        refine tkZ 27 100 ?_ rfl ?_ hS ?_
        rotate_left
        ·intro w' hw'
         have cf:=CFy.out w' hw'
         go_simp
         try with_reducible rfl
        (try dsimp only [Act.put]);(try simp only [zA,zB,zC])
        refine tkZ 28 101 ?_ rfl ?_ hS ?_
        rotate_left
        ·intro w' hw'
         go_simp
         try with_reducible rfl
        (try dsimp only [Act.put]);(try simp only [zA,zB,zC])
        refine rdZ 23 rfl (fun K hK=>?_)
        go_simp
        refine (HSx.out _).mono ?_
        rintro e w' ⟨rfl,rfl⟩
        go_simp
        refine hK.out _ _ hS (fun hS=>?_)
        clear hK K
        refine rdZ 29 rfl (fun K hK=>?_)
        go_simp
        refine (HSy.out _).mono ?_
        rintro e w' ⟨rfl,rfl⟩
        go_simp
        refine hK.out _ _ hS (fun hS=>?_)
        clear hK K
        refine tkZ 30 103 (.bool false) rfl ?_ hS ?_
        ·intro w' hw'
         have nq:h1=h2:=by have:=SYq.out;simpa using this
         subst nq
         go_simp
         try with_reducible rfl
        (try dsimp only [Act.put]);(try simp only [zA,zB,zC])
        refine tkZ 31 104 (.bool false) rfl ?_ hS ?_
        ·intro w' hw'
         go_simp
         try with_reducible rfl
        (try dsimp only [Act.put]);(try simp only [zA,zB,zC])
        refine wpAnyH_done (by kernel_rfl) ?_ _
        have HQ:=hJJ (HZ.out.trans (hS.mono HZ.out.size))
        clear hS WZ
        go_wp2
        go_roundw
        case rel=>exact ⟨k+1,by omega,by go_num,HQ.out⟩
        case measure=>simp [intOf];omega
       ·have NI:Hid (((i:Int) != (k:Int))=true):=hJJ (by simp;omega)
        have NP:=hJJ (INq.out hik)
        clear hik
        refine wp_region_held (S:=fun w'=>Below wz.heap.size wz w') (by kernel_rfl) ?_
        have hS:Below wz.heap.size wz { z with drawn:=z.drawn+1 }:=WZ.out.drew
        generalize ({ z with drawn:=z.drawn+1 }:World)=q at hS ⊢
        refine tkZ 0 73 ?_ rfl ?_ hS ?_
        rotate_left
        ·intro w' hw'
         go_simp
         try with_reducible rfl
        (try dsimp only [Act.put]);(try simp only [zA,zB,zC])
        refine tkZ 1 74 ?_ rfl ?_ hS ?_
        rotate_left
        ·intro w' hw'
         go_simp
         try with_reducible rfl
        (try dsimp only [Act.put]);(try simp only [zA,zB,zC])
        refine tkZ 2 75 (.bool true) rfl ?_ hS ?_
        ·intro w' hw'
         have nq:=NI.out
         go_simp
         try with_reducible rfl
        (try dsimp only [Act.put]);(try simp only [zA,zB,zC])
        refine tkZ 3 76 (.bool true) rfl ?_ hS ?_
        ·intro w' hw'
         go_simp
         try with_reducible rfl
        (try dsimp only [Act.put]);(try simp only [zA,zB,zC])
        refine tkZ 4 77 ?_ rfl ?_ hS ?_
        rotate_left
        ·intro w' hw'
         go_simp
         try with_reducible rfl
        (try dsimp only [Act.put]);(try simp only [zA,zB,zC])
        refine tkZ 5 78 ?_ rfl ?_ hS ?_
        rotate_left
        ·intro w' hw'
         go_simp
         try with_reducible rfl
        (try dsimp only [Act.put]);(try simp only [zA,zB,zC])
        refine tkZ 6 79 (.bool false) rfl ?_ hS ?_
        ·intro w' hw'
         have nq:=NP.out
         go_simp
         try with_reducible rfl
        (try dsimp only [Act.put]);(try simp only [zA,zB,zC])
        refine tkZ 7 80 (.bool false) rfl ?_ hS ?_
        ·intro w' hw'
         go_simp
         try with_reducible rfl
        (try dsimp only [Act.put]);(try simp only [zA,zB,zC])
        refine tkZ 8 81 (.bool false) rfl ?_ hS ?_
        ·intro w' hw'
         go_simp
         try with_reducible rfl
        (try dsimp only [Act.put]);(try simp only [zA,zB,zC])
        refine tkZ 9 82 ?_ rfl ?_ hS ?_
        rotate_left
        ·intro w' hw'
         go_simp
         try with_reducible rfl
        (try dsimp only [Act.put]);(try simp only [zA,zB,zC])
        refine tkZ 10 83 ?_ rfl ?_ hS ?_
        rotate_left
        ·intro w' hw'
         go_simp
         try with_reducible rfl
        (try dsimp only [Act.put]);(try simp only [zA,zB,zC])
        refine Held.take_skip (i:=11) (some 84) rfl rfl (by kernel_rfl) (by kernel_rfl) (by kernel_rfl) (fun _ _ _ h=>h) (by rfl) hS ?_
        (try dsimp only [Act.put]);(try simp only [zA,zB,zC])
        refine Held.take_skip (i:=12) (some 85) rfl rfl (by kernel_rfl) (by kernel_rfl) (by kernel_rfl) (fun _ _ _ h=>h) (by rfl) hS ?_
        (try dsimp only [Act.put]);(try simp only [zA,zB,zC])
        refine Held.take_skip (i:=13) (some 86) rfl rfl (by kernel_rfl) (by kernel_rfl) (by kernel_rfl) (fun _ _ _ h=>h) (by rfl) hS ?_
        (try dsimp only [Act.put]);(try simp only [zA,zB,zC])
        refine Held.take_skip (i:=14) (some 87) rfl rfl (by kernel_rfl) (by kernel_rfl) (by kernel_rfl) (fun _ _ _ h=>h) (by rfl) hS ?_
        (try dsimp only [Act.put]);(try simp only [zA,zB,zC])
        refine tkZ 15 88 (.bool false) rfl ?_ hS ?_
        ·intro w' hw'
         go_simp
         try with_reducible rfl
        (try dsimp only [Act.put]);(try simp only [zA,zB,zC])
        refine tkZ 16 89 (.bool false) rfl ?_ hS ?_
        ·intro w' hw'
         go_simp
         try with_reducible rfl
        (try dsimp only [Act.put]);(try simp only [zA,zB,zC])
        refine tkZ 17 90 (.bool false) rfl ?_ hS ?_
        ·intro w' hw'
         go_simp
         try with_reducible rfl
        (try dsimp only [Act.put]);(try simp only [zA,zB,zC])
        refine tkZ 18 91 ?_ rfl ?_ hS ?_
        rotate_left
        ·intro w' hw'
         go_simp
         try with_reducible rfl
        (try dsimp only [Act.put]);(try simp only [zA,zB,zC])
        refine tkZ 19 92 ?_ rfl ?_ hS ?_
        rotate_left
        ·intro w' hw'
         go_simp
         try with_reducible rfl
        (try dsimp only [Act.put]);(try simp only [zA,zB,zC])
        refine tkZ 20 93 ?_ rfl ?_ hS ?_
        rotate_left
        ·intro w' hw'
         go_simp
         try with_reducible rfl
        (try dsimp only [Act.put]);(try simp only [zA,zB,zC])
        refine tkZ 21 94 ?_ rfl ?_ hS ?_
        rotate_left
        ·intro w' hw'
         have cf:=CFx.out w' hw'
         go_simp
         try with_reducible rfl
        (try dsimp only [Act.put]);(try simp only [zA,zB,zC])
        refine tkZ 22 95 ?_ rfl ?_ hS ?_
        rotate_left
        ·intro w' hw'
         go_simp
         try with_reducible rfl
        (try dsimp only [Act.put]);(try simp only [zA,zB,zC])
        refine tkZ 24 97 ?_ rfl ?_ hS ?_
        rotate_left
        ·intro w' hw'
         go_simp
         try with_reducible rfl
        (try dsimp only [Act.put]);(try simp only [zA,zB,zC])
        refine tkZ 25 98 ?_ rfl ?_ hS ?_
        rotate_left
        ·intro w' hw'
         go_simp
         try with_reducible rfl
        (try dsimp only [Act.put]);(try simp only [zA,zB,zC])
        refine tkZ 26 99 ?_ rfl ?_ hS ?_
        rotate_left
        ·intro w' hw'
         go_simp
         try with_reducible rfl
        (try dsimp only [Act.put]);(try simp only [zA,zB,zC])
        refine tkZ 27 100 ?_ rfl ?_ hS ?_
        rotate_left
        ·intro w' hw'
         have cf:=CFy.out w' hw'
         go_simp
         try with_reducible rfl
        (try dsimp only [Act.put]);(try simp only [zA,zB,zC])
        refine tkZ 28 101 ?_ rfl ?_ hS ?_
        rotate_left
        ·intro w' hw'
         go_simp
         try with_reducible rfl
        (try dsimp only [Act.put]);(try simp only [zA,zB,zC])
        refine rdZ 23 rfl (fun K hK=>?_)
        go_simp
        refine (HSx.out _).mono ?_
        rintro e w' ⟨rfl,rfl⟩
        go_simp
        refine hK.out _ _ hS (fun hS=>?_)
        clear hK K
        refine rdZ 29 rfl (fun K hK=>?_)
        go_simp
        refine (HSy.out _).mono ?_
        rintro e w' ⟨rfl,rfl⟩
        go_simp
        refine hK.out _ _ hS (fun hS=>?_)
        clear hK K
        refine tkZ 30 103 (.bool false) rfl ?_ hS ?_
        ·intro w' hw'
         have nq:h1=h2:=by have:=SYq.out;simpa using this
         subst nq
         go_simp
         try with_reducible rfl
        (try dsimp only [Act.put]);(try simp only [zA,zB,zC])
        refine tkZ 31 104 (.bool false) rfl ?_ hS ?_
        ·intro w' hw'
         go_simp
         try with_reducible rfl
        (try dsimp only [Act.put]);(try simp only [zA,zB,zC])
        refine wpAnyH_done (by kernel_rfl) ?_ _
        have HQ:=hJJ (HZ.out.trans (hS.mono HZ.out.size))
        clear hS WZ
        go_wp2
        go_roundw
        case rel=>exact ⟨k+1,by omega,by go_num,HQ.out⟩
        case measure=>simp [intOf];omega
     ·obtain rfl:k=n:=by omega
      clear hk hlk
      go_wp2
      go_roundw
      case rel=>exact ⟨i+1,by have:=HL.out;omega,by go_num,HZ.out⟩
      case measure=>simp [intOf];have:=HL.out;omega
   ·obtain rfl:i=n:=by omega
    have C2:=hJJ (D2.out.trans (HB.out.mono D2.out.size))
    have E2:=hJJ (B2.out.trans (HB.out.mono B2.out.size))
    clear hi hlt RW INJ SYM CLA RNG CFC CL
    go_upto_region 18 with fail
    go_wp2_with (refine lgZ 31 ⟨w.heap.size,0,none⟩ c2 rfl (LV.out _ C2.out) Tryz.underlying31 IA.out ?_)
    refine (ONC.out _ C2.out).mono ?_
    rintro e v5 ⟨rfl,hb⟩
    have E5:=hJJ (E2.out.trans (hb.mono E2.out.size))
    clear hb E2 C2
    go_wp2_with fail
    refine (RefS.rlist_any _ _).mono ?_
    rintro e v6 ⟨z0,rfl,hown,hb⟩
    have E6:=hJJ (E5.out.trans (hb.mono E5.out.size))
    obtain ⟨sb,sd,rfl,hrow'⟩:=row_of hown
    clear hown hb hrow' E5
    rw [← CNT.out]
    go_wp2_with fail
    refine (Wa9.awake_any _).mono ?_
    rintro e u2 ⟨rfl,hb⟩
    have E:=hJJ (E6.out.trans (hb.mono E6.out.size))
    clear hb
    go_wp2
    go_ret
    exact ⟨rfl,E.out⟩
theorem lifted (os:Os) (started:os.Started) (H:Type) (enc:TypeId × Value→H) :
  ReturnsInHanded {} Tryz.checked os 9 .any (Rows.checkBesideSpec.pre6 enc Tryz.prog Tryz.f9 Rows.checkBesideRow.domain false) (Rows.checkBesideSpec.post enc Tryz.prog Tryz.f9 false true false false):=by
 refine returnsInHanded_of_change (C:=Tryz.checked) own started (by kernel_rfl) Tryz.func9
  (ChangeSpec.witness6 (enc:=enc) (C:=Tryz.checked) false ⟨#[],#[.agg (Clone.zTab.cells Clone.zHd).toArray,.slice none 0 0,.bool false],[]⟩ 8 (by kernel_rfl) (by kernel_rfl) (by kernel_rfl) (by kernel_rfl)) ?_
 intro W base args ds gs before hval0 hW hcnd _
 have hval:∀ (j:Nat) t v,Tryz.f9.params[j]?=some t→args[j]?=some v→Value.okWide Tryz.prog W .any base t v:=hval0
 have hW':=hW
 obtain ⟨p,q,hA0,hV,rfl,hfz,hnd⟩:=hW
 have hA:DataW.TrodAll enc Tryz.prog W 0 (fun _=>true) true Tryz.f9.params.toList args.toList ds p:=hA0
 rw [Tryz.params9] at hA hval
 obtain ⟨v0,vs0,d0,ds0,p0,q0,hargs,rfl,rfl,h0,r0⟩:=trodAll_cons hA
 obtain ⟨v1,vs1,d1,ds1,p1,q1,rfl,rfl,rfl,h1,r1⟩:=trodAll_cons r0
 obtain ⟨v2,vs2,d2,ds2,p2,q2,rfl,rfl,rfl,h2,r2⟩:=trodAll_cons r1
 obtain ⟨rfl,rfl,rfl⟩:=trodAll_nil r2
 obtain rfl:args=#[v0,v1,v2]:=by cases args;simp_all
 obtain ⟨rfl,rfl⟩:=trodVars_none hV
 obtain ⟨c0,rfl,_⟩:=okWide_struct Tryz.underlying31 (hval 0 31 v0 rfl rfl)
 have k0:=h0
 have lt0:∀ x ∈ p0,x.block < W.heap.size:=by obtain ⟨m,hm⟩:=k0;exact DataW.trod_lt m _ _ _ hm
 obtain ⟨H0,T0,e0,w0⟩:∃ (h:Tab.Hd) (T:Tab.Tab),c0=(T.cells h).toArray∧Tab.IsTab W h T:=by
  obtain ⟨fuel,hf⟩:=h0
  obtain ⟨h,T,e,k⟩:=TabArg.open_tab hf
  exact ⟨h,T,by rw [← e];simp [Value.cells],k⟩
 subst e0
 obtain ⟨a1,len1,cap1,rfl⟩:=okWide_slice Tryz.underlying46 (hval 1 46 v1 rfl rfl)
 have k1:=h1
 have lt1:∀ x ∈ p1,x.block < W.heap.size:=by obtain ⟨m,hm⟩:=k1;exact DataW.trod_lt m _ _ _ hm
 obtain ⟨z1,w1⟩:∃ zs,IsRow .i64 W a1 len1 cap1 zs:=by
  obtain ⟨fuel,hf⟩:=h1
  rcases open_ints Tryz.underlying46 Tryz.underlying3 (by kernel_rfl) hf with ⟨hcs,_⟩ | ⟨x,l,c,zs,hcs,_,hl,hm,hz,_,hcell,hwz⟩
  ·simp [Value.cells] at hcs
   obtain ⟨rfl,rfl,rfl⟩:=hcs
   exact ⟨[],.inl ⟨rfl,rfl,rfl,rfl⟩⟩
  ·simp [Value.cells] at hcs
   obtain ⟨rfl,rfl,rfl⟩:=hcs
   exact ⟨zs,.inr ⟨_,rfl,hl,hm,by simpa using hz,hcell,hwz⟩⟩
 obtain ⟨a2,rfl,rfl,rfl⟩:=open_bool Tryz.underlying4 (hval 2 4 v2 rfl rfl) h2
 clear hA0 hval0
 refine (walk T0 H0 a1 len1 cap1 z1 a2 W w0 w1).mono fun e W' ⟨he,bel⟩=>?_
 subst he
 exact ⟨_,rfl,_,_,_,[],_,[],hW',trodAll_mk1 (shut_bool Tryz.underlying4 _),(trodAll_cons_mk (Below.trod laidOut (by kernel_rfl) (of_decide_eq_true (by kernel_rfl)) k0 bel lt0) (trodAll_cons_mk (Below.trod laidOut (by kernel_rfl) (of_decide_eq_true (by kernel_rfl)) k1 bel lt1) (trodAll_cons_mk (shut_bool Tryz.underlying4 _) trodAll_mk0))),rfl,bel.frame _,fun h=>by cases h⟩
theorem over:Rows.checkBesideRow.holds Tryz.pinned (OpenSpec.ofChange Rows.checkBesideSpec) :=
 OpenClaim.holds_of_wide 9 Tryz.f9 rfl rfl rfl rfl rfl rfl rfl ⟨rfl,rfl,rfl,rfl,rfl⟩ rfl rfl rfl rfl rfl (by kernel_rfl) Tryz.func9 (by kernel_rfl)
  (of_decide_eq_true (by kernel_rfl)) (by unfold Func.isWrapper;first | (rw [if_pos (by decide +kernel)];kernel_rfl) | (rw [if_neg (by decide +kernel)];exact ⟨rfl,rfl⟩))
  (fun os started H enc _=>lifted os started H enc)
theorem proved:Rows.CheckBesideSaid :=
 over
#print axioms proved
end checkBeside
end Go.Proofs.YtkkfdojjecagmaaGreat
