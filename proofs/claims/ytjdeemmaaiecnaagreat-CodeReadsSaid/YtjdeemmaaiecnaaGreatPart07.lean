/- 7 texts in one file, in build order. -/
import Derived.Test.YtjdeemmaaiecnaaGreatRows
import Derived.Test.YtjdeemmaaiecnaaGreatPart05
import Derived.Test.YtjdeemmaaiecnaaGreatPart06
import Derived.Test.YtjdeemmaaiecnaaGreatPart02
import Derived.Test.YtjdeemmaaiecnaaGreatPart01
import Derived.StillTailTactics
import Derived.Below
import Derived.Laws.Rows
import Derived.Laws.Tables
import Derived.Laws.CopyOwn
import Derived.Laws.BitsLemmas
set_option linter.unusedVariables false
set_option linter.unusedSimpArgs false
set_option linter.unusedSectionVars false
set_option maxHeartbeats 8000000
set_option maxRecDepth 100000
namespace Go.Proofs.YtjdeemmaaiecnaaGreat
namespace Rr
open Go Go.RowKit Go.ChangeShapes
open Tab
open Po
open Rd (Rd But)
open Put (lim)
open CrcM (crc)
def EndsN (bs:List Nat) (B g:Nat) (ad:Option Addr) (cap:Nat) (r:Except Flt (Int × Nat)) (W:World) (e:Ending) (W':World):Prop:=match r with
 | .ok (y,s')=>e=.returned (I y)∧RS B g ad cap bs s' W'∧∀ b,Mv B b W W'
 | .error f=>e=.panicked [{ v:=fault f,recovered:=false }]∧Below B W W'
def EndsS (bs:List Nat) (B g:Nat) (ad:Option Addr) (cap:Nat) (r:Except Flt Nat) (W:World) (e:Ending) (W':World):Prop:=match r with
 | .ok s'=>e=.returned (.tuple #[])∧RS B g ad cap bs s' W'∧∀ b,Mv B b W W'
 | .error f=>e=.panicked [{ v:=fault f,recovered:=false }]∧Below B W W'
theorem Mv.start {B:Nat} {W V U:World} (h:Below W.heap.size W V) (hB:B≤W.heap.size) {nb:Nat} (hn:W.heap.size≤nb) (k:Mv B nb V U) (b:Nat):Mv B b W U :=
 ⟨(h.mono hB).trans k.low,fun j cs t fr hj ht _=>by
  have hl:=(Array.getElem?_eq_some_iff.1 hj).1
  have h1:=h.block j hl
  exact (k.other j cs t fr (h1.trans hj) ht (by omega)).trans h1⟩
section
variable {B g:Nat} {ad:Option Addr} {cap:Nat} {bs:List Nat}
theorem raw3 (s:Nat) (w:World) (h:RS B g ad cap bs s w) (hB:B≤w.heap.size) :
  Calls Tryz.prog 46 #[rdr g,.int .i64 3] w (EndsN bs B g ad cap ((RP bs).num s 3 16777215 0) w):=by
 have hb:=(Below.refl w.heap.size w).alloc (Nat.le_refl _) (.cells #[.pointer (some ⟨g,0,none⟩)] 55)
 have hb2:=hb.alloc hb.size (.cells #[I 0] 3)
 have hg1:=heap_alloc_new w (.cells #[.pointer (some ⟨g,0,none⟩)] 55)
 have hg2:=heap_alloc_new (w.alloc (.cells #[.pointer (some ⟨g,0,none⟩)] 55)) (.cells #[I 0] 3)
 have hs1:(w.alloc (.cells #[.pointer (some ⟨g,0,none⟩)] 55)).heap.size=w.heap.size+1:=by simp
 rw [hs1] at hg2
 have hg3:((w.alloc (.cells #[.pointer (some ⟨g,0,none⟩)] 55)).alloc (.cells #[I 0] 3)).heap[w.heap.size]?=some (.cells #[.pointer (some ⟨g,0,none⟩)] 55 (0,0)):=by
  rw [Below.heap_alloc _ _ _ (by rw [hs1];omega)];exact hg1
 have HR:=Lib.hid (h.mem hb2)
 have HW:=Lib.hid hb2
 obtain ⟨res,hres⟩:∃ r,(RP bs).num s 3 16777215 0=r:=⟨_,rfl⟩
 have HRES:=Lib.hid hres
 rw [hres]
 clear h hb hg1 hs1 hb2 hres
 go_enter Tryz.func46,Tryz.ntmps46
 go_upto_region 2 with fail
 generalize World.alloc (World.alloc w _) _=v at HR HW hg2 hg3 ⊢
 generalize hnb:w.heap.size+1=nb at hg2 ⊢
 generalize hrb:w.heap.size=rb at hg3 HW ⊢
 have LR:Hid (∀ W,Below v.heap.size v W→Lies W ⟨rb,0,none⟩ [.pointer (some ⟨g,0,none⟩)]):=Lib.hid (fun W hb=>by have:=Row.lies_of_block ((hb.block rb (Array.getElem?_eq_some_iff.1 hg3).1).trans hg3);simpa using this)
 have HG2:=Lib.hid hg2
 clear hg2 hg3
 refine QT.region v.heap.size 6 (by kernel_rfl) (by kernel_rfl) ?_
 simp only [List.take_succ_cons,List.take_zero]
 repeat first
  | (refine QL.wpQuiet_load rfl 55 _ rfl ⟨rb,0,none⟩ rfl [.pointer (some ⟨g,0,none⟩)] _ (fun w' ⟨p,e⟩=>by rw [e];exact LR.out _ p.below) Tryz.underlying55 rfl infoRd ?_
     dsimp only [Act.put]
     simp only [List.setIfInBounds_toArray,List.set_cons_zero,List.set_cons_succ])
  | (quiet_step (fail))
  | (refine wpQuiet_run rfl (I 16777216) (fun w=>rfl) ?_
     dsimp only [Act.put]
     simp only [List.setIfInBounds_toArray,List.set_cons_zero,List.set_cons_succ])
 refine wpQuiet_nil ?_
 intro _ hw'
 obtain ⟨p,rfl⟩:=hw'
 have HR2:=Lib.hid (HR.out.mem p.below)
 have hn2:=(p.below.block nb (Array.getElem?_eq_some_iff.1 HG2.out).1).trans HG2.out
 have HWD:Hid (Below w.heap.size w p.world):=Lib.hid (by rw [hrb];exact HW.out.trans (p.below.mono (by have:=HW.out.size;omega)))
 generalize p.world=vd at HR2 hn2 HWD ⊢
 simp only [List.drop_succ_cons,List.drop_zero]
 have hB2:B≤vd.heap.size:=Nat.le_trans hB HWD.out.size
 have HN:=Lib.hid (rnumber s vd nb 0 #[I 0] 3 (0,0) [I 0] 3 16777215 0 0 HR2.out hB2 ⟨rfl,by omega⟩ (Or.inr (by decide)) (Nat.le_refl _) hn2 rfl)
 clear hn2
 go_wp2_with fail
 refine HN.out.mono ?_
 intro e v3 hE
 unfold Po.Ends at hE
 simp only [Sp.run,List.getElem?_cons_zero] at hE
 have hrr:=HRES.out
 cases res with
 | error fl =>
  rw [hrr] at hE
  obtain ⟨rfl,hb3⟩:=hE
  exact ⟨rfl,rfl,(HWD.out.mono hB).trans hb3⟩
 | ok r =>
  obtain ⟨y,s'⟩:=r
  rw [hrr] at hE
  obtain ⟨rfl,hst,hmv,hcl⟩:=hE
  have c1:v3.cell? ⟨nb,0,none⟩=some (I y):=by rw [cell_of_row _ _ _ _ _ _ hcl];rfl
  have HST:=Lib.hid hst
  have HMV:=Lib.hid hmv
  clear hst hmv hcl
  go_wp2
  go_ret
  exact ⟨rfl,HST.out,Mv.start HWD.out hB (by omega) HMV.out⟩
theorem raw2 (s:Nat) (w:World) (h:RS B g ad cap bs s w) (hB:B≤w.heap.size) :
  Calls Tryz.prog 46 #[rdr g,.int .i64 2] w (EndsN bs B g ad cap ((RP bs).num s 2 65535 0) w):=by
 have hb:=(Below.refl w.heap.size w).alloc (Nat.le_refl _) (.cells #[.pointer (some ⟨g,0,none⟩)] 55)
 have hb2:=hb.alloc hb.size (.cells #[I 0] 3)
 have hg1:=heap_alloc_new w (.cells #[.pointer (some ⟨g,0,none⟩)] 55)
 have hg2:=heap_alloc_new (w.alloc (.cells #[.pointer (some ⟨g,0,none⟩)] 55)) (.cells #[I 0] 3)
 have hs1:(w.alloc (.cells #[.pointer (some ⟨g,0,none⟩)] 55)).heap.size=w.heap.size+1:=by simp
 rw [hs1] at hg2
 have hg3:((w.alloc (.cells #[.pointer (some ⟨g,0,none⟩)] 55)).alloc (.cells #[I 0] 3)).heap[w.heap.size]?=some (.cells #[.pointer (some ⟨g,0,none⟩)] 55 (0,0)):=by
  rw [Below.heap_alloc _ _ _ (by rw [hs1];omega)];exact hg1
 have HR:=Lib.hid (h.mem hb2)
 have HW:=Lib.hid hb2
 obtain ⟨res,hres⟩:∃ r,(RP bs).num s 2 65535 0=r:=⟨_,rfl⟩
 have HRES:=Lib.hid hres
 rw [hres]
 clear h hb hg1 hs1 hb2 hres
 go_enter Tryz.func46,Tryz.ntmps46
 go_upto_region 2 with fail
 generalize World.alloc (World.alloc w _) _=v at HR HW hg2 hg3 ⊢
 generalize hnb:w.heap.size+1=nb at hg2 ⊢
 generalize hrb:w.heap.size=rb at hg3 HW ⊢
 have LR:Hid (∀ W,Below v.heap.size v W→Lies W ⟨rb,0,none⟩ [.pointer (some ⟨g,0,none⟩)]):=Lib.hid (fun W hb=>by have:=Row.lies_of_block ((hb.block rb (Array.getElem?_eq_some_iff.1 hg3).1).trans hg3);simpa using this)
 have HG2:=Lib.hid hg2
 clear hg2 hg3
 refine QT.region v.heap.size 6 (by kernel_rfl) (by kernel_rfl) ?_
 simp only [List.take_succ_cons,List.take_zero]
 repeat first
  | (refine QL.wpQuiet_load rfl 55 _ rfl ⟨rb,0,none⟩ rfl [.pointer (some ⟨g,0,none⟩)] _ (fun w' ⟨p,e⟩=>by rw [e];exact LR.out _ p.below) Tryz.underlying55 rfl infoRd ?_
     dsimp only [Act.put]
     simp only [List.setIfInBounds_toArray,List.set_cons_zero,List.set_cons_succ])
  | (quiet_step (fail))
  | (refine wpQuiet_run rfl (I 65536) (fun w=>rfl) ?_
     dsimp only [Act.put]
     simp only [List.setIfInBounds_toArray,List.set_cons_zero,List.set_cons_succ])
 refine wpQuiet_nil ?_
 intro _ hw'
 obtain ⟨p,rfl⟩:=hw'
 have HR2:=Lib.hid (HR.out.mem p.below)
 have hn2:=(p.below.block nb (Array.getElem?_eq_some_iff.1 HG2.out).1).trans HG2.out
 have HWD:Hid (Below w.heap.size w p.world):=Lib.hid (by rw [hrb];exact HW.out.trans (p.below.mono (by have:=HW.out.size;omega)))
 generalize p.world=vd at HR2 hn2 HWD ⊢
 simp only [List.drop_succ_cons,List.drop_zero]
 have hB2:B≤vd.heap.size:=Nat.le_trans hB HWD.out.size
 have HN:=Lib.hid (rnumber s vd nb 0 #[I 0] 3 (0,0) [I 0] 2 65535 0 0 HR2.out hB2 ⟨rfl,by omega⟩ (Or.inr (by decide)) (Nat.le_refl _) hn2 rfl)
 clear hn2
 go_wp2_with fail
 refine HN.out.mono ?_
 intro e v3 hE
 unfold Po.Ends at hE
 simp only [Sp.run,List.getElem?_cons_zero] at hE
 have hrr:=HRES.out
 cases res with
 | error fl =>
  rw [hrr] at hE
  obtain ⟨rfl,hb3⟩:=hE
  exact ⟨rfl,rfl,(HWD.out.mono hB).trans hb3⟩
 | ok r =>
  obtain ⟨y,s'⟩:=r
  rw [hrr] at hE
  obtain ⟨rfl,hst,hmv,hcl⟩:=hE
  have c1:v3.cell? ⟨nb,0,none⟩=some (I y):=by rw [cell_of_row _ _ _ _ _ _ hcl];rfl
  have HST:=Lib.hid hst
  have HMV:=Lib.hid hmv
  clear hst hmv hcl
  go_wp2
  go_ret
  exact ⟨rfl,HST.out,Mv.start HWD.out hB (by omega) HMV.out⟩
def headR (bs:List Nat):Except Flt Nat:=match (RP bs).num (0:Nat) 3 16777215 0 with
 | .error f=>.error f
 | .ok (y,s')=>if y=5784065 then .ok s' else .error (3,0)
theorem head_any (w:World) (h:RS B g ad cap bs 0 w) (hB:B≤w.heap.size) :
  Calls Tryz.prog 19 #[rdr g] w (EndsS bs B g ad cap (headR bs) w):=by
 have hb:=(Below.refl w.heap.size w).alloc (Nat.le_refl _) (.cells #[.pointer (some ⟨g,0,none⟩)] 55)
 have hg1:=heap_alloc_new w (.cells #[.pointer (some ⟨g,0,none⟩)] 55)
 have HR:=Lib.hid (h.mem hb)
 have HW:=Lib.hid hb
 clear h hb
 obtain ⟨r2,hr2⟩:∃ r,headR bs=r:=⟨_,rfl⟩
 rw [hr2]
 unfold headR at hr2
 obtain ⟨res,hres⟩:∃ r,(RP bs).num (0:Nat) 3 16777215 0=r:=⟨_,rfl⟩
 rw [hres] at hr2
 have HRES:=Lib.hid hres
 have HR2:=Lib.hid hr2
 clear hres hr2
 go_enter Tryz.func19,Tryz.ntmps19
 go_upto_region 1 with fail
 generalize World.alloc w _=v at HR HW hg1 ⊢
 generalize hrb:w.heap.size=rb at hg1 HW ⊢
 have LR:Hid (Lies v ⟨rb,0,none⟩ [.pointer (some ⟨g,0,none⟩)]):=Lib.hid (by have:=Row.lies_of_block hg1;simpa using this)
 have HB2:Hid (B≤v.heap.size):=Lib.hid (Nat.le_trans hB (by have:=HW.out.size;omega))
 go_wp2_with (refine Row.wpList_load_g 55 _ rfl (by first | rfl | (go_simp;done) | fail) ⟨rb,0,none⟩ rfl [.pointer (some ⟨g,0,none⟩)] _ LR.out Tryz.underlying55 rfl infoRd ?_)
 refine (raw3 0 v HR.out HB2.out).mono ?_
 intro e v3 hE
 rw [HRES.out] at hE
 unfold EndsN at hE
 cases res with
 | error fl =>
  obtain ⟨rfl,hb3⟩:=hE
  refine ⟨rfl,?_⟩
  rw [← HR2.out]
  exact ⟨rfl,(HW.out.mono (by omega)).trans hb3⟩
 | ok r =>
  obtain ⟨y,s'⟩:=r
  obtain ⟨rfl,hst,hmv⟩:=hE
  have HST:=Lib.hid hst
  have HMV:=Lib.hid hmv
  clear hst hmv
  have HM2:Hid (∀ b,Mv B b w v3):=Lib.hid (Mv.start (by rw [hrb];exact HW.out) hB (Nat.le_refl _) (HMV.out w.heap.size))
  clear HMV
  by_cases hy:y=5784065
  ·subst hy
   have e2:r2=.ok s':=by rw [← HR2.out];exact if_pos rfl
   clear HR2
   subst e2
   go_wp2
   go_end0
   exact ⟨rfl,HST.out,HM2.out⟩
  ·have e2:r2=.error (3,0):=by rw [← HR2.out];exact if_neg hy
   clear HR2
   subst e2
   go_wp2_with fail
   refine (fail_any 3 0 _).mono ?_
   rintro e v4 ⟨rfl,rfl⟩
   exact ⟨rfl,rfl,(HM2.out 0).low⟩
def endR (bs:List Nat) (s:Nat):Except Flt Nat:=if s < bs.length then .error (6,s) else .ok s
theorem end_any (s:Nat) (w:World) (h:RS B g ad cap bs s w) (hB:B≤w.heap.size) :
  Calls Tryz.prog 22 #[rdr g] w (EndsS bs B g ad cap (endR bs s) w):=by
 obtain ⟨r2,hr2⟩:∃ r,endR bs s=r:=⟨_,rfl⟩
 rw [hr2]
 unfold endR at hr2
 have HR2:=Lib.hid hr2
 clear hr2
 have hb:=(Below.refl w.heap.size w).alloc (Nat.le_refl _) (.cells #[.pointer (some ⟨g,0,none⟩)] 55)
 have hg1:=heap_alloc_new w (.cells #[.pointer (some ⟨g,0,none⟩)] 55)
 have HR:=Lib.hid (h.mem hb)
 have HW:=Lib.hid hb
 clear h hb
 go_enter Tryz.func22,Tryz.ntmps22
 go_upto_region 1 with fail
 generalize World.alloc w _=v at HR HW hg1 ⊢
 generalize hrb:w.heap.size=rb at hg1 HW ⊢
 have LR:Hid (Lies v ⟨rb,0,none⟩ [.pointer (some ⟨g,0,none⟩)]):=Lib.hid (by have:=Row.lies_of_block hg1;simpa using this)
 have HB2:Hid (B≤v.heap.size):=Lib.hid (Nat.le_trans hB (by have:=HW.out.size;omega))
 have k0:v.cell? ⟨rb,0,none⟩=some (.pointer (some ⟨g,0,none⟩)):=by rw [cell_of_row _ _ _ _ _ _ hg1];rfl
 have HM:Hid (∀ b,Mv B b w v):=Lib.hid (fun b=>Mv.of (by rw [hrb];exact HW.out) hB)
 go_wp2_with fail
 refine (Rd.left_any g ad cap bs s 0 0 v HR.out.rd HR.out.len HR.out.le).mono ?_
 rintro e v3 ⟨rfl,n,rfl⟩
 have hbd:Below v.heap.size v (v.drewN n):=⟨rfl,rfl,rfl,Nat.le_refl _,fun _ _=>rfl⟩
 have hst:=HR.out.mem hbd
 have kd:(v.drewN n).cell? ⟨rb,0,none⟩=some (.pointer (some ⟨g,0,none⟩)):=k0
 have HM2:Hid (∀ b,Mv B b w (v.drewN n)):=Lib.hid (fun b=>(HM.out b).trans (Mv.of hbd HB2.out))
 clear k0 hbd
 generalize v.drewN n=v3 at hst kd HM2 ⊢
 have HST:=Lib.hid hst
 clear hst
 by_cases hy:s < bs.length
 ·have e2:r2=.error (6,s):=by rw [← HR2.out];exact if_pos hy
  clear HR2
  subst e2
  have hp:(0:Int) < (bs.length:Int) - s:=by omega
  go_wp2_with fail
  refine (Rd.at_any g ad cap bs s 0 0 _ HST.out.rd).mono ?_
  rintro e v4 ⟨rfl,rfl⟩
  go_wp2_with fail
  refine (fail_any 6 s _).mono ?_
  rintro e v4 ⟨rfl,rfl⟩
  exact ⟨rfl,rfl,(HM2.out 0).low⟩
 ·have e2:r2=.ok s:=by rw [← HR2.out];exact if_neg hy
  clear HR2
  subst e2
  have hp:¬ (0:Int) < (bs.length:Int) - s:=by omega
  go_wp2
  go_end0
  exact ⟨rfl,HST.out,HM2.out⟩
def sumR (bs:List Nat) (s:Nat):Except Flt Nat:=match (RP bs).num s 2 65535 0 with
 | .error f=>.error f
 | .ok (y,s')=>if y=((crc 65535 (bs.take s):Nat):Int) then .ok s' else .error (5,s)
theorem sum_any (s:Nat) (w:World) (h:RS B g ad cap bs s w) (hB:B≤w.heap.size) (bd:Option Addr) (bcap:Nat) (hrow:∀ W,Below B w W→Go.Proofs.YtjdeemmaaiecnaaGreat.B.Row W bd bs) (hcap:bs.length≤bcap) :
  Calls Tryz.prog 21 #[rdr g,.slice bd bs.length bcap] w (EndsS bs B g ad cap (sumR bs s) w):=by
 obtain ⟨r2,hr2⟩:∃ r,sumR bs s=r:=⟨_,rfl⟩
 rw [hr2]
 unfold sumR at hr2
 obtain ⟨res,hres⟩:∃ r,(RP bs).num s 2 65535 0=r:=⟨_,rfl⟩
 rw [hres] at hr2
 have HRES:=Lib.hid hres
 have hle:=h.le
 have hln:=h.len
 obtain ⟨cr,hcr⟩:∃ n:Nat,crc 65535 (bs.take s)=n:=⟨_,rfl⟩
 have hcr2:cr < 65536:=by rw [← hcr];exact CrcM.crc_lt _ _ (by decide)
 rw [hcr] at hr2
 have HR2:=Lib.hid hr2
 have CR:Hid (∀ W,Below B w W→Calls Tryz.prog 44 #[.slice bd s bcap] W fun e w'=>e=.returned (.int .u16 (cr:Int))∧Below W.heap.size W w'):=Lib.hid (fun W hb=>by rw [← hcr];exact CrcB.of_len bd s bcap (bs.take s) W (by rw [List.length_take];omega) (Go.Proofs.YtjdeemmaaiecnaaGreat.B.row_take (hrow W hb) s))
 clear hres hr2 hcr hrow
 obtain ⟨len,hlen⟩:∃ n,bs.length=n:=⟨_,rfl⟩
 rw [hlen] at hle hln hcap ⊢
 clear hlen
 have hk1:s≤bcap:=by omega
 have ew:wrap64 (cr:Int)=cr:=IntWalk.wrap64_in _ (by omega)
 have ew2:IntKind.i64.wrap (cr:Int)=cr:=by rw [IntKind.wrap_i64];omega
 have hb:=(Below.refl w.heap.size w).alloc (Nat.le_refl _) (.cells #[.pointer (some ⟨g,0,none⟩)] 55)
 have hg1:=heap_alloc_new w (.cells #[.pointer (some ⟨g,0,none⟩)] 55)
 have HR:=Lib.hid (h.mem hb)
 have HW:=Lib.hid hb
 clear h hb
 go_enter Tryz.func21,Tryz.ntmps21
 go_upto_region 1 with fail
 generalize World.alloc w _=v at HR HW hg1 ⊢
 have HMW:Hid (∀ b,Mv B b w v):=Lib.hid (fun b=>Mv.of HW.out hB)
 have HB2:Hid (B≤v.heap.size):=Lib.hid (Nat.le_trans hB HW.out.size)
 generalize hrb:w.heap.size=rb at hg1 HW ⊢
 have k0:v.cell? ⟨rb,0,none⟩=some (.pointer (some ⟨g,0,none⟩)):=by rw [cell_of_row _ _ _ _ _ _ hg1];rfl
 have LK:Hid (∀ W,(∀ b,Mv B b v W)→Lies W ⟨rb,0,none⟩ [.pointer (some ⟨g,0,none⟩)]):=Lib.hid (fun W hm=>by have:=Row.lies_of_block (((hm (rb+1)).other rb _ _ _ hg1 (by decide) (by omega)).trans hg1);simpa using this)
 go_wp2_with fail
 refine (Rd.at_any g ad cap bs s 0 0 v HR.out.rd).mono ?_
 rintro e v4 ⟨rfl,rfl⟩
 go_upto_region 2 with fail
 clear k0 hg1
 refine wp_region_held (S:=fun w'=>Lies w' ⟨rb,0,none⟩ [.pointer (some ⟨g,0,none⟩)]) (by kernel_rfl) ?_
 have hd:Below v.heap.size v { v with drawn:=v.drawn+1 }:=(Below.refl _ _).drew
 have hm:∀ b,Mv B b v { v with drawn:=v.drawn+1 }:=fun b=>Mv.of hd HB2.out
 have hS:=LK.out _ hm
 have HSV:=Lib.hid (HR.out.mem hd)
 have HMW1:Hid (∀ b,Mv B b w { v with drawn:=v.drawn+1 }):=Lib.hid (fun b=>(HMW.out b).trans (hm b))
 have LK1:Hid (∀ W,(∀ b,Mv B b { v with drawn:=v.drawn+1 } W)→Lies W ⟨rb,0,none⟩ [.pointer (some ⟨g,0,none⟩)]):=Lib.hid (fun W h2=>LK.out W (fun b=>(hm b).trans (h2 b)))
 have HBV:Hid (B≤({ v with drawn:=v.drawn+1 }:World).heap.size):=Lib.hid HB2.out
 clear hd hm HR HMW LK HB2 HW
 generalize ({ v with drawn:=v.drawn+1 }:World)=V at hS HSV HMW1 LK1 HBV ⊢
 have HMW:=HMW1
 have LK:=LK1
 clear HMW1 LK1
 refine Held.take_load (i:=0) (some 8) rfl 55 (.tmp 2) ⟨rb,0,none⟩ [.pointer (some ⟨g,0,none⟩)] _ rfl rfl (by kernel_rfl) (by kernel_rfl) (by kernel_rfl) (fun _ _ _ h=>h) (by rfl) hS rfl (fun w' hw'=>hw') Tryz.underlying55 rfl infoRd ?_
 (try dsimp only [Act.put]);(try simp only [List.setIfInBounds_toArray,List.set_cons_zero,List.set_cons_succ])
 refine Held.take (i:=2) (some 10) rfl (v:=?_) rfl (by kernel_rfl) (by kernel_rfl) (by kernel_rfl) (fun _ _ _ h=>h) (Or.inl ⟨by rfl,?_⟩) hS ?_
 rotate_left
 ·intro w' hw'
  go_simp
  try with_reducible rfl
 (try dsimp only [Act.put]);(try simp only [List.setIfInBounds_toArray,List.set_cons_zero,List.set_cons_succ])
 refine Held.take (i:=3) (some 11) rfl (v:=?_) rfl (by kernel_rfl) (by kernel_rfl) (by kernel_rfl) (fun _ _ _ h=>h) (Or.inl ⟨by rfl,?_⟩) hS ?_
 rotate_left
 ·intro w' hw'
  go_simp
  try with_reducible rfl
 (try dsimp only [Act.put]);(try simp only [List.setIfInBounds_toArray,List.set_cons_zero,List.set_cons_succ])
 refine Held.take (i:=4) (some 12) rfl (v:=?_) rfl (by kernel_rfl) (by kernel_rfl) (by kernel_rfl) (fun _ _ _ h=>h) (Or.inl ⟨by rfl,?_⟩) hS ?_
 rotate_left
 ·intro w' hw'
  go_simp
  try with_reducible rfl
 (try dsimp only [Act.put]);(try simp only [List.setIfInBounds_toArray,List.set_cons_zero,List.set_cons_succ])
 refine wpAnyH_ready (rs:=[1]) (by kernel_rfl) (by simp) (AllReadyH.cons rfl (fun K hK=>?_) AllReadyH.nil)
 go_simp
 refine (raw2 s V HSV.out HBV.out).mono ?_
 intro e V2 hE
 rw [HRES.out] at hE
 unfold EndsN at hE
 cases res with
 | error fl =>
  obtain ⟨rfl,hb3⟩:=hE
  have e2:r2=.error fl:=HR2.out.symm
  subst e2
  go_simp
  exact ⟨rfl,rfl,(HMW.out 0).low.trans hb3⟩
 | ok r =>
  obtain ⟨y,s'⟩:=r
  obtain ⟨rfl,hst,hmv⟩:=hE
  have hq:Lies V2 ⟨rb,0,none⟩ [.pointer (some ⟨g,0,none⟩)]:=LK.out V2 hmv
  have HSV3:Hid (RS B g ad cap bs s' V2):=Lib.hid hst
  have HMW3:Hid (∀ b,Mv B b w V2):=Lib.hid (fun b=>(HMW.out b).trans (hmv b))
  clear hS hst hmv HSV HMW HBV LK
  go_simp
  refine hK.out _ _ hq (fun hS=>?_)
  clear hK K hq
  rename World=>V
  (try dsimp only [Act.put]);(try simp only [List.setIfInBounds_toArray,List.set_cons_zero,List.set_cons_succ])
  refine wpAnyH_ready (rs:=[5]) (by kernel_rfl) (by simp) (AllReadyH.cons rfl (fun K hK=>?_) AllReadyH.nil)
  go_simp
  refine (CR.out V (HMW3.out 0).low).mono ?_
  rintro e V2 ⟨rfl,hb⟩
  have hq:Lies V2 ⟨rb,0,none⟩ [.pointer (some ⟨g,0,none⟩)]:=Lies.below hS hb
  have HSV4:=Lib.hid (HSV3.out.mem hb)
  have HMW4:Hid (∀ b,Mv B b w V2):=Lib.hid (fun b=>(HMW3.out b).trans (Mv.of hb (Nat.le_trans hB (HMW3.out 0).low.size)))
  clear HMW3 HSV3 hb
  have HSV3:=HSV4
  have HMW3:=HMW4
  clear HSV4 HMW4
  go_simp
  refine hK.out _ _ hq (fun hS=>?_)
  clear hK K hq
  (try dsimp only [Act.put]);(try simp only [List.setIfInBounds_toArray,List.set_cons_zero,List.set_cons_succ])
  refine Held.take (i:=6) (some 14) rfl (v:=?_) rfl (by kernel_rfl) (by kernel_rfl) (by kernel_rfl) (fun _ _ _ h=>h) (Or.inl ⟨by rfl,?_⟩) hS ?_
  rotate_left
  ·intro w' hw'
   go_simp
   try with_reducible rfl
  (try dsimp only [Act.put]);(try simp only [List.setIfInBounds_toArray,List.set_cons_zero,List.set_cons_succ])
  by_cases hy:y=(cr:Int)
  ·have e2:r2=.ok s':=by rw [← HR2.out];exact if_pos hy
   clear HR2
   subst e2 hy
   refine Held.take (i:=7) (some 15) rfl (v:=?_) rfl (by kernel_rfl) (by kernel_rfl) (by kernel_rfl) (fun _ _ _ h=>h) (Or.inl ⟨by rfl,?_⟩) hS ?_
   rotate_left
   ·intro w' hw'
    go_simp
    try with_reducible rfl
   (try dsimp only [Act.put]);(try simp only [List.setIfInBounds_toArray,List.set_cons_zero,List.set_cons_succ])
   refine wpAnyH_done (by kernel_rfl) ?_ _
   go_wp2
   go_end0
   exact ⟨rfl,HSV3.out,HMW3.out⟩
  ·have e2:r2=.error (5,s):=by rw [← HR2.out];exact if_neg hy
   clear HR2
   subst e2
   refine Held.take (i:=7) (some 15) rfl (v:=?_) rfl (by kernel_rfl) (by kernel_rfl) (by kernel_rfl) (fun _ _ _ h=>h) (Or.inl ⟨by rfl,?_⟩) hS ?_
   rotate_left
   ·intro w' hw'
    go_simp
    try with_reducible rfl
   (try dsimp only [Act.put]);(try simp only [List.setIfInBounds_toArray,List.set_cons_zero,List.set_cons_succ])
   refine wpAnyH_done (by kernel_rfl) ?_ _
   go_wp2_with fail
   refine (fail_any 5 s _).mono ?_
   rintro e v9 ⟨rfl,rfl⟩
   exact ⟨rfl,rfl,(HMW3.out 0).low⟩
end
end Rr
namespace Rr
open Go Go.RowKit Go.ChangeShapes
open Tab
open Po
open Rd (Rd But)
open Clone (zTab zHd info31 z_is)
def Kp (n0:Nat) (W V:World):Prop:=∀ (j:Nat) (cs:Array Value) (t:TypeId) (fr:Nat × Nat),W.heap[j]?=some (.cells cs t fr)→¬ Pt t→n0≤j→V.heap[j]?=W.heap[j]?
section
variable {n0:Nat} {W V U:World}
theorem Kp.trans (h:Kp n0 W V) (k:Kp n0 V U):Kp n0 W U:=fun j cs t fr hj ht hn=>(k j cs t fr ((h j cs t fr hj ht hn).trans hj) ht hn).trans (h j cs t fr hj ht hn)
theorem Kp.mv {B b:Nat} (h:Mv B b W V) (hb:b < n0):Kp n0 W V:=fun j cs t fr hj ht hn=>h.other j cs t fr hj ht (by omega)
theorem Kp.mem (h:Below W.heap.size W V):Kp n0 W V:=fun j cs t fr hj ht hn=>h.block j (Array.getElem?_eq_some_iff.1 hj).1
theorem Kp.but {g:Nat} (h:But g W V) (hg:g < n0):Kp n0 W V:=fun j cs t fr hj ht hn=>h.block j (Array.getElem?_eq_some_iff.1 hj).1 (by omega)
theorem Kp.row {g:Nat} (cs2:Array Value) (hg:g < n0):Kp n0 W (W.setRow g cs2):=fun j cs t fr hj ht hn=>setRow_other _ _ _ _ (by omega)
theorem newKp {a:Option Addr} {xs:List (List Value)} {T:TypeId} (h:NewRow n0 W a xs T) (k:Kp n0 W V) (hT:¬ Pt T):NewRow n0 V a xs T:=fun hx=>by
 obtain ⟨b,h1,h2,h3⟩:=h hx
 exact ⟨b,h1,h2,(k b _ _ _ h3 hT h1).trans h3⟩
structure Got (x:Raw) (n0:Nat) (ga da ra ba:Option Addr) (zs:List Zr) (W:World):Prop where
 z:zs.map (·.2)=x.gs
 g:x.gs ≠ []→∃ b,n0≤b∧ga=some ⟨b,0,none⟩∧W.heap[b]?=some (.cells (zs.flatMap zc).toArray 68 (0,0))
 r:Po.Rows n0 W zs
 d:NewRow n0 W da x.ds 71
 l:NewRow n0 W ra x.rs 75
 b:NewRow n0 W ba x.bs 77
theorem Got.kp {x:Raw} {ga da ra ba:Option Addr} {zs:List Zr} (h:Got x n0 ga da ra ba zs W) (k:Kp n0 W V):Got x n0 ga da ra ba zs V :=
 ⟨h.z,fun hx=>by
  obtain ⟨b,h1,h2,h3⟩:=h.g hx
  exact ⟨b,h1,h2,(k b _ _ _ h3 (by decide) h1).trans h3⟩,fun z hz=>⟨newKp (h.r z hz).1 k (by decide),newKp (h.r z hz).2 k (by decide)⟩,newKp h.d k (by decide),newKp h.l k (by decide),newKp h.b k (by decide)⟩
end
def decR (bs:List Nat):Except Flt Raw:=if 2048 < bs.length then .error (1,0) else andThen (headR bs) fun s1=>andThen (parts (RP bs) s1) fun x=>andThen (sumR bs x.2) fun s3=>andThen (endR bs s3) fun _=>.ok x.1
def EndsDec (r:Except Flt Raw) (w:World) (e:Ending) (w':World):Prop:=Below w.heap.size w w'∧match r with
 | .error f=>e=.returned (.tuple #[.agg (zTab.cells zHd).toArray,.agg #[I f.1,I f.2]])
 | .ok x=>∃ hd,e=.returned (.tuple #[.agg ((tabOf x).cells hd).toArray,.agg #[I 0,I 0]])∧IsTab w' hd (tabOf x)
theorem dclo_idle (b:Nat) (z0 z1:Int) (w:World) (hc:w.heap[b]?=some (.cells #[I z0,I z1] 36 (0,0))) :
  CallsD Tryz.prog 15 #[.pointer (some ⟨b,0,none⟩)] .returning w fun e u' w'=>e=.returned (.tuple #[])∧u'=.returning∧But b w w'∧w'.heap[b]?=some (.cells #[I 0,I 0] 36 (0,0)):=by
 refine callsD_of_wpS Tryz.func15 rfl fun c₀ cs hu=>?_
 apply wpS_region
 simp [wpOpsS,go_sem,recoverD,hu]
 refine (caught_nil _).mono ?_
 rintro e w' ⟨rfl,hb⟩
 have hc1:=(hb.block b (Array.getElem?_eq_some_iff.1 hc).1).trans hc
 have c0:w'.cell? ⟨b,0,none⟩=some (I z0):=by rw [cell_of_row _ _ _ _ _ _ hc1];rfl
 have c1:w'.cell? ⟨b,1,none⟩=some (I z1):=by rw [cell_of_row _ _ _ _ _ _ hc1];rfl
 have f0:w'.frozen? ⟨b,0,none⟩=false:=frozen_of_row _ _ _ _ _ hc1
 have f1:w'.frozen? ⟨b,1,none⟩=false:=frozen_of_row _ _ _ _ _ hc1
 have hs1:w'.setCell ⟨b,0,none⟩ (I 0)=w'.setRow b #[I 0,I z1]:=setCell_eq_setRow w' b 0 #[I z0,I z1] 36 (0,0) (I 0) hc1
 have hr1:=setRow_heap w' b _ #[I 0,I z1] _ _ hc1
 have hs2:(w'.setRow b #[I 0,I z1]).setCell ⟨b,1,none⟩ (I 0)=(w'.setRow b #[I 0,I z1]).setRow b #[I 0,I 0]:=setCell_eq_setRow _ b 1 #[I 0,I z1] 36 (0,0) (I 0) hr1
 have hr2:=setRow_heap _ b _ #[I 0,I 0] _ _ hr1
 rw [← hs2,← hs1] at hr2
 have hbut:But b w ((w'.setCell ⟨b,0,none⟩ (I 0)).setCell ⟨b,1,none⟩ (I 0)):=((But.of hb).trans (But.set b 0 w' _)).trans (But.set b 1 _ _)
 clear hs1 hs2 hr1
 simp [wpOpsS,go_sem,c0,f0,c1,f1,World.cell?_setCell_other,bodyPostS,results,Tryz.results15]
 cases c₀
 simp_all
theorem dec_is (bs:List Nat) (ad:Option Addr) (cap:Nat) (w:World) (hrow:Go.Proofs.YtjdeemmaaiecnaaGreat.B.Row w ad bs) (hlen:bs.length≤10000) (hnil:ad=none→cap=0) (hcap:bs.length≤cap) :
  Calls Tryz.prog 6 #[.slice ad bs.length cap] w (EndsDec (decR bs) w):=by
 have hmf:∀ (fn:Fn) (first cap:Array Value) (w:World),(Instr.makeFunc fn first cap).run Tryz.prog w=.ok (.func fn first cap) w:=fun _ _ _ _=>rfl
 have hmi:∀ (v:Value) (w:World),(Instr.makeInterface 55 v).run Tryz.prog w=.ok (.iface 55 v) w:=fun _ _=>rfl
 obtain ⟨res,hres⟩:∃ r,decR bs=r:=⟨_,rfl⟩
 rw [hres]
 have HRES:=Lib.hid hres
 clear hres
 have hz:=(zero_of_info info31).1
 have ZS:(zTab.cells zHd).toArray.size=131:=(cells_ok (z_is w)).size
 have ZI0:(Tryz.prog.info? 33).map (·.size)=some (zTab.cells zHd).toArray.size:=by rw [ZS];kernel_rfl
 have ZB:(bx (List.replicate 8 zPh).flatten nl (List.replicate 8 (I 0)) nl nl nl (List.replicate 5 (I 0)) (List.replicate 8 (I 0)) (List.replicate 2 (I 0))).toArray=(zTab.cells zHd).toArray:=rfl
 obtain ⟨Z,hZ⟩:∃ Z,(zTab.cells zHd).toArray=Z:=⟨_,rfl⟩
 rw [hZ] at hz ZI0 ZB ZS
 have EZ:=Lib.hid hZ
 have ZI:=Lib.hid ZI0
 have EB:=Lib.hid ZB
 have EZS:=Lib.hid ZS
 clear ZI0 ZB ZS
 have hb1:=(Below.refl w.heap.size w).alloc (Nat.le_refl _) (.cells Z 33)
 have hb2:=hb1.alloc hb1.size (.cells #[I 0,I 0] 36)
 have hg1:=heap_alloc_new w (.cells Z 33)
 have hg2:=heap_alloc_new (w.alloc (.cells Z 33)) (.cells #[I 0,I 0] 36)
 have hs1:(w.alloc (.cells Z 33)).heap.size=w.heap.size+1:=by simp
 rw [hs1] at hg2
 have hg3:((w.alloc (.cells Z 33)).alloc (.cells #[I 0,I 0] 36)).heap[w.heap.size]?=some (.cells Z 33 (0,0)):=by
  rw [Below.heap_alloc _ _ _ (by rw [hs1];omega)];exact hg1
 clear hZ hb1 hg1 hs1
 have HROW:=Lib.hid hrow
 have HLEN:=Lib.hid hlen
 have HNIL:=Lib.hid hnil
 have HCAP:=Lib.hid hcap
 clear hrow hlen hnil hcap
 obtain ⟨len,hln⟩:∃ n,bs.length=n:=⟨_,rfl⟩
 rw [hln]
 have HLN:=Lib.hid hln
 clear hln
 go_enter_defers Tryz.func6,Tryz.ntmps6
 go_upto_region 2 with fail
 generalize World.alloc (World.alloc w _) _=v at hb2 hg2 hg3 ⊢
 have HB:=Lib.hid hb2
 have hvs:=HB.out.size
 generalize hfb:w.heap.size+1=fb at hg2 ⊢
 generalize htb:w.heap.size=tb at hg3 ⊢
 have HF:=Lib.hid hg2
 have HT:=Lib.hid hg3
 clear hb2 hg2 hg3
 by_cases hbig:2048 < len
 ·go_wp2_with fail
  refine (fail_any 1 0 _).mono ?_
  rintro e v3 ⟨rfl,rfl⟩
  have e2:res=.error (1,0):=by
   rw [← HRES.out]
   unfold decR
   rw [if_pos (by rw [HLN.out];exact hbig)]
  have hlow:Below v.heap.size v v:=Below.refl _ _
  have hF3:=(hlow.block fb (Array.getElem?_eq_some_iff.1 HF.out).1).trans HF.out
  have hT3:=(hlow.block tb (Array.getElem?_eq_some_iff.1 HT.out).1).trans HT.out
  (try go_wp2)
  refine leaves_cons (f:=15) (args:=#[.pointer (some ⟨fb,0,none⟩)]) (by simp) (by simp [go_sem]) ?_
  refine (dclo_panic fb 0 0 (1) (0) v hF3).mono ?_
  rintro e u' w'' ⟨rfl,rfl,hbut,hF4⟩
  have hT4:=(hbut.block tb (Array.getElem?_eq_some_iff.1 hT3).1 (by omega)).trans hT3
  have hBB:Below w.heap.size w w'':=(HB.out.trans (hlow.mono HB.out.size)).trans (hbut.below (Nat.le_trans HB.out.size hlow.size) (by omega))
  refine ⟨_,results_two rfl _ w'' tb fb 33 36 Z #[I (1),I (0)] _ _ rfl rfl hT4 hF4 Tryz.underlying33 rfl ZI.out Tryz.underlying36 rfl infoF,hBB,?_⟩
  (try rw [e2])
  rw [← EZ.out]
 have HBIG:Hid (¬ 2048 < bs.length):=Lib.hid (by rw [HLN.out];exact hbig)
 go_wp2_with fail
 rw [← HLN.out]
 refine (Rd.new_own ad cap bs v (HROW.out.below (HB.out)) (by have:=HLEN.out;omega) HNIL.out).mono ?_
 rintro e v1 ⟨g,ad',cap',rfl,hg,_,hrd,hown,hshp,hb⟩
 have hst:RS v.heap.size g ad' cap' bs 0 v1:=⟨hrd,Nat.zero_le _,by have:=HLEN.out;omega,hg,hshp,hown,HROW.out.2.1⟩
 go_upto_region 5 with fail
 have hb3:=hb.alloc hb.size (.cells #[.pointer (some ⟨g,0,none⟩)] 55)
 have hr3:=heap_alloc_new v1 (.cells #[.pointer (some ⟨g,0,none⟩)] 55)
 have hst3:=hst.mem ((Below.refl v1.heap.size v1).alloc (Nat.le_refl _) (.cells #[.pointer (some ⟨g,0,none⟩)] 55))
 have hrb0:v.heap.size≤v1.heap.size:=hb.size
 generalize World.alloc v1 _=v2 at hb3 hr3 hst3 ⊢
 generalize v1.heap.size=rb at hr3 hrb0 ⊢
 have LR:Hid (∀ W,(∀ b,Mv v.heap.size b v2 W)→Lies W ⟨rb,0,none⟩ [.pointer (some ⟨g,0,none⟩)]):=Lib.hid (fun W hm=>by have:=Row.lies_of_block (((hm (rb+1)).other rb _ _ _ hr3 (by decide) (by omega)).trans hr3);simpa using this)
 have HRB:=Lib.hid hr3
 have HST:=Lib.hid hst3
 have HB2:=Lib.hid hb3
 clear hb hb3 hr3 hst hst3 hrd hown hshp hg
 go_wp2_with (refine Row.wpList_load_g 55 _ rfl (by first | rfl | (go_simp;done) | fail) ⟨rb,0,none⟩ rfl [.pointer (some ⟨g,0,none⟩)] _ (LR.out _ (fun b=>Mv.refl _ _ _)) Tryz.underlying55 rfl infoRd ?_)
 refine (head_any v2 HST.out HB2.out.size).mono ?_
 intro e v3 hE
 obtain ⟨r1,hr1⟩:∃ r,headR bs=r:=⟨_,rfl⟩
 rw [hr1] at hE
 cases r1 with
 | error fl =>
  obtain ⟨fc,fa⟩:=fl
  obtain ⟨rfl,hb4⟩:=hE
  have e2:res=.error (fc,fa):=by
   rw [← HRES.out]
   unfold decR
   rw [if_neg HBIG.out,hr1]
   rfl
  have hlow:Below v.heap.size v v3:=HB2.out.trans hb4
  have hF3:=(hlow.block fb (Array.getElem?_eq_some_iff.1 HF.out).1).trans HF.out
  have hT3:=(hlow.block tb (Array.getElem?_eq_some_iff.1 HT.out).1).trans HT.out
  (try go_wp2)
  refine leaves_cons (f:=15) (args:=#[.pointer (some ⟨fb,0,none⟩)]) (by simp) (by simp [go_sem]) ?_
  refine (dclo_panic fb 0 0 (fc) (fa) v3 hF3).mono ?_
  rintro e u' w'' ⟨rfl,rfl,hbut,hF4⟩
  have hT4:=(hbut.block tb (Array.getElem?_eq_some_iff.1 hT3).1 (by omega)).trans hT3
  have hBB:Below w.heap.size w w'':=(HB.out.trans (hlow.mono HB.out.size)).trans (hbut.below (Nat.le_trans HB.out.size hlow.size) (by omega))
  refine ⟨_,results_two rfl _ w'' tb fb 33 36 Z #[I (fc),I (fa)] _ _ rfl rfl hT4 hF4 Tryz.underlying33 rfl ZI.out Tryz.underlying36 rfl infoF,hBB,?_⟩
  (try rw [e2])
  rw [← EZ.out]
 | ok s1 =>
  obtain ⟨rfl,hst4,hmv4⟩:=hE
  have HR1:=Lib.hid hr1
  have HST4:=Lib.hid hst4
  have HM4:Hid (∀ b,Mv v.heap.size b v2 v3):=Lib.hid hmv4
  clear hr1 hst4 hmv4 HST
  go_upto_region 7 with fail
  have ha:=heap_alloc_new v3 (.cells Z 33)
  have hba:=(Below.refl v3.heap.size v3).alloc (Nat.le_refl _) (.cells Z 33)
  have hst5:=HST4.out.mem hba
  have hB3:v.heap.size≤v3.heap.size:=Nat.le_trans HB2.out.size (HM4.out 0).low.size
  have hm5:∀ b,Mv v.heap.size b v2 (v3.alloc (.cells Z 33)):=fun b=>(HM4.out b).trans (Mv.of hba hB3)
  have hB5:v.heap.size≤(v3.alloc (.cells Z 33)).heap.size:=Nat.le_trans hB3 hba.size
  have hrr:rb < v3.heap.size:=Nat.lt_of_lt_of_le (Array.getElem?_eq_some_iff.1 HRB.out).1 (HM4.out 0).low.size
  generalize World.alloc v3 _=v4 at ha hst5 hm5 hB5 ⊢
  generalize v3.heap.size=rt at ha hB3 hrr ⊢
  have HM5:=Lib.hid hm5
  have HST5:=Lib.hid hst5
  have HA:=Lib.hid ha
  clear ha hst5 hm5 HST4 HM4 hba
  have CP:=Lib.hid (newT_any (PT:=rport (B:=v.heap.size) (g:=g) (ad:=ad') (cap:=cap') (bs:=bs)) (Lib.hid (rfew HROW.out.2.1)) (s:=s1) HST5.out hB5 (tb:=rt) (by rw [EB.out];exact HA.out) hB3 ((rroomy bs).parts s1))
  go_wp2_with (refine Row.wpList_load_g 55 _ rfl (by first | rfl | (go_simp;done) | fail) ⟨rb,0,none⟩ rfl [.pointer (some ⟨g,0,none⟩)] _ (LR.out _ (fun b=>HM5.out b)) Tryz.underlying55 rfl infoRd ?_)
  refine CP.out.mono ?_
  clear CP
  intro e v5 hE
  obtain ⟨r2,hr2⟩:∃ r,parts (RP bs) s1=r:=⟨_,rfl⟩
  rw [hr2] at hE
  have hlow5:Below v.heap.size v v4:=HB2.out.trans (HM5.out 0).low
  cases r2 with
  | error fl =>
   obtain ⟨fc,fa⟩:=fl
   obtain ⟨rfl,hb4⟩:=hE
   have e2:res=.error (fc,fa):=by
    rw [← HRES.out]
    unfold decR
    rw [if_neg HBIG.out,HR1.out,andThen_ok,hr2]
    rfl
   have hlow:Below v.heap.size v v5:=hlow5.trans hb4
   have hF3:=(hlow.block fb (Array.getElem?_eq_some_iff.1 HF.out).1).trans HF.out
   have hT3:=(hlow.block tb (Array.getElem?_eq_some_iff.1 HT.out).1).trans HT.out
   (try go_wp2)
   refine leaves_cons (f:=15) (args:=#[.pointer (some ⟨fb,0,none⟩)]) (by simp) (by simp [go_sem]) ?_
   refine (dclo_panic fb 0 0 (fc) (fa) v5 hF3).mono ?_
   rintro e u' w'' ⟨rfl,rfl,hbut,hF4⟩
   have hT4:=(hbut.block tb (Array.getElem?_eq_some_iff.1 hT3).1 (by omega)).trans hT3
   have hBB:Below w.heap.size w w'':=(HB.out.trans (hlow.mono HB.out.size)).trans (hbut.below (Nat.le_trans HB.out.size hlow.size) (by omega))
   refine ⟨_,results_two rfl _ w'' tb fb 33 36 Z #[I (fc),I (fa)] _ _ rfl rfl hT4 hF4 Tryz.underlying33 rfl ZI.out Tryz.underlying36 rfl infoF,hBB,?_⟩
   (try rw [e2])
   rw [← EZ.out]
  | ok xs =>
   obtain ⟨x,s2⟩:=xs
   obtain ⟨rfl,hst6,hmv6,ga,da,ra,ba,zs,hbx,hz1,hz2,hz3,hz4,hz5,hz6⟩:=hE
   have hok:=parts_ok (rfew HROW.out.2.1) hr2
   have HR2:=Lib.hid hr2
   have HST6:Hid (RS v.heap.size g ad' cap' bs s2 v5):=Lib.hid hst6
   have HGOT:Hid (Got x (rt+1) ga da ra ba zs v5):=Lib.hid ⟨hz1,hz2,hz3,hz4,hz5,hz6⟩
   have HOK:=Lib.hid hok
   have HBX:=Lib.hid hbx
   have HM6:=Lib.hid hmv6
   have hB6:v.heap.size≤v5.heap.size:=Nat.le_trans hB5 hmv6.low.size
   have hlow6:Below v.heap.size v v5:=hlow5.trans hmv6.low
   have LR6:Hid (∀ W,(∀ b,Mv v.heap.size b v5 W)→Lies W ⟨rb,0,none⟩ [.pointer (some ⟨g,0,none⟩)]):=Lib.hid (fun W hm=>by
    have h1:=((HM5.out rt).other rb _ _ _ HRB.out (by decide) (by omega)).trans HRB.out
    have h2:=(HM6.out.other rb _ _ _ h1 (by decide) (by omega)).trans h1
    have:=Row.lies_of_block (((hm (rb+1)).other rb _ _ _ h2 (by decide) (by omega)).trans h2)
    simpa using this)
   clear hst6 hmv6 hbx hz1 hz2 hz3 hz4 hz5 hz6 hr2 hok HST5
   have CS:=Lib.hid (sum_any (bs:=bs) (ad:=ad') (cap:=cap') s2 v5 HST6.out hB6 ad cap (fun W hb=>HROW.out.below (HB.out.trans ((hlow6.trans hb).mono HB.out.size))) HCAP.out)
   go_wp2_with (refine Row.wpList_load_g 55 _ rfl (by first | rfl | (go_simp;done) | fail) ⟨rb,0,none⟩ rfl [.pointer (some ⟨g,0,none⟩)] _ (LR6.out _ (fun b=>Mv.refl _ _ _)) Tryz.underlying55 rfl infoRd ?_)
   refine CS.out.mono ?_
   clear CS
   intro e v6 hE
   obtain ⟨r3,hr3⟩:∃ r,sumR bs s2=r:=⟨_,rfl⟩
   rw [hr3] at hE
   cases r3 with
   | error fl =>
    obtain ⟨fc,fa⟩:=fl
    obtain ⟨rfl,hb4⟩:=hE
    have e2:res=.error (fc,fa):=by
     rw [← HRES.out]
     unfold decR
     rw [if_neg HBIG.out,HR1.out,andThen_ok,HR2.out,andThen_ok,hr3]
     rfl
    have hlow:Below v.heap.size v v6:=hlow6.trans hb4
    have hF3:=(hlow.block fb (Array.getElem?_eq_some_iff.1 HF.out).1).trans HF.out
    have hT3:=(hlow.block tb (Array.getElem?_eq_some_iff.1 HT.out).1).trans HT.out
    (try go_wp2)
    refine leaves_cons (f:=15) (args:=#[.pointer (some ⟨fb,0,none⟩)]) (by simp) (by simp [go_sem]) ?_
    refine (dclo_panic fb 0 0 (fc) (fa) v6 hF3).mono ?_
    rintro e u' w'' ⟨rfl,rfl,hbut,hF4⟩
    have hT4:=(hbut.block tb (Array.getElem?_eq_some_iff.1 hT3).1 (by omega)).trans hT3
    have hBB:Below w.heap.size w w'':=(HB.out.trans (hlow.mono HB.out.size)).trans (hbut.below (Nat.le_trans HB.out.size hlow.size) (by omega))
    refine ⟨_,results_two rfl _ w'' tb fb 33 36 Z #[I (fc),I (fa)] _ _ rfl rfl hT4 hF4 Tryz.underlying33 rfl ZI.out Tryz.underlying36 rfl infoF,hBB,?_⟩
    (try rw [e2])
    rw [← EZ.out]
   | ok s3 =>
    obtain ⟨rfl,hst7,hmv7⟩:=hE
    have HR3:=Lib.hid hr3
    have HST7:Hid (RS v.heap.size g ad' cap' bs s3 v6):=Lib.hid hst7
    have HM7:Hid (∀ b,Mv v.heap.size b v5 v6):=Lib.hid hmv7
    have hB7:v.heap.size≤v6.heap.size:=Nat.le_trans hB6 (hmv7 0).low.size
    have hlow7:Below v.heap.size v v6:=hlow6.trans (hmv7 0).low
    clear hr3 hst7 hmv7 HST6
    go_wp2_with (refine Row.wpList_load_g 55 _ rfl (by first | rfl | (go_simp;done) | fail) ⟨rb,0,none⟩ rfl [.pointer (some ⟨g,0,none⟩)] _ (LR6.out _ (fun b=>HM7.out b)) Tryz.underlying55 rfl infoRd ?_)
    refine (end_any s3 v6 HST7.out hB7).mono ?_
    intro e v7 hE
    obtain ⟨r4,hr4⟩:∃ r,endR bs s3=r:=⟨_,rfl⟩
    rw [hr4] at hE
    cases r4 with
    | error fl =>
     obtain ⟨fc,fa⟩:=fl
     obtain ⟨rfl,hb4⟩:=hE
     have e2:res=.error (fc,fa):=by
      rw [← HRES.out]
      unfold decR
      rw [if_neg HBIG.out,HR1.out,andThen_ok,HR2.out,andThen_ok,HR3.out,andThen_ok,hr4]
      rfl
     have hlow:Below v.heap.size v v7:=hlow7.trans hb4
     have hF3:=(hlow.block fb (Array.getElem?_eq_some_iff.1 HF.out).1).trans HF.out
     have hT3:=(hlow.block tb (Array.getElem?_eq_some_iff.1 HT.out).1).trans HT.out
     (try go_wp2)
     refine leaves_cons (f:=15) (args:=#[.pointer (some ⟨fb,0,none⟩)]) (by simp) (by simp [go_sem]) ?_
     refine (dclo_panic fb 0 0 (fc) (fa) v7 hF3).mono ?_
     rintro e u' w'' ⟨rfl,rfl,hbut,hF4⟩
     have hT4:=(hbut.block tb (Array.getElem?_eq_some_iff.1 hT3).1 (by omega)).trans hT3
     have hBB:Below w.heap.size w w'':=(HB.out.trans (hlow.mono HB.out.size)).trans (hbut.below (Nat.le_trans HB.out.size hlow.size) (by omega))
     refine ⟨_,results_two rfl _ w'' tb fb 33 36 Z #[I (fc),I (fa)] _ _ rfl rfl hT4 hF4 Tryz.underlying33 rfl ZI.out Tryz.underlying36 rfl infoF,hBB,?_⟩
     (try rw [e2])
     rw [← EZ.out]
    | ok s4 =>
     obtain ⟨rfl,hst8,hmv8⟩:=hE
     have e2:res=.ok x:=by
      rw [← HRES.out]
      unfold decR
      rw [if_neg HBIG.out,HR1.out,andThen_ok,HR2.out,andThen_ok,HR3.out,andThen_ok,hr4]
      rfl
     have hm8:∀ b,Mv v.heap.size b v5 v7:=fun b=>(HM7.out b).trans (hmv8 b)
     have hbx8:=((hm8 (rt+1)).other rt _ _ _ HBX.out (by decide) (by omega)).trans HBX.out
     have hgot8:=HGOT.out.kp (Kp.mv (hm8 0) (by omega))
     have hlow8:Below v.heap.size v v7:=hlow6.trans (hm8 0).low
     obtain ⟨hd0,hcs,htab⟩:=got_tab HOK.out hgot8.z hgot8.g hgot8.r hgot8.d hgot8.l hgot8.b
     have CO:=cells_ok htab
     have hcs2:∃ c:List Value,c=(tabOf x).cells hd0:=⟨_,rfl⟩
     obtain ⟨c,hc⟩:=hcs2
     rw [hcs,← hc] at hbx8
     rw [← hc] at CO
     have csl:c.length=131:=by have:=CO.size;rwa [List.size_toArray] at this
     have ONE:=CO.one
     have HC:=Lib.hid hc
     have HCS:=Lib.hid hcs
     have HG8:=Lib.hid hgot8
     have HBX8:=Lib.hid hbx8
     have IC:Hid ((Tryz.prog.info? 33).map (·.size)=some c.length):=Lib.hid (by rw [csl];kernel_rfl)
     clear hcs hc hgot8 hbx8 htab CO hst8 hmv8 hr4 HM7 HST7
     have hT8:=(hlow8.block tb (Array.getElem?_eq_some_iff.1 HT.out).1).trans HT.out
     have hF8:=(hlow8.block fb (Array.getElem?_eq_some_iff.1 HF.out).1).trans HF.out
     have HT8:=Lib.hid hT8
     have hF9:(v7.setRow tb c.toArray).heap[fb]?=some (.cells #[I 0,I 0] 36 (0,0)):=by rw [setRow_other _ _ _ _ (by omega)];exact hF8
     have HF9:=Lib.hid hF9
     have IC2:Hid ((Tryz.prog.info? 33).map (·.size)=some c.toArray.size):=Lib.hid (by rw [List.size_toArray];exact IC.out)
     have ISZ:Hid (Z.size=c.toArray.size):=Lib.hid (by rw [EZS.out,List.size_toArray,csl])
     have HONE:=Lib.hid ONE
     have HL8:=Lib.hid hlow8
     clear hT8 hF9 hF8 ONE csl hlow8
     go_wp2_with (first | (refine Row.wpList_load_g 33 _ rfl (by first | rfl | (go_simp;done) | fail) ⟨rt,0,none⟩ rfl c _ (by have:=Row.lies_of_block HBX8.out;simpa using this) Tryz.underlying33 rfl IC.out ?_) | (refine wpList_store_row rfl 33 _ _ rfl tb c.toArray rfl rfl 33 _ HT8.out IC2.out ISZ.out HONE.out ?_) | (refine wpList_store_row rfl 36 _ _ rfl fb #[I 0,I 0] rfl rfl 36 _ HF9.out infoF rfl (by simp [Value.oneCell']) ?_))
     have hT9:((v7.setRow tb c.toArray).setRow fb #[I 0,I 0]).heap[tb]?=some (.cells c.toArray 33 (0,0)):=by
      rw [setRow_other _ _ _ _ (by omega)]
      exact setRow_heap _ _ _ _ _ _ HT8.out
     have hF9:=setRow_heap _ fb _ #[I 0,I 0] _ _ HF9.out
     have hlow9:Below w.heap.size w ((v7.setRow tb c.toArray).setRow fb #[I 0,I 0]):=below_setRow (below_setRow (HB.out.trans (HL8.out.mono HB.out.size)) (by omega) _) (by omega) _
     have hgot9:=(HG8.out.kp (Kp.row c.toArray (show tb < rt+1 by omega))).kp (Kp.row #[I 0,I 0] (show fb < rt+1 by omega))
     generalize (v7.setRow tb c.toArray).setRow fb #[I 0,I 0]=v9 at hT9 hF9 hlow9 hgot9 ⊢
     (try go_wp2)
     refine leaves_cons (f:=15) (args:=#[.pointer (some ⟨fb,0,none⟩)]) (by simp) (by simp [go_sem]) ?_
     refine (dclo_idle fb 0 0 v9 hF9).mono ?_
     rintro e u' w'' ⟨rfl,rfl,hbut,hF4⟩
     have hT4:=(hbut.block tb (Array.getElem?_eq_some_iff.1 hT9).1 (by omega)).trans hT9
     have hgot4:=hgot9.kp (Kp.but hbut (show fb < rt+1 by omega))
     have hBB:Below w.heap.size w w'':=hlow9.trans (hbut.below hlow9.size (by omega))
     obtain ⟨hd9,hcs9,htab9⟩:=got_tab HOK.out hgot4.z hgot4.g hgot4.r hgot4.d hgot4.l hgot4.b
     have hc9:c=(tabOf x).cells hd9:=by rw [HC.out,← HCS.out];exact hcs9
     refine ⟨_,results_two rfl _ w'' tb fb 33 36 c.toArray #[I 0,I 0] _ _ rfl rfl hT4 hF4 Tryz.underlying33 rfl IC2.out Tryz.underlying36 rfl infoF,hBB,?_⟩
     (try rw [e2])
     exact ⟨hd9,by rw [hc9],htab9⟩
end Rr
namespace By
open Go Go.RowKit
open Tab Po
open Rr (RP may decR headR sumR endR)
open Put (low low_len low_lt low_mod lim)
open Nx (val be be_cons)
open Cd (puts phB detB rlB bsB rowB grB listB itemsB bodyB sealB B8)
open CrcM (crc)
open May (allIn inB tabMay listMay groupMay rowMay)
abbrev stT:List Sp:=[0,1,2,3,4].map (Sp.num 2 9999)
abbrev stK:List Sp:=[0,1].map (Sp.num 4 2147483647)
section
variable {P:PP}
theorem parts_intro {x:Raw} {s s1 s2 s3 s4 s5 s6 s7 s8 s9:P.σ} (h1:eachs P stPh (List.replicate 8 zPh) s=.ok (x.ph,s1)) (h2:listG P 4 s1=.ok (x.gs,s2)) (h3:runs P (st8 255 8) (List.replicate 8 (I 0)) s2=.ok (x.cf,s3)) (h4:listN P 16 stD zDt s3=.ok (x.ds,s4)) (h5:listN P 4 stR zRl s4=.ok (x.rs,s5)) (h6:listN P 4 stB zBs s5=.ok (x.bs,s6)) (h7:runs P stT (List.replicate 5 (I 0)) s6=.ok (x.tm,s7)) (h8:runs P (st8 2 8) (List.replicate 8 (I 0)) s7=.ok (x.fl,s8)) (h9:runs P stK (List.replicate 2 (I 0)) s8=.ok (x.tk,s9)):parts P s=.ok (x,s9):=by
 unfold parts
 rw [h1,andThen_ok]
 simp only
 rw [h2,andThen_ok]
 simp only
 rw [h3,andThen_ok]
 simp only
 rw [show listN P 16 stD [I 0,.float .f64 0,.float .f64 0,.float .f64 0,.float .f64 0,I 0,I 0] s3=_ from h4,andThen_ok]
 simp only
 rw [show listN P 4 stR [I 0,I 0,I 0,I 0,I 0,I 0,I 0,I 0,I 0,I 0,I 0] s4=_ from h5,andThen_ok]
 simp only
 rw [show listN P 4 stB [I 0,I 0] s5=_ from h6,andThen_ok]
 simp only
 rw [h7,andThen_ok]
 simp only
 rw [h8,andThen_ok]
 simp only
 rw [h9,andThen_ok]
end
section
variable {bs:List Nat}
end
end By
namespace Blk
open Go Go.RowKit Go.ChangeShapes Tab
abbrev Bl:Type:=Nat × Array Value × TypeId
structure Bks (w:World) (L:List Bl) (u:World):Prop where
 bel:Below w.heap.size w u
 low:∀ x ∈ L,w.heap.size≤x.1
 blk:∀ x ∈ L,u.heap[x.1]?=some (.cells x.2.1 x.2.2 (0,0))
 apart:(L.map (·.1)).Nodup
section
variable {w u v:World} {L:List Bl}
theorem lt_of {g:Nat} {o:Obj} (hg:u.heap[g]?=some o):g < u.heap.size:=(Array.getElem?_eq_some_iff.1 hg).1
theorem Bks.nil (w:World):Bks w [] w:=⟨Below.refl _ _,by simp,by simp,by simp⟩
theorem Bks.step (h:Bks w L u) (hb:Below u.heap.size u v):Bks w L v :=
 ⟨h.bel.trans (hb.mono h.bel.size),h.low,fun x hx=>(hb.block _ (lt_of (h.blk x hx))).trans (h.blk x hx),h.apart⟩
theorem Bks.drew (h:Bks w L u):Bks w L u.drew:=⟨h.bel.drew,h.low,h.blk,h.apart⟩
theorem Bks.lt (h:Bks w L u) {x:Bl} (hx:x ∈ L):x.1 < u.heap.size:=lt_of (h.blk x hx)
theorem Bks.alloc (h:Bks w L u) (cs:Array Value) (t:TypeId):Bks w ((u.heap.size,cs,t) :: L) (u.alloc (.cells cs t)):=by
 refine ⟨h.bel.alloc h.bel.size _,?_,?_,?_⟩
 ·intro x hx
  rcases List.mem_cons.1 hx with rfl | hx
  ·exact h.bel.size
  ·exact h.low x hx
 ·intro x hx
  rcases List.mem_cons.1 hx with rfl | hx
  ·exact heap_alloc_new u _
  ·rw [Below.heap_alloc _ _ _ (h.lt hx)];exact h.blk x hx
 ·rw [List.map_cons,List.nodup_cons]
  refine ⟨fun hm=>?_,h.apart⟩
  obtain ⟨x,hx,e⟩:=List.mem_map.1 hm
  have:=h.lt hx
  simp only at e
  omega
theorem Bks.at (h:Bks w L u) (i:Nat) {g:Nat} {cs:Array Value} {t:TypeId} (hi:L[i]?=some (g,cs,t)):u.heap[g]?=some (.cells cs t (0,0)):=h.blk (g,cs,t) (List.mem_of_getElem? hi)
theorem Bks.cell (h:Bks w L u) (i j:Nat) {g:Nat} {cs:Array Value} {t:TypeId} {v:Value} (hi:L[i]?=some (g,cs,t)) (hv:cs[j]?=some v):u.cell? ⟨g,j,none⟩=some v:=by rw [cell_of_row _ _ _ _ _ _ (h.at i hi),hv]
theorem Bks.frozen (h:Bks w L u) (i j:Nat) {g:Nat} {cs:Array Value} {t:TypeId} (hi:L[i]?=some (g,cs,t)):u.frozen? ⟨g,j,none⟩=false:=frozen_of_row _ _ _ _ _ (h.at i hi)
theorem Bks.ge (h:Bks w L u) (i:Nat) {g:Nat} {cs:Array Value} {t:TypeId} (hi:L[i]?=some (g,cs,t)):w.heap.size≤g:=h.low (g,cs,t) (List.mem_of_getElem? hi)
theorem nd_ne:∀ {L:List Nat} {i j:Nat} {a b:Nat},L.Nodup→L[i]?=some a→L[j]?=some b→i ≠ j→a ≠ b
 | [],_,_,_,_,_,h,_,_=>by simp at h
 | c :: L,0,0,_,_,_,_,_,h=>absurd rfl h
 | c :: L,0,j+1,a,b,hn,hi,hj,_=>by
  simp at hi hj
  subst hi
  intro e
  subst e
  exact (List.nodup_cons.1 hn).1 (List.mem_of_getElem? hj)
 | c :: L,i+1,0,a,b,hn,hi,hj,_=>by
  simp at hi hj
  subst hj
  intro e
  subst e
  exact (List.nodup_cons.1 hn).1 (List.mem_of_getElem? hi)
 | c :: L,i+1,j+1,a,b,hn,hi,hj,h=>nd_ne (List.nodup_cons.1 hn).2 (by simpa using hi) (by simpa using hj) (fun e=>h (by rw [e]))
theorem Bks.put (h:Bks w L u) (i:Nat) {g:Nat} {cs:Array Value} {t:TypeId} (hi:L[i]?=some (g,cs,t)) (cs':Array Value):Bks w (L.set i (g,cs',t)) (u.setRow g cs'):=by
 have hlt:i < L.length:=(List.getElem?_eq_some_iff.1 hi).1
 have hmap:(L.set i (g,cs',t)).map (·.1)=L.map (·.1):=by
  rw [List.map_set]
  apply List.ext_getElem?
  intro k
  rw [List.getElem?_set]
  split
  ·rename_i e;subst e;rw [List.length_map,if_pos hlt,List.getElem?_map,hi];rfl
  ·rfl
 refine ⟨below_setRow h.bel (h.ge i hi) cs',?_,?_,by rw [hmap];exact h.apart⟩
 ·intro x hx
  rcases List.mem_or_eq_of_mem_set hx with hx | rfl
  ·exact h.low x hx
  ·exact h.ge i hi
 ·intro x hx
  obtain ⟨k,hk⟩:=List.mem_iff_getElem?.1 hx
  rw [List.getElem?_set] at hk
  split at hk
  ·rename_i e;subst e
   (try rw [if_pos hlt] at hk)
   obtain rfl:=Option.some.inj hk
   exact setRow_heap _ _ _ _ _ _ (h.at i hi)
  ·rename_i e
   have hne:x.1 ≠ g:=nd_ne h.apart (i:=k) (j:=i) (by rw [List.getElem?_map,hk];rfl) (by rw [List.getElem?_map,hi];rfl) (fun e'=>e e'.symm)
   rw [setRow_other _ _ _ _ hne]
   exact h.blk x (List.mem_of_getElem? hk)
theorem Bks.set (h:Bks w L u) (i j:Nat) {g:Nat} {cs:Array Value} {t:TypeId} (hi:L[i]?=some (g,cs,t)) (v:Value):Bks w (L.set i (g,cs.setIfInBounds j v,t)) (u.setCell ⟨g,j,none⟩ v):=by
 rw [setCell_eq_setRow u g j cs t (0,0) v (h.at i hi)]
 exact h.put i hi _
theorem Bks.drop {a:Bl} (h:Bks w (a :: L) u):Bks w L u:=⟨h.bel,fun x hx=>h.low x (List.mem_cons_of_mem _ hx),fun x hx=>h.blk x (List.mem_cons_of_mem _ hx),(List.nodup_cons.1 h.apart).2⟩
end
end Blk
namespace Dp
open Go Go.RowKit Go.ChangeShapes
open Tab Po
open Rd (Rd But)
open Nm (St)
open Put (lim)
open Rr (may)
def some_ (bs:List Nat) (s:St) (lv:Bool):Nat × St :=
 if (Nm.flt bs s).2.code=0 then (if may lv (Nm.flt bs s).1=true then Nm.flt bs s else (0,⟨s.k,4,s.k⟩)) else (0,(Nm.flt bs s).2)
def DP (bs:List Nat):PP where
 σ:=St
 num s size most _:=.ok (Nm.num bs s (lim size 7) 0 most)
 flt s lv _:=.ok (some_ bs s lv)
 flg s _:=.ok (decide ((Nm.num bs s 1 0 1).1=1),(Nm.num bs s 1 0 1).2)
structure Ds (B g:Nat) (ad:Option Addr) (cap:Nat) (bs:List Nat) (s:St) (W:World):Prop where
 rd:Rd W g ad cap bs s.k s.code s.fat
 good:Nm.Good bs s
 len:bs.length≤10000
 lo:bs ≠ []→∀ x,ad=some x→x.block < B
 gl:g < B
 bl:B≤W.heap.size
section
variable {B g:Nat} {ad:Option Addr} {cap:Nat} {bs:List Nat} {s s':St} {W V:World}
theorem Ds.mem (h:Ds B g ad cap bs s W) (hb:Below W.heap.size W V):Ds B g ad cap bs s V:=⟨h.rd.below hb,h.good,h.len,h.lo,h.gl,Nat.le_trans h.bl hb.size⟩
theorem Ds.but (h:Ds B g ad cap bs s W) {b:Nat} (hb:But b W V) (hB:B≤b):Ds B g ad cap bs s V :=
 ⟨h.rd.but hb (by have:=h.gl;omega) (fun hn x hx e=>by have:=h.lo hn x hx;omega),h.good,h.len,h.lo,h.gl,Nat.le_trans h.bl hb.size⟩
theorem But.row {b:Nat} {W:World} (cs:Array Value) {old:Array Value} {t:TypeId} (h:W.heap[b]?=some (.cells old t (0,0))) (hs:old.size=cs.size):But b W (W.setRow b cs):=by
 refine ⟨rfl,rfl,rfl,by simp [World.setRow],fun k _ hk=>setRow_other _ _ _ _ hk,fun k hk=>?_⟩
 by_cases e:k=b
 ·subst e
  unfold World.shape?
  rw [setRow_heap _ _ _ cs _ _ h,h]
  simp [hs]
 ·unfold World.shape?
  rw [setRow_other _ _ _ _ e]
structure Bkg (g:Nat) (w:World) (L:List Blk.Bl) (u:World):Prop where
 bel:But g w u
 gl:g < w.heap.size
 low:∀ x ∈ L,w.heap.size≤x.1
 blk:∀ x ∈ L,u.heap[x.1]?=some (.cells x.2.1 x.2.2 (0,0))
 apart:(L.map (·.1)).Nodup
end
section
variable {g:Nat} {w u v:World} {L:List Blk.Bl}
theorem Bkg.nil (hg:g < w.heap.size):Bkg g w [] w:=⟨But.refl _ _,hg,by simp,by simp,by simp⟩
theorem Bkg.step (h:Bkg g w L u) (hb:But g u v):Bkg g w L v :=
 ⟨h.bel.trans hb,h.gl,h.low,fun x hx=>(hb.block _ (Blk.lt_of (h.blk x hx)) (by have:=h.low x hx;have:=h.gl;omega)).trans (h.blk x hx),h.apart⟩
theorem Bkg.mem (h:Bkg g w L u) (hb:Below u.heap.size u v):Bkg g w L v:=h.step (But.of hb)
theorem Bkg.lt (h:Bkg g w L u) {x:Blk.Bl} (hx:x ∈ L):x.1 < u.heap.size:=Blk.lt_of (h.blk x hx)
theorem Bkg.alloc (h:Bkg g w L u) (cs:Array Value) (t:TypeId):Bkg g w ((u.heap.size,cs,t) :: L) (u.alloc (.cells cs t)):=by
 refine ⟨h.bel.trans (But.of ((Below.refl _ _).alloc (Nat.le_refl _) _)),h.gl,?_,?_,?_⟩
 ·intro x hx
  rcases List.mem_cons.1 hx with rfl | hx
  ·exact h.bel.size
  ·exact h.low x hx
 ·intro x hx
  rcases List.mem_cons.1 hx with rfl | hx
  ·exact heap_alloc_new u _
  ·rw [Below.heap_alloc _ _ _ (h.lt hx)];exact h.blk x hx
 ·rw [List.map_cons,List.nodup_cons]
  refine ⟨fun hm=>?_,h.apart⟩
  obtain ⟨x,hx,e⟩:=List.mem_map.1 hm
  have:=h.lt hx
  simp only at e
  omega
theorem Bkg.at (h:Bkg g w L u) (i:Nat) {b:Nat} {cs:Array Value} {t:TypeId} (hi:L[i]?=some (b,cs,t)):u.heap[b]?=some (.cells cs t (0,0)):=h.blk (b,cs,t) (List.mem_of_getElem? hi)
theorem Bkg.cell (h:Bkg g w L u) (i j:Nat) {b:Nat} {cs:Array Value} {t:TypeId} {v:Value} (hi:L[i]?=some (b,cs,t)) (hv:cs[j]?=some v):u.cell? ⟨b,j,none⟩=some v:=by rw [cell_of_row _ _ _ _ _ _ (h.at i hi),hv]
theorem Bkg.frozen (h:Bkg g w L u) (i j:Nat) {b:Nat} {cs:Array Value} {t:TypeId} (hi:L[i]?=some (b,cs,t)):u.frozen? ⟨b,j,none⟩=false:=frozen_of_row _ _ _ _ _ (h.at i hi)
theorem Bkg.ge (h:Bkg g w L u) (i:Nat) {b:Nat} {cs:Array Value} {t:TypeId} (hi:L[i]?=some (b,cs,t)):w.heap.size≤b:=h.low (b,cs,t) (List.mem_of_getElem? hi)
theorem Bkg.put (h:Bkg g w L u) (i:Nat) {b:Nat} {cs:Array Value} {t:TypeId} (hi:L[i]?=some (b,cs,t)) (cs':Array Value):Bkg g w (L.set i (b,cs',t)) (u.setRow b cs'):=by
 have hlt:i < L.length:=(List.getElem?_eq_some_iff.1 hi).1
 have hge:=h.ge i hi
 have hmap:(L.set i (b,cs',t)).map (·.1)=L.map (·.1):=by
  rw [List.map_set]
  apply List.ext_getElem?
  intro k
  rw [List.getElem?_set]
  split
  ·rename_i e;subst e;rw [List.length_map,if_pos hlt,List.getElem?_map,hi];rfl
  ·rfl
 refine ⟨⟨h.bel.os,h.bel.tape,h.bel.output,by simp [World.setRow];exact h.bel.size,fun k hk hne=>?_,fun k hk=>?_⟩,h.gl,?_,?_,by rw [hmap];exact h.apart⟩
 ·rw [setRow_other _ _ _ _ (by omega)];exact h.bel.block k hk hne
 ·have h1:=h.bel.shape k hk
  unfold World.shape? at h1 ⊢
  rw [setRow_other _ _ _ _ (by omega)];exact h1
 ·intro x hx
  rcases List.mem_or_eq_of_mem_set hx with hx | rfl
  ·exact h.low x hx
  ·exact hge
 ·intro x hx
  obtain ⟨k,hk⟩:=List.mem_iff_getElem?.1 hx
  rw [List.getElem?_set] at hk
  split at hk
  ·rename_i e;subst e
   (try rw [if_pos hlt] at hk)
   obtain rfl:=Option.some.inj hk
   exact setRow_heap _ _ _ _ _ _ (h.at i hi)
  ·rename_i e
   have hne:x.1 ≠ b:=Blk.nd_ne h.apart (i:=k) (j:=i) (by rw [List.getElem?_map,hk];rfl) (by rw [List.getElem?_map,hi];rfl) (fun e'=>e e'.symm)
   rw [setRow_other _ _ _ _ hne]
   exact h.blk x (List.mem_of_getElem? hk)
theorem Bkg.set (h:Bkg g w L u) (i j:Nat) {b:Nat} {cs:Array Value} {t:TypeId} (hi:L[i]?=some (b,cs,t)) (v:Value):Bkg g w (L.set i (b,cs.setIfInBounds j v,t)) (u.setCell ⟨b,j,none⟩ v):=by
 rw [setCell_eq_setRow u b j cs t (0,0) v (h.at i hi)]
 exact h.put i hi _
end
section
variable {B g:Nat} {ad:Option Addr} {cap:Nat} {bs:List Nat}
abbrev ptr (g:Nat):Value:=.pointer (some ⟨g,0,none⟩)
theorem num_d (s:St) (size most:Int) (W:World) (h:Ds B g ad cap bs s W):Calls Tryz.prog 24 #[ptr g,.int .i64 size,.int .i64 0,.int .i64 most] W fun e W'=>e=.returned (I (Nm.num bs s (lim size 7) 0 most).1)∧Ds B g ad cap bs (Nm.num bs s (lim size 7) 0 most).2 W'∧But g W W' :=
 (Rf.num_any g ad cap bs s size 0 most W h.rd h.len h.good).mono fun e W' ⟨h1,h2,h3⟩=>⟨h1,⟨h2,Nm.num_good bs s _ 0 most h.good,h.len,h.lo,h.gl,Nat.le_trans h.bl h3.size⟩,h3⟩
theorem bool_d (s:St) (W:World) (h:Ds B g ad cap bs s W):Calls Tryz.prog 97 #[ptr g] W fun e W'=>e=.returned (.bool (decide ((Nm.num bs s 1 0 1).1=1)))∧Ds B g ad cap bs (Nm.num bs s 1 0 1).2 W'∧But g W W' :=
 (Rf.bool_any g ad cap bs s W h.rd h.len h.good).mono fun e W' ⟨h1,h2,h3⟩=>⟨h1,⟨h2,Nm.num_good bs s _ 0 1 h.good,h.len,h.lo,h.gl,Nat.le_trans h.bl h3.size⟩,h3⟩
theorem time_d (s:St) (W:World) (h:Ds B g ad cap bs s W):Calls Tryz.prog 65 #[ptr g] W fun e W'=>e=.returned (I (Nm.num bs s (lim 2 7) 0 9999).1)∧Ds B g ad cap bs (Nm.num bs s (lim 2 7) 0 9999).2 W'∧But g W W':=by
 have h1:=Lib.hid (num_d s 2 9999 W h)
 generalize Nm.num bs s (lim 2 7) 0 9999=r at h1
 clear h
 go_enter Tryz.func65,Tryz.ntmps65
 go_wp2_with fail
 refine h1.out.mono ?_
 rintro e w' ⟨rfl,hr,hb⟩
 have HR:=Lib.hid hr
 have HB:=Lib.hid hb
 clear hr h1 hb
 go_wp2
 go_ret
 exact ⟨rfl,HR.out,HB.out⟩
theorem some_d (s:St) (lv:Bool) (W:World) (h:Ds B g ad cap bs s W):Calls Tryz.prog 98 #[ptr g,.bool lv] W fun e W'=>e=.returned (.float .f64 (some_ bs s lv).1)∧Ds B g ad cap bs (some_ bs s lv).2 W'∧But g W W':=by
 have hfl:=Rf.float_any g ad cap bs s W h.rd h.len h.good
 have hgd:=Nm.flt_good bs s h.good
 have hlen:=h.len
 have hlo:=h.lo
 have hgl:=h.gl
 have hbl:=h.bl
 have hle:=h.good.1
 have hsk:(Nm.flt bs s).2.code=0→s.code=0:=fun hc=>by
  unfold Nm.flt at hc
  by_cases h0:s.code ≠ 0
  ·rw [if_pos h0] at hc;exact absurd hc h0
  ·omega
 unfold some_
 have k1:W.cell? ⟨g,1,none⟩=some (I s.k):=h.rd.c1
 generalize hr:Nm.flt bs s=r at hfl hgd hsk ⊢
 obtain ⟨v,k',code,fat⟩:=r
 simp only at hfl hgd hsk ⊢
 have HFL:=Lib.hid hfl
 have HGD:=Lib.hid hgd
 clear hfl hgd hr h
 obtain ⟨k,c0,f0⟩:=s
 simp only at k1 hle hsk ⊢
 by_cases hc:code=0
 ·subst hc
  obtain rfl:fat=0:=HGD.out.2 rfl
  cases hm:may lv v
  ·have HE:Hid ((if (0:Int)=0 then (if false=true then (v,(⟨k',0,0⟩:St)) else (0,⟨k,4,k⟩)) else (0,⟨k',0,0⟩))=(0,⟨k,4,k⟩)):=Lib.hid (by simp)
   rw [HE.out]
   simp only
   have HL:=Lib.hid hm
   go_enter Tryz.func98,Tryz.ntmps98
   go_wp2_with fail
   refine HFL.out.mono ?_
   rintro e W1 ⟨rfl,hrd,hb⟩
   have HR:=Lib.hid hrd
   have HB:=Lib.hid hb
   clear hrd hb k1
   have hrr:Rd W1 g ad cap bs k' 0 0:=HR.out
   have HR1:=Lib.hid hrr
   clear hrr
   go_wp2_with fail
   refine (Rf.ok_any g ad cap bs k' 0 0 _ HR1.out).mono ?_
   rintro e w' ⟨rfl,rfl⟩
   rw [show decide ((0:Int)=0)=true from rfl]
   have h1:=HR1.out.c1
   have h2:=HR1.out.c2
   have h3:=HR1.out.c3
   have h4:=HR1.out.fz 2
   have h5:=HR1.out.fz 3
   have h6:=HR1.out.fz 1
   have hset:But g W1 (((W1.setCell ⟨g,2,none⟩ (I 4)).setCell ⟨g,3,none⟩ (I k)).setCell ⟨g,1,none⟩ (I k)):=((But.set g 2 _ _).trans (But.set g 3 _ _)).trans (But.set g 1 _ _)
   have Hk:=Num.Rd.keeps HR1.out 4 k
   have Hk2:=Lib.hid (Num.Rd.moves Hk k)
   have Hgo:=Lib.hid (HB.out.trans hset)
   clear hset Hk
   cases lv
   ·go_wp2_with fail
    refine (MayF.rspan_any v _).mono ?_
    rintro e w' ⟨rfl,rfl⟩
    rw [show MayF.span v=false from HL.out]
    go_wp2_with fail
    refine (Rf.ok_any g ad cap bs k 4 k _ Hk2.out).mono ?_
    rintro e w' ⟨rfl,rfl⟩
    rw [show decide ((4:Int)=0)=false from decide_eq_false (by decide)]
    go_wp2
    go_ret
    exact ⟨rfl,⟨Hk2.out,⟨hle,fun h=>by cases h⟩,hlen,hlo,hgl,Nat.le_trans hbl Hgo.out.size⟩,Hgo.out⟩
   ·go_wp2_with fail
    refine (MayF.rlevel_any v _).mono ?_
    rintro e w' ⟨rfl,rfl⟩
    rw [show MayF.level v=false from HL.out]
    go_wp2_with fail
    refine (Rf.ok_any g ad cap bs k 4 k _ Hk2.out).mono ?_
    rintro e w' ⟨rfl,rfl⟩
    rw [show decide ((4:Int)=0)=false from decide_eq_false (by decide)]
    go_wp2
    go_ret
    exact ⟨rfl,⟨Hk2.out,⟨hle,fun h=>by cases h⟩,hlen,hlo,hgl,Nat.le_trans hbl Hgo.out.size⟩,Hgo.out⟩
  ·have HE:Hid ((if (0:Int)=0 then (if true=true then (v,(⟨k',0,0⟩:St)) else (0,⟨k,4,k⟩)) else (0,⟨k',0,0⟩))=(v,⟨k',0,0⟩)):=Lib.hid (by simp)
   rw [HE.out]
   simp only
   have HL:=Lib.hid hm
   go_enter Tryz.func98,Tryz.ntmps98
   go_wp2_with fail
   refine HFL.out.mono ?_
   rintro e W1 ⟨rfl,hrd,hb⟩
   have HR:=Lib.hid hrd
   have HB:=Lib.hid hb
   clear hrd hb k1
   have hrr:Rd W1 g ad cap bs k' 0 0:=HR.out
   have HR1:=Lib.hid hrr
   clear hrr
   go_wp2_with fail
   refine (Rf.ok_any g ad cap bs k' 0 0 _ HR1.out).mono ?_
   rintro e w' ⟨rfl,rfl⟩
   rw [show decide ((0:Int)=0)=true from rfl]
   cases lv
   ·go_wp2_with fail
    refine (MayF.rspan_any v _).mono ?_
    rintro e w' ⟨rfl,rfl⟩
    rw [show MayF.span v=true from HL.out]
    go_wp2_with fail
    refine (Rf.ok_any g ad cap bs k' 0 0 _ HR1.out).mono ?_
    rintro e w' ⟨rfl,rfl⟩
    rw [show decide ((0:Int)=0)=true from rfl]
    go_wp2
    go_ret
    exact ⟨rfl,⟨HR1.out,HGD.out,hlen,hlo,hgl,Nat.le_trans hbl HB.out.size⟩,HB.out⟩
   ·go_wp2_with fail
    refine (MayF.rlevel_any v _).mono ?_
    rintro e w' ⟨rfl,rfl⟩
    rw [show MayF.level v=true from HL.out]
    go_wp2_with fail
    refine (Rf.ok_any g ad cap bs k' 0 0 _ HR1.out).mono ?_
    rintro e w' ⟨rfl,rfl⟩
    rw [show decide ((0:Int)=0)=true from rfl]
    go_wp2
    go_ret
    exact ⟨rfl,⟨HR1.out,HGD.out,hlen,hlo,hgl,Nat.le_trans hbl HB.out.size⟩,HB.out⟩
 ·have HE:Hid ((if code=0 then (if may lv v=true then (v,(⟨k',code,fat⟩:St)) else (0,⟨k,4,k⟩)) else (0,⟨k',code,fat⟩))=(0,⟨k',code,fat⟩)):=Lib.hid (if_neg hc)
  rw [HE.out]
  simp only
  have hcd:decide (code=0)=false:=decide_eq_false hc
  go_enter Tryz.func98,Tryz.ntmps98
  go_wp2_with fail
  refine HFL.out.mono ?_
  rintro e W1 ⟨rfl,hrd,hb⟩
  have hrr:Rd W1 g ad cap bs k' code fat:=hrd
  have HR1:=Lib.hid hrr
  have HB:=Lib.hid hb
  clear hrr hrd hb k1
  go_wp2_with fail
  refine (Rf.ok_any g ad cap bs k' code fat _ HR1.out).mono ?_
  rintro e w' ⟨rfl,rfl⟩
  rw [hcd]
  go_wp2_with fail
  refine (Rf.ok_any g ad cap bs k' code fat _ HR1.out).mono ?_
  rintro e w' ⟨rfl,rfl⟩
  rw [hcd]
  go_wp2
  go_ret
  exact ⟨rfl,⟨HR1.out,HGD.out,hlen,hlo,hgl,Nat.le_trans hbl HB.out.size⟩,HB.out⟩
end
end Dp
namespace Dp
open Go Go.RowKit Go.ChangeShapes
open Tab Po
open Rd (Rd But)
open Nm (St)
open Put (lim)
theorem runs_snoc {P:PP} {a:List Sp} {c:Sp} {l l1 l2:List Value} {s s1 s2:P.σ} (h:runs P a l s=.ok (l1,s1)) (h2:Sp.run P l1 s1 c=.ok (l2,s2)):runs P (a++[c]) l s=.ok (l2,s2):=by
 rw [runs_append,h]
 dsimp only
 rw [runs_one,h2]
section
variable {B g:Nat} {ad:Option Addr} {cap:Nat} {bs:List Nat}
theorem info_phase:(Tryz.prog.info? 25).map (·.size)=some 13:=by kernel_rfl
theorem phase_d (s0:St) (W:World) (h:Ds B g ad cap bs s0 W):Calls Tryz.prog 61 #[ptr g] W fun e W'=>∃ l s',runs (DP bs) stPh zPh s0=.ok (l,s')∧e=.returned (.agg l.toArray)∧Ds B g ad cap bs s' W'∧But g W W':=by
 have hg:g < W.heap.size:=Nat.lt_of_lt_of_le h.gl h.bl
 have hBW:=h.bl
 have h0:=((Bkg.nil hg).alloc #[.bool false,I 0,I 0,I 0,I 0,I 0,I 0,I 0,I 0,I 0,I 0,.bool false,.bool false] 25).alloc #[.bool false,I 0,I 0,I 0,I 0,I 0,I 0,I 0,I 0,I 0,I 0,.bool false,.bool false] 25
 rw [show (W.alloc (.cells #[.bool false,I 0,I 0,I 0,I 0,I 0,I 0,I 0,I 0,I 0,I 0,.bool false,.bool false] 25)).heap.size=W.heap.size+1 by simp] at h0
 have hs0:=h.mem (((Below.refl W.heap.size W).alloc (Nat.le_refl _) (.cells #[.bool false,I 0,I 0,I 0,I 0,I 0,I 0,I 0,I 0,I 0,I 0,.bool false,.bool false] 25)).alloc (by simp) (.cells #[.bool false,I 0,I 0,I 0,I 0,I 0,I 0,I 0,I 0,I 0,I 0,.bool false,.bool false] 25))
 have RUN:Hid (runs (DP bs) [] zPh s0=.ok ([.bool false,I 0,I 0,I 0,I 0,I 0,I 0,I 0,I 0,I 0,I 0,.bool false,.bool false],s0)):=Lib.hid rfl
 obtain ⟨t,ht⟩:∃ t,s0=t:=⟨_,rfl⟩
 rw [show Ds B g ad cap bs s0 _=Ds B g ad cap bs t _ by rw [ht]] at hs0
 have RUN0:Hid (runs (DP bs) [] zPh s0=.ok ([.bool false,I 0,I 0,I 0,I 0,I 0,I 0,I 0,I 0,I 0,I 0,.bool false,.bool false],t)):=Lib.hid (by rw [← ht];exact RUN.out)
 clear RUN h ht
 go_enter Tryz.func61,Tryz.ntmps61
 go_upto_region 2 with fail
 generalize World.alloc (World.alloc W _) _=V at h0 hs0 ⊢
 generalize hp:W.heap.size+1=p at h0 ⊢
 generalize hz:W.heap.size=gz at h0 hg hBW ⊢
 have hBp:B≤p:=by omega
 have HS:=Lib.hid hs0
 have HB:=Lib.hid h0
 clear h0 hs0 hp hg
 go_wp2_with fail
 have hcon:=bool_d t V HS.out
 have hstep:Sp.run (DP bs) [.bool false,I 0,I 0,I 0,I 0,I 0,I 0,I 0,I 0,I 0,I 0,.bool false,.bool false] t (.flg 0)=.ok ([.bool (decide ((Nm.num bs t 1 0 1).1=1)),I 0,I 0,I 0,I 0,I 0,I 0,I 0,I 0,I 0,I 0,.bool false,.bool false],(Nm.num bs t 1 0 1).2):=rfl
 generalize hx:decide ((Nm.num bs t 1 0 1).1=1)=x0 at hcon hstep
 generalize hn:(Nm.num bs t 1 0 1).2=tn at hcon hstep
 clear hx hn
 refine hcon.mono ?_
 rintro e V2 ⟨rfl,hs,hb⟩
 have RUN1:Hid (runs (DP bs) ([]++[.flg 0]) zPh s0=.ok ([.bool x0,I 0,I 0,I 0,I 0,I 0,I 0,I 0,I 0,I 0,I 0,.bool false,.bool false],tn)):=Lib.hid (runs_snoc RUN0.out hstep)
 have HB1:=Lib.hid (HB.out.step hb)
 have HS1:=Lib.hid hs
 clear RUN0 hstep hcon HB HS hs hb
 have c0:V2.cell? ⟨p,0,none⟩=some (.bool false):=HB1.out.cell 0 0 rfl rfl
 have f0:V2.frozen? ⟨p,0,none⟩=false:=HB1.out.frozen 0 0 rfl
 go_upto_region 3 with fail
 have hput:=HB1.out.set 0 0 rfl (.bool x0)
 have hds:=HS1.out.but (But.set p 0 V2 (.bool x0)) hBp
 simp only [List.set_cons_succ,List.set_cons_zero,List.setIfInBounds_toArray] at hput
 clear c0 f0 HB1 HS1
 generalize World.setCell V2 _ _=V3 at hput hds ⊢
 clear V2 V t
 rename World=>V
 rename St=>t
 have HB:=Lib.hid hput
 have HS:=Lib.hid hds
 have RUN0:=RUN1
 clear hput hds RUN1
 go_wp2_with fail
 have hcon:=time_d t V HS.out
 have hstep:Sp.run (DP bs) [.bool x0,I 0,I 0,I 0,I 0,I 0,I 0,I 0,I 0,I 0,I 0,.bool false,.bool false] t (.num 2 9999 1)=.ok ([.bool x0,I ((Nm.num bs t (lim 2 7) 0 9999).1),I 0,I 0,I 0,I 0,I 0,I 0,I 0,I 0,I 0,.bool false,.bool false],(Nm.num bs t (lim 2 7) 0 9999).2):=rfl
 generalize hx:(Nm.num bs t (lim 2 7) 0 9999).1=x1 at hcon hstep
 generalize hn:(Nm.num bs t (lim 2 7) 0 9999).2=tn at hcon hstep
 clear hx hn
 refine hcon.mono ?_
 rintro e V2 ⟨rfl,hs,hb⟩
 have RUN1:Hid (runs (DP bs) (([]++[.flg 0])++[.num 2 9999 1]) zPh s0=.ok ([.bool x0,I x1,I 0,I 0,I 0,I 0,I 0,I 0,I 0,I 0,I 0,.bool false,.bool false],tn)):=Lib.hid (runs_snoc RUN0.out hstep)
 have HB1:=Lib.hid (HB.out.step hb)
 have HS1:=Lib.hid hs
 clear RUN0 hstep hcon HB HS hs hb
 have c0:V2.cell? ⟨p,1,none⟩=some (I 0):=HB1.out.cell 0 1 rfl rfl
 have f0:V2.frozen? ⟨p,1,none⟩=false:=HB1.out.frozen 0 1 rfl
 go_upto_region 4 with fail
 have hput:=HB1.out.set 0 1 rfl (I x1)
 have hds:=HS1.out.but (But.set p 1 V2 (I x1)) hBp
 simp only [List.set_cons_succ,List.set_cons_zero,List.setIfInBounds_toArray] at hput
 clear c0 f0 HB1 HS1
 generalize World.setCell V2 _ _=V3 at hput hds ⊢
 clear V2 V t
 rename World=>V
 rename St=>t
 have HB:=Lib.hid hput
 have HS:=Lib.hid hds
 have RUN0:=RUN1
 clear hput hds RUN1
 go_wp2_with fail
 have hcon:=time_d t V HS.out
 have hstep:Sp.run (DP bs) [.bool x0,I x1,I 0,I 0,I 0,I 0,I 0,I 0,I 0,I 0,I 0,.bool false,.bool false] t (.num 2 9999 2)=.ok ([.bool x0,I x1,I ((Nm.num bs t (lim 2 7) 0 9999).1),I 0,I 0,I 0,I 0,I 0,I 0,I 0,I 0,.bool false,.bool false],(Nm.num bs t (lim 2 7) 0 9999).2):=rfl
 generalize hx:(Nm.num bs t (lim 2 7) 0 9999).1=x2 at hcon hstep
 generalize hn:(Nm.num bs t (lim 2 7) 0 9999).2=tn at hcon hstep
 clear hx hn
 refine hcon.mono ?_
 rintro e V2 ⟨rfl,hs,hb⟩
 have RUN1:Hid (runs (DP bs) ((([]++[.flg 0])++[.num 2 9999 1])++[.num 2 9999 2]) zPh s0=.ok ([.bool x0,I x1,I x2,I 0,I 0,I 0,I 0,I 0,I 0,I 0,I 0,.bool false,.bool false],tn)):=Lib.hid (runs_snoc RUN0.out hstep)
 have HB1:=Lib.hid (HB.out.step hb)
 have HS1:=Lib.hid hs
 clear RUN0 hstep hcon HB HS hs hb
 have c0:V2.cell? ⟨p,2,none⟩=some (I 0):=HB1.out.cell 0 2 rfl rfl
 have f0:V2.frozen? ⟨p,2,none⟩=false:=HB1.out.frozen 0 2 rfl
 go_upto_region 5 with fail
 have hput:=HB1.out.set 0 2 rfl (I x2)
 have hds:=HS1.out.but (But.set p 2 V2 (I x2)) hBp
 simp only [List.set_cons_succ,List.set_cons_zero,List.setIfInBounds_toArray] at hput
 clear c0 f0 HB1 HS1
 generalize World.setCell V2 _ _=V3 at hput hds ⊢
 clear V2 V t
 rename World=>V
 rename St=>t
 have HB:=Lib.hid hput
 have HS:=Lib.hid hds
 have RUN0:=RUN1
 clear hput hds RUN1
 go_wp2_with fail
 have hcon:=time_d t V HS.out
 have hstep:Sp.run (DP bs) [.bool x0,I x1,I x2,I 0,I 0,I 0,I 0,I 0,I 0,I 0,I 0,.bool false,.bool false] t (.num 2 9999 3)=.ok ([.bool x0,I x1,I x2,I ((Nm.num bs t (lim 2 7) 0 9999).1),I 0,I 0,I 0,I 0,I 0,I 0,I 0,.bool false,.bool false],(Nm.num bs t (lim 2 7) 0 9999).2):=rfl
 generalize hx:(Nm.num bs t (lim 2 7) 0 9999).1=x3 at hcon hstep
 generalize hn:(Nm.num bs t (lim 2 7) 0 9999).2=tn at hcon hstep
 clear hx hn
 refine hcon.mono ?_
 rintro e V2 ⟨rfl,hs,hb⟩
 have RUN1:Hid (runs (DP bs) (((([]++[.flg 0])++[.num 2 9999 1])++[.num 2 9999 2])++[.num 2 9999 3]) zPh s0=.ok ([.bool x0,I x1,I x2,I x3,I 0,I 0,I 0,I 0,I 0,I 0,I 0,.bool false,.bool false],tn)):=Lib.hid (runs_snoc RUN0.out hstep)
 have HB1:=Lib.hid (HB.out.step hb)
 have HS1:=Lib.hid hs
 clear RUN0 hstep hcon HB HS hs hb
 have c0:V2.cell? ⟨p,3,none⟩=some (I 0):=HB1.out.cell 0 3 rfl rfl
 have f0:V2.frozen? ⟨p,3,none⟩=false:=HB1.out.frozen 0 3 rfl
 go_upto_region 6 with fail
 have hput:=HB1.out.set 0 3 rfl (I x3)
 have hds:=HS1.out.but (But.set p 3 V2 (I x3)) hBp
 simp only [List.set_cons_succ,List.set_cons_zero,List.setIfInBounds_toArray] at hput
 clear c0 f0 HB1 HS1
 generalize World.setCell V2 _ _=V3 at hput hds ⊢
 clear V2 V t
 rename World=>V
 rename St=>t
 have HB:=Lib.hid hput
 have HS:=Lib.hid hds
 have RUN0:=RUN1
 clear hput hds RUN1
 go_wp2_with fail
 have hcon:=time_d t V HS.out
 have hstep:Sp.run (DP bs) [.bool x0,I x1,I x2,I x3,I 0,I 0,I 0,I 0,I 0,I 0,I 0,.bool false,.bool false] t (.num 2 9999 4)=.ok ([.bool x0,I x1,I x2,I x3,I ((Nm.num bs t (lim 2 7) 0 9999).1),I 0,I 0,I 0,I 0,I 0,I 0,.bool false,.bool false],(Nm.num bs t (lim 2 7) 0 9999).2):=rfl
 generalize hx:(Nm.num bs t (lim 2 7) 0 9999).1=x4 at hcon hstep
 generalize hn:(Nm.num bs t (lim 2 7) 0 9999).2=tn at hcon hstep
 clear hx hn
 refine hcon.mono ?_
 rintro e V2 ⟨rfl,hs,hb⟩
 have RUN1:Hid (runs (DP bs) ((((([]++[.flg 0])++[.num 2 9999 1])++[.num 2 9999 2])++[.num 2 9999 3])++[.num 2 9999 4]) zPh s0=.ok ([.bool x0,I x1,I x2,I x3,I x4,I 0,I 0,I 0,I 0,I 0,I 0,.bool false,.bool false],tn)):=Lib.hid (runs_snoc RUN0.out hstep)
 have HB1:=Lib.hid (HB.out.step hb)
 have HS1:=Lib.hid hs
 clear RUN0 hstep hcon HB HS hs hb
 have c0:V2.cell? ⟨p,4,none⟩=some (I 0):=HB1.out.cell 0 4 rfl rfl
 have f0:V2.frozen? ⟨p,4,none⟩=false:=HB1.out.frozen 0 4 rfl
 go_upto_region 7 with fail
 have hput:=HB1.out.set 0 4 rfl (I x4)
 have hds:=HS1.out.but (But.set p 4 V2 (I x4)) hBp
 simp only [List.set_cons_succ,List.set_cons_zero,List.setIfInBounds_toArray] at hput
 clear c0 f0 HB1 HS1
 generalize World.setCell V2 _ _=V3 at hput hds ⊢
 clear V2 V t
 rename World=>V
 rename St=>t
 have HB:=Lib.hid hput
 have HS:=Lib.hid hds
 have RUN0:=RUN1
 clear hput hds RUN1
 go_wp2_with fail
 have hcon:=time_d t V HS.out
 have hstep:Sp.run (DP bs) [.bool x0,I x1,I x2,I x3,I x4,I 0,I 0,I 0,I 0,I 0,I 0,.bool false,.bool false] t (.num 2 9999 5)=.ok ([.bool x0,I x1,I x2,I x3,I x4,I ((Nm.num bs t (lim 2 7) 0 9999).1),I 0,I 0,I 0,I 0,I 0,.bool false,.bool false],(Nm.num bs t (lim 2 7) 0 9999).2):=rfl
 generalize hx:(Nm.num bs t (lim 2 7) 0 9999).1=x5 at hcon hstep
 generalize hn:(Nm.num bs t (lim 2 7) 0 9999).2=tn at hcon hstep
 clear hx hn
 refine hcon.mono ?_
 rintro e V2 ⟨rfl,hs,hb⟩
 have RUN1:Hid (runs (DP bs) (((((([]++[.flg 0])++[.num 2 9999 1])++[.num 2 9999 2])++[.num 2 9999 3])++[.num 2 9999 4])++[.num 2 9999 5]) zPh s0=.ok ([.bool x0,I x1,I x2,I x3,I x4,I x5,I 0,I 0,I 0,I 0,I 0,.bool false,.bool false],tn)):=Lib.hid (runs_snoc RUN0.out hstep)
 have HB1:=Lib.hid (HB.out.step hb)
 have HS1:=Lib.hid hs
 clear RUN0 hstep hcon HB HS hs hb
 have c0:V2.cell? ⟨p,5,none⟩=some (I 0):=HB1.out.cell 0 5 rfl rfl
 have f0:V2.frozen? ⟨p,5,none⟩=false:=HB1.out.frozen 0 5 rfl
 go_upto_region 8 with fail
 have hput:=HB1.out.set 0 5 rfl (I x5)
 have hds:=HS1.out.but (But.set p 5 V2 (I x5)) hBp
 simp only [List.set_cons_succ,List.set_cons_zero,List.setIfInBounds_toArray] at hput
 clear c0 f0 HB1 HS1
 generalize World.setCell V2 _ _=V3 at hput hds ⊢
 clear V2 V t
 rename World=>V
 rename St=>t
 have HB:=Lib.hid hput
 have HS:=Lib.hid hds
 have RUN0:=RUN1
 clear hput hds RUN1
 go_wp2_with fail
 have hcon:=time_d t V HS.out
 have hstep:Sp.run (DP bs) [.bool x0,I x1,I x2,I x3,I x4,I x5,I 0,I 0,I 0,I 0,I 0,.bool false,.bool false] t (.num 2 9999 6)=.ok ([.bool x0,I x1,I x2,I x3,I x4,I x5,I ((Nm.num bs t (lim 2 7) 0 9999).1),I 0,I 0,I 0,I 0,.bool false,.bool false],(Nm.num bs t (lim 2 7) 0 9999).2):=rfl
 generalize hx:(Nm.num bs t (lim 2 7) 0 9999).1=x6 at hcon hstep
 generalize hn:(Nm.num bs t (lim 2 7) 0 9999).2=tn at hcon hstep
 clear hx hn
 refine hcon.mono ?_
 rintro e V2 ⟨rfl,hs,hb⟩
 have RUN1:Hid (runs (DP bs) ((((((([]++[.flg 0])++[.num 2 9999 1])++[.num 2 9999 2])++[.num 2 9999 3])++[.num 2 9999 4])++[.num 2 9999 5])++[.num 2 9999 6]) zPh s0=.ok ([.bool x0,I x1,I x2,I x3,I x4,I x5,I x6,I 0,I 0,I 0,I 0,.bool false,.bool false],tn)):=Lib.hid (runs_snoc RUN0.out hstep)
 have HB1:=Lib.hid (HB.out.step hb)
 have HS1:=Lib.hid hs
 clear RUN0 hstep hcon HB HS hs hb
 have c0:V2.cell? ⟨p,6,none⟩=some (I 0):=HB1.out.cell 0 6 rfl rfl
 have f0:V2.frozen? ⟨p,6,none⟩=false:=HB1.out.frozen 0 6 rfl
 go_upto_region 9 with fail
 have hput:=HB1.out.set 0 6 rfl (I x6)
 have hds:=HS1.out.but (But.set p 6 V2 (I x6)) hBp
 simp only [List.set_cons_succ,List.set_cons_zero,List.setIfInBounds_toArray] at hput
 clear c0 f0 HB1 HS1
 generalize World.setCell V2 _ _=V3 at hput hds ⊢
 clear V2 V t
 rename World=>V
 rename St=>t
 have HB:=Lib.hid hput
 have HS:=Lib.hid hds
 have RUN0:=RUN1
 clear hput hds RUN1
 go_wp2_with fail
 have hcon:=time_d t V HS.out
 have hstep:Sp.run (DP bs) [.bool x0,I x1,I x2,I x3,I x4,I x5,I x6,I 0,I 0,I 0,I 0,.bool false,.bool false] t (.num 2 9999 7)=.ok ([.bool x0,I x1,I x2,I x3,I x4,I x5,I x6,I ((Nm.num bs t (lim 2 7) 0 9999).1),I 0,I 0,I 0,.bool false,.bool false],(Nm.num bs t (lim 2 7) 0 9999).2):=rfl
 generalize hx:(Nm.num bs t (lim 2 7) 0 9999).1=x7 at hcon hstep
 generalize hn:(Nm.num bs t (lim 2 7) 0 9999).2=tn at hcon hstep
 clear hx hn
 refine hcon.mono ?_
 rintro e V2 ⟨rfl,hs,hb⟩
 have RUN1:Hid (runs (DP bs) (((((((([]++[.flg 0])++[.num 2 9999 1])++[.num 2 9999 2])++[.num 2 9999 3])++[.num 2 9999 4])++[.num 2 9999 5])++[.num 2 9999 6])++[.num 2 9999 7]) zPh s0=.ok ([.bool x0,I x1,I x2,I x3,I x4,I x5,I x6,I x7,I 0,I 0,I 0,.bool false,.bool false],tn)):=Lib.hid (runs_snoc RUN0.out hstep)
 have HB1:=Lib.hid (HB.out.step hb)
 have HS1:=Lib.hid hs
 clear RUN0 hstep hcon HB HS hs hb
 have c0:V2.cell? ⟨p,7,none⟩=some (I 0):=HB1.out.cell 0 7 rfl rfl
 have f0:V2.frozen? ⟨p,7,none⟩=false:=HB1.out.frozen 0 7 rfl
 go_upto_region 10 with fail
 have hput:=HB1.out.set 0 7 rfl (I x7)
 have hds:=HS1.out.but (But.set p 7 V2 (I x7)) hBp
 simp only [List.set_cons_succ,List.set_cons_zero,List.setIfInBounds_toArray] at hput
 clear c0 f0 HB1 HS1
 generalize World.setCell V2 _ _=V3 at hput hds ⊢
 clear V2 V t
 rename World=>V
 rename St=>t
 have HB:=Lib.hid hput
 have HS:=Lib.hid hds
 have RUN0:=RUN1
 clear hput hds RUN1
 go_wp2_with fail
 have hcon:=time_d t V HS.out
 have hstep:Sp.run (DP bs) [.bool x0,I x1,I x2,I x3,I x4,I x5,I x6,I x7,I 0,I 0,I 0,.bool false,.bool false] t (.num 2 9999 8)=.ok ([.bool x0,I x1,I x2,I x3,I x4,I x5,I x6,I x7,I ((Nm.num bs t (lim 2 7) 0 9999).1),I 0,I 0,.bool false,.bool false],(Nm.num bs t (lim 2 7) 0 9999).2):=rfl
 generalize hx:(Nm.num bs t (lim 2 7) 0 9999).1=x8 at hcon hstep
 generalize hn:(Nm.num bs t (lim 2 7) 0 9999).2=tn at hcon hstep
 clear hx hn
 refine hcon.mono ?_
 rintro e V2 ⟨rfl,hs,hb⟩
 have RUN1:Hid (runs (DP bs) ((((((((([]++[.flg 0])++[.num 2 9999 1])++[.num 2 9999 2])++[.num 2 9999 3])++[.num 2 9999 4])++[.num 2 9999 5])++[.num 2 9999 6])++[.num 2 9999 7])++[.num 2 9999 8]) zPh s0=.ok ([.bool x0,I x1,I x2,I x3,I x4,I x5,I x6,I x7,I x8,I 0,I 0,.bool false,.bool false],tn)):=Lib.hid (runs_snoc RUN0.out hstep)
 have HB1:=Lib.hid (HB.out.step hb)
 have HS1:=Lib.hid hs
 clear RUN0 hstep hcon HB HS hs hb
 have c0:V2.cell? ⟨p,8,none⟩=some (I 0):=HB1.out.cell 0 8 rfl rfl
 have f0:V2.frozen? ⟨p,8,none⟩=false:=HB1.out.frozen 0 8 rfl
 go_upto_region 11 with fail
 have hput:=HB1.out.set 0 8 rfl (I x8)
 have hds:=HS1.out.but (But.set p 8 V2 (I x8)) hBp
 simp only [List.set_cons_succ,List.set_cons_zero,List.setIfInBounds_toArray] at hput
 clear c0 f0 HB1 HS1
 generalize World.setCell V2 _ _=V3 at hput hds ⊢
 clear V2 V t
 rename World=>V
 rename St=>t
 have HB:=Lib.hid hput
 have HS:=Lib.hid hds
 have RUN0:=RUN1
 clear hput hds RUN1
 go_wp2_with fail
 have hcon:=time_d t V HS.out
 have hstep:Sp.run (DP bs) [.bool x0,I x1,I x2,I x3,I x4,I x5,I x6,I x7,I x8,I 0,I 0,.bool false,.bool false] t (.num 2 9999 9)=.ok ([.bool x0,I x1,I x2,I x3,I x4,I x5,I x6,I x7,I x8,I ((Nm.num bs t (lim 2 7) 0 9999).1),I 0,.bool false,.bool false],(Nm.num bs t (lim 2 7) 0 9999).2):=rfl
 generalize hx:(Nm.num bs t (lim 2 7) 0 9999).1=x9 at hcon hstep
 generalize hn:(Nm.num bs t (lim 2 7) 0 9999).2=tn at hcon hstep
 clear hx hn
 refine hcon.mono ?_
 rintro e V2 ⟨rfl,hs,hb⟩
 have RUN1:Hid (runs (DP bs) (((((((((([]++[.flg 0])++[.num 2 9999 1])++[.num 2 9999 2])++[.num 2 9999 3])++[.num 2 9999 4])++[.num 2 9999 5])++[.num 2 9999 6])++[.num 2 9999 7])++[.num 2 9999 8])++[.num 2 9999 9]) zPh s0=.ok ([.bool x0,I x1,I x2,I x3,I x4,I x5,I x6,I x7,I x8,I x9,I 0,.bool false,.bool false],tn)):=Lib.hid (runs_snoc RUN0.out hstep)
 have HB1:=Lib.hid (HB.out.step hb)
 have HS1:=Lib.hid hs
 clear RUN0 hstep hcon HB HS hs hb
 have c0:V2.cell? ⟨p,9,none⟩=some (I 0):=HB1.out.cell 0 9 rfl rfl
 have f0:V2.frozen? ⟨p,9,none⟩=false:=HB1.out.frozen 0 9 rfl
 go_upto_region 12 with fail
 have hput:=HB1.out.set 0 9 rfl (I x9)
 have hds:=HS1.out.but (But.set p 9 V2 (I x9)) hBp
 simp only [List.set_cons_succ,List.set_cons_zero,List.setIfInBounds_toArray] at hput
 clear c0 f0 HB1 HS1
 generalize World.setCell V2 _ _=V3 at hput hds ⊢
 clear V2 V t
 rename World=>V
 rename St=>t
 have HB:=Lib.hid hput
 have HS:=Lib.hid hds
 have RUN0:=RUN1
 clear hput hds RUN1
 go_wp2_with fail
 have hcon:=num_d t 1 3 V HS.out
 have hstep:Sp.run (DP bs) [.bool x0,I x1,I x2,I x3,I x4,I x5,I x6,I x7,I x8,I x9,I 0,.bool false,.bool false] t (.num 1 3 10)=.ok ([.bool x0,I x1,I x2,I x3,I x4,I x5,I x6,I x7,I x8,I x9,I ((Nm.num bs t (lim 1 7) 0 3).1),.bool false,.bool false],(Nm.num bs t (lim 1 7) 0 3).2):=rfl
 generalize hx:(Nm.num bs t (lim 1 7) 0 3).1=x10 at hcon hstep
 generalize hn:(Nm.num bs t (lim 1 7) 0 3).2=tn at hcon hstep
 clear hx hn
 refine hcon.mono ?_
 rintro e V2 ⟨rfl,hs,hb⟩
 have RUN1:Hid (runs (DP bs) ((((((((((([]++[.flg 0])++[.num 2 9999 1])++[.num 2 9999 2])++[.num 2 9999 3])++[.num 2 9999 4])++[.num 2 9999 5])++[.num 2 9999 6])++[.num 2 9999 7])++[.num 2 9999 8])++[.num 2 9999 9])++[.num 1 3 10]) zPh s0=.ok ([.bool x0,I x1,I x2,I x3,I x4,I x5,I x6,I x7,I x8,I x9,I x10,.bool false,.bool false],tn)):=Lib.hid (runs_snoc RUN0.out hstep)
 have HB1:=Lib.hid (HB.out.step hb)
 have HS1:=Lib.hid hs
 clear RUN0 hstep hcon HB HS hs hb
 have c0:V2.cell? ⟨p,10,none⟩=some (I 0):=HB1.out.cell 0 10 rfl rfl
 have f0:V2.frozen? ⟨p,10,none⟩=false:=HB1.out.frozen 0 10 rfl
 go_upto_region 13 with fail
 have hput:=HB1.out.set 0 10 rfl (I x10)
 have hds:=HS1.out.but (But.set p 10 V2 (I x10)) hBp
 simp only [List.set_cons_succ,List.set_cons_zero,List.setIfInBounds_toArray] at hput
 clear c0 f0 HB1 HS1
 generalize World.setCell V2 _ _=V3 at hput hds ⊢
 clear V2 V t
 rename World=>V
 rename St=>t
 have HB:=Lib.hid hput
 have HS:=Lib.hid hds
 have RUN0:=RUN1
 clear hput hds RUN1
 go_wp2_with fail
 have hcon:=bool_d t V HS.out
 have hstep:Sp.run (DP bs) [.bool x0,I x1,I x2,I x3,I x4,I x5,I x6,I x7,I x8,I x9,I x10,.bool false,.bool false] t (.flg 11)=.ok ([.bool x0,I x1,I x2,I x3,I x4,I x5,I x6,I x7,I x8,I x9,I x10,.bool (decide ((Nm.num bs t 1 0 1).1=1)),.bool false],(Nm.num bs t 1 0 1).2):=rfl
 generalize hx:decide ((Nm.num bs t 1 0 1).1=1)=x11 at hcon hstep
 generalize hn:(Nm.num bs t 1 0 1).2=tn at hcon hstep
 clear hx hn
 refine hcon.mono ?_
 rintro e V2 ⟨rfl,hs,hb⟩
 have RUN1:Hid (runs (DP bs) (((((((((((([]++[.flg 0])++[.num 2 9999 1])++[.num 2 9999 2])++[.num 2 9999 3])++[.num 2 9999 4])++[.num 2 9999 5])++[.num 2 9999 6])++[.num 2 9999 7])++[.num 2 9999 8])++[.num 2 9999 9])++[.num 1 3 10])++[.flg 11]) zPh s0=.ok ([.bool x0,I x1,I x2,I x3,I x4,I x5,I x6,I x7,I x8,I x9,I x10,.bool x11,.bool false],tn)):=Lib.hid (runs_snoc RUN0.out hstep)
 have HB1:=Lib.hid (HB.out.step hb)
 have HS1:=Lib.hid hs
 clear RUN0 hstep hcon HB HS hs hb
 have c0:V2.cell? ⟨p,11,none⟩=some (.bool false):=HB1.out.cell 0 11 rfl rfl
 have f0:V2.frozen? ⟨p,11,none⟩=false:=HB1.out.frozen 0 11 rfl
 go_upto_region 14 with fail
 have hput:=HB1.out.set 0 11 rfl (.bool x11)
 have hds:=HS1.out.but (But.set p 11 V2 (.bool x11)) hBp
 simp only [List.set_cons_succ,List.set_cons_zero,List.setIfInBounds_toArray] at hput
 clear c0 f0 HB1 HS1
 generalize World.setCell V2 _ _=V3 at hput hds ⊢
 clear V2 V t
 rename World=>V
 rename St=>t
 have HB:=Lib.hid hput
 have HS:=Lib.hid hds
 have RUN0:=RUN1
 clear hput hds RUN1
 go_wp2_with fail
 have hcon:=bool_d t V HS.out
 have hstep:Sp.run (DP bs) [.bool x0,I x1,I x2,I x3,I x4,I x5,I x6,I x7,I x8,I x9,I x10,.bool x11,.bool false] t (.flg 12)=.ok ([.bool x0,I x1,I x2,I x3,I x4,I x5,I x6,I x7,I x8,I x9,I x10,.bool x11,.bool (decide ((Nm.num bs t 1 0 1).1=1))],(Nm.num bs t 1 0 1).2):=rfl
 generalize hx:decide ((Nm.num bs t 1 0 1).1=1)=x12 at hcon hstep
 generalize hn:(Nm.num bs t 1 0 1).2=tn at hcon hstep
 clear hx hn
 refine hcon.mono ?_
 rintro e V2 ⟨rfl,hs,hb⟩
 have RUN1:Hid (runs (DP bs) ((((((((((((([]++[.flg 0])++[.num 2 9999 1])++[.num 2 9999 2])++[.num 2 9999 3])++[.num 2 9999 4])++[.num 2 9999 5])++[.num 2 9999 6])++[.num 2 9999 7])++[.num 2 9999 8])++[.num 2 9999 9])++[.num 1 3 10])++[.flg 11])++[.flg 12]) zPh s0=.ok ([.bool x0,I x1,I x2,I x3,I x4,I x5,I x6,I x7,I x8,I x9,I x10,.bool x11,.bool x12],tn)):=Lib.hid (runs_snoc RUN0.out hstep)
 have HB1:=Lib.hid (HB.out.step hb)
 have HS1:=Lib.hid hs
 clear RUN0 hstep hcon HB HS hs hb
 have c0:V2.cell? ⟨p,12,none⟩=some (.bool false):=HB1.out.cell 0 12 rfl rfl
 have f0:V2.frozen? ⟨p,12,none⟩=false:=HB1.out.frozen 0 12 rfl
 go_upto_region 15 with fail
 have hput:=HB1.out.set 0 12 rfl (.bool x12)
 have hds:=HS1.out.but (But.set p 12 V2 (.bool x12)) hBp
 simp only [List.set_cons_succ,List.set_cons_zero,List.setIfInBounds_toArray] at hput
 clear c0 f0 HB1 HS1
 generalize World.setCell V2 _ _=V3 at hput hds ⊢
 clear V2 V t
 rename World=>V
 rename St=>t
 have HB:=Lib.hid hput
 have HS:=Lib.hid hds
 have RUN0:=RUN1
 clear hput hds RUN1
 go_wp2_with (first | (refine Row.wpList_load_g 25 _ rfl (by first | rfl | (go_simp;done) | fail) ⟨p,0,none⟩ rfl [.bool x0,I x1,I x2,I x3,I x4,I x5,I x6,I x7,I x8,I x9,I x10,.bool x11,.bool x12] _ (by have:=Row.lies_of_block (HB.out.at 0 rfl);simpa using this) Tryz.underlying25 rfl info_phase ?_) | (refine wpList_store_row rfl 25 _ _ rfl gz #[.bool x0,I x1,I x2,I x3,I x4,I x5,I x6,I x7,I x8,I x9,I x10,.bool x11,.bool x12] rfl rfl 25 _ (HB.out.at 1 rfl) info_phase rfl (by simp [Value.oneCell']) ?_))
 have hput:=HB.out.put 1 rfl #[.bool x0,I x1,I x2,I x3,I x4,I x5,I x6,I x7,I x8,I x9,I x10,.bool x11,.bool x12]
 have hds:=HS.out.but (But.row #[.bool x0,I x1,I x2,I x3,I x4,I x5,I x6,I x7,I x8,I x9,I x10,.bool x11,.bool x12] (HB.out.at 1 rfl) rfl) (by omega)
 simp only [List.set_cons_succ,List.set_cons_zero] at hput
 generalize World.setRow V gz _=V3 at hput hds ⊢
 have HB3:=Lib.hid hput
 have HS3:=Lib.hid hds
 clear hput hds
 go_wp2_with fail
 (try simp only [Exit.inBlock,Exit.then])
 refine bodyPost_ret (v:=.agg #[.bool x0,I x1,I x2,I x3,I x4,I x5,I x6,I x7,I x8,I x9,I x10,.bool x11,.bool x12]) ?_ rfl ⟨[.bool x0,I x1,I x2,I x3,I x4,I x5,I x6,I x7,I x8,I x9,I x10,.bool x11,.bool x12],t,RUN0.out,rfl,HS3.out,HB3.out.bel⟩
 exact results_cell_row rfl _ _ gz 25 _ (0,0) _ rfl (HB3.out.at 1 rfl) Tryz.underlying25 rfl info_phase
theorem info_detector:(Tryz.prog.info? 71).map (·.size)=some 7:=by kernel_rfl
theorem detector_d (s0:St) (W:World) (h:Ds B g ad cap bs s0 W):Calls Tryz.prog 63 #[ptr g] W fun e W'=>∃ l s',runs (DP bs) stD zDt s0=.ok (l,s')∧e=.returned (.agg l.toArray)∧Ds B g ad cap bs s' W'∧But g W W':=by
 have hg:g < W.heap.size:=Nat.lt_of_lt_of_le h.gl h.bl
 have hBW:=h.bl
 have h0:=((Bkg.nil hg).alloc #[I 0,.float .f64 0,.float .f64 0,.float .f64 0,.float .f64 0,I 0,I 0] 71).alloc #[I 0,.float .f64 0,.float .f64 0,.float .f64 0,.float .f64 0,I 0,I 0] 71
 rw [show (W.alloc (.cells #[I 0,.float .f64 0,.float .f64 0,.float .f64 0,.float .f64 0,I 0,I 0] 71)).heap.size=W.heap.size+1 by simp] at h0
 have hs0:=h.mem (((Below.refl W.heap.size W).alloc (Nat.le_refl _) (.cells #[I 0,.float .f64 0,.float .f64 0,.float .f64 0,.float .f64 0,I 0,I 0] 71)).alloc (by simp) (.cells #[I 0,.float .f64 0,.float .f64 0,.float .f64 0,.float .f64 0,I 0,I 0] 71))
 have RUN:Hid (runs (DP bs) [] zDt s0=.ok ([I 0,.float .f64 0,.float .f64 0,.float .f64 0,.float .f64 0,I 0,I 0],s0)):=Lib.hid rfl
 obtain ⟨t,ht⟩:∃ t,s0=t:=⟨_,rfl⟩
 rw [show Ds B g ad cap bs s0 _=Ds B g ad cap bs t _ by rw [ht]] at hs0
 have RUN0:Hid (runs (DP bs) [] zDt s0=.ok ([I 0,.float .f64 0,.float .f64 0,.float .f64 0,.float .f64 0,I 0,I 0],t)):=Lib.hid (by rw [← ht];exact RUN.out)
 clear RUN h ht
 go_enter Tryz.func63,Tryz.ntmps63
 go_upto_region 2 with fail
 generalize World.alloc (World.alloc W _) _=V at h0 hs0 ⊢
 generalize hp:W.heap.size+1=p at h0 ⊢
 generalize hz:W.heap.size=gz at h0 hg hBW ⊢
 have hBp:B≤p:=by omega
 have HS:=Lib.hid hs0
 have HB:=Lib.hid h0
 clear h0 hs0 hp hg
 go_wp2_with fail
 have hcon:=num_d t 1 7 V HS.out
 have hstep:Sp.run (DP bs) [I 0,.float .f64 0,.float .f64 0,.float .f64 0,.float .f64 0,I 0,I 0] t (.num 1 7 0)=.ok ([I ((Nm.num bs t (lim 1 7) 0 7).1),.float .f64 0,.float .f64 0,.float .f64 0,.float .f64 0,I 0,I 0],(Nm.num bs t (lim 1 7) 0 7).2):=rfl
 generalize hx:(Nm.num bs t (lim 1 7) 0 7).1=x0 at hcon hstep
 generalize hn:(Nm.num bs t (lim 1 7) 0 7).2=tn at hcon hstep
 clear hx hn
 refine hcon.mono ?_
 rintro e V2 ⟨rfl,hs,hb⟩
 have RUN1:Hid (runs (DP bs) ([]++[.num 1 7 0]) zDt s0=.ok ([I x0,.float .f64 0,.float .f64 0,.float .f64 0,.float .f64 0,I 0,I 0],tn)):=Lib.hid (runs_snoc RUN0.out hstep)
 have HB1:=Lib.hid (HB.out.step hb)
 have HS1:=Lib.hid hs
 clear RUN0 hstep hcon HB HS hs hb
 have c0:V2.cell? ⟨p,0,none⟩=some (I 0):=HB1.out.cell 0 0 rfl rfl
 have f0:V2.frozen? ⟨p,0,none⟩=false:=HB1.out.frozen 0 0 rfl
 go_upto_region 3 with fail
 have hput:=HB1.out.set 0 0 rfl (I x0)
 have hds:=HS1.out.but (But.set p 0 V2 (I x0)) hBp
 simp only [List.set_cons_succ,List.set_cons_zero,List.setIfInBounds_toArray] at hput
 clear c0 f0 HB1 HS1
 generalize World.setCell V2 _ _=V3 at hput hds ⊢
 clear V2 V t
 rename World=>V
 rename St=>t
 have HB:=Lib.hid hput
 have HS:=Lib.hid hds
 have RUN0:=RUN1
 clear hput hds RUN1
 go_wp2_with fail
 have hcon:=some_d t true V HS.out
 have hstep:Sp.run (DP bs) [I x0,.float .f64 0,.float .f64 0,.float .f64 0,.float .f64 0,I 0,I 0] t (.flt true 1)=.ok ([I x0,.float .f64 ((some_ bs t true).1),.float .f64 0,.float .f64 0,.float .f64 0,I 0,I 0],(some_ bs t true).2):=rfl
 generalize hx:(some_ bs t true).1=x1 at hcon hstep
 generalize hn:(some_ bs t true).2=tn at hcon hstep
 clear hx hn
 refine hcon.mono ?_
 rintro e V2 ⟨rfl,hs,hb⟩
 have RUN1:Hid (runs (DP bs) (([]++[.num 1 7 0])++[.flt true 1]) zDt s0=.ok ([I x0,.float .f64 x1,.float .f64 0,.float .f64 0,.float .f64 0,I 0,I 0],tn)):=Lib.hid (runs_snoc RUN0.out hstep)
 have HB1:=Lib.hid (HB.out.step hb)
 have HS1:=Lib.hid hs
 clear RUN0 hstep hcon HB HS hs hb
 have c0:V2.cell? ⟨p,1,none⟩=some (.float .f64 0):=HB1.out.cell 0 1 rfl rfl
 have f0:V2.frozen? ⟨p,1,none⟩=false:=HB1.out.frozen 0 1 rfl
 have st:Sem.run Tryz.prog (store ⟨p,1,none⟩ (.float .f64 x1)) V2=.ok () (V2.setCell ⟨p,1,none⟩ (.float .f64 x1)):=Rr.run_store_float c0 f0
 go_upto_region 4 with fail
 clear st
 have hput:=HB1.out.set 0 1 rfl (.float .f64 x1)
 have hds:=HS1.out.but (But.set p 1 V2 (.float .f64 x1)) hBp
 simp only [List.set_cons_succ,List.set_cons_zero,List.setIfInBounds_toArray] at hput
 clear c0 f0 HB1 HS1
 generalize World.setCell V2 _ _=V3 at hput hds ⊢
 clear V2 V t
 rename World=>V
 rename St=>t
 have HB:=Lib.hid hput
 have HS:=Lib.hid hds
 have RUN0:=RUN1
 clear hput hds RUN1
 go_wp2_with fail
 have hcon:=some_d t true V HS.out
 have hstep:Sp.run (DP bs) [I x0,.float .f64 x1,.float .f64 0,.float .f64 0,.float .f64 0,I 0,I 0] t (.flt true 2)=.ok ([I x0,.float .f64 x1,.float .f64 ((some_ bs t true).1),.float .f64 0,.float .f64 0,I 0,I 0],(some_ bs t true).2):=rfl
 generalize hx:(some_ bs t true).1=x2 at hcon hstep
 generalize hn:(some_ bs t true).2=tn at hcon hstep
 clear hx hn
 refine hcon.mono ?_
 rintro e V2 ⟨rfl,hs,hb⟩
 have RUN1:Hid (runs (DP bs) ((([]++[.num 1 7 0])++[.flt true 1])++[.flt true 2]) zDt s0=.ok ([I x0,.float .f64 x1,.float .f64 x2,.float .f64 0,.float .f64 0,I 0,I 0],tn)):=Lib.hid (runs_snoc RUN0.out hstep)
 have HB1:=Lib.hid (HB.out.step hb)
 have HS1:=Lib.hid hs
 clear RUN0 hstep hcon HB HS hs hb
 have c0:V2.cell? ⟨p,2,none⟩=some (.float .f64 0):=HB1.out.cell 0 2 rfl rfl
 have f0:V2.frozen? ⟨p,2,none⟩=false:=HB1.out.frozen 0 2 rfl
 have st:Sem.run Tryz.prog (store ⟨p,2,none⟩ (.float .f64 x2)) V2=.ok () (V2.setCell ⟨p,2,none⟩ (.float .f64 x2)):=Rr.run_store_float c0 f0
 go_upto_region 5 with fail
 clear st
 have hput:=HB1.out.set 0 2 rfl (.float .f64 x2)
 have hds:=HS1.out.but (But.set p 2 V2 (.float .f64 x2)) hBp
 simp only [List.set_cons_succ,List.set_cons_zero,List.setIfInBounds_toArray] at hput
 clear c0 f0 HB1 HS1
 generalize World.setCell V2 _ _=V3 at hput hds ⊢
 clear V2 V t
 rename World=>V
 rename St=>t
 have HB:=Lib.hid hput
 have HS:=Lib.hid hds
 have RUN0:=RUN1
 clear hput hds RUN1
 go_wp2_with fail
 have hcon:=some_d t false V HS.out
 have hstep:Sp.run (DP bs) [I x0,.float .f64 x1,.float .f64 x2,.float .f64 0,.float .f64 0,I 0,I 0] t (.flt false 3)=.ok ([I x0,.float .f64 x1,.float .f64 x2,.float .f64 ((some_ bs t false).1),.float .f64 0,I 0,I 0],(some_ bs t false).2):=rfl
 generalize hx:(some_ bs t false).1=x3 at hcon hstep
 generalize hn:(some_ bs t false).2=tn at hcon hstep
 clear hx hn
 refine hcon.mono ?_
 rintro e V2 ⟨rfl,hs,hb⟩
 have RUN1:Hid (runs (DP bs) (((([]++[.num 1 7 0])++[.flt true 1])++[.flt true 2])++[.flt false 3]) zDt s0=.ok ([I x0,.float .f64 x1,.float .f64 x2,.float .f64 x3,.float .f64 0,I 0,I 0],tn)):=Lib.hid (runs_snoc RUN0.out hstep)
 have HB1:=Lib.hid (HB.out.step hb)
 have HS1:=Lib.hid hs
 clear RUN0 hstep hcon HB HS hs hb
 have c0:V2.cell? ⟨p,3,none⟩=some (.float .f64 0):=HB1.out.cell 0 3 rfl rfl
 have f0:V2.frozen? ⟨p,3,none⟩=false:=HB1.out.frozen 0 3 rfl
 have st:Sem.run Tryz.prog (store ⟨p,3,none⟩ (.float .f64 x3)) V2=.ok () (V2.setCell ⟨p,3,none⟩ (.float .f64 x3)):=Rr.run_store_float c0 f0
 go_upto_region 6 with fail
 clear st
 have hput:=HB1.out.set 0 3 rfl (.float .f64 x3)
 have hds:=HS1.out.but (But.set p 3 V2 (.float .f64 x3)) hBp
 simp only [List.set_cons_succ,List.set_cons_zero,List.setIfInBounds_toArray] at hput
 clear c0 f0 HB1 HS1
 generalize World.setCell V2 _ _=V3 at hput hds ⊢
 clear V2 V t
 rename World=>V
 rename St=>t
 have HB:=Lib.hid hput
 have HS:=Lib.hid hds
 have RUN0:=RUN1
 clear hput hds RUN1
 go_wp2_with fail
 have hcon:=some_d t false V HS.out
 have hstep:Sp.run (DP bs) [I x0,.float .f64 x1,.float .f64 x2,.float .f64 x3,.float .f64 0,I 0,I 0] t (.flt false 4)=.ok ([I x0,.float .f64 x1,.float .f64 x2,.float .f64 x3,.float .f64 ((some_ bs t false).1),I 0,I 0],(some_ bs t false).2):=rfl
 generalize hx:(some_ bs t false).1=x4 at hcon hstep
 generalize hn:(some_ bs t false).2=tn at hcon hstep
 clear hx hn
 refine hcon.mono ?_
 rintro e V2 ⟨rfl,hs,hb⟩
 have RUN1:Hid (runs (DP bs) ((((([]++[.num 1 7 0])++[.flt true 1])++[.flt true 2])++[.flt false 3])++[.flt false 4]) zDt s0=.ok ([I x0,.float .f64 x1,.float .f64 x2,.float .f64 x3,.float .f64 x4,I 0,I 0],tn)):=Lib.hid (runs_snoc RUN0.out hstep)
 have HB1:=Lib.hid (HB.out.step hb)
 have HS1:=Lib.hid hs
 clear RUN0 hstep hcon HB HS hs hb
 have c0:V2.cell? ⟨p,4,none⟩=some (.float .f64 0):=HB1.out.cell 0 4 rfl rfl
 have f0:V2.frozen? ⟨p,4,none⟩=false:=HB1.out.frozen 0 4 rfl
 have st:Sem.run Tryz.prog (store ⟨p,4,none⟩ (.float .f64 x4)) V2=.ok () (V2.setCell ⟨p,4,none⟩ (.float .f64 x4)):=Rr.run_store_float c0 f0
 go_upto_region 7 with fail
 clear st
 have hput:=HB1.out.set 0 4 rfl (.float .f64 x4)
 have hds:=HS1.out.but (But.set p 4 V2 (.float .f64 x4)) hBp
 simp only [List.set_cons_succ,List.set_cons_zero,List.setIfInBounds_toArray] at hput
 clear c0 f0 HB1 HS1
 generalize World.setCell V2 _ _=V3 at hput hds ⊢
 clear V2 V t
 rename World=>V
 rename St=>t
 have HB:=Lib.hid hput
 have HS:=Lib.hid hds
 have RUN0:=RUN1
 clear hput hds RUN1
 go_wp2_with fail
 have hcon:=time_d t V HS.out
 have hstep:Sp.run (DP bs) [I x0,.float .f64 x1,.float .f64 x2,.float .f64 x3,.float .f64 x4,I 0,I 0] t (.num 2 9999 5)=.ok ([I x0,.float .f64 x1,.float .f64 x2,.float .f64 x3,.float .f64 x4,I ((Nm.num bs t (lim 2 7) 0 9999).1),I 0],(Nm.num bs t (lim 2 7) 0 9999).2):=rfl
 generalize hx:(Nm.num bs t (lim 2 7) 0 9999).1=x5 at hcon hstep
 generalize hn:(Nm.num bs t (lim 2 7) 0 9999).2=tn at hcon hstep
 clear hx hn
 refine hcon.mono ?_
 rintro e V2 ⟨rfl,hs,hb⟩
 have RUN1:Hid (runs (DP bs) (((((([]++[.num 1 7 0])++[.flt true 1])++[.flt true 2])++[.flt false 3])++[.flt false 4])++[.num 2 9999 5]) zDt s0=.ok ([I x0,.float .f64 x1,.float .f64 x2,.float .f64 x3,.float .f64 x4,I x5,I 0],tn)):=Lib.hid (runs_snoc RUN0.out hstep)
 have HB1:=Lib.hid (HB.out.step hb)
 have HS1:=Lib.hid hs
 clear RUN0 hstep hcon HB HS hs hb
 have c0:V2.cell? ⟨p,5,none⟩=some (I 0):=HB1.out.cell 0 5 rfl rfl
 have f0:V2.frozen? ⟨p,5,none⟩=false:=HB1.out.frozen 0 5 rfl
 go_upto_region 8 with fail
 have hput:=HB1.out.set 0 5 rfl (I x5)
 have hds:=HS1.out.but (But.set p 5 V2 (I x5)) hBp
 simp only [List.set_cons_succ,List.set_cons_zero,List.setIfInBounds_toArray] at hput
 clear c0 f0 HB1 HS1
 generalize World.setCell V2 _ _=V3 at hput hds ⊢
 clear V2 V t
 rename World=>V
 rename St=>t
 have HB:=Lib.hid hput
 have HS:=Lib.hid hds
 have RUN0:=RUN1
 clear hput hds RUN1
 go_wp2_with fail
 have hcon:=time_d t V HS.out
 have hstep:Sp.run (DP bs) [I x0,.float .f64 x1,.float .f64 x2,.float .f64 x3,.float .f64 x4,I x5,I 0] t (.num 2 9999 6)=.ok ([I x0,.float .f64 x1,.float .f64 x2,.float .f64 x3,.float .f64 x4,I x5,I ((Nm.num bs t (lim 2 7) 0 9999).1)],(Nm.num bs t (lim 2 7) 0 9999).2):=rfl
 generalize hx:(Nm.num bs t (lim 2 7) 0 9999).1=x6 at hcon hstep
 generalize hn:(Nm.num bs t (lim 2 7) 0 9999).2=tn at hcon hstep
 clear hx hn
 refine hcon.mono ?_
 rintro e V2 ⟨rfl,hs,hb⟩
 have RUN1:Hid (runs (DP bs) ((((((([]++[.num 1 7 0])++[.flt true 1])++[.flt true 2])++[.flt false 3])++[.flt false 4])++[.num 2 9999 5])++[.num 2 9999 6]) zDt s0=.ok ([I x0,.float .f64 x1,.float .f64 x2,.float .f64 x3,.float .f64 x4,I x5,I x6],tn)):=Lib.hid (runs_snoc RUN0.out hstep)
 have HB1:=Lib.hid (HB.out.step hb)
 have HS1:=Lib.hid hs
 clear RUN0 hstep hcon HB HS hs hb
 have c0:V2.cell? ⟨p,6,none⟩=some (I 0):=HB1.out.cell 0 6 rfl rfl
 have f0:V2.frozen? ⟨p,6,none⟩=false:=HB1.out.frozen 0 6 rfl
 go_upto_region 9 with fail
 have hput:=HB1.out.set 0 6 rfl (I x6)
 have hds:=HS1.out.but (But.set p 6 V2 (I x6)) hBp
 simp only [List.set_cons_succ,List.set_cons_zero,List.setIfInBounds_toArray] at hput
 clear c0 f0 HB1 HS1
 generalize World.setCell V2 _ _=V3 at hput hds ⊢
 clear V2 V t
 rename World=>V
 rename St=>t
 have HB:=Lib.hid hput
 have HS:=Lib.hid hds
 have RUN0:=RUN1
 clear hput hds RUN1
 go_wp2_with (first | (refine Row.wpList_load_g 71 _ rfl (by first | rfl | (go_simp;done) | fail) ⟨p,0,none⟩ rfl [I x0,.float .f64 x1,.float .f64 x2,.float .f64 x3,.float .f64 x4,I x5,I x6] _ (by have:=Row.lies_of_block (HB.out.at 0 rfl);simpa using this) Tryz.underlying71 rfl info_detector ?_) | (refine wpList_store_row rfl 71 _ _ rfl gz #[I x0,.float .f64 x1,.float .f64 x2,.float .f64 x3,.float .f64 x4,I x5,I x6] rfl rfl 71 _ (HB.out.at 1 rfl) info_detector rfl (by simp [Value.oneCell']) ?_))
 have hput:=HB.out.put 1 rfl #[I x0,.float .f64 x1,.float .f64 x2,.float .f64 x3,.float .f64 x4,I x5,I x6]
 have hds:=HS.out.but (But.row #[I x0,.float .f64 x1,.float .f64 x2,.float .f64 x3,.float .f64 x4,I x5,I x6] (HB.out.at 1 rfl) rfl) (by omega)
 simp only [List.set_cons_succ,List.set_cons_zero] at hput
 generalize World.setRow V gz _=V3 at hput hds ⊢
 have HB3:=Lib.hid hput
 have HS3:=Lib.hid hds
 clear hput hds
 go_wp2_with fail
 (try simp only [Exit.inBlock,Exit.then])
 refine bodyPost_ret (v:=.agg #[I x0,.float .f64 x1,.float .f64 x2,.float .f64 x3,.float .f64 x4,I x5,I x6]) ?_ rfl ⟨[I x0,.float .f64 x1,.float .f64 x2,.float .f64 x3,.float .f64 x4,I x5,I x6],t,RUN0.out,rfl,HS3.out,HB3.out.bel⟩
 exact results_cell_row rfl _ _ gz 71 _ (0,0) _ rfl (HB3.out.at 1 rfl) Tryz.underlying71 rfl info_detector
theorem info_rail:(Tryz.prog.info? 75).map (·.size)=some 11:=by kernel_rfl
theorem rail_d (s0:St) (W:World) (h:Ds B g ad cap bs s0 W):Calls Tryz.prog 64 #[ptr g] W fun e W'=>∃ l s',runs (DP bs) stR zRl s0=.ok (l,s')∧e=.returned (.agg l.toArray)∧Ds B g ad cap bs s' W'∧But g W W':=by
 have hg:g < W.heap.size:=Nat.lt_of_lt_of_le h.gl h.bl
 have hBW:=h.bl
 have h0:=((Bkg.nil hg).alloc #[I 0,I 0,I 0,I 0,I 0,I 0,I 0,I 0,I 0,I 0,I 0] 75).alloc #[I 0,I 0,I 0,I 0,I 0,I 0,I 0,I 0,I 0,I 0,I 0] 75
 rw [show (W.alloc (.cells #[I 0,I 0,I 0,I 0,I 0,I 0,I 0,I 0,I 0,I 0,I 0] 75)).heap.size=W.heap.size+1 by simp] at h0
 have hs0:=h.mem (((Below.refl W.heap.size W).alloc (Nat.le_refl _) (.cells #[I 0,I 0,I 0,I 0,I 0,I 0,I 0,I 0,I 0,I 0,I 0] 75)).alloc (by simp) (.cells #[I 0,I 0,I 0,I 0,I 0,I 0,I 0,I 0,I 0,I 0,I 0] 75))
 have RUN:Hid (runs (DP bs) [] zRl s0=.ok ([I 0,I 0,I 0,I 0,I 0,I 0,I 0,I 0,I 0,I 0,I 0],s0)):=Lib.hid rfl
 obtain ⟨t,ht⟩:∃ t,s0=t:=⟨_,rfl⟩
 rw [show Ds B g ad cap bs s0 _=Ds B g ad cap bs t _ by rw [ht]] at hs0
 have RUN0:Hid (runs (DP bs) [] zRl s0=.ok ([I 0,I 0,I 0,I 0,I 0,I 0,I 0,I 0,I 0,I 0,I 0],t)):=Lib.hid (by rw [← ht];exact RUN.out)
 clear RUN h ht
 go_enter Tryz.func64,Tryz.ntmps64
 go_upto_region 2 with fail
 generalize World.alloc (World.alloc W _) _=V at h0 hs0 ⊢
 generalize hp:W.heap.size+1=p at h0 ⊢
 generalize hz:W.heap.size=gz at h0 hg hBW ⊢
 have hBp:B≤p:=by omega
 have HS:=Lib.hid hs0
 have HB:=Lib.hid h0
 clear h0 hs0 hp hg
 go_wp2_with fail
 have hcon:=num_d t 1 255 V HS.out
 have hstep:Sp.run (DP bs) [I 0,I 0,I 0,I 0,I 0,I 0,I 0,I 0,I 0,I 0,I 0] t (.num 1 255 0)=.ok ([I ((Nm.num bs t (lim 1 7) 0 255).1),I 0,I 0,I 0,I 0,I 0,I 0,I 0,I 0,I 0,I 0],(Nm.num bs t (lim 1 7) 0 255).2):=rfl
 generalize hx:(Nm.num bs t (lim 1 7) 0 255).1=x0 at hcon hstep
 generalize hn:(Nm.num bs t (lim 1 7) 0 255).2=tn at hcon hstep
 clear hx hn
 refine hcon.mono ?_
 rintro e V2 ⟨rfl,hs,hb⟩
 have RUN1:Hid (runs (DP bs) ([]++[.num 1 255 0]) zRl s0=.ok ([I x0,I 0,I 0,I 0,I 0,I 0,I 0,I 0,I 0,I 0,I 0],tn)):=Lib.hid (runs_snoc RUN0.out hstep)
 have HB1:=Lib.hid (HB.out.step hb)
 have HS1:=Lib.hid hs
 clear RUN0 hstep hcon HB HS hs hb
 have c0:V2.cell? ⟨p,0,none⟩=some (I 0):=HB1.out.cell 0 0 rfl rfl
 have f0:V2.frozen? ⟨p,0,none⟩=false:=HB1.out.frozen 0 0 rfl
 go_upto_region 3 with fail
 have hput:=HB1.out.set 0 0 rfl (I x0)
 have hds:=HS1.out.but (But.set p 0 V2 (I x0)) hBp
 simp only [List.set_cons_succ,List.set_cons_zero,List.setIfInBounds_toArray] at hput
 clear c0 f0 HB1 HS1
 generalize World.setCell V2 _ _=V3 at hput hds ⊢
 clear V2 V t
 rename World=>V
 rename St=>t
 have HB:=Lib.hid hput
 have HS:=Lib.hid hds
 have RUN0:=RUN1
 clear hput hds RUN1
 go_wp2_with fail
 have hcon:=num_d t 1 255 V HS.out
 have hstep:Sp.run (DP bs) [I x0,I 0,I 0,I 0,I 0,I 0,I 0,I 0,I 0,I 0,I 0] t (.num 1 255 1)=.ok ([I x0,I ((Nm.num bs t (lim 1 7) 0 255).1),I 0,I 0,I 0,I 0,I 0,I 0,I 0,I 0,I 0],(Nm.num bs t (lim 1 7) 0 255).2):=rfl
 generalize hx:(Nm.num bs t (lim 1 7) 0 255).1=x1 at hcon hstep
 generalize hn:(Nm.num bs t (lim 1 7) 0 255).2=tn at hcon hstep
 clear hx hn
 refine hcon.mono ?_
 rintro e V2 ⟨rfl,hs,hb⟩
 have RUN1:Hid (runs (DP bs) (([]++[.num 1 255 0])++[.num 1 255 1]) zRl s0=.ok ([I x0,I x1,I 0,I 0,I 0,I 0,I 0,I 0,I 0,I 0,I 0],tn)):=Lib.hid (runs_snoc RUN0.out hstep)
 have HB1:=Lib.hid (HB.out.step hb)
 have HS1:=Lib.hid hs
 clear RUN0 hstep hcon HB HS hs hb
 have c0:V2.cell? ⟨p,1,none⟩=some (I 0):=HB1.out.cell 0 1 rfl rfl
 have f0:V2.frozen? ⟨p,1,none⟩=false:=HB1.out.frozen 0 1 rfl
 go_upto_region 4 with fail
 have hput:=HB1.out.set 0 1 rfl (I x1)
 have hds:=HS1.out.but (But.set p 1 V2 (I x1)) hBp
 simp only [List.set_cons_succ,List.set_cons_zero,List.setIfInBounds_toArray] at hput
 clear c0 f0 HB1 HS1
 generalize World.setCell V2 _ _=V3 at hput hds ⊢
 clear V2 V t
 rename World=>V
 rename St=>t
 have HB:=Lib.hid hput
 have HS:=Lib.hid hds
 have RUN0:=RUN1
 clear hput hds RUN1
 go_wp2_with fail
 have hcon:=num_d t 1 255 V HS.out
 have hstep:Sp.run (DP bs) [I x0,I x1,I 0,I 0,I 0,I 0,I 0,I 0,I 0,I 0,I 0] t (.num 1 255 2)=.ok ([I x0,I x1,I ((Nm.num bs t (lim 1 7) 0 255).1),I 0,I 0,I 0,I 0,I 0,I 0,I 0,I 0],(Nm.num bs t (lim 1 7) 0 255).2):=rfl
 generalize hx:(Nm.num bs t (lim 1 7) 0 255).1=x2 at hcon hstep
 generalize hn:(Nm.num bs t (lim 1 7) 0 255).2=tn at hcon hstep
 clear hx hn
 refine hcon.mono ?_
 rintro e V2 ⟨rfl,hs,hb⟩
 have RUN1:Hid (runs (DP bs) ((([]++[.num 1 255 0])++[.num 1 255 1])++[.num 1 255 2]) zRl s0=.ok ([I x0,I x1,I x2,I 0,I 0,I 0,I 0,I 0,I 0,I 0,I 0],tn)):=Lib.hid (runs_snoc RUN0.out hstep)
 have HB1:=Lib.hid (HB.out.step hb)
 have HS1:=Lib.hid hs
 clear RUN0 hstep hcon HB HS hs hb
 have c0:V2.cell? ⟨p,2,none⟩=some (I 0):=HB1.out.cell 0 2 rfl rfl
 have f0:V2.frozen? ⟨p,2,none⟩=false:=HB1.out.frozen 0 2 rfl
 go_upto_region 5 with fail
 have hput:=HB1.out.set 0 2 rfl (I x2)
 have hds:=HS1.out.but (But.set p 2 V2 (I x2)) hBp
 simp only [List.set_cons_succ,List.set_cons_zero,List.setIfInBounds_toArray] at hput
 clear c0 f0 HB1 HS1
 generalize World.setCell V2 _ _=V3 at hput hds ⊢
 clear V2 V t
 rename World=>V
 rename St=>t
 have HB:=Lib.hid hput
 have HS:=Lib.hid hds
 have RUN0:=RUN1
 clear hput hds RUN1
 go_wp2_with fail
 have hcon:=num_d t 1 255 V HS.out
 have hstep:Sp.run (DP bs) [I x0,I x1,I x2,I 0,I 0,I 0,I 0,I 0,I 0,I 0,I 0] t (.num 1 255 3)=.ok ([I x0,I x1,I x2,I ((Nm.num bs t (lim 1 7) 0 255).1),I 0,I 0,I 0,I 0,I 0,I 0,I 0],(Nm.num bs t (lim 1 7) 0 255).2):=rfl
 generalize hx:(Nm.num bs t (lim 1 7) 0 255).1=x3 at hcon hstep
 generalize hn:(Nm.num bs t (lim 1 7) 0 255).2=tn at hcon hstep
 clear hx hn
 refine hcon.mono ?_
 rintro e V2 ⟨rfl,hs,hb⟩
 have RUN1:Hid (runs (DP bs) (((([]++[.num 1 255 0])++[.num 1 255 1])++[.num 1 255 2])++[.num 1 255 3]) zRl s0=.ok ([I x0,I x1,I x2,I x3,I 0,I 0,I 0,I 0,I 0,I 0,I 0],tn)):=Lib.hid (runs_snoc RUN0.out hstep)
 have HB1:=Lib.hid (HB.out.step hb)
 have HS1:=Lib.hid hs
 clear RUN0 hstep hcon HB HS hs hb
 have c0:V2.cell? ⟨p,3,none⟩=some (I 0):=HB1.out.cell 0 3 rfl rfl
 have f0:V2.frozen? ⟨p,3,none⟩=false:=HB1.out.frozen 0 3 rfl
 go_upto_region 6 with fail
 have hput:=HB1.out.set 0 3 rfl (I x3)
 have hds:=HS1.out.but (But.set p 3 V2 (I x3)) hBp
 simp only [List.set_cons_succ,List.set_cons_zero,List.setIfInBounds_toArray] at hput
 clear c0 f0 HB1 HS1
 generalize World.setCell V2 _ _=V3 at hput hds ⊢
 clear V2 V t
 rename World=>V
 rename St=>t
 have HB:=Lib.hid hput
 have HS:=Lib.hid hds
 have RUN0:=RUN1
 clear hput hds RUN1
 go_wp2_with fail
 have hcon:=time_d t V HS.out
 have hstep:Sp.run (DP bs) [I x0,I x1,I x2,I x3,I 0,I 0,I 0,I 0,I 0,I 0,I 0] t (.num 2 9999 4)=.ok ([I x0,I x1,I x2,I x3,I ((Nm.num bs t (lim 2 7) 0 9999).1),I 0,I 0,I 0,I 0,I 0,I 0],(Nm.num bs t (lim 2 7) 0 9999).2):=rfl
 generalize hx:(Nm.num bs t (lim 2 7) 0 9999).1=x4 at hcon hstep
 generalize hn:(Nm.num bs t (lim 2 7) 0 9999).2=tn at hcon hstep
 clear hx hn
 refine hcon.mono ?_
 rintro e V2 ⟨rfl,hs,hb⟩
 have RUN1:Hid (runs (DP bs) ((((([]++[.num 1 255 0])++[.num 1 255 1])++[.num 1 255 2])++[.num 1 255 3])++[.num 2 9999 4]) zRl s0=.ok ([I x0,I x1,I x2,I x3,I x4,I 0,I 0,I 0,I 0,I 0,I 0],tn)):=Lib.hid (runs_snoc RUN0.out hstep)
 have HB1:=Lib.hid (HB.out.step hb)
 have HS1:=Lib.hid hs
 clear RUN0 hstep hcon HB HS hs hb
 have c0:V2.cell? ⟨p,4,none⟩=some (I 0):=HB1.out.cell 0 4 rfl rfl
 have f0:V2.frozen? ⟨p,4,none⟩=false:=HB1.out.frozen 0 4 rfl
 go_upto_region 7 with fail
 have hput:=HB1.out.set 0 4 rfl (I x4)
 have hds:=HS1.out.but (But.set p 4 V2 (I x4)) hBp
 simp only [List.set_cons_succ,List.set_cons_zero,List.setIfInBounds_toArray] at hput
 clear c0 f0 HB1 HS1
 generalize World.setCell V2 _ _=V3 at hput hds ⊢
 clear V2 V t
 rename World=>V
 rename St=>t
 have HB:=Lib.hid hput
 have HS:=Lib.hid hds
 have RUN0:=RUN1
 clear hput hds RUN1
 go_wp2_with fail
 have hcon:=time_d t V HS.out
 have hstep:Sp.run (DP bs) [I x0,I x1,I x2,I x3,I x4,I 0,I 0,I 0,I 0,I 0,I 0] t (.num 2 9999 5)=.ok ([I x0,I x1,I x2,I x3,I x4,I ((Nm.num bs t (lim 2 7) 0 9999).1),I 0,I 0,I 0,I 0,I 0],(Nm.num bs t (lim 2 7) 0 9999).2):=rfl
 generalize hx:(Nm.num bs t (lim 2 7) 0 9999).1=x5 at hcon hstep
 generalize hn:(Nm.num bs t (lim 2 7) 0 9999).2=tn at hcon hstep
 clear hx hn
 refine hcon.mono ?_
 rintro e V2 ⟨rfl,hs,hb⟩
 have RUN1:Hid (runs (DP bs) (((((([]++[.num 1 255 0])++[.num 1 255 1])++[.num 1 255 2])++[.num 1 255 3])++[.num 2 9999 4])++[.num 2 9999 5]) zRl s0=.ok ([I x0,I x1,I x2,I x3,I x4,I x5,I 0,I 0,I 0,I 0,I 0],tn)):=Lib.hid (runs_snoc RUN0.out hstep)
 have HB1:=Lib.hid (HB.out.step hb)
 have HS1:=Lib.hid hs
 clear RUN0 hstep hcon HB HS hs hb
 have c0:V2.cell? ⟨p,5,none⟩=some (I 0):=HB1.out.cell 0 5 rfl rfl
 have f0:V2.frozen? ⟨p,5,none⟩=false:=HB1.out.frozen 0 5 rfl
 go_upto_region 8 with fail
 have hput:=HB1.out.set 0 5 rfl (I x5)
 have hds:=HS1.out.but (But.set p 5 V2 (I x5)) hBp
 simp only [List.set_cons_succ,List.set_cons_zero,List.setIfInBounds_toArray] at hput
 clear c0 f0 HB1 HS1
 generalize World.setCell V2 _ _=V3 at hput hds ⊢
 clear V2 V t
 rename World=>V
 rename St=>t
 have HB:=Lib.hid hput
 have HS:=Lib.hid hds
 have RUN0:=RUN1
 clear hput hds RUN1
 go_wp2_with fail
 have hcon:=time_d t V HS.out
 have hstep:Sp.run (DP bs) [I x0,I x1,I x2,I x3,I x4,I x5,I 0,I 0,I 0,I 0,I 0] t (.num 2 9999 6)=.ok ([I x0,I x1,I x2,I x3,I x4,I x5,I ((Nm.num bs t (lim 2 7) 0 9999).1),I 0,I 0,I 0,I 0],(Nm.num bs t (lim 2 7) 0 9999).2):=rfl
 generalize hx:(Nm.num bs t (lim 2 7) 0 9999).1=x6 at hcon hstep
 generalize hn:(Nm.num bs t (lim 2 7) 0 9999).2=tn at hcon hstep
 clear hx hn
 refine hcon.mono ?_
 rintro e V2 ⟨rfl,hs,hb⟩
 have RUN1:Hid (runs (DP bs) ((((((([]++[.num 1 255 0])++[.num 1 255 1])++[.num 1 255 2])++[.num 1 255 3])++[.num 2 9999 4])++[.num 2 9999 5])++[.num 2 9999 6]) zRl s0=.ok ([I x0,I x1,I x2,I x3,I x4,I x5,I x6,I 0,I 0,I 0,I 0],tn)):=Lib.hid (runs_snoc RUN0.out hstep)
 have HB1:=Lib.hid (HB.out.step hb)
 have HS1:=Lib.hid hs
 clear RUN0 hstep hcon HB HS hs hb
 have c0:V2.cell? ⟨p,6,none⟩=some (I 0):=HB1.out.cell 0 6 rfl rfl
 have f0:V2.frozen? ⟨p,6,none⟩=false:=HB1.out.frozen 0 6 rfl
 go_upto_region 9 with fail
 have hput:=HB1.out.set 0 6 rfl (I x6)
 have hds:=HS1.out.but (But.set p 6 V2 (I x6)) hBp
 simp only [List.set_cons_succ,List.set_cons_zero,List.setIfInBounds_toArray] at hput
 clear c0 f0 HB1 HS1
 generalize World.setCell V2 _ _=V3 at hput hds ⊢
 clear V2 V t
 rename World=>V
 rename St=>t
 have HB:=Lib.hid hput
 have HS:=Lib.hid hds
 have RUN0:=RUN1
 clear hput hds RUN1
 go_wp2_with fail
 have hcon:=time_d t V HS.out
 have hstep:Sp.run (DP bs) [I x0,I x1,I x2,I x3,I x4,I x5,I x6,I 0,I 0,I 0,I 0] t (.num 2 9999 7)=.ok ([I x0,I x1,I x2,I x3,I x4,I x5,I x6,I ((Nm.num bs t (lim 2 7) 0 9999).1),I 0,I 0,I 0],(Nm.num bs t (lim 2 7) 0 9999).2):=rfl
 generalize hx:(Nm.num bs t (lim 2 7) 0 9999).1=x7 at hcon hstep
 generalize hn:(Nm.num bs t (lim 2 7) 0 9999).2=tn at hcon hstep
 clear hx hn
 refine hcon.mono ?_
 rintro e V2 ⟨rfl,hs,hb⟩
 have RUN1:Hid (runs (DP bs) (((((((([]++[.num 1 255 0])++[.num 1 255 1])++[.num 1 255 2])++[.num 1 255 3])++[.num 2 9999 4])++[.num 2 9999 5])++[.num 2 9999 6])++[.num 2 9999 7]) zRl s0=.ok ([I x0,I x1,I x2,I x3,I x4,I x5,I x6,I x7,I 0,I 0,I 0],tn)):=Lib.hid (runs_snoc RUN0.out hstep)
 have HB1:=Lib.hid (HB.out.step hb)
 have HS1:=Lib.hid hs
 clear RUN0 hstep hcon HB HS hs hb
 have c0:V2.cell? ⟨p,7,none⟩=some (I 0):=HB1.out.cell 0 7 rfl rfl
 have f0:V2.frozen? ⟨p,7,none⟩=false:=HB1.out.frozen 0 7 rfl
 go_upto_region 10 with fail
 have hput:=HB1.out.set 0 7 rfl (I x7)
 have hds:=HS1.out.but (But.set p 7 V2 (I x7)) hBp
 simp only [List.set_cons_succ,List.set_cons_zero,List.setIfInBounds_toArray] at hput
 clear c0 f0 HB1 HS1
 generalize World.setCell V2 _ _=V3 at hput hds ⊢
 clear V2 V t
 rename World=>V
 rename St=>t
 have HB:=Lib.hid hput
 have HS:=Lib.hid hds
 have RUN0:=RUN1
 clear hput hds RUN1
 go_wp2_with fail
 have hcon:=time_d t V HS.out
 have hstep:Sp.run (DP bs) [I x0,I x1,I x2,I x3,I x4,I x5,I x6,I x7,I 0,I 0,I 0] t (.num 2 9999 8)=.ok ([I x0,I x1,I x2,I x3,I x4,I x5,I x6,I x7,I ((Nm.num bs t (lim 2 7) 0 9999).1),I 0,I 0],(Nm.num bs t (lim 2 7) 0 9999).2):=rfl
 generalize hx:(Nm.num bs t (lim 2 7) 0 9999).1=x8 at hcon hstep
 generalize hn:(Nm.num bs t (lim 2 7) 0 9999).2=tn at hcon hstep
 clear hx hn
 refine hcon.mono ?_
 rintro e V2 ⟨rfl,hs,hb⟩
 have RUN1:Hid (runs (DP bs) ((((((((([]++[.num 1 255 0])++[.num 1 255 1])++[.num 1 255 2])++[.num 1 255 3])++[.num 2 9999 4])++[.num 2 9999 5])++[.num 2 9999 6])++[.num 2 9999 7])++[.num 2 9999 8]) zRl s0=.ok ([I x0,I x1,I x2,I x3,I x4,I x5,I x6,I x7,I x8,I 0,I 0],tn)):=Lib.hid (runs_snoc RUN0.out hstep)
 have HB1:=Lib.hid (HB.out.step hb)
 have HS1:=Lib.hid hs
 clear RUN0 hstep hcon HB HS hs hb
 have c0:V2.cell? ⟨p,8,none⟩=some (I 0):=HB1.out.cell 0 8 rfl rfl
 have f0:V2.frozen? ⟨p,8,none⟩=false:=HB1.out.frozen 0 8 rfl
 go_upto_region 11 with fail
 have hput:=HB1.out.set 0 8 rfl (I x8)
 have hds:=HS1.out.but (But.set p 8 V2 (I x8)) hBp
 simp only [List.set_cons_succ,List.set_cons_zero,List.setIfInBounds_toArray] at hput
 clear c0 f0 HB1 HS1
 generalize World.setCell V2 _ _=V3 at hput hds ⊢
 clear V2 V t
 rename World=>V
 rename St=>t
 have HB:=Lib.hid hput
 have HS:=Lib.hid hds
 have RUN0:=RUN1
 clear hput hds RUN1
 go_wp2_with fail
 have hcon:=time_d t V HS.out
 have hstep:Sp.run (DP bs) [I x0,I x1,I x2,I x3,I x4,I x5,I x6,I x7,I x8,I 0,I 0] t (.num 2 9999 9)=.ok ([I x0,I x1,I x2,I x3,I x4,I x5,I x6,I x7,I x8,I ((Nm.num bs t (lim 2 7) 0 9999).1),I 0],(Nm.num bs t (lim 2 7) 0 9999).2):=rfl
 generalize hx:(Nm.num bs t (lim 2 7) 0 9999).1=x9 at hcon hstep
 generalize hn:(Nm.num bs t (lim 2 7) 0 9999).2=tn at hcon hstep
 clear hx hn
 refine hcon.mono ?_
 rintro e V2 ⟨rfl,hs,hb⟩
 have RUN1:Hid (runs (DP bs) (((((((((([]++[.num 1 255 0])++[.num 1 255 1])++[.num 1 255 2])++[.num 1 255 3])++[.num 2 9999 4])++[.num 2 9999 5])++[.num 2 9999 6])++[.num 2 9999 7])++[.num 2 9999 8])++[.num 2 9999 9]) zRl s0=.ok ([I x0,I x1,I x2,I x3,I x4,I x5,I x6,I x7,I x8,I x9,I 0],tn)):=Lib.hid (runs_snoc RUN0.out hstep)
 have HB1:=Lib.hid (HB.out.step hb)
 have HS1:=Lib.hid hs
 clear RUN0 hstep hcon HB HS hs hb
 have c0:V2.cell? ⟨p,9,none⟩=some (I 0):=HB1.out.cell 0 9 rfl rfl
 have f0:V2.frozen? ⟨p,9,none⟩=false:=HB1.out.frozen 0 9 rfl
 go_upto_region 12 with fail
 have hput:=HB1.out.set 0 9 rfl (I x9)
 have hds:=HS1.out.but (But.set p 9 V2 (I x9)) hBp
 simp only [List.set_cons_succ,List.set_cons_zero,List.setIfInBounds_toArray] at hput
 clear c0 f0 HB1 HS1
 generalize World.setCell V2 _ _=V3 at hput hds ⊢
 clear V2 V t
 rename World=>V
 rename St=>t
 have HB:=Lib.hid hput
 have HS:=Lib.hid hds
 have RUN0:=RUN1
 clear hput hds RUN1
 go_wp2_with fail
 have hcon:=num_d t 4 2147483647 V HS.out
 have hstep:Sp.run (DP bs) [I x0,I x1,I x2,I x3,I x4,I x5,I x6,I x7,I x8,I x9,I 0] t (.num 4 2147483647 10)=.ok ([I x0,I x1,I x2,I x3,I x4,I x5,I x6,I x7,I x8,I x9,I ((Nm.num bs t (lim 4 7) 0 2147483647).1)],(Nm.num bs t (lim 4 7) 0 2147483647).2):=rfl
 generalize hx:(Nm.num bs t (lim 4 7) 0 2147483647).1=x10 at hcon hstep
 generalize hn:(Nm.num bs t (lim 4 7) 0 2147483647).2=tn at hcon hstep
 clear hx hn
 refine hcon.mono ?_
 rintro e V2 ⟨rfl,hs,hb⟩
 have RUN1:Hid (runs (DP bs) ((((((((((([]++[.num 1 255 0])++[.num 1 255 1])++[.num 1 255 2])++[.num 1 255 3])++[.num 2 9999 4])++[.num 2 9999 5])++[.num 2 9999 6])++[.num 2 9999 7])++[.num 2 9999 8])++[.num 2 9999 9])++[.num 4 2147483647 10]) zRl s0=.ok ([I x0,I x1,I x2,I x3,I x4,I x5,I x6,I x7,I x8,I x9,I x10],tn)):=Lib.hid (runs_snoc RUN0.out hstep)
 have HB1:=Lib.hid (HB.out.step hb)
 have HS1:=Lib.hid hs
 clear RUN0 hstep hcon HB HS hs hb
 have c0:V2.cell? ⟨p,10,none⟩=some (I 0):=HB1.out.cell 0 10 rfl rfl
 have f0:V2.frozen? ⟨p,10,none⟩=false:=HB1.out.frozen 0 10 rfl
 go_upto_region 13 with fail
 have hput:=HB1.out.set 0 10 rfl (I x10)
 have hds:=HS1.out.but (But.set p 10 V2 (I x10)) hBp
 simp only [List.set_cons_succ,List.set_cons_zero,List.setIfInBounds_toArray] at hput
 clear c0 f0 HB1 HS1
 generalize World.setCell V2 _ _=V3 at hput hds ⊢
 clear V2 V t
 rename World=>V
 rename St=>t
 have HB:=Lib.hid hput
 have HS:=Lib.hid hds
 have RUN0:=RUN1
 clear hput hds RUN1
 go_wp2_with (first | (refine Row.wpList_load_g 75 _ rfl (by first | rfl | (go_simp;done) | fail) ⟨p,0,none⟩ rfl [I x0,I x1,I x2,I x3,I x4,I x5,I x6,I x7,I x8,I x9,I x10] _ (by have:=Row.lies_of_block (HB.out.at 0 rfl);simpa using this) Tryz.underlying75 rfl info_rail ?_) | (refine wpList_store_row rfl 75 _ _ rfl gz #[I x0,I x1,I x2,I x3,I x4,I x5,I x6,I x7,I x8,I x9,I x10] rfl rfl 75 _ (HB.out.at 1 rfl) info_rail rfl (by simp [Value.oneCell']) ?_))
 have hput:=HB.out.put 1 rfl #[I x0,I x1,I x2,I x3,I x4,I x5,I x6,I x7,I x8,I x9,I x10]
 have hds:=HS.out.but (But.row #[I x0,I x1,I x2,I x3,I x4,I x5,I x6,I x7,I x8,I x9,I x10] (HB.out.at 1 rfl) rfl) (by omega)
 simp only [List.set_cons_succ,List.set_cons_zero] at hput
 generalize World.setRow V gz _=V3 at hput hds ⊢
 have HB3:=Lib.hid hput
 have HS3:=Lib.hid hds
 clear hput hds
 go_wp2_with fail
 (try simp only [Exit.inBlock,Exit.then])
 refine bodyPost_ret (v:=.agg #[I x0,I x1,I x2,I x3,I x4,I x5,I x6,I x7,I x8,I x9,I x10]) ?_ rfl ⟨[I x0,I x1,I x2,I x3,I x4,I x5,I x6,I x7,I x8,I x9,I x10],t,RUN0.out,rfl,HS3.out,HB3.out.bel⟩
 exact results_cell_row rfl _ _ gz 75 _ (0,0) _ rfl (HB3.out.at 1 rfl) Tryz.underlying75 rfl info_rail
end
end Dp
namespace SetM
def low (s:Int):Nat:=(s % 256).toNat
def bit (p:Int):Nat:=if 0≤p∧p < 8 then 2 ^ p.toNat else 0
def upto (s:Int) (k:Nat):List Int:=((List.range k).filter fun j=>(low s).testBit j).map Int.ofNat
def list (s:Int):List Int:=upto s 8
def of (l:List Int):Nat:=l.foldl (fun m p=>m ||| bit p) 0
end SetM
end Go.Proofs.YtjdeemmaaiecnaaGreat
