/- 30 texts in one file, in build order. -/
import Derived.Test.YtonpphjleapafaaGreatPart01
import Derived.Test.YtonpphjleapafaaGreatRows
import Derived.WalkKit
import Derived.WalkLawsBesides
import Derived.ProofKit
import Derived.IntWalk
import Derived.Lib.Hide
import Derived.LoopTactic
import Derived.Below
import Derived.BigQuiet
import Derived.Deep.QuietTactic
import Derived.Deep.WholeRow
import Derived.Laws.BitsAllLaws
import Derived.Lib.SlBytesConst
import Derived.OpenShut
import Derived.Deep.Cut
import Derived.Deep.RegionHeld3
import Derived.Defers
import Derived.Recover
import Derived.Laws.Pointers
import Derived.Laws.StructEq
import Derived.Orders
import Derived.ChangeArms
import Derived.DeepKeys
import Derived.OwnWalk
import Derived.Laws.CopyOwn
import Derived.StillTailTactics
set_option linter.unusedVariables false
set_option linter.unusedSimpArgs false
set_option linter.unusedSectionVars false
set_option maxHeartbeats 8000000
set_option maxRecDepth 100000
open Array renaming getElem?_eq_some_iff→k3, getElem?_setIfInBounds→kl, getElem?_eq_none→kX, length_toList→K7, ext_getElem?→Kx, getElem?_eq_getElem→KC, getElem?_toList→KP, replicate→qg
open Go.RowKit.Below renaming refl→k4, alloc→kw, heap_alloc→Kj, heap_setCell→q3
open Nat renaming le_refl→k5, le_trans→k8, zero_add→kp, lt_of_lt_of_le→ku, min_eq_left→kF, mod_two_eq_zero_or_one→kK, eq_zero_or_pos→kM, add_mul→kR, zero_le→kW, sub_self→Kv, one_mul→KE, mul_comm→KI, min_self→KM, pow_le_pow_right→KT, mod_one→KV, testBit_two_pow→KX, mod_lt→q0, zero_mul→q6, mul_one→qc, add_zero→qq, pow_succ→qr, add_comm→qs
open List renaming replicate→k6, length_append→k7, getElem?_eq_getElem→kd, take_of_length_le→ke, getElem?_eq_some_iff→kg, getElem?_cons_zero→kj, length_map→kk, length_flatten→km, take_append_drop→ko, mem_of_getElem?→kq, setIfInBounds_toArray→kt, flatten_append→kv, drop_eq_getElem_cons→kz, eq_nil_of_length_eq_zero→kB, length→kC, flatten_cons→kE, sum_replicate_nat→kH, drop_of_length_le→kI, getElem?_append_right→kL, getElem?_toArray→kN, length_replicate→kO, length_nil→kP, size_toArray→kQ, mem_of_mem_take→kS, append_assoc→kT, eq_of_mem_replicate→kU, drop_zero→kV, flatten_singleton→kY, append_nil→kZ, eq_replicate_iff→K0, singleton_append→K1, getD_eq_getElem?_getD→K2, length_cons→K3, length_take→K4, flatten_nil→K5, map_append→Kc, flatMap_cons→Kf, take_add_one→Kg, set_append_right→Kh, take_length→Kn, drop_left'→Kp, drop_succ_cons→Kq, replicate_succ→Kr, mem_map→Ku, range→Kw, set_cons_zero→Ky, set_cons_succ→Kz, map_replicate→KA, getElem?_map→KD, getElem?_replicate→KG, foldl_cons→KN, take_left'→KO, getElem?_eq_none→KQ, take_zero→KS, take_succ_cons→KY, ext_getElem?→q7, getElem?_set→q8, getElem_mem→qb, mem_append→qf, nil_append→qh, append_inj→qj, drop_drop→ql
open Bool renaming and_false→k9, false_and→ka, true_and→kb, and_true→kf, and_eq_true→Ki
open Go.World renaming block_lt_of_cell?→kh, cell?_setCell_other→ki, alloc→kr, cell?_setCell_same→K8, shape?→KJ, setCell→qn, frozen?→qo, drewN→qu
open Go.Instr renaming makeFunc→kx, panic→kJ, typeAssert→Kl
open Go.Result renaming andThen_ok→ky, andThen→KU
open Go.FloatKind renaming f64→kA, decode→q9, encode→qa
open Int renaming toNat_natCast→kD, natCast_add→qi
open Go.Sem renaming run_bind→kG, run_pure→Kt
open Go.Region.linearise renaming go→K6
open Go.Ending renaming returned→K9
open Option.some renaming inj→Ka, injEq→Ke
open Go.Region renaming schedule→Kb, linearise→Km, binds→KL, wanted→qp
open Go.IntKind renaming u16→Kd, wrap_i64→Kk, i64→KR, u64→qd
open List.range renaming loop→Ko
open Go.Extern.MathFloor renaming toIntegral→Ks
open Go.Addr renaming add_mid→KH
open Option renaming map_eq_some_iff→KK
open Ieee.Datum renaming integral→KW
open Go.Extern.MathFloor.toIntegral renaming match_1→KZ
open Go.Op renaming equalIn→q4, eqFields→qe, eqItems→qm
open Go.Extern.MathFloatBits renaming float64bits→q5
open Go.Oper renaming quietAt→qt, wp→qw
open Go.Act renaming put→qv
open Go renaming heap_alloc_new→qx, cell_of_row→qy, setCell_eq_setRow→qz, setRow_heap→qA, setRow_other→qB, frozen_of_row→qC, leaves_cons→qD, wp_loop_rounds→qE, rounds_succ→qF, wpList_load_row→qG, wpQuiet_nil→qH, callsD_of_wpS→qI, run_float_arith→qJ, zero_of_info→qK, run_convert_float_int→qL, run_underlying→qM, run_callFunc_extern→qN, info_of_underlying→qO, wpList_plain→qP, results_cell_row→qQ, wpList_store_row→qR, run_loadVar_row→qS, bodyPost_ret→qT, wpQuiet_step→qU
namespace Go.Proofs.YtonpphjleapafaaGreat
namespace Secs
open Zip
open Go.ChangeShapes Go.WideShapes Go.ChangeAt Go.RowKit Go.Proofs.Fl
def cap (n:Int):Int:=if n < 0 then 0 else if 2147483647 < n then 2147483647 else n
theorem j4b {n:Int} (h:n < 0):cap n=0:=by unfold cap;rw [if_pos h]
theorem j61 {n:Int} (h:2147483647 < n):cap n=2147483647:=by unfold cap;rw [if_neg (by omega),if_pos h]
theorem j62 {n:Int} (h:0<=n) (h':n<=2147483647):cap n=n:=by unfold cap;rw [if_neg (by omega),if_neg (by omega)]
theorem jn {k:IntKind} {a b:Int} (h:a=b):K9 (.int k a)=.returned (.int k b):=by rw [h]
theorem j2T {a b:Int} (h:a=b):K9 (.tuple #[.int .i64 a,.bool true])=.returned (.tuple #[.int .i64 b,.bool true]):=by rw [h]
theorem j3 {a b:Bool} (h:a=b):K9 (.bool a)=.returned (.bool b):=by rw [h]
theorem j2c {k:FloatKind} {a b:Nat} (h:a=b):K9 (.float k a)=.returned (.float k b):=by rw [h]
theorem j04 (n:Int) (w:World):Calls Tryz.prog 134 #[.int .i64 n] w fun e w'=>e=.returned (.int .i64 (cap n))/\w=w':=by
 by_cases h1:n < 0
 ·go_enter Tryz.func134,Tryz.ntmps134
  go_wp2;go_ret;exact ⟨jn (j4b h1).symm,rfl⟩
 by_cases h2:2147483647 < n
 ·go_enter Tryz.func134,Tryz.ntmps134
  go_wp2;go_ret;exact ⟨jn (j61 h2).symm,rfl⟩
 go_enter Tryz.func134,Tryz.ntmps134
 go_wp2;go_ret;exact ⟨jn (j62 (by omega) (by omega)).symm,rfl⟩
theorem j63 (n:Int) (w:World):Calls Tryz.prog 133 #[.int .i64 n] w fun e w'=>e=.returned (.int .i64 (cap n))/\w=w':=by
 go_enter Tryz.func133,Tryz.ntmps133
 go_wp2_with (go_at_call 134;refine (j04 _ _).mono ?_;rintro e w' ⟨rfl,rfl⟩)
 go_ret;exact ⟨rfl,rfl⟩
theorem j9e (x:Nat):(kA.format.order x x != some .eq)=isn x:=by
 show (D.order x x != some .eq)=isn x;cases h:isn x
 ·have:=o_eq h h;rw [bne,this];simp
 rw [order_nan x x (.inl h)];rfl
theorem j5t (x:Nat) (w:World):Calls Tryz.prog 129 #[.float .f64 x] w fun e w'=>e=.returned (.bool (isn x))/\w=w':=by
 go_enter Tryz.func129,Tryz.ntmps129
 go_wp2;go_ret;exact ⟨j3 (j9e x),rfl⟩
def cut (n:Int):Nat:=(if n < 0 then 0 else if 9999 < n then 9999 else n).toNat
def Quo:Prop:=∀ k:Nat,k<=9999->D.div (floatOfInt .f64 (k:Int)) ten=some (ofB k)
theorem j2d:Quo:=by
 intro k hk;have hf:=float_of k (by omega);have hi:=irung_lt k (by omega);obtain ⟨m,i,P,rx,-,-,-⟩:=read_fin (irung k) (by unfold fin rung;omega)
 have:∃ s,D.div (floatOfInt .f64 (k:Int)) ten=some s:=by
  rw [hf];unfold Ieee.Format.div;rw [rx,show D.read ten=.number false 5629499534213120 (-49) by decide];unfold Ieee.Datum.quotient;dsimp only;rw [if_neg (by decide)];exact ⟨_,rfl⟩
 obtain ⟨s,hs⟩:=this;unfold ofB;rw [hs];rfl
theorem j7R (hQ:Quo) (k:Int) (hk0:0<=k) (hk:k<=9999):∀ t w,(binOp .quo t (.float .f64 (floatOfInt .f64 k)) (.float .f64 4621819117588971520)).run Tryz.prog w=.ok (.float .f64 (ofB k.toNat)) w:=by
 intro t w;obtain ⟨n,rfl⟩:=Int.eq_ofNat_of_zero_le hk0;exact qJ w .quo t .f64 _ _ _ (hQ n (by omega))
theorem j64 (hQ:Quo) (n:Int) (w:World):Calls Tryz.prog 132 #[.int .i64 n] w fun e w'=>e=.returned (.float .f64 (ofB (cut n)))/\w=w':=by
 have hop:=j7R hQ;clear hQ;by_cases h1:n < 0
 ·have HC:=hJJ (show cut n=0 by unfold cut;rw [if_pos h1];rfl);have hq:=hop 0 (by omega) (by omega);have hcap:=j4b h1;clear hop;go_enter Tryz.func132,Tryz.ntmps132
  go_wp2_with (first | (go_at_call 133;refine (j63 _ _).mono ?_;rintro e w' ⟨rfl,rfl⟩) | simp only [hq])
  go_ret;exact ⟨j2c (by rw [HC.out]),rfl⟩
 by_cases h2:9999 < n
 ·have HC:=hJJ (show cut n=9999 by unfold cut;rw [if_neg h1,if_pos h2];rfl);have hq:=hop 9999 (by omega) (by omega);have hcap:9999 < cap n:=by unfold cap;rw [if_neg h1];split <;> omega
  clear hop;go_enter Tryz.func132,Tryz.ntmps132
  go_wp2_with (first | (go_at_call 133;refine (j63 _ _).mono ?_;rintro e w' ⟨rfl,rfl⟩) | simp only [hq])
  go_ret;exact ⟨j2c (by rw [HC.out]),rfl⟩
 have HC:=hJJ (show cut n=n.toNat by unfold cut;rw [if_neg h1,if_neg h2]);have hq:=hop n (by omega) (by omega);have hcap:=j62 (n:=n) (by omega) (by omega);clear hop;go_enter Tryz.func132,Tryz.ntmps132
 go_wp2_with (first | (go_at_call 133;refine (j63 _ _).mono ?_;rintro e w' ⟨rfl,rfl⟩) | simp only [hq])
 go_ret;exact ⟨j2c (by rw [HC.out]),rfl⟩
theorem jdR:ofB (cut 9999)=4652006429231887155:=by decide +kernel
theorem j3F (hQ:Quo) (w:World):Calls Tryz.prog 130 #[] w fun e w'=>e=.returned (.float .f64 4652006429231887155)/\w=w':=by
 have HQ:=hJJ hQ;clear hQ;go_enter Tryz.func130,Tryz.ntmps130
 go_wp2_with (go_at_call 132;refine (j64 HQ.out _ _).mono ?_;rintro e w' ⟨rfl,rfl⟩)
 go_ret;exact ⟨j2c jdR,rfl⟩
theorem j9f {s:Nat} (h:ok s=true) (w:World):(callFunc 131 #[.float .f64 (xw s)]).run Tryz.prog w=.ok (.value (.float .f64 (rw' s))) w:=by
 rw [qN (e:=Ks "math.RoundToEven" .even) Tryz.func131 (by kernel_rfl) (by kernel_rfl) (by kernel_rfl) (by kernel_rfl)];have hr:=round_ok h;obtain ⟨m,i,P,rx,-,-,-⟩:=read_fin (xw s) (xw_fin h);have e:q9 .f64 (xw s)=.number (sg (xw s)) m i:=rx;have e2:qa .f64 (KW .even (.number (sg (xw s)) m i))=rw' s:=by rw [<-hr,<-rx];rfl
 have key:Ks "math.RoundToEven" .even #[.float .f64 (xw s)]=pure (.float .f64 (rw' s)):=by
  show KZ (fun _=>Sem Value) (q9 .f64 (xw s)) _ _=_;rw [e];show pure (Value.float .f64 (qa .f64 (KW .even (.number (sg (xw s)) m i))))=_;rw [e2]
 rw [key];rfl
theorem j1e (x:Nat) (w:World):(callFunc 68 #[.float .f64 x]).run Tryz.prog w=.ok (.value (.int .u64 x)) w:=by
 rw [qN (e:=q5) Tryz.func68 (by kernel_rfl) (by kernel_rfl) (by kernel_rfl) (by kernel_rfl)];rfl
theorem Jf (x y:Nat) (hx:isn x=false) (hy:isn y=false) :
  (key x < key y/\kA.format.order x y=some .lt)\/(key x=key y/\kA.format.order x y=some .eq)\/(key y < key x/\kA.format.order x y=some .gt):=by
 have h:kA.format.order x y=some (compare (key x) (key y)):=order_key x y hx hy;rw [h,Int.compare_eq_ite_lt];rcases Int.lt_trichotomy (key x) (key y) with hl | hl | hl
 ·exact .inl ⟨hl,by rw [if_pos hl]⟩
 ·exact .inr (.inl ⟨hl,by rw [if_neg (by omega),if_neg (by omega)]⟩)
 exact .inr (.inr ⟨hl,by rw [if_neg (by omega),if_pos hl]⟩)
theorem j2e (x y:Nat) (h:isn x=true\/isn y=true):kA.format.order x y=none:=order_nan x y h
theorem j9g:key 0=0:=by decide
theorem jcd:key 4652006429231887155=4652006429231887155:=by decide
theorem j9h:isn 0=false:=by decide
theorem jce:isn 4652006429231887155=false:=by decide
theorem jcf {x:Nat} (h:isn x=true) (w:World):Calls Tryz.prog 129 #[.float .f64 x] w fun e w'=>e=.returned (.bool true)/\w=w' :=
 (j5t x w).mono fun _ _ ⟨a,b⟩=>⟨by rw [a,h],b⟩
theorem j65 {x:Nat} (h:isn x=false) (w:World):Calls Tryz.prog 129 #[.float .f64 x] w fun e w'=>e=.returned (.bool false)/\w=w' :=
 (j5t x w).mono fun _ _ ⟨a,b⟩=>⟨by rw [a,h],b⟩
theorem jaq (hQ:Quo) {s:Nat} (h:ok s=false) (w:World):Calls Tryz.prog 120 #[.float .f64 s] w fun e w'=>e=.returned (.tuple #[.int .i64 0,.bool false])/\w=w':=by
 have HQ:=hJJ hQ;clear hQ;cases hn:isn s
 ·have h0:=Jf s 0 hn j9h;have hT:=Jf s 4652006429231887155 hn jce;rw [j9g] at h0;rw [jcd] at hT
  have hk:key s < 0\/0<=key s/\4652006429231887155 < key s:=by
   have:¬ ok s=true:=by rw [h];simp
   rw [ok_iff] at this;by_cases a:key s < 0
   ·exact .inl a
   by_cases b:4652006429231887155 < key s
   ·exact .inr ⟨by omega,b⟩
   exact absurd ⟨hn,by omega,by omega⟩ this
  have HN:=hJJ hn;clear hn h;rcases hk with hk | ⟨hk0,hk⟩
  ·have ho:kA.format.order s 0=some .lt:=by rcases h0 with ⟨a,b⟩ | ⟨a,b⟩ | ⟨a,b⟩ <;> first | exact b | omega
   clear h0 hT;go_enter Tryz.func120,Tryz.ntmps120
   go_wp2_with (go_at_call 129;refine (j65 HN.out _).mono ?_;rintro e w' ⟨rfl,rfl⟩)
   go_ret2
   exact ⟨rfl,rfl⟩
  have ho2:kA.format.order s 4652006429231887155=some .gt:=by rcases hT with ⟨a,b⟩ | ⟨a,b⟩ | ⟨a,b⟩ <;> first | exact b | omega
  clear hT;rcases h0 with ⟨a,ho⟩ | ⟨a,ho⟩ | ⟨a,ho⟩
  ·omega
  all_goals
   clear a;go_enter Tryz.func120,Tryz.ntmps120
   go_wp2_with (first | (go_at_call 129;refine (j65 HN.out _).mono ?_;rintro e w' ⟨rfl,rfl⟩) | (go_at_call 130;refine (j3F HQ.out _).mono ?_;rintro e w' ⟨rfl,rfl⟩))
   go_ret2
   exact ⟨rfl,rfl⟩
 have HN:=hJJ hn;clear hn h;go_enter Tryz.func120,Tryz.ntmps120
 go_wp2_with (go_at_call 129;refine (jcf HN.out _).mono ?_;rintro e w' ⟨rfl,rfl⟩)
 go_ret2
 exact ⟨rfl,rfl⟩
theorem j9i (hQ:Quo) {s:Nat} (h:ok s=true) (w:World):Calls Tryz.prog 120 #[.float .f64 s] w fun e w'=>e=.returned (.tuple #[.int .i64 (tk s),.bool true])/\w=w':=by
 have HQ:=hJJ hQ;clear hQ;obtain ⟨hn,hlo,hhi⟩:=(ok_iff s).1 h;have h0:=Jf s 0 hn j9h;have hT:=Jf s 4652006429231887155 hn jce;rw [j9g] at h0;rw [jcd] at hT;have HN:=hJJ hn;have hm:∀ t w,(binOp .mul t (.float .f64 4621819117588971520) (.float .f64 s)).run Tryz.prog w=.ok (.float .f64 (xw s)) w:=fun t w=>qJ w .mul t .f64 _ _ _ (mul_ok h).1;have he:=j9f h;have hc:∀ w,(convert 69 3 (.float .f64 (rw' s))).run Tryz.prog w=.ok (.int .i64 (tk s)) w:=fun w=>qL w 69 3 .f64 .i64 _ _ (by rw [Tryz.underlying69];rfl) Tryz.underlying3 (int_ok h);clear hn h;rcases h0 with ⟨a,ho⟩ | ⟨a,ho⟩ | ⟨a,ho⟩
 ·omega
 all_goals
  rcases hT with ⟨b,ho2⟩ | ⟨b,ho2⟩ | ⟨b,ho2⟩
  rotate_right
  ·omega
  all_goals
   clear a b hlo hhi;go_enter Tryz.func120,Tryz.ntmps120
   go_wp2_with (first | (go_at_call 129;refine (j65 HN.out _).mono ?_;rintro e w' ⟨rfl,rfl⟩) | (go_at_call 130;refine (j3F HQ.out _).mono ?_;rintro e w' ⟨rfl,rfl⟩) | simp only [hm,he,hc])
   go_ret2
   exact ⟨rfl,rfl⟩
theorem j9j {s:Nat} (h:ok s=false) (w:World):Calls Tryz.prog 128 #[.float .f64 s] w fun e w'=>e=.returned (.tuple #[.int .i64 0,.bool false])/\w=w':=by
 cases hn:isn s
 ·have h0:=Jf s 0 hn j9h;have hT:=Jf s 4652006429231887155 hn jce;rw [j9g] at h0;rw [jcd] at hT
  have hk:key s < 0\/0<=key s/\4652006429231887155 < key s:=by
   have:¬ ok s=true:=by rw [h];simp
   rw [ok_iff] at this;by_cases a:key s < 0
   ·exact .inl a
   by_cases b:4652006429231887155 < key s
   ·exact .inr ⟨by omega,b⟩
   exact absurd ⟨hn,by omega,by omega⟩ this
  clear hn h;rcases hk with hk | ⟨hk0,hk⟩
  ·have ho:kA.format.order s 0=some .lt:=by rcases h0 with ⟨a,b⟩ | ⟨a,b⟩ | ⟨a,b⟩ <;> first | exact b | omega
   clear h0 hT;go_enter Tryz.func128,Tryz.ntmps128
   go_wp2
   go_ret2
   exact ⟨rfl,rfl⟩
  have ho2:kA.format.order s 4652006429231887155=some .gt:=by rcases hT with ⟨a,b⟩ | ⟨a,b⟩ | ⟨a,b⟩ <;> first | exact b | omega
  clear hT;rcases h0 with ⟨a,ho⟩ | ⟨a,ho⟩ | ⟨a,ho⟩
  ·omega
  all_goals
   clear a;go_enter Tryz.func128,Tryz.ntmps128
   go_wp2
   go_ret2
   exact ⟨rfl,rfl⟩
 have ho:=j2e s 0 (.inl hn);have ho2:=j2e s 4652006429231887155 (.inl hn);clear hn h;go_enter Tryz.func128,Tryz.ntmps128
 go_wp2
 go_ret2
 exact ⟨rfl,rfl⟩
theorem b00 (q:Nat):q+(false || (false && q % 2 == 1)).toNat=q:=rfl
theorem b01 (q:Nat) (h:q % 2=1):q+(false || (true && q % 2 == 1)).toNat=q+1:=by rw [h];rfl
theorem b02 (q:Nat) (h:q % 2=0):q+(false || (true && q % 2 == 1)).toNat=q:=by rw [h];rfl
theorem b1 (q:Nat) (b:Bool):q+(true || b).toNat=q+1:=rfl
theorem jdt (q:Nat):(q:Int)+1=((q+1:Nat):Int):=rfl
theorem jfy:isn half=false:=by decide
theorem j7S {s:Nat} (h:ok s=true) (w:World):Calls Tryz.prog 128 #[.float .f64 s] w fun e w'=>e=.returned (.tuple #[.int .i64 (tk s),.bool true])/\w=w':=by
 obtain ⟨hn,hlo,hhi⟩:=(ok_iff s).1 h;have h0:=Jf s 0 hn j9h;have hT:=Jf s 4652006429231887155 hn jce;rw [j9g] at h0;rw [jcd] at hT;obtain ⟨hsub,hln,hgt,heq⟩:=rest_ok h;have hH:=Jf (lw s) half hln jfy;have hq:qk s<=9999:=k8 (rhe_lo _ _) (tk_hi h);have htk:=tk_qk s;rw [<-hgt,<-heq] at htk;have hm:∀ t w,(binOp .mul t (.float .f64 s) (.float .f64 4621819117588971520)).run Tryz.prog w=.ok (.float .f64 (xw s)) w:=fun t w=>qJ w .mul t .f64 _ _ _ (mul_ok h).2;have hc:∀ w,(convert 69 3 (.float .f64 (xw s))).run Tryz.prog w=.ok (.int .i64 (qk s)) w:=fun w=>qL w 69 3 .f64 .i64 _ _ (by rw [Tryz.underlying69];rfl) Tryz.underlying3 (cut_ok h);have hs:∀ t w,(binOp .sub t (.float .f64 (xw s)) (.float .f64 (irung (qk s)))).run Tryz.prog w=.ok (.float .f64 (lw s)) w:=fun t w=>qJ w .sub t .f64 _ _ _ hsub;have hf:=float_of (qk s) (by omega);have hq0:(0:Int)<=(qk s:Int):=by omega
 have hq1:(qk s:Int)<=9999:=by omega
 have HT:=hJJ (show tk s=qk s+(decide (key half < key (lw s)) || (decide (key (lw s)=key half) && qk s % 2 == 1)).toNat from htk);clear htk hgt heq hsub hln hn h hq;have par:qk s % 2=1\/qk s % 2=0:=by omega
 rcases h0 with ⟨a,ho⟩ | ⟨a,ho⟩ | ⟨a,ho⟩
 ·omega
 all_goals
  rcases hT with ⟨b,ho2⟩ | ⟨b,ho2⟩ | ⟨b,ho2⟩
  rotate_right
  ·omega
  all_goals
   clear a b hlo hhi;rcases hH with ⟨c,ho3⟩ | ⟨c,ho3⟩ | ⟨c,ho3⟩
   ·have HE:=hJJ (show tk s=qk s from by rw [HT.out,decide_eq_false (by omega),decide_eq_false (by omega)];exact b00 _);clear HT par c;go_enter Tryz.func128,Tryz.ntmps128
    go_wp2_with (simp only [hm,hc,hs,hf])
    go_ret2
    exact ⟨j2T (by rw [HE.out]),rfl⟩
   ·rcases par with p | p
    ·have HE:=hJJ (show tk s=qk s+1 from by rw [HT.out,decide_eq_false (by omega),decide_eq_true c];exact b01 _ p);have p':(qk s:Int) % 2=1:=by omega
     clear HT p c;go_enter Tryz.func128,Tryz.ntmps128
     go_wp2_with (simp only [hm,hc,hs,hf])
     go_ret2
     exact ⟨j2T (by rw [HE.out];exact jdt _),rfl⟩
    have HE:=hJJ (show tk s=qk s from by rw [HT.out,decide_eq_false (by omega),decide_eq_true c];exact b02 _ p);have p':(qk s:Int) % 2=0:=by omega
    clear HT p c;go_enter Tryz.func128,Tryz.ntmps128
    go_wp2_with (simp only [hm,hc,hs,hf])
    go_ret2
    exact ⟨j2T (by rw [HE.out]),rfl⟩
   have HE:=hJJ (show tk s=qk s+1 from by rw [HT.out,decide_eq_true c];exact b1 _ _);clear HT par c;go_enter Tryz.func128,Tryz.ntmps128
   go_wp2_with (simp only [hm,hc,hs,hf])
   go_ret2
   exact ⟨j2T (by rw [HE.out];exact jdt _),rfl⟩
end Secs
namespace MayF
open Zip
open Go.ChangeShapes Go.WideShapes Go.ChangeAt Go.RowKit Go.Proofs.Fl
open Secs
def neg (x:Nat):Bool:=decide (wrap64 (x:Int) < 0)
theorem j3G (x:Nat) (w:World):Calls Tryz.prog 121 #[.float .f64 x] w fun e w'=>e=.returned (.bool (neg x))/\w=w':=by
 have hb:=j1e x;go_enter Tryz.func121,Tryz.ntmps121
 go_wp2_with (simp only [hb])
 go_ret;exact ⟨rfl,rfl⟩
theorem Jb (x:Nat) (w:World):Calls Tryz.prog 29 #[.float .f64 x] w fun e w'=>e=.returned (.int .u64 x)/\w=w':=by
 have hb:=j1e x;go_enter Tryz.func29,Tryz.ntmps29
 go_wp2_with (simp only [hb])
 go_ret;exact ⟨rfl,rfl⟩
def level (x:Nat):Bool:=!isn x && decide (0 < key x) && decide (key x<=4696837146684686336)
theorem jeT:key 4696837146684686336=4696837146684686336:=by decide
theorem jeU:isn 4696837146684686336=false:=by decide
theorem j5u (x:Nat) (w:World):Calls Tryz.prog 109 #[.float .f64 x] w fun e w'=>e=.returned (.bool (level x))/\w=w':=by
 cases hn:isn x
 ·have h0:=Jf x 0 hn j9h;have hT:=Jf x 4696837146684686336 hn jeU;rw [j9g] at h0;rw [jeT] at hT;have HN:=hJJ hn;clear hn;rcases h0 with ⟨a,ho⟩ | ⟨a,ho⟩ | ⟨a,ho⟩;all_goals rcases hT with ⟨b,ho2⟩ | ⟨b,ho2⟩ | ⟨b,ho2⟩
  all_goals
   have HA:=hJJ a;have HB:=hJJ b;clear a b;go_enter Tryz.func109,Tryz.ntmps109
   go_wp2;go_ret;have a:=HA.out;have b:=HB.out;exact ⟨j3 (by unfold level;rw [HN.out];first | (rw [decide_eq_true (by omega),decide_eq_true (by omega)];rfl) | (rw [decide_eq_false (by omega)];simp) | (rw [decide_eq_false (p:=key x<=_) (by omega)];simp)),rfl⟩
 have ho:=j2e x 0 (.inl hn);have ho2:=j2e x 4696837146684686336 (.inl hn);have HN:=hJJ hn;clear hn;go_enter Tryz.func109,Tryz.ntmps109
 go_wp2;go_ret;exact ⟨j3 (by unfold level;rw [HN.out];rfl),rfl⟩
theorem j4v (x:Nat) (w:World):Calls Tryz.prog 116 #[.float .f64 x] w fun e w'=>e=.returned (.bool (level x))/\w=w':=by
 cases hn:isn x
 ·have h0:=Jf x 0 hn j9h;have hT:=Jf x 4696837146684686336 hn jeU;rw [j9g] at h0;rw [jeT] at hT;have HN:=hJJ hn;clear hn;rcases h0 with ⟨a,ho⟩ | ⟨a,ho⟩ | ⟨a,ho⟩;all_goals rcases hT with ⟨b,ho2⟩ | ⟨b,ho2⟩ | ⟨b,ho2⟩
  all_goals
   have HA:=hJJ a;have HB:=hJJ b;clear a b;go_enter Tryz.func116,Tryz.ntmps116
   go_wp2;go_ret;have a:=HA.out;have b:=HB.out;exact ⟨j3 (by unfold level;rw [HN.out];first | (rw [decide_eq_true (by omega),decide_eq_true (by omega)];rfl) | (rw [decide_eq_false (by omega)];simp) | (rw [decide_eq_false (p:=key x<=_) (by omega)];simp)),rfl⟩
 have ho:=j2e x 0 (.inl hn);have ho2:=j2e x 4696837146684686336 (.inl hn);have HN:=hJJ hn;clear hn;go_enter Tryz.func116,Tryz.ntmps116
 go_wp2;go_ret;exact ⟨j3 (by unfold level;rw [HN.out];rfl),rfl⟩
def span (x:Nat):Bool:=ok x && !neg x
theorem j6Q (x:Nat) (w:World):Calls Tryz.prog 110 #[.float .f64 x] w fun e w'=>e=.returned (.bool (span x))/\w=w':=by
 cases hk:ok x
 ·have HK:=hJJ hk;clear hk;go_enter Tryz.func110,Tryz.ntmps110
  go_wp2_with (go_at_call 120;refine (jaq j2d HK.out _).mono ?_;rintro e w' ⟨rfl,rfl⟩)
  go_ret;exact ⟨j3 (by unfold span;rw [HK.out,ka]),rfl⟩
 have HK:=hJJ hk;clear hk;go_enter Tryz.func110,Tryz.ntmps110
 go_wp2_with (first | (go_at_call 120;refine (j9i j2d HK.out _).mono ?_;rintro e w' ⟨rfl,rfl⟩) | (go_at_call 121;refine (j3G _ _).mono ?_;rintro e w' ⟨rfl,rfl⟩))
 go_ret;exact ⟨j3 (by unfold span;rw [HK.out,kb]),rfl⟩
theorem j5v (x:Nat) (w:World):Calls Tryz.prog 117 #[.float .f64 x] w fun e w'=>e=.returned (.bool (span x))/\w=w':=by
 cases hk:ok x
 ·have HK:=hJJ hk;clear hk;go_enter Tryz.func117,Tryz.ntmps117
  go_wp2_with (go_at_call 128;refine (j9j HK.out _).mono ?_;rintro e w' ⟨rfl,rfl⟩)
  go_ret;exact ⟨j3 (by unfold span;rw [HK.out,ka]),rfl⟩
 have HK:=hJJ hk;clear hk;go_enter Tryz.func117,Tryz.ntmps117
 go_wp2_with (first | (go_at_call 128;refine (j7S HK.out _).mono ?_;rintro e w' ⟨rfl,rfl⟩) | (go_at_call 121;refine (j3G _ _).mono ?_;rintro e w' ⟨rfl,rfl⟩))
 go_ret;exact ⟨j3 (by unfold span;rw [HK.out,kb]),rfl⟩
end MayF
namespace May
open Zip
open Go.ChangeShapes Go.WideShapes Go.ChangeAt Go.RowKit
open Tab MayF
def Ph.may (p:Ph):Bool:=jq 9999 [p.min,p.gap,p.max,p.top,p.step,p.yellow,p.red,p.walk,p.blinks] && jq 3 [p.J4]
def j02 (l:List Int):Bool:=decide (l.length<=8) && jq 7 l
def jQ (g:List Int × List Int):Bool:=j02 g.1 && j02 g.2
def Det.may (d:Det):Bool:=jq 7 [d.phase] && (level d.on && (level d.off && (span d.delay && (span d.extend && jq 9999 [d.maxOn,d.maxOff]))))
def Rl.may (r:Rl):Bool:=jq 255 [r.bars,r.clear,r.dwell,r.exit] && (jq 9999 [r.delay,r.green,r.foot,r.hold,r.stay,r.most] && jq 2147483647 [r.limit])
def Bs.may (b:Bs):Bool:=jq 255 [b.set] && jq 9999 [b.lock]
theorem jg (w:World) (t:TypeId) (l:List Int) (n:Nat) (hn:l.length=n) (hm:n<=maxLen) (k:Nat) (hk:w.heap.size=k):jc (w.alloc (.cells (l.map I).toArray t)) ⟨some ⟨k,0,none⟩,n⟩ l:=by
 subst hn hk;refine .inr ⟨_,rfl,k5 _,hm,fun i v hv j u hu=>?_⟩;cases j with
 | zero =>
  obtain rfl:=Ka hu;rw [qc,j25,qq,KH,kp];rw [qy _ _ _ _ _ _ (qx w _)];simp [hv]
 | succ j=>cases hu
theorem j66 (p:Ph) (w:World) :
  Calls Tryz.prog 79 #[.agg (Ph.cells p).toArray] w fun e w'=>e=.returned (.bool (Ph.may p))/\Below w.heap.size w w':=by
 obtain ⟨on,min,gap,max,top,step,yellow,red,walk,blinks,J4,lock,rest⟩:=p;show Calls Tryz.prog 79 #[.agg #[.bool on,I min,I gap,I max,I top,I step,I yellow,I red,I walk,I blinks,I J4,.bool lock,.bool rest]] w _;go_enter Tryz.func79,Tryz.ntmps79
 go_wp2_with fail
 refine (J6 9999 _ _ [min,gap,max,top,step,yellow,red,walk,blinks] _ (jg _ _ [min,gap,max,top,step,yellow,red,walk,blinks] 9 rfl (by decide) _ (by simp))).mono ?_;rintro e w' ⟨rfl,rfl⟩;generalize hb1:jq 9999 [min,gap,max,top,step,yellow,red,walk,blinks]=b1;have HB1:=hJJ hb1;clear hb1;cases b1
 ·go_wp2;go_ret;exact ⟨j3 (by unfold Ph.may;simp only [HB1.out,kb,ka,kf,k9]),(by repeat' first | exact k4 _ _ | (refine kw ?_ ?_ _) | (simp;done) | (simp;omega))⟩
 go_wp2_with fail
 refine (J6 3 _ _ [J4] _ (jg _ _ [J4] 1 rfl (by decide) _ (by simp))).mono ?_;rintro e w' ⟨rfl,rfl⟩;generalize hb2:jq 3 [J4]=b2;have HB2:=hJJ hb2;clear hb2;go_wp2;go_ret;exact ⟨j3 (by unfold Ph.may;simp only [HB1.out,HB2.out,kb,ka,kf,k9]),(by repeat' first | exact k4 _ _ | (refine kw ?_ ?_ _) | (simp;done) | (simp;omega))⟩
theorem j42 (d:Det) (w:World) :
  Calls Tryz.prog 84 #[.agg (Det.cells d).toArray] w fun e w'=>e=.returned (.bool (Det.may d))/\Below w.heap.size w w':=by
 obtain ⟨phase,on,off,delay,extend,maxOn,maxOff⟩:=d;show Calls Tryz.prog 84 #[.agg #[I phase,F on,F off,F delay,F extend,I maxOn,I maxOff]] w _;go_enter Tryz.func84,Tryz.ntmps84
 go_wp2_with fail
 refine (J6 7 _ _ [phase] _ (jg _ _ [phase] 1 rfl (by decide) _ (by simp))).mono ?_;rintro e w' ⟨rfl,rfl⟩;generalize hb1:jq 7 [phase]=b1;have HB1:=hJJ hb1;clear hb1;cases b1
 ·go_wp2;go_ret;exact ⟨j3 (by unfold Det.may;simp only [HB1.out,kb,ka,kf,k9]),(by repeat' first | exact k4 _ _ | (refine kw ?_ ?_ _) | (simp;done) | (simp;omega))⟩
 go_wp2_with fail
 refine (j5u on _).mono ?_;rintro e w' ⟨rfl,rfl⟩;generalize hb2:level on=b2;have HB2:=hJJ hb2;clear hb2;cases b2
 ·go_wp2;go_ret;exact ⟨j3 (by unfold Det.may;simp only [HB1.out,HB2.out,kb,ka,kf,k9]),(by repeat' first | exact k4 _ _ | (refine kw ?_ ?_ _) | (simp;done) | (simp;omega))⟩
 go_wp2_with fail
 refine (j5u off _).mono ?_;rintro e w' ⟨rfl,rfl⟩;generalize hb3:level off=b3;have HB3:=hJJ hb3;clear hb3;cases b3
 ·go_wp2;go_ret;exact ⟨j3 (by unfold Det.may;simp only [HB1.out,HB2.out,HB3.out,kb,ka,kf,k9]),(by repeat' first | exact k4 _ _ | (refine kw ?_ ?_ _) | (simp;done) | (simp;omega))⟩
 go_wp2_with fail
 refine (j6Q delay _).mono ?_;rintro e w' ⟨rfl,rfl⟩;generalize hb4:span delay=b4;have HB4:=hJJ hb4;clear hb4;cases b4
 ·go_wp2;go_ret;exact ⟨j3 (by unfold Det.may;simp only [HB1.out,HB2.out,HB3.out,HB4.out,kb,ka,kf,k9]),(by repeat' first | exact k4 _ _ | (refine kw ?_ ?_ _) | (simp;done) | (simp;omega))⟩
 go_wp2_with fail
 refine (j6Q extend _).mono ?_;rintro e w' ⟨rfl,rfl⟩;generalize hb5:span extend=b5;have HB5:=hJJ hb5;clear hb5;cases b5
 ·go_wp2;go_ret;exact ⟨j3 (by unfold Det.may;simp only [HB1.out,HB2.out,HB3.out,HB4.out,HB5.out,kb,ka,kf,k9]),(by repeat' first | exact k4 _ _ | (refine kw ?_ ?_ _) | (simp;done) | (simp;omega))⟩
 go_wp2_with fail
 refine (J6 9999 _ _ [maxOn,maxOff] _ (jg _ _ [maxOn,maxOff] 2 rfl (by decide) _ (by simp))).mono ?_;rintro e w' ⟨rfl,rfl⟩;generalize hb6:jq 9999 [maxOn,maxOff]=b6;have HB6:=hJJ hb6;clear hb6;go_wp2;go_ret;exact ⟨j3 (by unfold Det.may;simp only [HB1.out,HB2.out,HB3.out,HB4.out,HB5.out,HB6.out,kb,ka,kf,k9]),(by repeat' first | exact k4 _ _ | (refine kw ?_ ?_ _) | (simp;done) | (simp;omega))⟩
theorem j6R (r:Rl) (w:World) :
  Calls Tryz.prog 86 #[.agg (Rl.cells r).toArray] w fun e w'=>e=.returned (.bool (Rl.may r))/\Below w.heap.size w w':=by
 obtain ⟨bars,clear,dwell,exit,delay,green,foot,hold,stay,most,limit⟩:=r;show Calls Tryz.prog 86 #[.agg #[I bars,I clear,I dwell,I exit,I delay,I green,I foot,I hold,I stay,I most,I limit]] w _;go_enter Tryz.func86,Tryz.ntmps86
 go_wp2_with fail
 refine (J6 255 _ _ [bars,clear,dwell,exit] _ (jg _ _ [bars,clear,dwell,exit] 4 rfl (by decide) _ (by simp))).mono ?_;rintro e w' ⟨rfl,rfl⟩;generalize hb1:jq 255 [bars,clear,dwell,exit]=b1;have HB1:=hJJ hb1;clear hb1;cases b1
 ·go_wp2;go_ret;exact ⟨j3 (by unfold Rl.may;simp only [HB1.out,kb,ka,kf,k9]),(by repeat' first | exact k4 _ _ | (refine kw ?_ ?_ _) | (simp;done) | (simp;omega))⟩
 go_wp2_with fail
 refine (J6 9999 _ _ [delay,green,foot,hold,stay,most] _ (jg _ _ [delay,green,foot,hold,stay,most] 6 rfl (by decide) _ (by simp))).mono ?_;rintro e w' ⟨rfl,rfl⟩;generalize hb2:jq 9999 [delay,green,foot,hold,stay,most]=b2;have HB2:=hJJ hb2;clear hb2;cases b2
 ·go_wp2;go_ret;exact ⟨j3 (by unfold Rl.may;simp only [HB1.out,HB2.out,kb,ka,kf,k9]),(by repeat' first | exact k4 _ _ | (refine kw ?_ ?_ _) | (simp;done) | (simp;omega))⟩
 go_wp2_with fail
 refine (J6 2147483647 _ _ [limit] _ (jg _ _ [limit] 1 rfl (by decide) _ (by simp))).mono ?_;rintro e w' ⟨rfl,rfl⟩;generalize hb3:jq 2147483647 [limit]=b3;have HB3:=hJJ hb3;clear hb3;go_wp2;go_ret;exact ⟨j3 (by unfold Rl.may;simp only [HB1.out,HB2.out,HB3.out,kb,ka,kf,k9]),(by repeat' first | exact k4 _ _ | (refine kw ?_ ?_ _) | (simp;done) | (simp;omega))⟩
theorem j7T (b:Bs) (w:World) :
  Calls Tryz.prog 88 #[.agg (Bs.cells b).toArray] w fun e w'=>e=.returned (.bool (Bs.may b))/\Below w.heap.size w w':=by
 obtain ⟨set,lock⟩:=b;show Calls Tryz.prog 88 #[.agg #[I set,I lock]] w _;go_enter Tryz.func88,Tryz.ntmps88
 go_wp2_with fail
 refine (J6 255 _ _ [set] _ (jg _ _ [set] 1 rfl (by decide) _ (by simp))).mono ?_;rintro e w' ⟨rfl,rfl⟩;generalize hb1:jq 255 [set]=b1;have HB1:=hJJ hb1;clear hb1;cases b1
 ·go_wp2;go_ret;exact ⟨j3 (by unfold Bs.may;simp only [HB1.out,kb,ka,kf,k9]),(by repeat' first | exact k4 _ _ | (refine kw ?_ ?_ _) | (simp;done) | (simp;omega))⟩
 go_wp2_with fail
 refine (J6 9999 _ _ [lock] _ (jg _ _ [lock] 1 rfl (by decide) _ (by simp))).mono ?_;rintro e w' ⟨rfl,rfl⟩;generalize hb2:jq 9999 [lock]=b2;have HB2:=hJJ hb2;clear hb2;go_wp2;go_ret;exact ⟨j3 (by unfold Bs.may;simp only [HB1.out,HB2.out,kb,ka,kf,k9]),(by repeat' first | exact k4 _ _ | (refine kw ?_ ?_ _) | (simp;done) | (simp;omega))⟩
theorem j4w (a:Option Addr) (cap:Nat) (l:List Int) (w:World) (h:jc w ⟨a,cap⟩ l) :
  Calls Tryz.prog 108 #[.slice a l.length cap] w fun e w'=>e=.returned (.bool (j02 l))/\w=w':=by
 have h1:=h.len;unfold maxLen at h1;have Hr:=hJJ h;clear h;by_cases h8:l.length<=8
 ·go_enter Tryz.func108,Tryz.ntmps108
  go_wp2_with (go_at_call 82;refine (J6 _ _ _ _ _ Hr.out).mono ?_;rintro e w' ⟨rfl,rfl⟩)
  go_ret;exact ⟨j3 (by unfold j02;rw [decide_eq_true h8,kb]),rfl⟩
 go_enter Tryz.func108,Tryz.ntmps108
 go_wp2;go_ret;exact ⟨j3 (by unfold j02;rw [decide_eq_false h8,ka]),rfl⟩
theorem j67 (g:Gr) (w:World) (h:g.ok w) :
  Calls Tryz.prog 81 #[.agg g.cells.toArray] w fun e w'=>e=.returned (.bool (jQ g.data))/\Below w.heap.size w w':=by
 obtain ⟨l0,l1,⟨a0,cap0⟩,⟨a1,cap1⟩⟩:=g;have H0:=hJJ h.1;have H1:=hJJ h.2;clear h;show Calls Tryz.prog 81 #[.agg #[.slice a0 l0.length cap0,.slice a1 l1.length cap1]] w _;go_enter Tryz.func81,Tryz.ntmps81
 go_wp2_with fail
 refine (j4w a0 cap0 l0 _ (H0.out.below ((k4 _ _).alloc (k5 _) _))).mono ?_;rintro e w' ⟨rfl,rfl⟩;generalize hb1:j02 l0=b1;have HB1:=hJJ hb1;clear hb1;cases b1
 ·go_wp2;go_ret;exact ⟨j3 (by unfold jQ;simp only [Gr.data,HB1.out,kb,ka,kf,k9]),(by repeat' first | exact k4 _ _ | (refine kw ?_ ?_ _) | (simp;done) | (simp;omega))⟩
 go_wp2_with fail
 refine (j4w a1 cap1 l1 _ (H1.out.below ((k4 _ _).alloc (k5 _) _))).mono ?_;rintro e w' ⟨rfl,rfl⟩;generalize hb2:j02 l1=b2;have HB2:=hJJ hb2;clear hb2;go_wp2;go_ret;exact ⟨j3 (by unfold jQ;simp only [Gr.data,HB1.out,HB2.out,kb,ka,kf,k9]),(by repeat' first | exact k4 _ _ | (refine kw ?_ ?_ _) | (simp;done) | (simp;omega))⟩
end May
namespace May
open Zip
open Go.ChangeShapes Go.WideShapes Go.ChangeAt Go.RowKit
open Tab
theorem chain {a b c:World} (h:Below a.heap.size a b) (k:Below b.heap.size b c):Below a.heap.size a c:=h.trans (k.mono h.size)
theorem jG:(Tryz.prog.info? 25).map (·.size)=some 13:=by kernel_rfl
theorem j0f:(Tryz.prog.info? 68).map (·.size)=some 2:=by kernel_rfl
theorem jT:(Tryz.prog.info? 71).map (·.size)=some 7:=by kernel_rfl
theorem jH:(Tryz.prog.info? 75).map (·.size)=some 11:=by kernel_rfl
theorem j06:(Tryz.prog.info? 77).map (·.size)=some 2:=by kernel_rfl
theorem j6S (m:Int) (a:Option Addr) (cap:Nat) (l:List Ph) (w:World) (h:ju 13 Ph.cells w ⟨a,cap⟩ l) :
  Calls Tryz.prog 78 #[.slice a l.length cap,.int .i64 m,.func (.func 79) #[] #[]] w fun e w'=>e=.returned (.bool (decide ((l.length:Int)<=m) && l.all Ph.may))/\Below w.heap.size w w':=by
 have h1:=h.len;unfold maxLen at h1;have Hr:=hJJ h;clear h;by_cases hm:(l.length:Int)<=m
 ·have hm':decide (m < (l.length:Int))=false:=decide_eq_false (by omega);have Hm:=hJJ hm;go_enter Tryz.func78,Tryz.ntmps78
  go_wp2;go_loopw [15] (fun i wr=>∃ k:Nat,k<=l.length/\i=.int .i64 k/\(l.take k).all Ph.may=true/\Below w.heap.size w wr) (fun i _=>l.length - (intOf i).toNat)
  case atStart=>exact ⟨0,kW _,rfl,rfl,k4 _ _⟩
  case round =>
   obtain ⟨k,hk,rfl,hall,hbel⟩:=hrel;have Hall:=hJJ hall;have Hb:=hJJ hbel;clear hall hbel;by_cases hlt:k < l.length
   ·have hv:=kd hlt;generalize l[k]=v at hv;obtain ⟨x,hx,hcell⟩:=(Hr.out.below Hb.out).at hv;obtain rfl:a=some x:=hx;have HV:=hJJ hv;have HC:=hJJ hcell;clear hv hcell;go_wp2_with (first | (refine Row.jV rfl 25 _ rfl (x.add (k*13)) rfl v.cells _ HC.out Tryz.underlying25 rfl jG ?_) | (refine Row.jh rfl 25 _ _ rfl _ _ v.cells.toArray rfl rfl rfl jG rfl v.one ?_) | (refine qG rfl 25 _ rfl _ rfl _ _ _ _ (qx _ _) Tryz.underlying25 rfl jG ?_))
    refine (j66 v _).mono ?_;rintro e w2 ⟨rfl,hb2⟩;have B2:=hJJ (chain Hb.out (chain ((k4 _ _).alloc (k5 _) _) hb2));clear hb2;generalize hb:Ph.may v=b;have HB:=hJJ hb;clear hb;cases b
    ·go_wp2;go_ret;exact ⟨j3 (by rw [j0j (f:=Ph.may) HV.out HB.out,k9]),B2.out⟩
    go_wp2;go_roundw;case rel=>exact ⟨k+1,by omega,by go_num,j0w (f:=Ph.may) HV.out Hall.out HB.out,B2.out⟩
    case measure=>simp [intOf];omega
   go_wp2;go_ret;exact ⟨j3 (by rw [j2b Hall.out hlt,decide_eq_true (by have:=Hm.out;omega)];rfl),Hb.out⟩
 have Hm:=hJJ hm;go_enter Tryz.func78,Tryz.ntmps78
 go_wp2;go_ret;exact ⟨j3 (by rw [decide_eq_false (by have:=Hm.out;omega)];rfl),k4 _ _⟩
theorem j6T (m:Int) (a:Option Addr) (cap:Nat) (l:List Gr) (w:World) (h:ju 2 Gr.cells w ⟨a,cap⟩ l) (h2:∀ v ∈ l,v.ok w) :
  Calls Tryz.prog 80 #[.slice a l.length cap,.int .i64 m,.func (.func 81) #[] #[]] w fun e w'=>e=.returned (.bool (decide ((l.length:Int)<=m) && l.all (fun v=>jQ v.data)))/\Below w.heap.size w w':=by
 have h1:=h.len;unfold maxLen at h1;have Hr:=hJJ h;clear h;have H2:=hJJ h2;clear h2;by_cases hm:(l.length:Int)<=m
 ·have hm':decide (m < (l.length:Int))=false:=decide_eq_false (by omega);have Hm:=hJJ hm;go_enter Tryz.func80,Tryz.ntmps80
  go_wp2;go_loopw [15] (fun i wr=>∃ k:Nat,k<=l.length/\i=.int .i64 k/\(l.take k).all (fun v=>jQ v.data)=true/\Below w.heap.size w wr) (fun i _=>l.length - (intOf i).toNat)
  case atStart=>exact ⟨0,kW _,rfl,rfl,k4 _ _⟩
  case round =>
   obtain ⟨k,hk,rfl,hall,hbel⟩:=hrel;have Hall:=hJJ hall;have Hb:=hJJ hbel;clear hall hbel;by_cases hlt:k < l.length
   ·have hv:=kd hlt;generalize l[k]=v at hv;obtain ⟨x,hx,hcell⟩:=(Hr.out.below Hb.out).at hv;obtain rfl:a=some x:=hx;have HV:=hJJ hv;have HC:=hJJ hcell;clear hv hcell;go_wp2_with (first | (refine Row.jV rfl 68 _ rfl (x.add (k*2)) rfl v.cells _ HC.out Tryz.underlying68 rfl j0f ?_) | (refine Row.jh rfl 68 _ _ rfl _ _ v.cells.toArray rfl rfl rfl j0f rfl v.one ?_) | (refine qG rfl 68 _ rfl _ rfl _ _ _ _ (qx _ _) Tryz.underlying68 rfl j0f ?_))
    refine (j67 v _ (((H2.out _ (kq HV.out)).below Hb.out).below ((k4 _ _).alloc (k5 _) _))).mono ?_;rintro e w2 ⟨rfl,hb2⟩;have B2:=hJJ (chain Hb.out (chain ((k4 _ _).alloc (k5 _) _) hb2));clear hb2;generalize hb:jQ v.data=b;have HB:=hJJ hb;clear hb;cases b
    ·go_wp2;go_ret;exact ⟨j3 (by rw [j0j (f:=(fun v=>jQ v.data)) HV.out HB.out,k9]),B2.out⟩
    go_wp2;go_roundw;case rel=>exact ⟨k+1,by omega,by go_num,j0w (f:=(fun v=>jQ v.data)) HV.out Hall.out HB.out,B2.out⟩
    case measure=>simp [intOf];omega
   go_wp2;go_ret;exact ⟨j3 (by rw [j2b Hall.out hlt,decide_eq_true (by have:=Hm.out;omega)];rfl),Hb.out⟩
 have Hm:=hJJ hm;go_enter Tryz.func80,Tryz.ntmps80
 go_wp2;go_ret;exact ⟨j3 (by rw [decide_eq_false (by have:=Hm.out;omega)];rfl),k4 _ _⟩
theorem j6U (m:Int) (a:Option Addr) (cap:Nat) (l:List Det) (w:World) (h:ju 7 Det.cells w ⟨a,cap⟩ l) :
  Calls Tryz.prog 83 #[.slice a l.length cap,.int .i64 m,.func (.func 84) #[] #[]] w fun e w'=>e=.returned (.bool (decide ((l.length:Int)<=m) && l.all Det.may))/\Below w.heap.size w w':=by
 have h1:=h.len;unfold maxLen at h1;have Hr:=hJJ h;clear h;by_cases hm:(l.length:Int)<=m
 ·have hm':decide (m < (l.length:Int))=false:=decide_eq_false (by omega);have Hm:=hJJ hm;go_enter Tryz.func83,Tryz.ntmps83
  go_wp2;go_loopw [15] (fun i wr=>∃ k:Nat,k<=l.length/\i=.int .i64 k/\(l.take k).all Det.may=true/\Below w.heap.size w wr) (fun i _=>l.length - (intOf i).toNat)
  case atStart=>exact ⟨0,kW _,rfl,rfl,k4 _ _⟩
  case round =>
   obtain ⟨k,hk,rfl,hall,hbel⟩:=hrel;have Hall:=hJJ hall;have Hb:=hJJ hbel;clear hall hbel;by_cases hlt:k < l.length
   ·have hv:=kd hlt;generalize l[k]=v at hv;obtain ⟨x,hx,hcell⟩:=(Hr.out.below Hb.out).at hv;obtain rfl:a=some x:=hx;have HV:=hJJ hv;have HC:=hJJ hcell;clear hv hcell;go_wp2_with (first | (refine Row.jV rfl 71 _ rfl (x.add (k*7)) rfl v.cells _ HC.out Tryz.underlying71 rfl jT ?_) | (refine Row.jh rfl 71 _ _ rfl _ _ v.cells.toArray rfl rfl rfl jT rfl v.one ?_) | (refine qG rfl 71 _ rfl _ rfl _ _ _ _ (qx _ _) Tryz.underlying71 rfl jT ?_))
    refine (j42 v _).mono ?_;rintro e w2 ⟨rfl,hb2⟩;have B2:=hJJ (chain Hb.out (chain ((k4 _ _).alloc (k5 _) _) hb2));clear hb2;generalize hb:Det.may v=b;have HB:=hJJ hb;clear hb;cases b
    ·go_wp2;go_ret;exact ⟨j3 (by rw [j0j (f:=Det.may) HV.out HB.out,k9]),B2.out⟩
    go_wp2;go_roundw;case rel=>exact ⟨k+1,by omega,by go_num,j0w (f:=Det.may) HV.out Hall.out HB.out,B2.out⟩
    case measure=>simp [intOf];omega
   go_wp2;go_ret;exact ⟨j3 (by rw [j2b Hall.out hlt,decide_eq_true (by have:=Hm.out;omega)];rfl),Hb.out⟩
 have Hm:=hJJ hm;go_enter Tryz.func83,Tryz.ntmps83
 go_wp2;go_ret;exact ⟨j3 (by rw [decide_eq_false (by have:=Hm.out;omega)];rfl),k4 _ _⟩
theorem j6V (m:Int) (a:Option Addr) (cap:Nat) (l:List Rl) (w:World) (h:ju 11 Rl.cells w ⟨a,cap⟩ l) :
  Calls Tryz.prog 85 #[.slice a l.length cap,.int .i64 m,.func (.func 86) #[] #[]] w fun e w'=>e=.returned (.bool (decide ((l.length:Int)<=m) && l.all Rl.may))/\Below w.heap.size w w':=by
 have h1:=h.len;unfold maxLen at h1;have Hr:=hJJ h;clear h;by_cases hm:(l.length:Int)<=m
 ·have hm':decide (m < (l.length:Int))=false:=decide_eq_false (by omega);have Hm:=hJJ hm;go_enter Tryz.func85,Tryz.ntmps85
  go_wp2;go_loopw [15] (fun i wr=>∃ k:Nat,k<=l.length/\i=.int .i64 k/\(l.take k).all Rl.may=true/\Below w.heap.size w wr) (fun i _=>l.length - (intOf i).toNat)
  case atStart=>exact ⟨0,kW _,rfl,rfl,k4 _ _⟩
  case round =>
   obtain ⟨k,hk,rfl,hall,hbel⟩:=hrel;have Hall:=hJJ hall;have Hb:=hJJ hbel;clear hall hbel;by_cases hlt:k < l.length
   ·have hv:=kd hlt;generalize l[k]=v at hv;obtain ⟨x,hx,hcell⟩:=(Hr.out.below Hb.out).at hv;obtain rfl:a=some x:=hx;have HV:=hJJ hv;have HC:=hJJ hcell;clear hv hcell;go_wp2_with (first | (refine Row.jV rfl 75 _ rfl (x.add (k*11)) rfl v.cells _ HC.out Tryz.underlying75 rfl jH ?_) | (refine Row.jh rfl 75 _ _ rfl _ _ v.cells.toArray rfl rfl rfl jH rfl v.one ?_) | (refine qG rfl 75 _ rfl _ rfl _ _ _ _ (qx _ _) Tryz.underlying75 rfl jH ?_))
    refine (j6R v _).mono ?_;rintro e w2 ⟨rfl,hb2⟩;have B2:=hJJ (chain Hb.out (chain ((k4 _ _).alloc (k5 _) _) hb2));clear hb2;generalize hb:Rl.may v=b;have HB:=hJJ hb;clear hb;cases b
    ·go_wp2;go_ret;exact ⟨j3 (by rw [j0j (f:=Rl.may) HV.out HB.out,k9]),B2.out⟩
    go_wp2;go_roundw;case rel=>exact ⟨k+1,by omega,by go_num,j0w (f:=Rl.may) HV.out Hall.out HB.out,B2.out⟩
    case measure=>simp [intOf];omega
   go_wp2;go_ret;exact ⟨j3 (by rw [j2b Hall.out hlt,decide_eq_true (by have:=Hm.out;omega)];rfl),Hb.out⟩
 have Hm:=hJJ hm;go_enter Tryz.func85,Tryz.ntmps85
 go_wp2;go_ret;exact ⟨j3 (by rw [decide_eq_false (by have:=Hm.out;omega)];rfl),k4 _ _⟩
theorem j6W (m:Int) (a:Option Addr) (cap:Nat) (l:List Bs) (w:World) (h:ju 2 Bs.cells w ⟨a,cap⟩ l) :
  Calls Tryz.prog 87 #[.slice a l.length cap,.int .i64 m,.func (.func 88) #[] #[]] w fun e w'=>e=.returned (.bool (decide ((l.length:Int)<=m) && l.all Bs.may))/\Below w.heap.size w w':=by
 have h1:=h.len;unfold maxLen at h1;have Hr:=hJJ h;clear h;by_cases hm:(l.length:Int)<=m
 ·have hm':decide (m < (l.length:Int))=false:=decide_eq_false (by omega);have Hm:=hJJ hm;go_enter Tryz.func87,Tryz.ntmps87
  go_wp2;go_loopw [15] (fun i wr=>∃ k:Nat,k<=l.length/\i=.int .i64 k/\(l.take k).all Bs.may=true/\Below w.heap.size w wr) (fun i _=>l.length - (intOf i).toNat)
  case atStart=>exact ⟨0,kW _,rfl,rfl,k4 _ _⟩
  case round =>
   obtain ⟨k,hk,rfl,hall,hbel⟩:=hrel;have Hall:=hJJ hall;have Hb:=hJJ hbel;clear hall hbel;by_cases hlt:k < l.length
   ·have hv:=kd hlt;generalize l[k]=v at hv;obtain ⟨x,hx,hcell⟩:=(Hr.out.below Hb.out).at hv;obtain rfl:a=some x:=hx;have HV:=hJJ hv;have HC:=hJJ hcell;clear hv hcell;go_wp2_with (first | (refine Row.jV rfl 77 _ rfl (x.add (k*2)) rfl v.cells _ HC.out Tryz.underlying77 rfl j06 ?_) | (refine Row.jh rfl 77 _ _ rfl _ _ v.cells.toArray rfl rfl rfl j06 rfl v.one ?_) | (refine qG rfl 77 _ rfl _ rfl _ _ _ _ (qx _ _) Tryz.underlying77 rfl j06 ?_))
    refine (j7T v _).mono ?_;rintro e w2 ⟨rfl,hb2⟩;have B2:=hJJ (chain Hb.out (chain ((k4 _ _).alloc (k5 _) _) hb2));clear hb2;generalize hb:Bs.may v=b;have HB:=hJJ hb;clear hb;cases b
    ·go_wp2;go_ret;exact ⟨j3 (by rw [j0j (f:=Bs.may) HV.out HB.out,k9]),B2.out⟩
    go_wp2;go_roundw;case rel=>exact ⟨k+1,by omega,by go_num,j0w (f:=Bs.may) HV.out Hall.out HB.out,B2.out⟩
    case measure=>simp [intOf];omega
   go_wp2;go_ret;exact ⟨j3 (by rw [j2b Hall.out hlt,decide_eq_true (by have:=Hm.out;omega)];rfl),Hb.out⟩
 have Hm:=hJJ hm;go_enter Tryz.func87,Tryz.ntmps87
 go_wp2;go_ret;exact ⟨j3 (by rw [decide_eq_false (by have:=Hm.out;omega)];rfl),k4 _ _⟩
end May
namespace May
open Zip
open Go.ChangeShapes Go.WideShapes Go.ChangeAt Go.RowKit
open Tab
def jF {α:Type} (m:Int) (f:α->Bool) (l:List α):Bool:=decide ((l.length:Int)<=m) && l.all f
def jZ (T:Tab):Bool :=
 jF 8 Ph.may T.phases && (jF 4 jQ T.groups && (jq 255 T.conflict && (jF 16 Det.may T.dets && (jF 4 Rl.may T.rails && (jF 4 Bs.may T.buses &&
  (jq 9999 [T.extend,T.budget,T.start,T.revert,T.least] && (jq 2 T.flash && jq 2147483647 [T.window,T.share])))))))
theorem j4c {w:World} {g:Nat} {cs:Array Value} {t:TypeId} {fr:Nat × Nat} (hg:w.heap[g]?=some (.cells cs t fr)) (o n:Nat) (l:List Int) (h:(cs.toList.drop o).take n=l.map I) (hn:l.length=n) (hm:n<=maxLen) :
  jc w ⟨some ⟨g,o,none⟩,n⟩ l:=by
 subst hn;refine .inr ⟨_,rfl,k5 _,hm,fun i v hv j u hu=>?_⟩;cases j with
 | zero =>
  obtain rfl:=Ka hu;rw [qc,j25,qq,KH];exact j1c hg o _ _ h i _ (by simp [hv])
 | succ j=>cases hu
theorem JC {w:World} {g:Nat} {cs:Array Value} {t:TypeId} {fr:Nat × Nat} {T:Tab} {h:Hd} (hg:w.heap[g]?=some (.cells cs t fr)) (C:j45 T h cs) (hn:T.phases.length=8) :
  ju 13 Ph.cells w ⟨some ⟨g,0,none⟩,8⟩ T.phases:=by
 refine .inr ⟨_,rfl,by rw [hn];exact k5 _,(show 8<=maxLen by decide),fun i v hv j u hu=>?_⟩;rw [j25,KH,kp,KI];exact j1c hg (13*i) 13 _ (C.phase i v hv) j u hu
structure St (w:World) (N:Nat) (cs:Array Value) (h:Hd) (T:Tab) (W:World):Prop where
 bel:Below w.heap.size w W
 blk:W.heap[N]?=some (.cells cs 33 (0,0))
 tab:jy W h T
 le:w.heap.size<=N
theorem St.step {w W W':World} {N:Nat} {cs:Array Value} {h:Hd} {T:Tab} (k:St w N cs h T W) (hb:Below W.heap.size W W'):St w N cs h T W' :=
 ⟨chain k.bel hb,by rw [hb.block N (k3.1 k.blk).1];exact k.blk,k.tab.below hb,k.le⟩
theorem St.cell {w W:World} {N:Nat} {cs:Array Value} {h:Hd} {T:Tab} (k:St w N cs h T W) {o:Nat} {v:Value} (hv:cs[o]?=some v):W.cell? ⟨N,o,none⟩=some v:=by
 rw [qy _ _ _ _ _ _ k.blk];exact hv
theorem St.box {w:World} {cs:Array Value} {h:Hd} {T:Tab} (k:jy w h T):St w w.heap.size cs h T (w.alloc (.cells cs 33)) :=
 ⟨(k4 _ _).alloc (k5 _) _,qx _ _,k.below ((k4 _ _).alloc (k5 _) _),k5 _⟩
theorem j4x (m:Int) (a:Option Addr) (cap:Nat) (l:List Int) (n:Nat) (hn:l.length=n) (w:World) (h:jc w ⟨a,cap⟩ l) :
  Calls Tryz.prog 82 #[.int .i64 m,.slice a n cap] w fun e w'=>e=.returned (.bool (jq m l))/\w=w':=by
 subst hn;exact J6 m a cap l w h
theorem j8D (T:Tab) (h:Hd) (w:World) (k:jy w h T) :
  Calls Tryz.prog 42 #[.agg (T.cells h).toArray] w fun e w'=>e=.returned (.bool (jZ T))/\Below w.heap.size w w':=by
 have C:=hJJ (j9 k);have L8:=hJJ k.ph;have Lc:=hJJ k.cf;have Lf:=hJJ k.fl;generalize (T.cells h).toArray=cs at C |-;have hsz:=C.out.size;obtain ⟨gs,hgd,hgr⟩:=k.groups;have Hgr:=hJJ hgr;clear hgr;have hw0:Below w.heap.size w (w.alloc (.cells cs 33)):=(k4 _ _).alloc (k5 _) _;have HW0:=hJJ hw0;clear hw0;have S0:=hJJ (St.box (cs:=cs) k);clear k;have Hgd:=hJJ hgd;have hgl:T.groups.length=gs.length:=by rw [<-hgd,kk]
 have Hgl:=hJJ hgl;clear hgd hgl;have hph:=JC S0.out.blk C.out L8.out;have cP:=j6S 8 (some ⟨w.heap.size,0,none⟩) 8 T.phases _ hph;rw [L8.out] at cP;have CP:=hJJ cP;clear cP hph;have L8p:Hid ((8:Nat)=T.phases.length):=L8.out.symm;go_enter Tryz.func42,Tryz.ntmps42
 go_wp2_with fail
 refine (CP.out).mono ?_;rintro e w1 ⟨rfl,hb1⟩;have S1:=hJJ (S0.out.step hb1);clear hb1 S0;generalize hv:(decide (((8:Nat):Int)<=8) && T.phases.all Ph.may)=b1;have HB1:Hid (jF 8 Ph.may T.phases=b1):=(by unfold jF;rw [L8.out];exact hv);clear hv;cases b1
 ·go_wp2;go_ret;exact ⟨j3 (by unfold jZ;simp only [HB1.out,kb,ka,kf,k9]),S1.out.bel⟩
 have c104:=S1.out.cell C.out.g;rw [Hgl.out] at c104;go_wp2_with fail
 refine (j6T 4 h.g.a h.g.cap gs _ (Hgr.out.1.below S1.out.bel) (fun v hv=>(Hgr.out.2 v hv).below S1.out.bel)).mono ?_;rintro e w2 ⟨rfl,hb2⟩;have S2:=hJJ (S1.out.step hb2);clear hb2 S1;generalize hv:(decide ((gs.length:Int)<=4) && gs.all (fun v=>jQ v.data))=b2;have HB2:Hid (jF 4 jQ T.groups=b2):=(by unfold jF;rw [<-Hgd.out,kk,List.all_map];exact hv);clear hv;cases b2
 ·go_wp2;go_ret;exact ⟨j3 (by unfold jZ;simp only [HB1.out,HB2.out,kb,ka,kf,k9]),S2.out.bel⟩
 go_wp2_with fail
 refine (j4x 255 (some ⟨w.heap.size,105,none⟩) 8 T.conflict 8 Lc.out _ (j4c S2.out.blk 105 8 _ C.out.conflict Lc.out (by decide))).mono ?_;rintro e w3 ⟨rfl,rfl⟩;have S3:=S2;generalize hv:jq 255 T.conflict=b3;have HB3:Hid (jq 255 T.conflict=b3):=hv;clear hv;cases b3
 ·go_wp2;go_ret;exact ⟨j3 (by unfold jZ;simp only [HB1.out,HB2.out,HB3.out,kb,ka,kf,k9]),S3.out.bel⟩
 have c113:=S3.out.cell C.out.d;go_wp2_with fail
 refine (j6U 16 h.d.a h.d.cap T.dets _ S3.out.tab.dets).mono ?_;rintro e w4 ⟨rfl,hb4⟩;have S4:=hJJ (S3.out.step hb4);clear hb4 S3;generalize hv:(decide ((T.dets.length:Int)<=16) && T.dets.all Det.may)=b4;have HB4:Hid (jF 16 Det.may T.dets=b4):=hv;clear hv;cases b4
 ·go_wp2;go_ret;exact ⟨j3 (by unfold jZ;simp only [HB1.out,HB2.out,HB3.out,HB4.out,kb,ka,kf,k9]),S4.out.bel⟩
 have c114:=S4.out.cell C.out.r;go_wp2_with fail
 refine (j6V 4 h.r.a h.r.cap T.rails _ S4.out.tab.rails).mono ?_;rintro e w5 ⟨rfl,hb5⟩;have S5:=hJJ (S4.out.step hb5);clear hb5 S4;generalize hv:(decide ((T.rails.length:Int)<=4) && T.rails.all Rl.may)=b5;have HB5:Hid (jF 4 Rl.may T.rails=b5):=hv;clear hv;cases b5
 ·go_wp2;go_ret;exact ⟨j3 (by unfold jZ;simp only [HB1.out,HB2.out,HB3.out,HB4.out,HB5.out,kb,ka,kf,k9]),S5.out.bel⟩
 have c115:=S5.out.cell C.out.b;go_wp2_with fail
 refine (j6W 4 h.b.a h.b.cap T.buses _ S5.out.tab.buses).mono ?_;rintro e w6 ⟨rfl,hb6⟩;have S6:=hJJ (S5.out.step hb6);clear hb6 S5;generalize hv:(decide ((T.buses.length:Int)<=4) && T.buses.all Bs.may)=b6;have HB6:Hid (jF 4 Bs.may T.buses=b6):=hv;clear hv;cases b6
 ·go_wp2;go_ret;exact ⟨j3 (by unfold jZ;simp only [HB1.out,HB2.out,HB3.out,HB4.out,HB5.out,HB6.out,kb,ka,kf,k9]),S6.out.bel⟩
 have c116:=S6.out.cell C.out.extend;have c117:=S6.out.cell C.out.budget;have c118:=S6.out.cell C.out.start;have c119:=S6.out.cell C.out.revert;have c120:=S6.out.cell C.out.least;go_wp2_with fail
 refine (J6 9999 _ _ [T.extend,T.budget,T.start,T.revert,T.least] _ (jg _ _ [T.extend,T.budget,T.start,T.revert,T.least] 5 rfl (by decide) _ rfl)).mono ?_;rintro e w7 ⟨rfl,hw⟩;have hb7:Below w6.heap.size w6 w7:=hw ▸ (k4 _ _).alloc (k5 _) _;clear hw;have S7:=hJJ (S6.out.step hb7);clear hb7 S6;generalize hv:jq 9999 [T.extend,T.budget,T.start,T.revert,T.least]=b7;have HB7:Hid (jq 9999 [T.extend,T.budget,T.start,T.revert,T.least]=b7):=hv;clear hv;cases b7
 ·go_wp2;go_ret;exact ⟨j3 (by unfold jZ;simp only [HB1.out,HB2.out,HB3.out,HB4.out,HB5.out,HB6.out,HB7.out,kb,ka,kf,k9]),S7.out.bel⟩
 go_wp2_with fail
 refine (j4x 2 (some ⟨w.heap.size,121,none⟩) 8 T.flash 8 Lf.out _ (j4c S7.out.blk 121 8 _ C.out.flash Lf.out (by decide))).mono ?_;rintro e w8 ⟨rfl,rfl⟩;have S8:=S7;generalize hv:jq 2 T.flash=b8;have HB8:Hid (jq 2 T.flash=b8):=hv;clear hv;cases b8
 ·go_wp2;go_ret;exact ⟨j3 (by unfold jZ;simp only [HB1.out,HB2.out,HB3.out,HB4.out,HB5.out,HB6.out,HB7.out,HB8.out,kb,ka,kf,k9]),S8.out.bel⟩
 have c129:=S8.out.cell C.out.window;have c130:=S8.out.cell C.out.share;go_wp2_with fail
 refine (J6 2147483647 _ _ [T.window,T.share] _ (jg _ _ [T.window,T.share] 2 rfl (by decide) _ rfl)).mono ?_;rintro e w9 ⟨rfl,hw⟩;have hb9:Below w7.heap.size w7 w9:=hw ▸ (k4 _ _).alloc (k5 _) _;clear hw;have S9:=hJJ (S8.out.step hb9);clear hb9 S8;generalize hv:jq 2147483647 [T.window,T.share]=b9;have HB9:Hid (jq 2147483647 [T.window,T.share]=b9):=hv;clear hv;go_wp2;go_ret;exact ⟨j3 (by unfold jZ;simp only [HB1.out,HB2.out,HB3.out,HB4.out,HB5.out,HB6.out,HB7.out,HB8.out,HB9.out,kb,ka,kf,k9]),S9.out.bel⟩
end May
namespace Cd
open Go Tab
open Put (low jE Jk)
def B8 (l:List Nat):Prop:=∀ x ∈ l,x < 256
theorem B8.app {a b:List Nat} (h:B8 a) (k:B8 b):B8 (a++b):=fun x hx=>(qf.1 hx).elim (h x) (k x)
theorem B8.low (k:Nat) (n:Int):B8 (low k n):=Jk k n
theorem B8.ji (k:Nat) (l:List Int):B8 (ji k l):=jca k l
theorem B8.flat {α:Type} {f:α->List Nat} {l:List α} (h:∀ x,B8 (f x)):B8 (l.flatMap f):=fun x hx=>by
 obtain ⟨y,_,hy⟩:=List.mem_flatMap.1 hx;exact h y x hy
theorem B8.list {α:Type} {f:α->List Nat} {l:List α} (h:∀ x,B8 (f x)):B8 (J5 f l):=(B8.low _ _).app (B8.flat h)
theorem B8.ph (p:Ph):B8 (phB p):=(B8.ji _ _).app ((B8.ji _ _).app (B8.ji _ _))
theorem B8.row (l:List Int):B8 (j0v l):=(B8.low _ _).app (B8.ji _ _)
theorem B8.gr (y:List Int × List Int):B8 (grB y):=(B8.row _).app (B8.row _)
theorem B8.det (d:Det):B8 (JE d):=(B8.low _ _).app ((B8.low _ _).app ((B8.low _ _).app ((B8.low _ _).app ((B8.low _ _).app (B8.ji _ _)))))
theorem B8.rl (r:Rl):B8 (rlB r):=(B8.ji _ _).app ((B8.ji _ _).app (B8.ji _ _))
theorem B8.bs (b:Bs):B8 (bsB b):=(B8.ji _ _).app (B8.ji _ _)
theorem B8.items (T:Tab):B8 (JK T):=(B8.flat B8.ph).app ((B8.list B8.gr).app ((B8.ji _ _).app ((B8.list B8.det).app ((B8.list B8.rl).app ((B8.list B8.bs).app ((B8.ji _ _).app ((B8.ji _ _).app (B8.ji _ _))))))))
theorem B8.body (T:Tab):B8 (J0 T):=B8.app (fun x hx=>by simp at hx;omega) (B8.items T)
structure Few (T:Tab):Prop where
 p:T.phases.length=8
 c:T.conflict.length=8
 f:T.flash.length=8
 g:T.groups.length<=4
 d:T.dets.length<=16
 r:T.rails.length<=4
 b:T.buses.length<=4
 row:∀ y ∈ T.groups,y.1.length<=8/\y.2.length<=8
theorem jar {T:Tab} {w:World} {h:Hd} (ht:jy w h T) (hm:May.jZ T=true):Few T:=by
 unfold May.jZ May.jF at hm;simp only [Ki,decide_eq_true_eq] at hm;obtain ⟨_,⟨h1,h2⟩,_,⟨h3,_⟩,⟨h4,_⟩,⟨h5,_⟩,_⟩:=hm;refine ⟨ht.ph,ht.cf,ht.fl,by omega,by omega,by omega,by omega,fun y hy=>?_⟩;have:=List.all_eq_true.1 h2 y hy;unfold May.jQ May.j02 at this;simp only [Ki,decide_eq_true_eq] at this;exact ⟨this.1.1,this.2.1⟩
theorem Few.jdu {T:Tab} (h:Few T):Po.jds T:=⟨by have:=h.g;omega,by have:=h.d;omega,by have:=h.r;omega,by have:=h.b;omega,h.row⟩
theorem Few.steps {T:Tab} (h:Few T):Po.j3f T<=400:=by unfold Po.j3f;have:=h.g;have:=h.d;have:=h.r;have:=h.b;omega
theorem Few.len {T:Tab} (h:Few T):(J0 T).length<=2046:=by
 have h1:=j1f T.phases (f:=phB) (n:=22) (fun x _=>by rw [j8x];exact k5 _);have h2:=j05 T.groups (f:=grB) (n:=18) (fun y hy=>by unfold grB;rw [k7,j2Q,j2Q];have:=h.row y hy;omega);have h3:=j05 T.dets (f:=JE) (n:=37) (fun x _=>by rw [j6O];exact k5 _);have h4:=j05 T.rails (f:=rlB) (n:=20) (fun x _=>by rw [j8y];exact k5 _);have h5:=j05 T.buses (f:=bsB) (n:=3) (fun x _=>by rw [j8z];exact k5 _);unfold J0 JK;simp only [k7,Jw,K3,kP];have:=h.p;have:=h.c;have:=h.f;have:=h.g;have:=h.d;have:=h.r;have:=h.b;omega
end Cd
namespace Crc
open Zip
open Go.ChangeShapes Go.WideShapes Go.ChangeAt Go.RowKit
open CrcM
theorem jn {k:IntKind} {a b:Int} (h:a=b):K9 (.int k a)=.returned (.int k b):=by rw [h]
theorem j3g (a:Nat):Kd.wrap (a:Int)=((a % 65536:Nat):Int):=by rw [IntKind.wrap_u16];omega
theorem j4y (a:Nat) (h:a < 65536):bits .xor .u16 (a:Int) 4129=((a ^^^ 4129:Nat):Int):=u16_xor_nat a 4129 h (by decide)
theorem jch (c:Nat) (h:c < 65536):bits .and .u16 (c:Int) 32768=if c / 32768 % 2=1 then 32768 else 0:=by
 have h1:=u16_and_nat c 32768 h (by decide);rw [show bits .and .u16 (c:Int) 32768=((c &&& 32768:Nat):Int) from h1]
 have h2:c &&& 32768=if c / 32768 % 2=1 then 32768 else 0:=by
  have h5:c.testBit 15=decide (c / 32768 % 2=1):=Nat.testBit_eq_decide_div_mod_eq;apply Nat.eq_of_testBit_eq;intro i;rw [Nat.testBit_and,show (32768:Nat)=2 ^ 15 from rfl,KX];by_cases hi:15=i
  ·subst hi;rw [h5];by_cases h4:c / 32768 % 2=1
   ·rw [if_pos h4,decide_eq_true h4];decide
   rw [if_neg h4,decide_eq_false h4];decide
  rw [decide_eq_false hi,k9];split
  ·rw [KX,decide_eq_false hi]
  rw [Nat.zero_testBit]
 rw [h2];split <;> rfl
theorem jci (c:Nat) (h:c < 65536) (hc:c / 32768 % 2=1):bits .xor .u16 (Kd.wrap ((c:Int)*2)) 4129=(dbl c:Nat):=by
 rw [show (c:Int)*2=((2*c:Nat):Int) by omega,j3g,j4y _ (q0 _ (by decide))];unfold dbl;rw [if_pos hc]
theorem jas (c:Nat) (h:c < 65536) (hc:¬ c / 32768 % 2=1):Kd.wrap ((c:Int)*2)=(dbl c:Nat):=by
 rw [show (c:Int)*2=((2*c:Nat):Int) by omega,j3g];unfold dbl;rw [if_neg hc,Nat.xor_zero]
theorem j4z (c:Nat) (h:c < 65536) (w:World) :
  Calls Tryz.prog 122 #[.int .u16 (c:Int)] w fun e w'=>e=.returned (.int .u16 (dbl c:Nat))/\w=w':=by
 have hb:=jch c h;by_cases hc:c / 32768 % 2=1
 ·rw [if_pos hc] at hb;have HS:=hJJ (jci c h hc);clear hc;go_enter Tryz.func122,Tryz.ntmps122
  go_wp2;go_ret;exact ⟨jn HS.out,rfl⟩
 rw [if_neg hc] at hb;have HS:=hJJ (jas c h hc);clear hc;go_enter Tryz.func122,Tryz.ntmps122
 go_wp2;go_ret;exact ⟨jn HS.out,rfl⟩
def Row (w:World) (a:Option Addr) (l:List Nat):Prop:=l.length<=maxLen/\(∀ x ∈ l,x < 256)/\(l=[]\/∃ x,a=some x/\∀ i,i < l.length->w.cell? (x.add i)=some (.int .u8 (l.getD i 0:Nat)))
theorem Row.cells {w:World} {a:Option Addr} {l:List Nat} (h:Row w a l) {k:Nat} (hk:k < l.length):∃ x,a=some x/\∀ i,i < l.length->w.cell? (x.add i)=some (.int .u8 (l.getD i 0:Nat)):=by
 rcases h.2.2 with rfl | h
 ·simp at hk
 exact h
theorem Row.below {w w':World} {a:Option Addr} {l:List Nat} (h:Row w a l) (hb:Below w.heap.size w w'):Row w' a l:=by
 refine ⟨h.1,h.2.1,?_⟩;rcases h.2.2 with h | ⟨x,hx,hc⟩
 ·exact .inl h
 exact .inr ⟨x,hx,fun i hi=>(hb.cell (kh w _ (hc i hi))).trans (hc i hi)⟩
theorem Row.lt {w:World} {a:Option Addr} {l:List Nat} (h:Row w a l) (k:Nat) (hk:k < l.length):l.getD k 0 < 256:=by
 rw [K2,kd hk];exact h.2.1 _ (qb hk)
theorem jdS (y m:Nat) (hy:y < 256):Kd.wrap (bits .and .u8 ((y:Int) / 2 ^ (7 - m)) 1)=((y / 2 ^ (7 - m) % 2:Nat):Int):=by
 have h1:((y:Int) / 2 ^ (7 - m))=((y / 2 ^ (7 - m):Nat):Int):=by simp
 have h2:y / 2 ^ (7 - m) < 256:=Nat.lt_of_le_of_lt (Nat.div_le_self _ _) hy;generalize y / 2 ^ (7 - m)=z at h1 h2 |-;have h3:=u8_and_nat z 1 h2 (by decide);rw [h1,show bits .and .u8 (z:Int) 1=((z &&& 1:Nat):Int) from h3,Nat.and_one_is_mod,j3g];omega
theorem jcj (q y b:Nat) (h:q / 32768=b):((q:Int) / 32768 != (b:Int))=false:=by
 rw [bne_eq_false_iff_eq];omega
theorem jck (q y b:Nat) (h:¬ q / 32768=b):((q:Int) / 32768 != (b:Int))=true:=by
 rw [bne_iff_ne];omega
theorem jat (q b:Nat) (h:q < 65536) (hb:q / 32768=b):Kd.wrap ((q:Int)*2)=(JP q b:Nat):=by
 rw [show (q:Int)*2=((2*q:Nat):Int) by omega,j3g];unfold JP;rw [if_neg (by omega)]
theorem jcl (q b:Nat) (h:q < 65536) (hb:¬ q / 32768=b):bits .xor .u16 (Kd.wrap ((q:Int)*2)) 4129=(JP q b:Nat):=by
 rw [show (q:Int)*2=((2*q:Nat):Int) by omega,j3g,j4y _ (q0 _ (by decide))];unfold JP;rw [if_pos (by omega)]
theorem j8E (c:Nat) (hc:c < 65536) (a:Option Addr) (cap:Nat) (l:List Nat) (w:World) (h:Row w a l) :
  Calls Tryz.prog 26 #[.int .u16 (c:Int),.slice a l.length cap] w fun e w'=>e=.returned (.int .u16 (crc c l:Nat))/\w=w':=by
 have h1:=h.1;unfold maxLen at h1;have Hr:=hJJ h;clear h;go_enter Tryz.func26,Tryz.ntmps26
 go_wp2
 go_loop [0,5] (fun t i=>∃ k:Nat,k<=l.length/\i=.int .i64 k/\t=.int .u16 (crc c (l.take k):Nat)) (fun _ i=>l.length - (intOf i).toNat)
 case atStart=>exact ⟨0,kW _,rfl,rfl⟩
 case round =>
  obtain ⟨k,hk,rfl,rfl⟩:=hrel;by_cases hlt:k < l.length
  ·have hs:=CrcM.j5s l k hlt;have hx:=Hr.out.lt k hlt;obtain ⟨x,rfl,hcl⟩:=Hr.out.cells hlt;have hcell:=hcl k hlt;have hd:=j3e c (l.take k) hc
   have HS:Hid (crc c (l.take (k+1))=j0E (crc c (l.take k)) (l.getD k 0) 8):=by
    show _=_;rw [hs,j6N,j7P _ _ hd hx]
   clear hcl hs;generalize crc c (l.take k)=d at hd HS;generalize l.getD k 0=y at hcell hx HS;go_wp2
   go_loop [0,6] (fun t i=>∃ m:Nat,m<=8/\i=.int .i64 (7 - (m:Int))/\t=.int .u16 (j0E d y m:Nat)) (fun _ i=>(1+intOf i).toNat)
   case atStart=>exact ⟨0,kW _,rfl,rfl⟩
   case round =>
    obtain ⟨m,hm,rfl,rfl⟩:=hrel;by_cases hlt:m < 8
    ·have hq:=j4t d y m hd;have hw1:=jdS y m hx;by_cases ht:j0E d y m / 32768=y / 2 ^ (7 - m) % 2
     ·have hT:=jcj _ y _ ht;have HB:=hJJ (jat _ _ hq ht);have HQ:Hid (j0E d y (m+1)=JP (j0E d y m) (y / 2 ^ (7 - m) % 2)):=rfl;rw [<-hw1] at hT;clear ht hw1;generalize j0E d y m=q at hq hT HB HQ;go_wp2
      go_round
      case rel=>exact ⟨m+1,by omega,by go_num,by rw [HQ.out,HB.out]⟩
      case measure=>simp [intOf];omega
     have hT:=jck _ y _ ht;have HB:=hJJ (jcl _ _ hq ht);have HQ:Hid (j0E d y (m+1)=JP (j0E d y m) (y / 2 ^ (7 - m) % 2)):=rfl;rw [<-hw1] at hT;clear ht hw1;generalize j0E d y m=q at hq hT HB HQ;go_wp2
     go_round
     case rel=>exact ⟨m+1,by omega,by go_num,by rw [HQ.out,HB.out]⟩
     case measure=>simp [intOf];omega
    obtain rfl:m=8:=by omega
    go_wp2
    go_round
    case rel=>exact ⟨k+1,by omega,by go_num,by rw [HS.out]⟩
    case measure=>simp [intOf];omega
  go_wp2;go_ret;have:k=l.length:=by omega
  subst this;exact ⟨by rw [ke (k5 _)];rfl,rfl⟩
def cells (k:Nat):Array Value:=((Kw 256).map fun i=>if i < k then .int .u16 (tab i:Nat) else .int .u16 0).toArray
theorem Jl (k:Nat):(cells k).size=256:=by simp [cells]
theorem j0P (k i:Nat) (h:i < 256):(cells k)[i]?=some (if i < k then .int .u16 (tab i:Nat) else .int .u16 0):=by
 unfold cells;rw [kN,KD,List.getElem?_range h];rfl
theorem j4A:qg 256 (.int .u16 0)=cells 0:=by
 apply Kx;intro i;by_cases h:i < 256
 ·rw [j0P 0 i h,Array.getElem?_replicate,if_pos h];rfl
 rw [kX (by simp;omega),kX (by rw [Jl];omega)]
theorem j9k (k:Nat) (h:k < 256):(cells k).setIfInBounds k (.int .u16 (tab k:Nat))=cells (k+1):=by
 apply Kx;intro i;by_cases hi:i < 256
 ·by_cases e:k=i
  ·subst e;rw [Array.getElem?_setIfInBounds_self_of_lt (by rw [Jl];exact h),j0P _ _ h,if_pos (Nat.lt_succ_self _)]
  rw [Array.getElem?_setIfInBounds_ne e,j0P _ _ hi,j0P _ _ hi];by_cases h2:i < k
  ·rw [if_pos h2,if_pos (by omega)]
  rw [if_neg h2,if_neg (by omega)]
 rw [kX (by rw [Array.size_setIfInBounds,Jl];omega),kX (by rw [Jl];omega)]
theorem j7U (k:Nat) (h:k < 256):(cells k)[k / 2]?=some (.int .u16 (tab (k / 2):Nat)):=by
 rw [j0P _ _ (by omega)];by_cases h2:k / 2 < k
 ·rw [if_pos h2]
 have:k=0:=by omega
 subst this;rw [if_neg (by decide)];rw [show 0 / 2=0 from rfl,jam];rfl
theorem j1g (k:Nat):(cells k).all (·.oneCell')=true:=by
 rw [Array.all_eq_true];intro i hi;rw [Jl] at hi;have h1:=j0P k i hi;rw [KC (by rw [Jl];exact hi)] at h1;rw [Ka h1];split <;> rfl
theorem j3H (w:World) (g:Nat) (t:TypeId) (j k:Nat) (hg:w.heap[g]?=some (.cells (cells j) t (0,0))) :
  (storeCells ⟨g,0,none⟩ (cells k).toList 0).run Tryz.prog w=.ok () (w.setRow g (cells k)):=by
 have:=run_storeCells_from (P:=Tryz.prog) g t (cells k).toList 0 (cells j) w hg (by simp [Jl]) (fun v hv=>(Array.all_eq_true_iff_forall_mem.1 (j1g k)) v (by simpa using hv));simpa using this
theorem jau:(Tryz.prog.info? 166).map (fun i=>(i.zero,i.size))=some (some (.agg (qg 256 (.int .u16 0))),256):=by kernel_rfl
theorem j3h (w:World) :
  Calls Tryz.prog 111 #[] w fun e w'=>e=.returned (.agg (cells 256))/\Below w.heap.size w w':=by
 obtain ⟨hz,hi⟩:=qK jau;rw [j4A] at hz;have Hi:=hJJ hi;clear hi;go_enter Tryz.func111,Tryz.ntmps111
 go_wp2_with fail
 go_loopw [3] (fun i wr=>∃ k:Nat,k<=256/\i=.int .i64 k/\wr=(w.alloc (.cells (cells 0) 166)).alloc (.cells (cells k) 166)) (fun i _=>256 - (intOf i).toNat)
 case atStart=>exact ⟨0,by omega,rfl,rfl⟩
 case round =>
  obtain ⟨k,hk,rfl,rfl⟩:=hrel;by_cases hlt:k < 256
  ·have hcell:=j7U k hlt;have hsz:=Jl k;have ht:=j7O (k / 2);have HS:=hJJ (j9k k hlt);have hto:((k:Int) / 2).toNat=k / 2:=by omega
   have hd:=jal (tab (k / 2));by_cases ho:k % 2=1
   ·have hx:bits .xor .u16 (dbl (tab (k / 2)):Nat) 4129=(tab k:Nat):=by rw [j4y _ hd,<-jc7 k hlt ho]
    have ho2:((k:Int) % 2)=1:=by omega
    go_wp2_with (go_at_call 122;refine (j4z _ ht _).mono ?_;rintro e w' ⟨rfl,rfl⟩)
    go_roundw;case rel=>exact ⟨k+1,by omega,by go_num,by rw [HS.out]⟩
    case measure=>simp [intOf];omega
   have hx:dbl (tab (k / 2))=tab k:=(jan k hlt ho).symm;have HX:=hJJ hx;clear hx;have ho2:((k:Int) % 2)=0:=by omega
   go_wp2_with (go_at_call 122;refine (j4z _ ht _).mono ?_;rintro e w' ⟨rfl,rfl⟩;rw [HX.out])
   go_roundw;case rel=>exact ⟨k+1,by omega,by go_num,by rw [HS.out]⟩
   case measure=>simp [intOf];omega
  obtain rfl:k=256:=by omega
  have hu:Tryz.prog.underlying 166=some (.array 256 64):=by kernel_rfl
  have hg1:((w.alloc (.cells (cells 0) 166)).alloc (.cells (cells 256) 166)).heap[w.heap.size+1]?=some (.cells (cells 256) 166 (0,0)):=heap_alloc2_new w _ _;have hg0:((w.alloc (.cells (cells 0) 166)).alloc (.cells (cells 256) 166)).heap[w.heap.size]?=some (.cells (cells 0) 166 (0,0)):=heap_alloc2_old w _ _;have hbel:Below w.heap.size w ((w.alloc (.cells (cells 0) 166)).alloc (.cells (cells 256) 166)):=((k4 _ _).alloc (k5 _) _).alloc (by simp) _;generalize (w.alloc (.cells (cells 0) 166)).alloc (.cells (cells 256) 166)=w2 at hg1 hg0 hbel |-;have hst:=j3H w2 w.heap.size _ 0 256 hg0;have HG:=hJJ (And.intro hg1 hu)
  have HF:Hid (Below w.heap.size w (w2.setRow w.heap.size (cells 256))/\(w2.setRow w.heap.size (cells 256)).heap[w.heap.size]?=some (.cells (cells 256) 166 (0,0))) :=
   ⟨hbel.trans ⟨rfl,rfl,rfl,by simp [World.setRow],fun j hj=>qB _ _ _ _ (by omega)⟩,qA _ _ _ _ _ _ hg0⟩
  generalize w2.setRow w.heap.size (cells 256)=w3 at HF hst;clear hg1 hg0 hu hz hbel;go_wp2_with fail
  refine wp_load_row 166 (.tmp 1) rfl (w.heap.size+1) rfl 166 (cells 256) (0,0) _ HG.out.1 HG.out.2 rfl (by rw [Jl];exact Hi.out) ?_;go_wp2_with fail
  (try simp only [Exit.inBlock,Exit.then])
  refine qT (v:=.agg (cells 256)) ?_ rfl ⟨rfl,HF.out.1⟩;exact qQ rfl _ _ w.heap.size 166 (cells 256) (0,0) _ rfl HF.out.2 HG.out.2 rfl (by rw [Jl];exact Hi.out)
end Crc
namespace CrcA
open Zip
open Go.ChangeShapes Go.WideShapes Go.ChangeAt Go.RowKit
open CrcM Crc
theorem idx (d y:Nat) (hd:d < 65536) (hy:y < 256):bits .xor .u8 ((d:Int) / 256) (y:Int)=((d / 256 ^^^ y:Nat):Int):=by
 rw [show (d:Int) / 256=((d / 256:Nat):Int) by omega];exact u8_xor_nat _ _ (by omega) hy
theorem jdT (d y:Nat) (hd:d < 65536) (hy:y < 256):d / 256 ^^^ y < 256:=Nat.xor_lt_two_pow (n:=8) (by omega) hy
theorem j9l (d y:Nat):bits .xor .u16 (Kd.wrap ((d:Int)*256)) (tab (d / 256 ^^^ y):Nat)=(CrcM.step d y:Nat):=by
 rw [show (d:Int)*256=((256*d:Nat):Int) by omega,j3g];exact u16_xor_nat _ _ (q0 _ (by decide)) (j7O _)
theorem jcm (c:Nat) (hc:c < 65536) (a:Option Addr) (cap:Nat) (l:List Nat) (w:World) (h:Row w a l) :
  Calls Tryz.prog 90 #[.int .u16 (c:Int),.slice a l.length cap] w fun e w'=>e=.returned (.int .u16 (crc c l:Nat))/\Below w.heap.size w w':=by
 have h1:=h.1;unfold maxLen at h1;obtain ⟨hz,hi⟩:=qK jau;rw [j4A] at hz;have Hr:=hJJ h;have Hi:=hJJ hi;clear h hi;go_enter Tryz.func90,Tryz.ntmps90
 go_wp2_with fail
 refine (j3h _).mono ?_;rintro e w1 ⟨rfl,hb1⟩;have hb2:Below w.heap.size w (w1.alloc (.cells (cells 256) 166)):=hb1.alloc hb1.size _
 have hst:(storeCells ⟨w1.heap.size,0,none⟩ (cells 256).toList 0).run Tryz.prog (w1.alloc (.cells (cells 0) 166))=.ok () (w1.alloc (.cells (cells 256) 166)):=by
  rw [j3H _ _ _ 0 256 (heap_alloc_last w1 _),World.setRow_alloc_new]
 have ht:∀ j:Nat,j < 256->(w1.alloc (.cells (cells 256) 166)).cell? ⟨w1.heap.size,j,none⟩=some (.int .u16 (tab j:Nat)):=fun j hj=>by
  rw [World.cell?_alloc_at _ _ _ _ rfl,j0P _ _ hj,if_pos hj]
 have Ht:=hJJ ht;clear ht;go_wp2_with fail
 have Hr2:=hJJ (Hr.out.below hb2);have Hb2:=hJJ hb2;generalize w1.alloc (.cells (cells 256) 166)=w2 at Ht Hr2 Hb2 |-;clear Hr hst hb2
 go_loop [0,11] (fun t i=>∃ k:Nat,k<=l.length/\i=.int .i64 k/\t=.int .u16 (crc c (l.take k):Nat)) (fun _ i=>l.length - (intOf i).toNat)
 case atStart=>exact ⟨0,kW _,rfl,rfl⟩
 case round =>
  obtain ⟨k,hk,rfl,rfl⟩:=hrel;by_cases hlt:k < l.length
  ·have hs:=CrcM.j5s l k hlt;have hx:=Hr2.out.lt k hlt;obtain ⟨x,rfl,hcl⟩:=Hr2.out.cells hlt;have hcell:=hcl k hlt;have hd:=j3e c (l.take k) hc
   have HS:Hid (crc c (l.take (k+1))=CrcM.step (crc c (l.take k)) (l.getD k 0)):=by
    show _=_;rw [hs,j6N]
   clear hcl hs;generalize crc c (l.take k)=d at hd HS;generalize l.getD k 0=y at hcell hx HS;have hj:=idx d y hd hx;have hjl:=jdT d y hd hx;have hst:=j9l d y;have htc:=Ht.out _ hjl;rw [<-HS.out] at hst;clear HS;generalize d / 256 ^^^ y=j at hj hjl hst htc;have hjn:(j:Int).toNat=j:=kD j;have hj2:(j:Int) < 256:=by omega
   go_wp2
   go_round
   case rel=>exact ⟨k+1,by omega,by go_num,rfl⟩
   case measure=>simp [intOf];omega
  go_wp2;go_ret;have:k=l.length:=by omega
  subst this;exact ⟨by rw [ke (k5 _)];rfl,Hb2.out⟩
theorem j64 (a:Option Addr) (cap:Nat) (l:List Nat) (w:World) (h:Row w a l) :
  Calls Tryz.prog 44 #[.slice a l.length cap] w fun e w'=>e=.returned (.int .u16 (crc 65535 l:Nat))/\Below w.heap.size w w':=by
 have Hr:=hJJ h;clear h;go_enter Tryz.func44,Tryz.ntmps44
 go_wp2_with fail
 refine (jcm 65535 (by decide) _ _ l _ Hr.out).mono ?_;rintro e w1 ⟨rfl,hb⟩;go_wp2;go_ret;exact ⟨rfl,hb⟩
end CrcA
namespace May
open Go.ChangeShapes Go.WideShapes Go.ChangeAt Go.RowKit
open Tab
theorem jK:(Tryz.prog.info? 33).map (·.size)=some 131:=by kernel_rfl
end May
namespace Po
open Zip
open Go Go.RowKit Go.ChangeShapes
open Tab
open Put (low lim)
open Go.Proofs.YtonpphjleapafaaGreat.B (Own jY)
theorem j6X {B B':Nat} {w:World} {v:Value} {l:List Nat} (h:Own B' w v l) (hb:B<=B'):Own B w v l:=by
 refine ⟨h.1,?_⟩;rcases h.2 with h0 | ⟨g,cap,cur,h1,h2,h3⟩
 ·exact .inl h0
 exact .inr ⟨g,cap,cur,h1,by omega,h3⟩
theorem jav:low (lim 3 8) 5784065=[88,66,1]:=by decide +kernel
end Po
namespace Po
open Zip
open Go Go.RowKit Go.ChangeShapes
open Tab
open Put (low lim)
open Go.Proofs.YtonpphjleapafaaGreat.B (Own jY)
theorem j6Y {T:Tab} {hd:Hd} {w:World} (ht:jy w hd T) (hm:May.jZ T=true) :
  Calls Tryz.prog 13 #[.agg (T.cells hd).toArray] w fun e w'=>∃ v,e=.returned (.tuple #[v,I 0])/\Own w.heap.size w' v (Cd.jP (Cd.J0 T))/\Below w.heap.size w w':=by
 have hmf:∀ (fn:Fn) (first cap:Array Value) (w:World),(kx fn first cap).run Tryz.prog w=.ok (.func fn first cap) w:=fun _ _ _ _=>rfl;have few:=Cd.jar ht hm;have PS:Hid (∀ (V0:World) (wb tb k:Nat) (l:List Nat) (W:World),Wp w V0 wb tb (T.cells hd).toArray l (k+j3f T) W->w.heap.size<=tb->Calls Tryz.prog 20 #[wif wb,.pointer (some ⟨tb,0,none⟩)] W fun e W'=>e=.returned (.tuple #[])/\Wp w V0 wb tb (T.cells hd).toArray (l++Cd.JK T) k W'):=hJJ (fun V0 wb tb k l W h htb=>jeS ht few.jdu h htb);have LN:=hJJ few.len;have ST:=hJJ few.steps;have B8:Hid (∀ x ∈ Cd.J0 T,x < 256):=hJJ (Cd.B8.body T);have BD:Hid ([88,66,1]++Cd.JK T=Cd.J0 T):=hJJ rfl;clear few;have C:=j9 ht;have IA:Hid ((Tryz.prog.info? 33).map (·.size)=some (T.cells hd).length):=hJJ (by have:=C.size;rw [kQ] at this;rw [this];exact May.jK);have MY0:Hid (∀ W,Below w.heap.size w W->Calls Tryz.prog 42 #[.agg (T.cells hd).toArray] W fun e w'=>e=.returned (.bool true)/\Below W.heap.size W w'):=hJJ (fun W hb=>by rw [<-hm];exact May.j8D T hd W (ht.below hb));generalize hcc:T.cells hd=c at IA MY0 |-;have h0:=(k4 w.heap.size w).alloc (k5 _) (.cells c.toArray 33);have h1:=h0.alloc h0.size (.cells #[I 0] 34);have hg0:=qx w (.cells c.toArray 33);have hg1:=qx (w.alloc (.cells c.toArray 33)) (.cells #[I 0] 34);have hs0:(w.alloc (.cells c.toArray 33)).heap.size=w.heap.size+1:=by simp
 have hg2:((w.alloc (.cells c.toArray 33)).alloc (.cells #[I 0] 34)).heap[w.heap.size]?=some (.cells c.toArray 33 (0,0)):=by
  rw [Kj _ _ _ (by rw [hs0];omega)];exact hg0
 rw [hs0] at hg1
 go_enter_defers Tryz.func13,Tryz.ntmps13
 go_upto_region 2 with fail
 generalize kr (kr w _) _=v at h1 hg1 hg2 |-;have MY:Hid (∀ W,Below v.heap.size v W->Calls Tryz.prog 42 #[.agg c.toArray] W fun e w'=>e=.returned (.bool true)/\Below W.heap.size W w'):=hJJ (fun W hb=>MY0.out W (h1.trans (hb.mono h1.size)));have HB0:=hJJ h1;have HE:=hJJ hg1;have HTB:=hJJ hg2;have GE:Hid (w.heap.size<=w.heap.size+1):=hJJ (by omega);generalize hge:w.heap.size+1=ge at HE GE |-;generalize hgt:w.heap.size=gt at HE HTB GE hge |-;have HGT:=hJJ hgt;clear h0 h1 hg0 hg1 hg2 hs0 hge hgt MY0;obtain ⟨body,hbody⟩:∃ x,x=Cd.J0 T:=⟨_,rfl⟩;rw [<-hbody] at LN B8 BD;have HBODY:=hJJ hbody;clear hbody;generalize Cd.JK T=items at PS BD;generalize j3f T=st at PS ST;rw [hcc] at PS;go_wp2_with (refine lgZ 33 ⟨gt,0,none⟩ c rfl (by have:=Row.j1 HTB.out;simpa using this) Tryz.underlying33 IA.out ?_)
 refine (MY.out v (k4 _ _)).mono ?_;rintro e v1 ⟨rfl,hb⟩;have HB1:=hJJ hb;clear hb;go_wp2_with fail
 refine (Put.j49 none 0 [] 3 5784065 v1 (Go.Proofs.YtonpphjleapafaaGreat.B.j48 _ _ _ rfl) (by simp)).mono ?_;rintro e v2 ⟨pv,rfl,hown,hb2⟩;rw [qh,jav] at hown;obtain ⟨pa,pn,pc,rfl⟩:∃ a n c,pv=.slice a n c:=by rcases hown.2 with ⟨rfl,_⟩ | ⟨g,cap,cur,rfl,_⟩ <;> exact ⟨_,_,_,rfl⟩
 go_upto_region 5 with fail
 have hb12:=HB1.out.trans (hb2.mono HB1.out.size);have hb3:Below v2.heap.size v2 (v2.alloc (.cells #[.slice pa pn pc] 92)):=(k4 _ _).alloc (k5 _) _;have hn3:=qx v2 (.cells #[.slice pa pn pc] 92)
 have hw:Wp w (v2.alloc (.cells #[.slice pa pn pc] 92)) v2.heap.size gt c.toArray [88,66,1] (0+st) (v2.alloc (.cells #[.slice pa pn pc] 92)):=by
  have hv:w.heap.size<=v.heap.size:=HB0.out.size;have hv1:=HB1.out.size;have hv2:=hb2.size;refine ⟨⟨by have:=ST.out;simp only [K3,kP];omega,by omega,.slice pa pn pc,hn3,?_⟩,HB0.out.trans ((hb12.trans (hb3.mono (by omega))).mono hv),?_,fun _ _ _ _ hj _=>hj⟩
  ·exact j6X (Go.Proofs.YtonpphjleapafaaGreat.B.jA hown hb3) (by omega)
  have h5:=HTB.out;have h6:=(hb12.block gt (k3.1 h5).1).trans h5;exact (hb3.block gt (k3.1 h6).1).trans h6
 have he3:(v2.alloc (.cells #[.slice pa pn pc] 92)).heap[ge]?=some (.cells #[I 0] 34 (0,0)):=by
  have h5:=HE.out;have h6:=(hb12.block ge (k3.1 h5).1).trans h5;exact (hb3.block ge (k3.1 h6).1).trans h6
 generalize v2.alloc (.cells #[.slice pa pn pc] 92)=v3 at hw he3 |-;generalize v2.heap.size=wb at hw |-;have HE3:=hJJ he3;have hcall:=hJJ (PS.out v3 wb gt 0 _ v3 hw (by have:=HGT.out;omega));clear hown hb2 hb12 hb3 hn3 hw he3 HB1 PS;go_wp2_with fail
 refine hcall.out.mono ?_;rintro e v4 ⟨rfl,h4⟩;rw [BD.out] at h4;obtain ⟨val,hval,hown⟩:=h4.st.2.2;obtain ⟨a,cap,rfl,hrow⟩:=jY hown B8.out;have HW:=hJJ hval;have HR:=hJJ hrow;have HL:=hJJ h4.low;have HE4:Hid (v4.heap[ge]?=some (.cells #[I 0] 34 (0,0))):=hJJ (h4.Ju ge _ _ _ HE3.out (by decide));clear hcall h4 hown hval hrow;obtain ⟨cr,hcr⟩:∃ n:Nat,CrcM.crc 65535 body=n:=⟨_,rfl⟩;have hcr2:cr < 65536:=by rw [<-hcr];exact CrcM.j3e _ _ (by decide)
 have SL:Hid (Cd.jP body=body++low 2 (cr:Int)):=hJJ (by unfold Cd.jP;rw [hcr]);have CR:Hid (∀ W,Below v4.heap.size v4 W->Calls Tryz.prog 44 #[.slice a body.length cap] W fun e w'=>e=.returned (.int .u16 (cr:Int))/\Below W.heap.size W w'):=hJJ (fun W hb=>by rw [<-hcr];exact CrcA.j64 a cap body W (HR.out.below hb));have PU:Hid (∀ W,Below v4.heap.size v4 W->Calls Tryz.prog 43 #[.slice a body.length cap,.int .i64 2,.int .i64 (cr:Int)] W fun e w'=>∃ v,e=.returned v/\Own W.heap.size w' v (Cd.jP body)/\Below W.heap.size W w'):=hJJ (fun W hb=>by rw [SL.out];exact Put.j49 a cap body 2 cr W (HR.out.below hb) (by have:=LN.out;omega));obtain ⟨res,hres⟩:∃ x,x=Cd.jP body:=⟨_,rfl⟩;rw [<-hres] at PU;have RS:Hid (res=Cd.jP (Cd.J0 T)):=hJJ (by rw [hres,HBODY.out]);clear hres;generalize body.length=bl at HW CR PU;have ew:wrap64 (cr:Int)=cr:=IntWalk.wrap64_in _ (by omega);have ew2:KR.wrap (cr:Int)=cr:=by rw [Kk];omega
 have q1:∀ p:QB.By v4.heap.size v4,p.world.cell? ⟨wb,0,none⟩=some (.slice a bl cap):=fun p=>by rw [qy _ _ _ _ _ _ ((p.below.block wb (k3.1 HW.out).1).trans HW.out)];rfl
 clear hcr;go_upto_region 6 with fail
 refine wp_region_noPanic ?_;refine QT.j0q v4.heap.size 10 (by kernel_rfl) (by kernel_rfl) (by kernel_rfl) (by kernel_rfl) (v:=.pointer (some ⟨wb,0,none⟩)) (fun _ _ _ h=>h) (Or.inl ⟨by rfl,fun w'=>by go_simp;try rfl⟩) ?_;dsimp only [qv];simp only [kt,Ky,Kz,KY,KS,Kq,kV]
 repeat (quiet_step (first
  | (go_at_call 44;with_reducible exact QB.j8q (k5 _) (fun b=>CR.out _ b))))
 refine qH ?_;intro _ hw';obtain ⟨p,rfl⟩:=hw';have HP:=hJJ p.below;clear q1;generalize p.world=v5 at HP |-
 (try simp only [Kq,kV])
 go_wp2_with fail
 refine (PU.out v5 HP.out).mono ?_;rintro e v6 ⟨rv,rfl,hown,hb⟩
 have h6:v6.heap[ge]?=some (.cells #[I 0] 34 (0,0)):=by
  have h5:=(HP.out.block ge (k3.1 HE4.out).1).trans HE4.out;exact (hb.block ge (k3.1 h5).1).trans h5
 have c6:v6.cell? ⟨ge,0,none⟩=some (I 0):=by rw [qy _ _ _ _ _ _ h6];rfl
 have f6:v6.frozen? ⟨ge,0,none⟩=false:=qC _ _ _ _ _ h6;have hst:=qz v6 ge 0 #[I 0] 34 (0,0) (I 0) h6;have HO:=hJJ hown;have H6:=hJJ h6
 have HB6:Hid (Below w.heap.size w v6):=hJJ (by
  have:=HP.out.trans (hb.mono HP.out.size);exact HL.out.trans (this.mono HL.out.size))
 have HSZ:Hid (v4.heap.size<=v5.heap.size):=hJJ HP.out.size;clear hown hb h6;go_wp2_with fail
 refine NoPanic.normal ?_;try rw [hst]
 go_wp2_with fail
 have hc:=qA v6 ge #[I 0] #[I 0] _ _ H6.out;have hB:=below_setRow HB6.out (show w.heap.size<=ge by have:=GE.out;have:=HGT.out;omega) #[I 0]
 have hO:Own v5.heap.size (v6.setRow ge #[I 0]) rv res:=by
  refine ⟨HO.out.1,?_⟩;rcases HO.out.2 with h0 | ⟨g,cp,cur,h1,h2,h3,h4⟩
  ·exact .inl h0
  refine .inr ⟨g,cp,cur,h1,h2,?_,h4⟩;rw [qB _ _ _ _ (fun e=>by subst e;rw [H6.out] at h3;cases h3)];exact h3
 generalize v6.setRow ge #[I 0]=v7 at hc hB hO |-;refine qD (f:=41) (args:=#[.pointer (some ⟨ge,0,none⟩)]) (by simp) (by simp [go_sem]) ?_;refine (jap ge 0 v7 hc).mono ?_;rintro e u' w'' ⟨rfl,rfl,w1,hb1,rfl⟩;have hc2:=qA w1 ge #[I 0] #[I 0] _ _ ((hb1.block ge (k3.1 hc).1).trans hc);have hBB:=below_setRow (hB.trans (hb1.mono hB.size)) (show w.heap.size<=ge by have:=GE.out;have:=HGT.out;omega) #[I 0];have hcell:(w1.setRow ge #[I 0]).cell? ⟨ge,0,none⟩=some (I 0):=by rw [qy _ _ _ _ _ _ hc2];rfl
 have hO2:Own w.heap.size (w1.setRow ge #[I 0]) rv res:=by
  have h0:=Go.Proofs.YtonpphjleapafaaGreat.B.jA (j6X hO (show w.heap.size<=v5.heap.size from k8 HL.out.size HSZ.out)) hb1;refine ⟨h0.1,?_⟩;rcases h0.2 with h0 | ⟨g,cp,cur,h1,h2,h3,h4⟩
  ·exact .inl h0
  refine .inr ⟨g,cp,cur,h1,h2,?_,h4⟩;rw [qB _ _ _ _ (fun e=>by rw [e,(hb1.block ge (k3.1 hc).1).trans hc] at h3;cases h3)];exact h3
 simp [Leaves,settle,results,Tryz.results13,go_sem,hcell];rw [RS.out] at hO2;exact ⟨hO2,hBB⟩
end Po
namespace Rd
open Zip
open Go.ChangeShapes Go.WideShapes Go.ChangeAt Go.RowKit
open B Put
structure But (g:Nat) (w w':World):Prop where
 os:w'.os=w.os
 tape:w'.tape=w.tape
 output:w'.output=w.output
 size:w.heap.size<=w'.heap.size
 block:∀ k,k < w.heap.size->k ≠ g->w'.heap[k]?=w.heap[k]?
 shape:∀ k,k < w.heap.size->w'.shape? k=w.shape? k
theorem But.refl (g:Nat) (w:World):But g w w:=⟨rfl,rfl,rfl,k5 _,fun _ _ _=>rfl,fun _ _=>rfl⟩
theorem j9m (g i:Nat) (w:World) (v:Value) (k:Nat) (hk:k < w.heap.size):(w.setCell ⟨g,i,none⟩ v).shape? k=w.shape? k:=by
 by_cases hg:k=g
 ·subst hg;unfold KJ qn;simp only [Array.getElem?_modify,if_true];cases h:w.heap[k]? with
  | none=>rfl
  | some o=>cases o <;> simp
 unfold KJ;rw [q3 _ _ _ _ hg]
theorem But.trans {g:Nat} {a b c:World} (h:But g a b) (k:But g b c):But g a c :=
 ⟨k.os.trans h.os,k.tape.trans h.tape,k.output.trans h.output,k8 h.size k.size,fun i hi hg=>(k.block i (ku hi h.size) hg).trans (h.block i hi hg),fun i hi=>(k.shape i (ku hi h.size)).trans (h.shape i hi)⟩
theorem But.of {g:Nat} {w w':World} (h:Below w.heap.size w w'):But g w w':=⟨h.os,h.tape,h.output,h.size,fun k hk _=>h.block k hk,fun k hk=>by unfold KJ;rw [h.block k hk]⟩
theorem But.below {g B:Nat} {w w':World} (h:But g w w') (hB:B<=w.heap.size) (hg:B<=g):Below B w w':=⟨h.os,h.tape,h.output,h.size,fun k hk=>h.block k (by omega) (by omega)⟩
theorem But.set (g i:Nat) (w:World) (v:Value):But g w (w.setCell ⟨g,i,none⟩ v) :=
 ⟨rfl,rfl,rfl,by simp [qn],fun k _ hk=>q3 _ _ _ _ hk,fun k hk=>j9m g i w v k hk⟩
theorem But.cell {g:Nat} {w w':World} (h:But g w w') {p:Addr} (hp:p.block < w.heap.size) (hg:p.block ≠ g):w'.cell? p=w.cell? p:=World.cell?_of_block (w:=w) (h.block p.block hp hg)
theorem But.row {g:Nat} {w w':World} (h:But g w w') {ad:Option Addr} {l:List Nat} (hr:Row w ad l) (hg:l ≠ []->∀ x,ad=some x->x.block ≠ g):Row w' ad l:=by
 refine ⟨hr.1,hr.2.1,?_⟩;by_cases hl:l=[]
 ·exact .inl hl
 replace hg:=hg hl;rcases hr.2.2 with h1 | ⟨x,hx,hc⟩
 ·exact .inl h1
 refine .inr ⟨x,hx,fun i hi=>?_⟩;have hlt:=kh w _ (hc i hi);refine (h.cell hlt ?_).trans (hc i hi);have:=hg x hx;unfold Addr.add;split <;> exact this
structure Rd (w:World) (g:Nat) (ad:Option Addr) (cap:Nat) (l:List Nat) (k:Nat) (code fat:Int):Prop where
 lt:g < w.heap.size
 row:Row w ad l
 off:l ≠ []->∀ x,ad=some x->x.block ≠ g
 c0:w.cell? ⟨g,0,none⟩=some (.slice ad l.length cap)
 c1:w.cell? ⟨g,1,none⟩=some (.int .i64 k)
 c2:w.cell? ⟨g,2,none⟩=some (.int .i64 code)
 c3:w.cell? ⟨g,3,none⟩=some (.int .i64 fat)
 fz:∀ i,w.frozen? ⟨g,i,none⟩=false
 cap_le:l.length<=cap
theorem Rd.but {w w':World} {g g':Nat} {ad:Option Addr} {cap:Nat} {l:List Nat} {k:Nat} {code fat:Int} (h:Rd w g ad cap l k code fat) (hb:But g' w w') (hg:g ≠ g') (hx:l ≠ []->∀ x,ad=some x->x.block ≠ g'):Rd w' g ad cap l k code fat :=
 ⟨ku h.lt hb.size,hb.row h.row hx,h.off,(hb.cell h.lt hg).trans h.c0,(hb.cell h.lt hg).trans h.c1,(hb.cell h.lt hg).trans h.c2,(hb.cell h.lt hg).trans h.c3,
  fun i=>(World.frozen?_of_block (w:=w) (hb.block g h.lt hg)).trans (h.fz i),h.cap_le⟩
theorem Rd.below {w w':World} {g:Nat} {ad:Option Addr} {cap:Nat} {l:List Nat} {k:Nat} {code fat:Int} (h:Rd w g ad cap l k code fat) (hb:Below w.heap.size w w'):Rd w' g ad cap l k code fat :=
 ⟨ku h.lt hb.size,h.row.below hb,h.off,(hb.cell h.lt).trans h.c0,(hb.cell h.lt).trans h.c1,(hb.cell h.lt).trans h.c2,(hb.cell h.lt).trans h.c3,
  fun i=>(hb.frozen (p:=⟨g,i,none⟩) h.lt).trans (h.fz i),h.cap_le⟩
theorem j5w (ad:Option Addr) (cap:Nat) (l:List Nat) (w:World) (hr:Row w ad l) (hl:l.length<=10000) (hnil:ad=none->cap=0) :
  Calls Tryz.prog 45 #[.slice ad l.length cap] w fun e w'=>∃ v,e=.returned v/\Own w.heap.size w' v l/\Below w.heap.size w w':=by
 have Hr:=hJJ hr;clear hr;cases ad with
 | none =>
  have h0:=hnil rfl;subst h0
  have hl0:l=[]:=by
   rcases Hr.out.2.2 with h | ⟨x,hx,_⟩
   ·exact h
   cases hx
  subst hl0;have he:∀ w:World,(binOp .eql 22 (.slice none 0 0) (.slice none 0 0)).run Tryz.prog w=.ok (.bool true) w:=fun _=>rfl;go_enter Tryz.func45,Tryz.ntmps45
  go_wp2;go_ret;exact ⟨_,rfl,j47 _ _,k4 _ _⟩
 | some x =>
  clear hnil;have he:∀ (w:World) (n:Nat),(binOp .eql 22 (.slice (some x) n cap) (.slice none 0 0)).run Tryz.prog w=.ok (.bool false) w:=fun _ _=>rfl;go_enter Tryz.func45,Tryz.ntmps45
  have hown:Own w.heap.size (w.alloc (.cells #[] 5)) (.slice (some ⟨w.heap.size,0,none⟩) 0 0) [] :=
   ⟨rfl,.inr ⟨w.heap.size,0,#[],rfl,k5 _,qx w _,k5 _,by unfold maxLen;omega,rfl,rfl⟩⟩
  have Hown:=hJJ hown;clear hown;go_wp2_with (at_builtin;refine j0W rfl _ _ rfl w.heap.size _ [] rfl Hown.out x cap l rfl (Hr.out.below ((k4 _ _).alloc (k5 _) _)) ?hB ?len ?_)
  case hB=>simp
  case len=>simp;omega
  intro v w' hown' hb;have hgo:Below w.heap.size w w':=((k4 _ _).alloc (k5 _) _).trans hb;have Hown':=hJJ hown';clear hown';go_wp2;go_ret;exact ⟨_,rfl,Hown'.out,hgo⟩
theorem jcn (ad:Option Addr) (cap:Nat) (l:List Nat) (w:World) (hr:Row w ad l) (hl:l.length<=10000) (hnil:ad=none->cap=0) :
  Calls Tryz.prog 18 #[.slice ad l.length cap] w fun e w'=>∃ g ad' cap',e=.returned (.pointer (some ⟨g,0,none⟩))/\w.heap.size<=g/\(∀ x,ad'=some x->w.heap.size<=x.block/\x.block < g)/\Rd w' g ad' cap' l 0 0 0/\Below w.heap.size w w':=by
 have Hr:=hJJ hr;clear hr;go_enter Tryz.func18,Tryz.ntmps18
 go_wp2_with fail
 refine (j5w ad cap l _ Hr.out hl hnil).mono ?_;rintro e w1 ⟨v,rfl,hown,hbel⟩;obtain ⟨a1,cap1,rfl,hr1⟩:=jY hown Hr.out.2.1;have Hown:=hJJ hown;have Hr1:=hJJ hr1;clear hown hr1 hnil;go_wp2;go_ret;refine ⟨w1.heap.size,a1,cap1,rfl,hbel.size,?_,?_,hbel.alloc hbel.size _⟩
 ·intro x hx;subst hx;exact Hown.out.lt x.block rfl
 refine ⟨by simp,Hr1.out.below ((k4 _ _).alloc (k5 _) _),fun _ x hx e=>?_,by simp,by simp,by simp,by simp,fun i=>by unfold qo;rw [qx];simp,?_⟩
 ·subst hx;have:=(Hown.out.lt x.block rfl).2;omega
 have h:=Hown.out;rcases h.2 with ⟨h1,h2⟩ | ⟨g',c',cur,h1,h2,h3,h4,h5⟩
 ·omega
 cases h1;exact h4
theorem jco (ad:Option Addr) (cap:Nat) (l:List Nat) (w:World) (hr:Row w ad l) (hl:l.length<=10000) (hnil:ad=none->cap=0) :
  Calls Tryz.prog 18 #[.slice ad l.length cap] w fun e w'=>∃ g ad' cap',e=.returned (.pointer (some ⟨g,0,none⟩))/\w.heap.size<=g/\(∀ x,ad'=some x->w.heap.size<=x.block/\x.block < g)/\Rd w' g ad' cap' l 0 0 0/\Own w.heap.size w' (.slice ad' l.length cap') l/\w'.shape? g=some (95,4)/\Below w.heap.size w w':=by
 have Hr:=hJJ hr;clear hr;go_enter Tryz.func18,Tryz.ntmps18
 go_wp2_with fail
 refine (j5w ad cap l _ Hr.out hl hnil).mono ?_;rintro e w1 ⟨v,rfl,hown,hbel⟩;obtain ⟨a1,cap1,rfl,hr1⟩:=jY hown Hr.out.2.1;have Hown:=hJJ hown;have Hr1:=hJJ hr1;clear hown hr1 hnil;go_wp2;go_ret;refine ⟨w1.heap.size,a1,cap1,rfl,hbel.size,?_,?_,jA Hown.out ((k4 _ _).alloc (k5 _) _),by unfold KJ;rw [qx];rfl,hbel.alloc hbel.size _⟩
 ·intro x hx;subst hx;exact Hown.out.lt x.block rfl
 refine ⟨by simp,Hr1.out.below ((k4 _ _).alloc (k5 _) _),fun _ x hx e=>?_,by simp,by simp,by simp,by simp,fun i=>by unfold qo;rw [qx];simp,?_⟩
 ·subst hx;have:=(Hown.out.lt x.block rfl).2;omega
 have h:=Hown.out;rcases h.2 with ⟨h1,h2⟩ | ⟨g',c',cur,h1,h2,h3,h4,h5⟩
 ·omega
 cases h1;exact h4
theorem j2U (g:Nat) (ad:Option Addr) (cap:Nat) (l:List Nat) (k:Nat) (code fat:Int) (w:World) (h:Rd w g ad cap l k code fat) (hl:l.length<=10000) (hk:k<=l.length) :
  Calls Tryz.prog 60 #[.pointer (some ⟨g,0,none⟩)] w fun e w'=>e=.returned (.int .i64 (l.length - k:Int))/\∃ n,w'=w.drewN n:=by
 have h0:=h.c0;have h1:=h.c1;clear h;go_enter Tryz.func60,Tryz.ntmps60
 go_wp2
 go_quiet (fail)
 go_wp2;go_ret;exact ⟨rfl,_,rfl⟩
theorem j4B (g:Nat) (ad:Option Addr) (cap:Nat) (l:List Nat) (k:Nat) (code fat:Int) (w:World) (h:Rd w g ad cap l k code fat) :
  Calls Tryz.prog 59 #[.pointer (some ⟨g,0,none⟩)] w fun e w'=>e=.returned (.int .i64 k)/\w=w':=by
 have h1:=h.c1;clear h;go_enter Tryz.func59,Tryz.ntmps59
 go_wp2;go_ret;exact ⟨rfl,rfl⟩
theorem j5x (g:Nat) (ad:Option Addr) (cap:Nat) (l:List Nat) (k:Nat) (code fat:Int) (w:World) (h:Rd w g ad cap l k code fat) :
  Calls Tryz.prog 126 #[.pointer (some ⟨g,0,none⟩)] w fun e w'=>e=.returned (.agg #[.int .i64 code,.int .i64 fat])/\Below w.heap.size w w':=by
 have h2:=h.c2;have h3:=h.c3;have hg:=h.lt;clear h;go_enter Tryz.func126,Tryz.ntmps126
 go_wp2;refine qT (v:=.agg #[.int .i64 code,.int .i64 fat]) ?_ rfl ⟨rfl,(k4 _ _).alloc (k5 _) _⟩;exact qQ rfl _ _ w.heap.size 36 #[.int .i64 code,.int .i64 fat] (0,0) _ rfl (qx w _) Tryz.underlying36 rfl (by kernel_rfl)
end Rd
namespace Nx
open Zip
open Go.ChangeShapes Go.WideShapes Go.ChangeAt Go.RowKit
open B Put Rd
def be (l:List Nat):Nat:=l.foldl (fun a x=>256*a+x) 0
theorem jcp (l:List Nat) (x:Nat):be (l++[x])=256*be l+x:=by unfold be;rw [List.foldl_append];rfl
theorem j11 (l:List Nat) (x:Nat):be (x :: l)=x*256 ^ l.length+be l:=by
 have h:∀ (m:List Nat) (a:Nat),m.foldl (fun a x=>256*a+x) a=a*256 ^ m.length+m.foldl (fun a x=>256*a+x) 0:=by
  intro m
  induction m with
  | nil=>intro a;simp
  | cons y m ih =>
   intro a;rw [KN,KN,ih (256*a+y),ih (256*0+y),K3,qr];rw [Nat.mul_zero,kp,kR,KI 256 a,Nat.mul_assoc a 256,KI 256 (256 ^ m.length)];omega
 unfold be;rw [KN,h l];simp
theorem jeV (l:List Nat) (h:∀ x ∈ l,x < 256):be l < 256 ^ l.length:=by
 induction l with
 | nil=>decide
 | cons x l ih =>
  rw [j11,K3,qr];have h1:=ih fun y hy=>h y (List.mem_cons_of_mem _ hy);have h2:=h x (List.mem_cons_self ..);have h3:x*256 ^ l.length<=255*256 ^ l.length:=Nat.mul_le_mul_right _ (by omega);omega
def val (l:List Nat) (k s:Nat):Nat:=be ((l.drop k).take s)
theorem val_succ (l:List Nat) (k s:Nat) (h:k+s < l.length):val l k (s+1)=256*val l k s+l.getD (k+s) 0:=by
 unfold val;rw [List.take_succ_eq_append_getElem (by rw [List.length_drop];omega),jcp,List.getElem_drop];rw [K2,kd (by omega),Option.getD_some]
theorem val_lt (l:List Nat) (k s:Nat) (h:∀ x ∈ l,x < 256):val l k s < 256 ^ s:=by
 have h1:=jeV ((l.drop k).take s) fun x hx=>h x (List.mem_of_mem_drop (kS hx));refine ku h1 (KT (by decide) ?_);rw [K4];omega
theorem jcq (v y:Nat) (hv:v < 72057594037927936) (hy:y < 256):bits .or .u64 (qd.wrap ((v:Int)*256)) (y:Int)=((256*v+y:Nat):Int):=by
 have h1:qd.wrap ((v:Int)*256)=((256*v:Nat):Int):=by rw [IntKind.wrap_u64];omega
 rw [h1,u64_or_nat _ _ (by omega) (by omega)];congr 1;have h2:256*v=v <<< 8:=by rw [Nat.shiftLeft_eq];omega
 rw [h2,Nat.shiftLeft_add_eq_or_of_lt (show y < 2 ^ 8 by omega)]
theorem j0k (l:List Nat) (k s:Nat) (h:∀ x ∈ l,x < 256) (hs:s < 8):val l k s < 72057594037927936 :=
 ku (val_lt l k s h) (by rw [show 72057594037927936=256 ^ 7 from rfl];exact KT (by decide) (by omega))
theorem j6Z (l:List Nat) (k q:Nat) (hq:k+q < l.length) (h8:q < 8) (h:∀ x ∈ l,x < 256) :
  bits .or .u64 (qd.wrap ((val l k q:Nat)*256:Int)) (l.getD (k+q) 0:Nat)=(val l k (q+1):Nat):=by
 rw [val_succ l k q hq,jcq _ _ (j0k l k q h h8)];rw [K2,kd hq];exact h _ (qb hq)
abbrev fault (code fat:Int):Value:=.iface 36 (.agg #[.int .i64 code,.int .i64 fat])
theorem j5y (g:Nat) (ad:Option Addr) (cap:Nat) (l:List Nat) (k s:Nat) (code fat:Int) (w:World) (h:Rd w g ad cap l k code fat) (hne:code ≠ 0) :
  Calls Tryz.prog 125 #[.pointer (some ⟨g,0,none⟩),.int .i64 s] w fun e w'=>e=.panicked [{ v:=fault code fat,recovered:=false }]/\w=w':=by
 have h2:=h.c2;have h3:=h.c3;have hpan:∀ (u:TypeId) (v:Value) (w:World),(kJ (.iface u v)).run Tryz.prog w=.halt (.panic (.iface u v)) w:=fun _ _ _=>rfl;clear h;go_enter Tryz.func125,Tryz.ntmps125
 go_wp2;exact ⟨rfl,rfl,rfl⟩
theorem j70 (g:Nat) (ad:Option Addr) (cap:Nat) (l:List Nat) (k s:Nat) (w:World) (h:Rd w g ad cap l k 0 0) (hl:l.length<=10000) (hk:k<=l.length) (hs:l.length < k+s) :
  Calls Tryz.prog 125 #[.pointer (some ⟨g,0,none⟩),.int .i64 s] w fun e w'=>e=.panicked [{ v:=fault 2 l.length,recovered:=false }]/\∃ n,w'=w.drewN n:=by
 have h0:=h.c0;have h2:=h.c2;have h3:=h.c3;have hpan:∀ (u:TypeId) (v:Value) (w:World),(kJ (.iface u v)).run Tryz.prog w=.halt (.panic (.iface u v)) w:=fun _ _ _=>rfl;have HR:=hJJ h;clear h;go_enter Tryz.func125,Tryz.ntmps125
 go_wp2_with fail
 refine (j2U g ad cap l k 0 0 _ HR.out hl hk).mono ?_;rintro e w1 ⟨rfl,n,rfl⟩;have ht:decide ((s:Int) > (l.length:Int) - (k:Int))=true:=decide_eq_true (by omega);go_wp2;exact ⟨rfl,rfl,_,rfl⟩
theorem j4d (g:Nat) (ad:Option Addr) (cap:Nat) (l:List Nat) (k s:Nat) (w:World) (h:Rd w g ad cap l k 0 0) (hl:l.length<=10000) (hs:k+s<=l.length) (h8:s<=8) :
  Calls Tryz.prog 125 #[.pointer (some ⟨g,0,none⟩),.int .i64 s] w fun e w'=>e=.returned (.int .u64 (val l k s:Nat))/\∃ n,w'=w.drewN n:=by
 have h0:=h.c0;have h1:=h.c1;have h2:=h.c2;have h3:=h.c3;have h9:=h.cap_le;have HR:=hJJ h;clear h;by_cases hs0:s=0
 ·subst hs0;go_enter Tryz.func125,Tryz.ntmps125
  go_wp2_with fail
  refine (j2U g ad cap l k 0 0 _ HR.out hl (by omega)).mono ?_;rintro e w1 ⟨rfl,n,rfl⟩;have ht:decide ((0:Int) > (l.length:Int) - (k:Int))=false:=decide_eq_false (by omega);go_wp2
  go_quiet (fail)
  generalize (if cap=k then ad else Option.map (fun x=>x.add k) ad)=y;go_wp2;refine qE 1 ?_;rw [qF];go_wp2;go_ret;exact ⟨rfl,n+nq,by simp [qu]⟩
 go_enter Tryz.func125,Tryz.ntmps125
 go_wp2_with fail
 refine (j2U g ad cap l k 0 0 _ HR.out hl (by omega)).mono ?_;rintro e w1 ⟨rfl,n,rfl⟩;have ht:decide ((s:Int) > (l.length:Int) - (k:Int))=false:=decide_eq_false (by omega);obtain ⟨x,rfl,hcl⟩:=HR.out.row.cells (k:=k) (by omega);have Hcl:=hJJ hcl;clear hcl;have hck:¬ cap=k:=by omega
 have hkc:k<=cap:=by omega
 have hksc:k+s<=cap:=by omega
 go_wp2
 go_quiet (fail)
 go_wp2;have Hlt:=hJJ HR.out.row.2.1;clear h0 h1 h2 h3 ht
 go_loop [5,46] (fun t i=>∃ q:Nat,q<=s/\i=.int .i64 q/\t=.int .u64 (val l k q:Nat)) (fun _ i=>s - (intOf i).toNat)
 case atStart=>exact ⟨0,kW _,rfl,rfl⟩
 case round =>
  obtain ⟨q,hq,rfl,rfl⟩:=hrel;by_cases hlt:q < s
  ·have hcell:w.cell? ((x.add k).add q)=some (.int .u8 (l.getD (k+q) 0:Nat)):=by rw [j6I];exact Hcl.out _ (by omega)
   have hy:l.getD (k+q) 0 < 256:=HR.out.row.lt _ (by omega);have hv:=j6Z l k q (by omega) (by omega) Hlt.out;have hqk:q < k+s - k:=by omega
   generalize l.getD (k+q) 0=y at hcell hv hy;generalize hv1:val l k (q+1)=v1 at hv;have Hv1:=hJJ hv1;clear hv1;generalize val l k q=v0 at hv;go_wp2
   go_round
   case rel=>exact ⟨.int .u64 (v1:Int),.int .u8 (y:Int),.int .i64 ((q:Int)+1),⟨q+1,by omega,by go_num,by rw [Hv1.out]⟩,rfl,rfl,rfl⟩
   case measure=>simp [intOf];omega
  obtain rfl:q=s:=by omega
  go_wp2;go_ret;exact ⟨rfl,n+nq,by simp [qu]⟩
end Nx
namespace Num
open Zip
open Go.ChangeShapes Go.WideShapes Go.ChangeAt Go.RowKit
open B Put Rd Nx
theorem j01 {P:Program} {Q:Exit->Act->List Frame->World->Prop} {a:Act} {cs:List Frame} {w:World} {id:Nat} {ops:Array Oper}
  (h:∀ t,wpOpsS P ops Q (Kb (P.follows .mixedOrders) ops t) a cs { w with drawn:=w.drawn+1 }):(Code.region id ops true).wpS P Q a cs w :=
 fun b k hb hr=>let ⟨e,a',cs',w',q,r⟩:=wp_opsS _ a cs _ (h _) b k hb hr;⟨e,a',cs',w',q,.of_steps (.one step_region_draw) r⟩
theorem j5z (v:Value) (w:World):(Kl (.iface 36 v) 20 36 true).run Tryz.prog w=.ok (.tuple #[v,.bool true]) w:=by
 simp [Kl,qM Tryz.underlying36,go_sem,KU]
theorem j4C (w:World):(Kl .nilIface 20 36 true).run Tryz.prog w=.ok (.tuple #[.agg #[.int .i64 0,.int .i64 0],.bool false]) w:=by
 have hz:(Tryz.prog.info? 36).map (·.zero)=some (some (.agg #[.int .i64 0,.int .i64 0])):=by kernel_rfl
 obtain ⟨j,hj,hz'⟩:=KK.1 hz;simp [Kl,qM Tryz.underlying36,go_sem,KU,typeInfo,zeroValue,hj,hz']
theorem Rd.keeps {w:World} {g:Nat} {ad:Option Addr} {cap:Nat} {l:List Nat} {k:Nat} {c0 f0:Int} (h:Rd w g ad cap l k c0 f0) (code fat:Int) :
  Rd ((w.setCell ⟨g,2,none⟩ (.int .i64 code)).setCell ⟨g,3,none⟩ (.int .i64 fat)) g ad cap l k code fat:=by
 have hb:But g w ((w.setCell ⟨g,2,none⟩ (.int .i64 code)).setCell ⟨g,3,none⟩ (.int .i64 fat)):=(But.set g 2 w _).trans (But.set g 3 _ _);refine ⟨ku h.lt hb.size,hb.row h.row h.off,h.off,?_,?_,?_,?_,fun i=>?_,h.cap_le⟩
 ·simp [ki,h.c0]
 ·simp [ki,h.c1]
 ·simp [ki,K8,h.c2]
 ·simp [ki,K8,h.c3]
 simp [h.fz]
theorem Rd.j71 {w:World} {g:Nat} {ad:Option Addr} {cap:Nat} {l:List Nat} {k:Nat} {c0 f0:Int} (h:Rd w g ad cap l k c0 f0) (k':Nat) :
  Rd (w.setCell ⟨g,1,none⟩ (.int .i64 k')) g ad cap l k' c0 f0:=by
 have hb:But g w (w.setCell ⟨g,1,none⟩ (.int .i64 k')):=But.set g 1 w _;refine ⟨ku h.lt hb.size,hb.row h.row h.off,h.off,?_,?_,?_,?_,fun i=>?_,h.cap_le⟩
 ·simp [ki,h.c0]
 ·simp [K8,h.c1]
 ·simp [ki,h.c2]
 ·simp [ki,h.c3]
 simp [h.fz]
theorem j72 (g:Nat) (w:World) :
  Calls Tryz.prog 124 #[.pointer (some ⟨g,0,none⟩),.nilIface] w fun e w'=>e=.returned (.tuple #[])/\Below w.heap.size w w':=by
 have ha:=j5z;have hb:=j4C;go_enter Tryz.func124,Tryz.ntmps124
 go_wp2
 go_end0
 exact ⟨rfl,(k4 _ _).alloc (k5 _) _⟩
theorem j4D (g:Nat) (ad:Option Addr) (cap:Nat) (l:List Nat) (k:Nat) (c0 f0 code fat:Int) (w:World) (h:Rd w g ad cap l k c0 f0) :
  Calls Tryz.prog 124 #[.pointer (some ⟨g,0,none⟩),fault code fat] w fun e w'=>e=.returned (.tuple #[])/\But g w w'/\Rd w' g ad cap l k code fat:=by
 have h0:=h.c0;have h1:=h.c1;have h2:=h.c2;have h3:=h.c3;have h4:=h.fz 2;have h5:=h.fz 3;have hg:=h.lt;have HR:=hJJ h;clear h;have ha:=j5z;have hb:=j4C;go_enter Tryz.func124,Tryz.ntmps124
 go_wp2;have hk:=Rd.keeps HR.out code fat;have hb2:But g w ((w.setCell ⟨g,2,none⟩ (.int .i64 code)).setCell ⟨g,3,none⟩ (.int .i64 fat)):=(But.set g 2 w _).trans (But.set g 3 _ _);have hb3:=(k4 _ ((w.setCell ⟨g,2,none⟩ (.int .i64 code)).setCell ⟨g,3,none⟩ (.int .i64 fat))).alloc (k5 _) (.cells #[.int .i64 code,.int .i64 fat] 36)
 go_end0
 exact ⟨rfl,hb2.trans (But.of hb3),hk.below hb3⟩
theorem j2f (b g:Nat) (ad:Option Addr) (cap:Nat) (l:List Nat) (k:Nat) (c0 f0 code fat:Int) (w:World) (hbox:w.cell? ⟨b,0,none⟩=some (.pointer (some ⟨g,0,none⟩))) (h:Rd w g ad cap l k c0 f0) :
  CallsD Tryz.prog 123 #[.pointer (some ⟨b,0,none⟩)] (.panicking [{ v:=fault code fat,recovered:=false }]) w fun e u' w' =>
   e=.returned (.tuple #[])/\u'=.panicking [{ v:=fault code fat,recovered:=true }]/\But g w w'/\Rd w' g ad cap l k code fat:=by
 refine qI Tryz.func123 rfl fun c₀ cs hu=>?_;apply j01;intro t;have hm:Tryz.prog.follows .mixedOrders=true:=rfl;have hd:=h.below (w':=w.drew) ((k4 _ _).drew);have hbd:But g w w.drew:=But.of ((k4 _ _).drew);rcases kK t with ht | ht
 all_goals
  simp [Kb,hm,Km,K6,KL,Kw,Ko,ht,KV];simp [wpOpsS,go_sem,recoverD,hu,hbox];refine (j4D g ad cap l k c0 f0 code fat _ hd).mono ?_;rintro e w' ⟨rfl,hb,hr⟩;simp [bodyPostS,results,Tryz.results123];exact ⟨hbd.trans hb,hr⟩
theorem jaw (b g:Nat) (w:World) (hbox:w.cell? ⟨b,0,none⟩=some (.pointer (some ⟨g,0,none⟩))) :
  CallsD Tryz.prog 123 #[.pointer (some ⟨b,0,none⟩)] .returning w fun e u' w'=>e=.returned (.tuple #[])/\u'=.returning/\Below w.heap.size w w':=by
 refine qI Tryz.func123 rfl fun c₀ cs hu=>?_;apply j01;intro t;have hm:Tryz.prog.follows .mixedOrders=true:=rfl;rcases kK t with ht | ht
 all_goals
  simp [Kb,hm,Km,K6,KL,Kw,Ko,ht,KV];simp [wpOpsS,go_sem,recoverD,hu,hbox];refine (j72 g _).mono ?_;rintro e w' ⟨rfl,hb⟩;have hgo:Below w.heap.size w w':=((k4 _ _).drew).trans hb;simp [bodyPostS,results,Tryz.results123];cases c₀;simp_all
theorem j3I (b g:Nat) (ad:Option Addr) (cap:Nat) (l:List Nat) (k:Nat) (c0 f0 code fat:Int) (w:World) (hbox:w.cell? ⟨b,0,none⟩=some (.pointer (some ⟨g,0,none⟩))) (h:Rd w g ad cap l k c0 f0) :
  CallsD Tryz.prog 155 #[.pointer (some ⟨b,0,none⟩)] (.panicking [{ v:=fault code fat,recovered:=false }]) w fun e u' w' =>
   e=.returned (.tuple #[])/\u'=.panicking [{ v:=fault code fat,recovered:=true }]/\But g w w'/\Rd w' g ad cap l k code fat:=by
 refine qI Tryz.func155 rfl fun c₀ cs hu=>?_;apply j01;intro t;have hm:Tryz.prog.follows .mixedOrders=true:=rfl;have hd:=h.below (w':=w.drew) ((k4 _ _).drew);have hbd:But g w w.drew:=But.of ((k4 _ _).drew);rcases kK t with ht | ht
 all_goals
  simp [Kb,hm,Km,K6,KL,Kw,Ko,ht,KV];simp [wpOpsS,go_sem,recoverD,hu,hbox];refine (j4D g ad cap l k c0 f0 code fat _ hd).mono ?_;rintro e w' ⟨rfl,hb,hr⟩;simp [bodyPostS,results,Tryz.results155];exact ⟨hbd.trans hb,hr⟩
theorem j7V (b g:Nat) (w:World) (hbox:w.cell? ⟨b,0,none⟩=some (.pointer (some ⟨g,0,none⟩))) :
  CallsD Tryz.prog 155 #[.pointer (some ⟨b,0,none⟩)] .returning w fun e u' w'=>e=.returned (.tuple #[])/\u'=.returning/\Below w.heap.size w w':=by
 refine qI Tryz.func155 rfl fun c₀ cs hu=>?_;apply j01;intro t;have hm:Tryz.prog.follows .mixedOrders=true:=rfl;rcases kK t with ht | ht
 all_goals
  simp [Kb,hm,Km,K6,KL,Kw,Ko,ht,KV];simp [wpOpsS,go_sem,recoverD,hu,hbox];refine (j72 g _).mono ?_;rintro e w' ⟨rfl,hb⟩;have hgo:Below w.heap.size w w':=((k4 _ _).drew).trans hb;simp [bodyPostS,results,Tryz.results155];cases c₀;simp_all
end Num
namespace Nm
open Zip
open Go.ChangeShapes Go.WideShapes Go.ChangeAt Go.RowKit
open B Put Rd Nx Num
structure St where
 k:Nat
 code:Int
 fat:Int
def num (l:List Nat) (s:St) (size:Nat) (low high:Int):Int × St :=
 if s.code ≠ 0 then (0,s)
 else if l.length < s.k+size then (0,⟨s.k,2,l.length⟩)
 else if (val l s.k size:Int) < low\/high < (val l s.k size:Int) then (0,⟨s.k,4,s.k⟩)
 else (val l s.k size,⟨s.k+size,0,0⟩)
def flt (l:List Nat) (s:St):Nat × St :=
 if s.code ≠ 0 then (0,s)
 else if l.length < s.k+8 then (0,⟨s.k,2,l.length⟩)
 else (val l s.k 8,⟨s.k+8,0,0⟩)
abbrev Rs (w:World) (g:Nat) (ad:Option Addr) (cap:Nat) (l:List Nat) (s:St):Prop:=Rd w g ad cap l s.k s.code s.fat
theorem j4E (g:Nat) (ad:Option Addr) (cap:Nat) (l:List Nat) (k:Nat) (code fat:Int) (size low high:Int) (w:World) (h:Rd w g ad cap l k code fat) (hne:code ≠ 0) :
  Calls Tryz.prog 112 #[.pointer (some ⟨g,0,none⟩),.int .i64 size,.int .i64 low,.int .i64 high] w fun e w'=>e=.returned (.int .i64 0)/\Rd w' g ad cap l k code fat/\But g w w':=by
 have hmf:∀ (fn:Fn) (first cap:Array Value) (w:World),(kx fn first cap).run Tryz.prog w=.ok (.func fn first cap) w:=fun _ _ _ _=>rfl;have hpan:∀ (u:TypeId) (v:Value) (w:World),(kJ (.iface u v)).run Tryz.prog w=.halt (.panic (.iface u v)) w:=fun _ _ _=>rfl;have HR:=hJJ h;clear h
 go_enter_defers Tryz.func112,Tryz.ntmps112
 go_wp2_with fail
 refine (j04 size 7 _).mono ?_;rintro e w' ⟨rfl,rfl⟩;have hb1:=(k4 w.heap.size w).alloc (k5 _) (.cells #[.pointer (some ⟨g,0,none⟩)] 52);have hbox:(w.alloc (.cells #[.pointer (some ⟨g,0,none⟩)] 52)).cell? ⟨w.heap.size,0,none⟩=some (.pointer (some ⟨g,0,none⟩)):=by simp
 have hlt1:w.heap.size < (w.alloc (.cells #[.pointer (some ⟨g,0,none⟩)] 52)).heap.size:=by simp
 have hgl:g < w.heap.size:=HR.out.lt;have HR1:=hJJ (HR.out.below hb1);have HB1:=hJJ hb1;generalize w.alloc (.cells #[.pointer (some ⟨g,0,none⟩)] 52)=w1 at hbox hlt1 HR1 HB1 |-;clear hb1;have hs7:=JI size 7;generalize hsz:lim size 7=sz at hs7 |-;have HSZ:=hJJ hsz;clear hsz;go_wp2_with fail
 refine (j5y g ad cap l k sz code fat _ HR1.out hne).mono ?_;rintro e w' ⟨rfl,rfl⟩;go_wp2;have HR2:=HR1;have HB2:=HB1;have hbox2:(w1).cell? ⟨w.heap.size,0,none⟩=some (.pointer (some ⟨g,0,none⟩)):=hbox;refine qD (f:=123) (args:=#[.pointer (some ⟨w.heap.size,0,none⟩)]) (by simp) (by simp [go_sem]) ?_;refine (j2f w.heap.size g ad cap l k code fat code fat (w1) hbox2 HR2.out).mono ?_;rintro e u' w'' ⟨rfl,rfl,hb,hr⟩;simp [Leaves,settle,results,Tryz.results112,go_sem];exact ⟨hr,(But.of HB2.out).trans hb⟩
theorem j4e (g:Nat) (ad:Option Addr) (cap:Nat) (l:List Nat) (k:Nat) (size low high:Int) (w:World) (h:Rd w g ad cap l k 0 0) (hl:l.length<=10000) (hk:k<=l.length) (hs:l.length < k+(lim size 7)) :
  Calls Tryz.prog 112 #[.pointer (some ⟨g,0,none⟩),.int .i64 size,.int .i64 low,.int .i64 high] w fun e w'=>e=.returned (.int .i64 0)/\Rd w' g ad cap l k 2 l.length/\But g w w':=by
 have hmf:∀ (fn:Fn) (first cap:Array Value) (w:World),(kx fn first cap).run Tryz.prog w=.ok (.func fn first cap) w:=fun _ _ _ _=>rfl;have hpan:∀ (u:TypeId) (v:Value) (w:World),(kJ (.iface u v)).run Tryz.prog w=.halt (.panic (.iface u v)) w:=fun _ _ _=>rfl;have HR:=hJJ h;clear h
 go_enter_defers Tryz.func112,Tryz.ntmps112
 go_wp2_with fail
 refine (j04 size 7 _).mono ?_;rintro e w' ⟨rfl,rfl⟩;have hb1:=(k4 w.heap.size w).alloc (k5 _) (.cells #[.pointer (some ⟨g,0,none⟩)] 52);have hbox:(w.alloc (.cells #[.pointer (some ⟨g,0,none⟩)] 52)).cell? ⟨w.heap.size,0,none⟩=some (.pointer (some ⟨g,0,none⟩)):=by simp
 have hlt1:w.heap.size < (w.alloc (.cells #[.pointer (some ⟨g,0,none⟩)] 52)).heap.size:=by simp
 have hgl:g < w.heap.size:=HR.out.lt;have HR1:=hJJ (HR.out.below hb1);have HB1:=hJJ hb1;generalize w.alloc (.cells #[.pointer (some ⟨g,0,none⟩)] 52)=w1 at hbox hlt1 HR1 HB1 |-;clear hb1;have hs7:=JI size 7;generalize hsz:lim size 7=sz at hs hs7 |-;have HSZ:=hJJ hsz;clear hsz;go_wp2_with fail
 refine (j70 g ad cap l k sz _ HR1.out hl hk hs).mono ?_;rintro e w' ⟨rfl,n,rfl⟩;go_wp2;have hdr:Below w1.heap.size w1 (w1.drewN n):=below_drewN (k4 _ _) n;have HR2:=hJJ (HR1.out.below hdr);have HB2:=hJJ (chain HB1.out hdr);have hbox2:(w1.drewN n).cell? ⟨w.heap.size,0,none⟩=some (.pointer (some ⟨g,0,none⟩)):=hbox;refine qD (f:=123) (args:=#[.pointer (some ⟨w.heap.size,0,none⟩)]) (by simp) (by simp [go_sem]) ?_;refine (j2f w.heap.size g ad cap l k 0 0 2 l.length (w1.drewN n) hbox2 HR2.out).mono ?_;rintro e u' w'' ⟨rfl,rfl,hb,hr⟩;simp [Leaves,settle,results,Tryz.results112,go_sem];exact ⟨hr,(But.of HB2.out).trans hb⟩
theorem j2x (g:Nat) (ad:Option Addr) (cap:Nat) (l:List Nat) (k:Nat) (code fat:Int) (w:World) (h:Rd w g ad cap l k code fat) (hne:code ≠ 0) :
  Calls Tryz.prog 154 #[.pointer (some ⟨g,0,none⟩)] w fun e w'=>e=.returned (.float .f64 0)/\Rd w' g ad cap l k code fat/\But g w w':=by
 have hmf:∀ (fn:Fn) (first cap:Array Value) (w:World),(kx fn first cap).run Tryz.prog w=.ok (.func fn first cap) w:=fun _ _ _ _=>rfl;have hpan:∀ (u:TypeId) (v:Value) (w:World),(kJ (.iface u v)).run Tryz.prog w=.halt (.panic (.iface u v)) w:=fun _ _ _=>rfl;have HR:=hJJ h;clear h
 go_enter_defers Tryz.func154,Tryz.ntmps154
 go_wp2_with fail
 have hb1:=(k4 w.heap.size w).alloc (k5 _) (.cells #[.pointer (some ⟨g,0,none⟩)] 52);have hbox:(w.alloc (.cells #[.pointer (some ⟨g,0,none⟩)] 52)).cell? ⟨w.heap.size,0,none⟩=some (.pointer (some ⟨g,0,none⟩)):=by simp
 have hlt1:w.heap.size < (w.alloc (.cells #[.pointer (some ⟨g,0,none⟩)] 52)).heap.size:=by simp
 have hgl:g < w.heap.size:=HR.out.lt;have HR1:=hJJ (HR.out.below hb1);have HB1:=hJJ hb1;generalize w.alloc (.cells #[.pointer (some ⟨g,0,none⟩)] 52)=w1 at hbox hlt1 HR1 HB1 |-;clear hb1;go_wp2_with fail
 refine (j5y g ad cap l k 8 code fat _ HR1.out hne).mono ?_;rintro e w' ⟨rfl,rfl⟩;go_wp2;have HR2:=HR1;have HB2:=HB1;have hbox2:(w1).cell? ⟨w.heap.size,0,none⟩=some (.pointer (some ⟨g,0,none⟩)):=hbox;refine qD (f:=155) (args:=#[.pointer (some ⟨w.heap.size,0,none⟩)]) (by simp) (by simp [go_sem]) ?_;refine (j3I w.heap.size g ad cap l k code fat code fat (w1) hbox2 HR2.out).mono ?_;rintro e u' w'' ⟨rfl,rfl,hb,hr⟩;simp [Leaves,settle,results,Tryz.results154,go_sem];exact ⟨hr,(But.of HB2.out).trans hb⟩
theorem j3i (g:Nat) (ad:Option Addr) (cap:Nat) (l:List Nat) (k:Nat) (w:World) (h:Rd w g ad cap l k 0 0) (hl:l.length<=10000) (hk:k<=l.length) (hs:l.length < k+8) :
  Calls Tryz.prog 154 #[.pointer (some ⟨g,0,none⟩)] w fun e w'=>e=.returned (.float .f64 0)/\Rd w' g ad cap l k 2 l.length/\But g w w':=by
 have hmf:∀ (fn:Fn) (first cap:Array Value) (w:World),(kx fn first cap).run Tryz.prog w=.ok (.func fn first cap) w:=fun _ _ _ _=>rfl;have hpan:∀ (u:TypeId) (v:Value) (w:World),(kJ (.iface u v)).run Tryz.prog w=.halt (.panic (.iface u v)) w:=fun _ _ _=>rfl;have HR:=hJJ h;clear h
 go_enter_defers Tryz.func154,Tryz.ntmps154
 go_wp2_with fail
 have hb1:=(k4 w.heap.size w).alloc (k5 _) (.cells #[.pointer (some ⟨g,0,none⟩)] 52);have hbox:(w.alloc (.cells #[.pointer (some ⟨g,0,none⟩)] 52)).cell? ⟨w.heap.size,0,none⟩=some (.pointer (some ⟨g,0,none⟩)):=by simp
 have hlt1:w.heap.size < (w.alloc (.cells #[.pointer (some ⟨g,0,none⟩)] 52)).heap.size:=by simp
 have hgl:g < w.heap.size:=HR.out.lt;have HR1:=hJJ (HR.out.below hb1);have HB1:=hJJ hb1;generalize w.alloc (.cells #[.pointer (some ⟨g,0,none⟩)] 52)=w1 at hbox hlt1 HR1 HB1 |-;clear hb1;go_wp2_with fail
 refine (j70 g ad cap l k 8 _ HR1.out hl hk hs).mono ?_;rintro e w' ⟨rfl,n,rfl⟩;go_wp2;have hdr:Below w1.heap.size w1 (w1.drewN n):=below_drewN (k4 _ _) n;have HR2:=hJJ (HR1.out.below hdr);have HB2:=hJJ (chain HB1.out hdr);have hbox2:(w1.drewN n).cell? ⟨w.heap.size,0,none⟩=some (.pointer (some ⟨g,0,none⟩)):=hbox;refine qD (f:=155) (args:=#[.pointer (some ⟨w.heap.size,0,none⟩)]) (by simp) (by simp [go_sem]) ?_;refine (j3I w.heap.size g ad cap l k 0 0 2 l.length (w1.drewN n) hbox2 HR2.out).mono ?_;rintro e u' w'' ⟨rfl,rfl,hb,hr⟩;simp [Leaves,settle,results,Tryz.results154,go_sem];exact ⟨hr,(But.of HB2.out).trans hb⟩
theorem j3j (g:Nat) (ad:Option Addr) (cap:Nat) (l:List Nat) (k:Nat) (size low high:Int) (w:World) (h:Rd w g ad cap l k 0 0) (hl:l.length<=10000) (hs:k+lim size 7<=l.length) (hlow:(val l k (lim size 7):Int) < low) :
  Calls Tryz.prog 112 #[.pointer (some ⟨g,0,none⟩),.int .i64 size,.int .i64 low,.int .i64 high] w fun e w'=>e=.returned (.int .i64 0)/\Rd w' g ad cap l k 4 k/\But g w w':=by
 have hmf:∀ (fn:Fn) (first cap:Array Value) (w:World),(kx fn first cap).run Tryz.prog w=.ok (.func fn first cap) w:=fun _ _ _ _=>rfl;have hpan:∀ (u:TypeId) (v:Value) (w:World),(kJ (.iface u v)).run Tryz.prog w=.halt (.panic (.iface u v)) w:=fun _ _ _=>rfl;have HR:=hJJ h;clear h
 go_enter_defers Tryz.func112,Tryz.ntmps112
 go_wp2_with fail
 refine (j04 size 7 _).mono ?_;rintro e w' ⟨rfl,rfl⟩;have hb1:=(k4 w.heap.size w).alloc (k5 _) (.cells #[.pointer (some ⟨g,0,none⟩)] 52);have hbox:(w.alloc (.cells #[.pointer (some ⟨g,0,none⟩)] 52)).cell? ⟨w.heap.size,0,none⟩=some (.pointer (some ⟨g,0,none⟩)):=by simp
 have hlt1:w.heap.size < (w.alloc (.cells #[.pointer (some ⟨g,0,none⟩)] 52)).heap.size:=by simp
 have hgl:g < w.heap.size:=HR.out.lt;have HR1:=hJJ (HR.out.below hb1);have HB1:=hJJ hb1;generalize w.alloc (.cells #[.pointer (some ⟨g,0,none⟩)] 52)=w1 at hbox hlt1 HR1 HB1 |-;clear hb1;have hs7:=JI size 7;generalize hsz:lim size 7=sz at hs hs7 hlow |-;have HSZ:=hJJ hsz;clear hsz;go_wp2_with fail
 refine (j4d g ad cap l k sz _ HR1.out hl hs (by omega)).mono ?_;rintro e w' ⟨rfl,n,rfl⟩;have hv56:val l k sz < 72057594037927936:=j0k l k sz HR1.out.row.2.1 (by omega);generalize hval:val l k sz=v at hv56 hlow |-;have HV:=hJJ hval;clear hval;have hw:wrap64 (v:Int)=v:=by unfold wrap64;omega
 have hw2:KR.wrap (v:Int)=v:=by rw [Kk];omega
 have hlo:decide ((v:Int) < low)=true:=decide_eq_true (by omega);have hdr:Below w1.heap.size w1 (w1.drewN n):=below_drewN (k4 _ _) n;have HR2:=hJJ (HR1.out.below hdr);have HB2:=hJJ (chain HB1.out hdr);have hc1:=HR2.out.c1;go_wp2;have hbox2:(w1.drewN n).cell? ⟨w.heap.size,0,none⟩=some (.pointer (some ⟨g,0,none⟩)):=hbox;refine qD (f:=123) (args:=#[.pointer (some ⟨w.heap.size,0,none⟩)]) (by simp) (by simp [go_sem]) ?_;refine (j2f w.heap.size g ad cap l k 0 0 4 k (w1.drewN n) hbox2 HR2.out).mono ?_;rintro e u' w'' ⟨rfl,rfl,hb,hr⟩;simp [Leaves,settle,results,Tryz.results112,go_sem];exact ⟨hr,(But.of HB2.out).trans hb⟩
theorem j3k (g:Nat) (ad:Option Addr) (cap:Nat) (l:List Nat) (k:Nat) (size low high:Int) (w:World) (h:Rd w g ad cap l k 0 0) (hl:l.length<=10000) (hs:k+lim size 7<=l.length) (hlow:¬ (val l k (lim size 7):Int) < low) (hhigh:high < (val l k (lim size 7):Int)) :
  Calls Tryz.prog 112 #[.pointer (some ⟨g,0,none⟩),.int .i64 size,.int .i64 low,.int .i64 high] w fun e w'=>e=.returned (.int .i64 0)/\Rd w' g ad cap l k 4 k/\But g w w':=by
 have hmf:∀ (fn:Fn) (first cap:Array Value) (w:World),(kx fn first cap).run Tryz.prog w=.ok (.func fn first cap) w:=fun _ _ _ _=>rfl;have hpan:∀ (u:TypeId) (v:Value) (w:World),(kJ (.iface u v)).run Tryz.prog w=.halt (.panic (.iface u v)) w:=fun _ _ _=>rfl;have HR:=hJJ h;clear h
 go_enter_defers Tryz.func112,Tryz.ntmps112
 go_wp2_with fail
 refine (j04 size 7 _).mono ?_;rintro e w' ⟨rfl,rfl⟩;have hb1:=(k4 w.heap.size w).alloc (k5 _) (.cells #[.pointer (some ⟨g,0,none⟩)] 52);have hbox:(w.alloc (.cells #[.pointer (some ⟨g,0,none⟩)] 52)).cell? ⟨w.heap.size,0,none⟩=some (.pointer (some ⟨g,0,none⟩)):=by simp
 have hlt1:w.heap.size < (w.alloc (.cells #[.pointer (some ⟨g,0,none⟩)] 52)).heap.size:=by simp
 have hgl:g < w.heap.size:=HR.out.lt;have HR1:=hJJ (HR.out.below hb1);have HB1:=hJJ hb1;generalize w.alloc (.cells #[.pointer (some ⟨g,0,none⟩)] 52)=w1 at hbox hlt1 HR1 HB1 |-;clear hb1;have hs7:=JI size 7;generalize hsz:lim size 7=sz at hs hs7 hlow hhigh |-;have HSZ:=hJJ hsz;clear hsz;go_wp2_with fail
 refine (j4d g ad cap l k sz _ HR1.out hl hs (by omega)).mono ?_;rintro e w' ⟨rfl,n,rfl⟩;have hv56:val l k sz < 72057594037927936:=j0k l k sz HR1.out.row.2.1 (by omega);generalize hval:val l k sz=v at hv56 hlow hhigh |-;have HV:=hJJ hval;clear hval;have hw:wrap64 (v:Int)=v:=by unfold wrap64;omega
 have hw2:KR.wrap (v:Int)=v:=by rw [Kk];omega
 have hlo:decide ((v:Int) < low)=false:=decide_eq_false (by omega);have hhi:decide ((v:Int) > high)=true:=decide_eq_true (by omega);have hdr:Below w1.heap.size w1 (w1.drewN n):=below_drewN (k4 _ _) n;have HR2:=hJJ (HR1.out.below hdr);have HB2:=hJJ (chain HB1.out hdr);have hc1:=HR2.out.c1;go_wp2;have hbox2:(w1.drewN n).cell? ⟨w.heap.size,0,none⟩=some (.pointer (some ⟨g,0,none⟩)):=hbox;refine qD (f:=123) (args:=#[.pointer (some ⟨w.heap.size,0,none⟩)]) (by simp) (by simp [go_sem]) ?_;refine (j2f w.heap.size g ad cap l k 0 0 4 k (w1.drewN n) hbox2 HR2.out).mono ?_;rintro e u' w'' ⟨rfl,rfl,hb,hr⟩;simp [Leaves,settle,results,Tryz.results112,go_sem];exact ⟨hr,(But.of HB2.out).trans hb⟩
theorem j7W (g:Nat) (ad:Option Addr) (cap:Nat) (l:List Nat) (k:Nat) (size low high:Int) (w:World) (h:Rd w g ad cap l k 0 0) (hl:l.length<=10000) (hs:k+lim size 7<=l.length) (hlow:¬ (val l k (lim size 7):Int) < low) (hhigh:¬ high < (val l k (lim size 7):Int)) :
  Calls Tryz.prog 112 #[.pointer (some ⟨g,0,none⟩),.int .i64 size,.int .i64 low,.int .i64 high] w fun e w'=>e=.returned (.int .i64 (val l k (lim size 7):Nat))/\Rd w' g ad cap l (k+lim size 7) 0 0/\But g w w':=by
 have hmf:∀ (fn:Fn) (first cap:Array Value) (w:World),(kx fn first cap).run Tryz.prog w=.ok (.func fn first cap) w:=fun _ _ _ _=>rfl;have hpan:∀ (u:TypeId) (v:Value) (w:World),(kJ (.iface u v)).run Tryz.prog w=.halt (.panic (.iface u v)) w:=fun _ _ _=>rfl;have HR:=hJJ h;clear h
 go_enter_defers Tryz.func112,Tryz.ntmps112
 go_wp2_with fail
 refine (j04 size 7 _).mono ?_;rintro e w' ⟨rfl,rfl⟩;have hb1:=(k4 w.heap.size w).alloc (k5 _) (.cells #[.pointer (some ⟨g,0,none⟩)] 52);have hbox:(w.alloc (.cells #[.pointer (some ⟨g,0,none⟩)] 52)).cell? ⟨w.heap.size,0,none⟩=some (.pointer (some ⟨g,0,none⟩)):=by simp
 have hlt1:w.heap.size < (w.alloc (.cells #[.pointer (some ⟨g,0,none⟩)] 52)).heap.size:=by simp
 have hgl:g < w.heap.size:=HR.out.lt;have HR1:=hJJ (HR.out.below hb1);have HB1:=hJJ hb1;generalize w.alloc (.cells #[.pointer (some ⟨g,0,none⟩)] 52)=w1 at hbox hlt1 HR1 HB1 |-;clear hb1;have hs7:=JI size 7;generalize hsz:lim size 7=sz at hs hs7 hlow hhigh |-;have HSZ:=hJJ hsz;clear hsz;go_wp2_with fail
 refine (j4d g ad cap l k sz _ HR1.out hl hs (by omega)).mono ?_;rintro e w' ⟨rfl,n,rfl⟩;have hv56:val l k sz < 72057594037927936:=j0k l k sz HR1.out.row.2.1 (by omega);generalize hval:val l k sz=v at hv56 hlow hhigh |-;have HV:=hJJ hval;clear hval;have hw:wrap64 (v:Int)=v:=by unfold wrap64;omega
 have hw2:KR.wrap (v:Int)=v:=by rw [Kk];omega
 have hlo:decide ((v:Int) < low)=false:=decide_eq_false (by omega);have hhi:decide ((v:Int) > high)=false:=decide_eq_false (by omega);have hdr:Below w1.heap.size w1 (w1.drewN n):=below_drewN (k4 _ _) n;have HR2:=hJJ (HR1.out.below hdr);have HB2:=hJJ (chain HB1.out hdr);have hc1:=HR2.out.c1;have hz1:=HR2.out.fz 1;go_wp2
 have hbox2:((w1.drewN n).setCell ⟨g,1,none⟩ (.int .i64 ((k:Int)+sz))).cell? ⟨w.heap.size,0,none⟩=some (.pointer (some ⟨g,0,none⟩)):=by
  rw [ki _ _ _ _ (by first | (simp;done) | (simp;omega))];exact hbox
 have hset:But g (w1.drewN n) ((w1.drewN n).setCell ⟨g,1,none⟩ (.int .i64 ((k:Int)+sz))):=But.set g 1 _ _
 have hmv:Rd ((w1.drewN n).setCell ⟨g,1,none⟩ (.int .i64 ((k:Int)+sz))) g ad cap l (k+sz) 0 0:=by
  have h:=Rd.j71 HR2.out (k+sz);rw [qi] at h;exact h
 refine qD (f:=123) (args:=#[.pointer (some ⟨w.heap.size,0,none⟩)]) (by simp) (by simp [go_sem]) ?_;refine (jaw w.heap.size g _ hbox2).mono ?_;rintro e u' w'' ⟨rfl,rfl,hb⟩;simp [Leaves,settle,results,Tryz.results112,go_sem];try rw [HSZ.out]
 exact ⟨HV.out.symm ▸ rfl,hmv.below hb,((But.of HB2.out).trans hset).trans (But.of hb)⟩
theorem j4F (g:Nat) (ad:Option Addr) (cap:Nat) (l:List Nat) (k:Nat) (w:World) (h:Rd w g ad cap l k 0 0) (hl:l.length<=10000) (hs:k+8<=l.length) :
  Calls Tryz.prog 154 #[.pointer (some ⟨g,0,none⟩)] w fun e w'=>e=.returned (.float .f64 (val l k 8))/\Rd w' g ad cap l (k+8) 0 0/\But g w w':=by
 have hmf:∀ (fn:Fn) (first cap:Array Value) (w:World),(kx fn first cap).run Tryz.prog w=.ok (.func fn first cap) w:=fun _ _ _ _=>rfl;have hpan:∀ (u:TypeId) (v:Value) (w:World),(kJ (.iface u v)).run Tryz.prog w=.halt (.panic (.iface u v)) w:=fun _ _ _=>rfl;have HR:=hJJ h;clear h;have hfb:=j2r
 go_enter_defers Tryz.func154,Tryz.ntmps154
 go_wp2_with fail
 have hb1:=(k4 w.heap.size w).alloc (k5 _) (.cells #[.pointer (some ⟨g,0,none⟩)] 52);have hbox:(w.alloc (.cells #[.pointer (some ⟨g,0,none⟩)] 52)).cell? ⟨w.heap.size,0,none⟩=some (.pointer (some ⟨g,0,none⟩)):=by simp
 have hlt1:w.heap.size < (w.alloc (.cells #[.pointer (some ⟨g,0,none⟩)] 52)).heap.size:=by simp
 have hgl:g < w.heap.size:=HR.out.lt;have HR1:=hJJ (HR.out.below hb1);have HB1:=hJJ hb1;generalize w.alloc (.cells #[.pointer (some ⟨g,0,none⟩)] 52)=w1 at hbox hlt1 HR1 HB1 |-;clear hb1;go_wp2_with fail
 refine (j4d g ad cap l k 8 _ HR1.out hl hs (by omega)).mono ?_;rintro e w' ⟨rfl,n,rfl⟩;generalize hval:val l k 8=v;have HV:=hJJ hval;clear hval;have hdr:Below w1.heap.size w1 (w1.drewN n):=below_drewN (k4 _ _) n;have HR2:=hJJ (HR1.out.below hdr);have HB2:=hJJ (chain HB1.out hdr);have hc1:=HR2.out.c1;have hz1:=HR2.out.fz 1;go_wp2
 have hbox2:((w1.drewN n).setCell ⟨g,1,none⟩ (.int .i64 ((k:Int)+8))).cell? ⟨w.heap.size,0,none⟩=some (.pointer (some ⟨g,0,none⟩)):=by
  rw [ki _ _ _ _ (by first | (simp;done) | (simp;omega))];exact hbox
 have hset:But g (w1.drewN n) ((w1.drewN n).setCell ⟨g,1,none⟩ (.int .i64 ((k:Int)+8))):=But.set g 1 _ _
 have hmv:Rd ((w1.drewN n).setCell ⟨g,1,none⟩ (.int .i64 ((k:Int)+8))) g ad cap l (k+8) 0 0:=by
  have h:=Rd.j71 HR2.out (k+8);rw [qi] at h;exact h
 refine qD (f:=155) (args:=#[.pointer (some ⟨w.heap.size,0,none⟩)]) (by simp) (by simp [go_sem]) ?_;refine (j7V w.heap.size g _ hbox2).mono ?_;rintro e u' w'' ⟨rfl,rfl,hb⟩;simp [Leaves,settle,results,Tryz.results154,go_sem];try rw [HSZ.out]
 exact ⟨HV.out.symm ▸ rfl,hmv.below hb,((But.of HB2.out).trans hset).trans (But.of hb)⟩
def Good (l:List Nat) (s:St):Prop:=s.k<=l.length/\(s.code=0->s.fat=0)
theorem j2V (l:List Nat) (s:St) (size:Nat) (low high:Int) (h:Good l s):Good l (num l s size low high).2:=by
 unfold num;split
 ·exact h
 split
 ·exact ⟨h.1,fun e=>by simp at e⟩
 split
 ·exact ⟨h.1,fun e=>by simp at e⟩
 exact ⟨by simp;omega,fun _=>rfl⟩
theorem j73 (l:List Nat) (s:St) (h:Good l s):Good l (flt l s).2:=by
 unfold flt;split
 ·exact h
 split
 ·exact ⟨h.1,fun e=>by simp at e⟩
 exact ⟨by simp;omega,fun _=>rfl⟩
theorem j2W (g:Nat) (ad:Option Addr) (cap:Nat) (l:List Nat) (s:St) (size low high:Int) (w:World) (h:Rs w g ad cap l s) (hl:l.length<=10000) (hg:Good l s) :
  Calls Tryz.prog 112 #[.pointer (some ⟨g,0,none⟩),.int .i64 size,.int .i64 low,.int .i64 high] w fun e w' =>
   e=.returned (.int .i64 (num l s (lim size 7) low high).1)/\Rs w' g ad cap l (num l s (lim size 7) low high).2/\But g w w':=by
 obtain ⟨k,code,fat⟩:=s;unfold num;by_cases h0:code ≠ 0
 ·rw [if_pos h0];exact j4E g ad cap l k code fat size low high w h h0
 rw [if_neg h0];obtain rfl:code=0:=by omega
 obtain rfl:fat=0:=hg.2 rfl;by_cases h1:l.length < k+lim size 7
 ·rw [if_pos h1];exact j4e g ad cap l k size low high w h hl hg.1 h1
 rw [if_neg h1];by_cases h2:(val l k (lim size 7):Int) < low
 ·rw [if_pos (.inl h2)];exact j3j g ad cap l k size low high w h hl (by omega) h2
 by_cases h3:high < (val l k (lim size 7):Int)
 ·rw [if_pos (.inr h3)];exact j3k g ad cap l k size low high w h hl (by omega) h2 h3
 rw [if_neg (by rintro (h | h) <;> contradiction)];exact j7W g ad cap l k size low high w h hl (by omega) h2 h3
theorem j3l (g:Nat) (ad:Option Addr) (cap:Nat) (l:List Nat) (s:St) (w:World) (h:Rs w g ad cap l s) (hl:l.length<=10000) (hg:Good l s) :
  Calls Tryz.prog 154 #[.pointer (some ⟨g,0,none⟩)] w fun e w' =>
   e=.returned (.float .f64 (flt l s).1)/\Rs w' g ad cap l (flt l s).2/\But g w w':=by
 obtain ⟨k,code,fat⟩:=s;unfold flt;by_cases h0:code ≠ 0
 ·rw [if_pos h0];exact j2x g ad cap l k code fat w h h0
 rw [if_neg h0];obtain rfl:code=0:=by omega
 obtain rfl:fat=0:=hg.2 rfl;by_cases h1:l.length < k+8
 ·rw [if_pos h1];exact j3i g ad cap l k w h hl hg.1 h1
 rw [if_neg h1];exact j4F g ad cap l k w h hl (by omega)
theorem j4G (g:Nat) (ad:Option Addr) (cap:Nat) (l:List Nat) (s:St) (w:World) (h:Rs w g ad cap l s) (hl:l.length<=10000) (hg:Good l s) :
  Calls Tryz.prog 153 #[.pointer (some ⟨g,0,none⟩)] w fun e w' =>
   e=.returned (.bool (decide ((num l s 1 0 1).1=1)))/\Rs w' g ad cap l (num l s 1 0 1).2/\But g w w':=by
 have h1:=j2W g ad cap l s 1 0 1 w h hl hg;rw [show lim 1 7=1 from rfl] at h1;generalize num l s 1 0 1=r at h1;clear h hg;go_enter Tryz.func153,Tryz.ntmps153
 go_wp2_with fail
 refine h1.mono ?_;rintro e w' ⟨rfl,hr,hb⟩;have HR:=hJJ hr;clear hr h1;go_wp2;go_ret;exact ⟨rfl,HR.out,hb⟩
end Nm
namespace Flat
open Go Go.ChangeShapes Go.WideShapes
section
variable {α β:Type}
def j0Q (R:α->β->Prop):List α->List β->Prop
 | [],[]=>True
 | a :: l,b :: m=>R a b/\j0Q R l m
 | _,_=>False
variable {R:α->β->Prop}
theorem j0Q.length:∀ {a:List α} {b:List β},j0Q R a b->a.length=b.length
 | [],[],_=>rfl
 | _ :: _,_ :: _,⟨_,h⟩=>by simp [j0Q.length h]
 | [],_ :: _,h=>h.elim
 | _ :: _,[],h=>h.elim
theorem j0Q.append:∀ {a:List α} {b:List β} {c:List α} {d:List β},j0Q R a b->j0Q R c d->j0Q R (a++c) (b++d)
 | [],[],_,_,_,h=>h
 | _ :: _,_ :: _,_,_,⟨h,k⟩,h2=>⟨h,j0Q.append k h2⟩
 | [],_ :: _,_,_,h,_=>h.elim
 | _ :: _,[],_,_,h,_=>h.elim
theorem j0Q.split:∀ {a c:List α} {b:List β},j0Q R (a++c) b->j0Q R a (b.take a.length)/\j0Q R c (b.drop a.length)
 | [],_,_,h=>⟨trivial,h⟩
 | _ :: _,_,_ :: _,⟨h,k⟩=>⟨⟨h,(j0Q.split k).1⟩,(j0Q.split k).2⟩
 | _ :: _,_,[],h=>h.elim
end
def j2y (P:Program) (t:TypeId):Bool:=match P.underlying t with | some (.struct _) | some (.array _ _)=>true | _=>false
def j4H (P:Program) (g:TypeId->Option (List TypeId)):Nat->List Field->Option (List TypeId)
 | _,[]=>some []
 | o,f :: fs=>if f.name ≠ "_"/\f.offset=o then
   match g f.type with
   | some r=>if r.length=P.cellsOf f.type then (j4H P g (o+r.length) fs).map (r++·) else none
   | none=>none
  else none
def flat (P:Program):Nat->TypeId->Option (List TypeId)
 | 0,_=>none
 | d+1,t=>match P.underlying t with
  | some (.struct fs)=>if P.stoodInHeld t=true then none else match j4H P (flat P d) 0 fs.toList with
   | some l=>if l.length=P.cellsOf t then some l else none
   | none=>none
  | some (.array n e)=>match flat P d e with
   | some r=>if r.length=P.cellsOf e/\n*P.cellsOf e=P.cellsOf t then some (k6 n r).flatten else none
   | none=>none
  | some _=>if P.cellsOf t=1 then some [t] else none
  | none=>none
theorem j7X {P:Program} {g:TypeId->Option (List TypeId)} {o:Nat} {f:Field} {fs:List Field} {l:List TypeId} (h:j4H P g o (f :: fs)=some l) :
  f.name ≠ "_"/\f.offset=o/\∃ r l',g f.type=some r/\r.length=P.cellsOf f.type/\j4H P g (o+r.length) fs=some l'/\l=r++l':=by
 unfold j4H at h;split at h
 ·rename_i h1;split at h
  ·rename_i r hr;split at h
   ·rename_i hl;simp only [KK] at h;obtain ⟨l',h2,rfl⟩:=h;exact ⟨h1.1,h1.2,r,l',hr,hl,h2,rfl⟩
   cases h
  cases h
 cases h
theorem j74 {α:Type} (l:List α) (o a b:Nat):(l.drop o).take (a+b)=(l.drop o).take a++(l.drop (o+a)).take b:=by
 rw [List.take_add,ql]
section
variable {P:Program} {R:TypeId->Value->Prop} {G:TypeId->List Value->Prop} {g:TypeId->Option (List TypeId)}
end
section
variable {H:Type} {enc:TypeId × Value->H} {P:Program} {w:World} {base:Nat} {spare:Nat->Bool} {held:Bool}
end
section
variable {P:Program}
def vOf (P:Program) (t:TypeId) (cs:List Value):Value:=if j2y P t then .agg cs.toArray else cs.headD undef
def j0C (P:Program) (t:TypeId) (p:Value × Value):Prop:=∃ b:Bool,(∀ D w,(q4 (D+1) t p.1 p.2).run P w=.ok b w)/\(b=true ↔ p.1=p.2)
theorem jax {t:TypeId} {k:IntKind} (h:P.underlying t=some (.int k)) (a b:Int):j0C P t (.int k a,.int k b):=⟨a == b,fun D w=>run_equalIn_int w D t k k a b h,by simp⟩
theorem j9n {t:TypeId} (h:P.underlying t=some .bool) (a b:Bool):j0C P t (.bool a,.bool b):=⟨a == b,fun D w=>run_equalIn_bool w D t a b h,by simp⟩
theorem j2X (w:World) {t:TypeId} {d:TypeDesc} (hu:P.underlying t=some d) (hc:j2y P t=false->P.cellsOf t=1) (cs:List Value) (off:Nat) (hl:off+P.cellsOf t<=cs.length) :
  (part t cs.toArray off).run P w=.ok (vOf P t ((cs.drop off).take (P.cellsOf t))) w:=by
 obtain ⟨i,hi⟩:=qO hu
 have hagg:(isAgg t).run P w=.ok (j2y P t) w:=by
  unfold isAgg j2y;rw [kG,qM hu w];rw [hu];cases d <;> simp
 unfold part vOf;rw [kG,hagg,ky];cases hr:j2y P t with
 | true =>
  simp only [if_true,kG,run_sizeOf w hi,ky,Kt];congr 2;simp [List.extract]
 | false =>
  have h1:=hc hr;have h2:off < cs.length:=by omega
  simp only [Bool.false_eq_true,if_false,kN,kd h2,Kt,h1];have h3:(cs.drop off).take 1=[cs[off]]:=by rw [kz h2];rfl
  rw [h3];simp
theorem j1g {d:Nat} {t:TypeId} {ts:List TypeId} (h:flat P d t=some ts):(∃ dd,P.underlying t=some dd)/\(j2y P t=false->P.cellsOf t=1):=by
 cases d with
 | zero=>simp [flat] at h
 | succ d =>
  unfold flat at h;unfold j2y;split at h
  ·rename_i hu;exact ⟨⟨_,hu⟩,by rw [hu];simp⟩
  ·rename_i hu;exact ⟨⟨_,hu⟩,by rw [hu];simp⟩
  ·rename_i hu;split at h
   ·rename_i h1;exact ⟨⟨_,hu⟩,fun _=>h1⟩
   cases h
  cases h
def EqG (P:Program) (D:Nat) (g:TypeId->Option (List TypeId)):Prop:=∀ (t:TypeId) (ts:List TypeId) (zs:List (Value × Value)),g t=some ts->j0Q (j0C P) ts zs ->
 ∃ b:Bool,(∀ w,(q4 D t (vOf P t (zs.map (·.1))) (vOf P t (zs.map (·.2)))).run P w=.ok b w)/\(b=true ↔ zs.map (·.1)=zs.map (·.2))
theorem j75 {γ:Type} (f:Value × Value->γ) (zs:List (Value × Value)) (o n:Nat):((zs.map f).drop o).take n=((zs.drop o).take n).map f:=by
 rw [<-List.map_drop,<-List.map_take]
theorem j5A {D d:Nat} (hg:EqG P D (flat P d)) (zs:List (Value × Value)):∀ (fs:List Field) (o:Nat) (l:List TypeId),j4H P (flat P d) o fs=some l->o+l.length<=zs.length ->
  j0Q (j0C P) l ((zs.drop o).take l.length) ->
  ∃ b:Bool,(∀ w,(qe D (zs.map (·.1)).toArray (zs.map (·.2)).toArray fs).run P w=.ok b w)/\(b=true ↔ ((zs.drop o).take l.length).map (·.1)=((zs.drop o).take l.length).map (·.2))
 | [],_,l,h,_,_=>by
  simp only [j4H,Ke] at h;subst h;exact ⟨true,fun w=>by simp [qe],by simp⟩
 | f :: fs,o,l,h,hlen,hall=>by
  obtain ⟨hn,ho,r,l',h1,h2,h3,rfl⟩:=j7X h;obtain ⟨⟨dd,hu⟩,hone⟩:=j1g h1;rw [k7] at hlen hall |-;rw [j74] at hall |-;have hs:=hall.split;have hlr:((zs.drop o).take r.length).length=r.length:=by simp;omega
  rw [KO hlr,Kp hlr] at hs;obtain ⟨b,hb,hiff⟩:=hg f.type r _ h1 hs.1;obtain ⟨b',hb',hiff'⟩:=j5A hg zs fs (o+r.length) l' h3 (by omega) hs.2;have p1:=fun w=>j2X (P:=P) w hu hone (zs.map (·.1)) f.offset (by simp;omega);have p2:=fun w=>j2X (P:=P) w hu hone (zs.map (·.2)) f.offset (by simp;omega);rw [ho,<-h2] at p1 p2;simp only [j75] at p1 p2;refine ⟨b && b',fun w=>?_,?_⟩
  ·simp only [qe,hn,ne_eq,not_false_eq_true,if_true,kG,ho,p1,p2,hb,ky];cases b
   ·simp
   simpa using hb' w
  rw [Ki,hiff,hiff',Kc,Kc];constructor
  ·rintro ⟨e1,e2⟩;rw [e1,e2]
  intro e;exact qj e (by simp)
theorem j76 {D d:Nat} (hg:EqG P D (flat P d)) {e:TypeId} {r:List TypeId} (hr:flat P d e=some r) (hc:r.length=P.cellsOf e) (zs:List (Value × Value)):∀ (n k:Nat),(k+n)*P.cellsOf e<=zs.length ->
  j0Q (j0C P) (k6 n r).flatten ((zs.drop (k*P.cellsOf e)).take (n*P.cellsOf e)) ->
  ∃ b:Bool,(∀ w,(qm D e (P.cellsOf e) (zs.map (·.1)).toArray (zs.map (·.2)).toArray (List.range' k n)).run P w=.ok b w) /\
   (b=true ↔ ((zs.drop (k*P.cellsOf e)).take (n*P.cellsOf e)).map (·.1)=((zs.drop (k*P.cellsOf e)).take (n*P.cellsOf e)).map (·.2))
 | 0,k,_,_=>⟨true,fun w=>by simp [qm],by simp⟩
 | n+1,k,hlen,hall=>by
  obtain ⟨⟨dd,hu⟩,hone⟩:=j1g hr
  have hlen':k*P.cellsOf e+P.cellsOf e+n*P.cellsOf e<=zs.length:=by
   have:(k+(n+1))*P.cellsOf e=k*P.cellsOf e+P.cellsOf e+n*P.cellsOf e:=by
    rw [kR,kR,KE];omega
   omega
  rw [Kr,kE] at hall;rw [kR,KE,qs (n*_),j74] at hall |-;have hs:=hall.split;have hlr:((zs.drop (k*P.cellsOf e)).take (P.cellsOf e)).length=r.length:=by rw [hc];simp;omega
  rw [KO hlr,Kp hlr] at hs;obtain ⟨b,hb,hiff⟩:=hg e r _ hr hs.1;have hk:k*P.cellsOf e+P.cellsOf e=(k+1)*P.cellsOf e:=by rw [kR,KE]
  rw [hk] at hs |-;obtain ⟨b',hb',hiff'⟩:=j76 hg hr hc zs n (k+1) (by rw [kR,kR] at *;omega) hs.2;have p1:=fun w=>j2X (P:=P) w hu hone (zs.map (·.1)) (k*P.cellsOf e) (by simp;omega);have p2:=fun w=>j2X (P:=P) w hu hone (zs.map (·.2)) (k*P.cellsOf e) (by simp;omega);simp only [j75] at p1 p2;refine ⟨b && b',fun w=>?_,?_⟩
  ·simp only [List.range'_succ,qm,kG,p1,p2,hb,ky];cases b
   ·simp
   simpa using hb' w
  rw [Ki,hiff,hiff',Kc,Kc];constructor
  ·rintro ⟨e1,e2⟩;rw [e1,e2]
  intro e;exact qj e (by simp)
theorem j8F:∀ (d D:Nat),d<=D->EqG P D (flat P d)
 | 0,_,_=>fun t ts zs h _=>by simp [flat] at h
 | d+1,0,h=>absurd h (by omega)
 | d+1,D+1,hD=>fun t ts zs h hall=>by
  have IH:=j8F d D (by omega);unfold flat at h;split at h
  ·rename_i fs hu;split at h
   ·cases h
   rename_i hst;split at h
   ·rename_i l hl;split at h
    ·rename_i hlen;simp only [Ke] at h;subst h;have hz:=hall.length;obtain ⟨b,hb,hiff⟩:=j5A IH zs fs.toList 0 l hl (by omega) (by rw [kV,hz,Kn];exact hall);rw [kV,hz,Kn] at hiff;have hfs:P.fieldsOf t=fs:=by simp [Program.fieldsOf,hu]
     refine ⟨b,fun w=>?_,hiff⟩;have hr:j2y P t=true:=by unfold j2y;rw [hu]
     unfold vOf;rw [if_pos hr,if_pos hr,run_equalIn_struct w D t _ _ (by rw [hfs];exact hu) (by simpa using hst),hfs];exact hb w
    cases h
   cases h
  ·rename_i n e hu;split at h
   ·rename_i r hr;split at h
    ·rename_i hlen;simp only [Ke] at h;subst h;have hz:=hall.length;have hz2:n*P.cellsOf e=zs.length:=by rw [<-hz];simp [hlen.1]
     obtain ⟨b,hb,hiff⟩:=j76 IH hr hlen.1 zs n 0 (by rw [kp];omega) (by rw [q6,kV,hz2,Kn];exact hall);rw [q6,kV,hz2,Kn] at hiff;obtain ⟨⟨dd,hue⟩,_⟩:=j1g hr;obtain ⟨i,hi⟩:=qO hue;refine ⟨b,fun w=>?_,hiff⟩;have hrow:j2y P t=true:=by unfold j2y;rw [hu]
     unfold vOf;rw [if_pos hrow,if_pos hrow,run_equalIn_array w D _ _ hu hi,List.range_eq_range'];exact hb w
    cases h
   cases h
  ·rename_i dd hns hna hu;split at h
   ·simp only [Ke] at h;subst h;have hr:j2y P t=false:=by unfold j2y;rw [hu];cases dd <;> simp_all
    match zs,hall with
    | [p],⟨⟨b,hb,hiff⟩,_⟩ =>
     refine ⟨b,fun w=>?_,by simpa using hiff⟩;unfold vOf;rw [hr];simpa using hb D w
   cases h
  cases h
theorem jay {d:Nat} {t:TypeId} {ts:List TypeId} (h:flat P d t=some ts) (hd:d<=10000) (hr:j2y P t=true) (zs:List (Value × Value)) (hall:j0Q (j0C P) ts zs) :
  ∃ b:Bool,(∀ w,(q4 10000 t (.agg (zs.map (·.1)).toArray) (.agg (zs.map (·.2)).toArray)).run P w=.ok b w)/\(b=true ↔ zs.map (·.1)=zs.map (·.2)):=by
 obtain ⟨b,hb,hiff⟩:=j8F d 10000 hd t ts zs h hall;refine ⟨b,fun w=>?_,hiff⟩;have:=hb w;unfold vOf at this
 rwa [if_pos hr,if_pos hr] at this
end
end Flat
namespace Same
open Go.ChangeShapes Go.WideShapes
open Tab Flat
def Eqs (t:TypeId) (xs ys:List Value) (b:Bool):Prop:=∀ w:World,(q4 10000 t (.agg xs.toArray) (.agg ys.toArray)).run Tryz.prog w=.ok b w
theorem j4I {d:Nat} {t:TypeId} {ts:List TypeId} (h:flat Tryz.prog d t=some ts) (hd:d<=10000) (hr:j2y Tryz.prog t=true) (zs:List (Value × Value)) (hall:j0Q (j0C Tryz.prog) ts zs) {xs ys:List Value} (hx:zs.map (·.1)=xs) (hy:zs.map (·.2)=ys) {p:Prop} [Decidable p]
  (hp:xs=ys ↔ p):Eqs t xs ys (decide p):=by
 subst hx hy;obtain ⟨b,hb,hiff⟩:=jay h hd hr zs hall;rw [hp] at hiff
 have e:b=decide p:=by
  by_cases hq:p
  ·rw [decide_eq_true hq];exact hiff.2 hq
  rw [decide_eq_false hq];cases b
  ·rfl
  exact absurd (hiff.1 rfl) hq
 intro w;rw [hb w,e]
theorem lint (a b:Int):j0C Tryz.prog 3 (I a,I b):=jax Tryz.underlying3 a b
theorem jaz (a b:Bool):j0C Tryz.prog 4 (.bool a,.bool b):=j9n Tryz.underlying4 a b
theorem jeW:flat Tryz.prog 3 75=some [3,3,3,3,3,3,3,3,3,3,3]:=by kernel_rfl
theorem jeX:flat Tryz.prog 3 77=some [3,3]:=by kernel_rfl
abbrev jeY:List TypeId:=[4,3,3,3,3,3,3,3,3,3,3,4,4]
theorem jeZ:flat Tryz.prog 4 26=some (k6 8 jeY).flatten:=by kernel_rfl
theorem jf0:flat Tryz.prog 3 28=some (k6 8 [3]).flatten:=by kernel_rfl
theorem jaA (r s:Rl):Eqs 75 r.cells s.cells (decide (r=s)):=by
 obtain ⟨a0,a1,a2,a3,a4,a5,a6,a7,a8,a9,a10⟩:=r;obtain ⟨b0,b1,b2,b3,b4,b5,b6,b7,b8,b9,b10⟩:=s
 refine j4I jeW (by decide) (by kernel_rfl) [(I a0,I b0),(I a1,I b1),(I a2,I b2),(I a3,I b3),(I a4,I b4),(I a5,I b5),(I a6,I b6),(I a7,I b7),(I a8,I b8),(I a9,I b9),(I a10,I b10)]
  ⟨lint _ _,lint _ _,lint _ _,lint _ _,lint _ _,lint _ _,lint _ _,lint _ _,lint _ _,lint _ _,lint _ _,trivial⟩ rfl rfl ?_
 simp [Rl.cells]
theorem jcr (r s:Bs):Eqs 77 r.cells s.cells (decide (r=s)):=by
 obtain ⟨a0,a1⟩:=r;obtain ⟨b0,b1⟩:=s;refine j4I jeX (by decide) (by kernel_rfl) [(I a0,I b0),(I a1,I b1)] ⟨lint _ _,lint _ _,trivial⟩ rfl rfl ?_;simp [Bs.cells]
theorem j9o (p q:Ph):∃ zs,j0Q (j0C Tryz.prog) jeY zs/\zs.map (·.1)=p.cells/\zs.map (·.2)=q.cells:=by
 obtain ⟨a0,a1,a2,a3,a4,a5,a6,a7,a8,a9,a10,a11,a12⟩:=p;obtain ⟨b0,b1,b2,b3,b4,b5,b6,b7,b8,b9,b10,b11,b12⟩:=q
 exact ⟨[(.bool a0,.bool b0),(I a1,I b1),(I a2,I b2),(I a3,I b3),(I a4,I b4),(I a5,I b5),(I a6,I b6),(I a7,I b7),(I a8,I b8),(I a9,I b9),(I a10,I b10),(.bool a11,.bool b11),(.bool a12,.bool b12)],
  ⟨jaz _ _,lint _ _,lint _ _,lint _ _,lint _ _,lint _ _,lint _ _,lint _ _,lint _ _,lint _ _,lint _ _,jaz _ _,jaz _ _,trivial⟩,rfl,rfl⟩
theorem many {α:Type} {ts:List TypeId} {enc:α->List Value} (h1:∀ p q:α,∃ zs,j0Q (j0C Tryz.prog) ts zs/\zs.map (·.1)=enc p/\zs.map (·.2)=enc q):∀ (n:Nat) (l m:List α),l.length=n->m.length=n ->
  ∃ zs,j0Q (j0C Tryz.prog) (k6 n ts).flatten zs/\zs.map (·.1)=l.flatMap enc/\zs.map (·.2)=m.flatMap enc
 | 0,[],[],_,_=>⟨[],trivial,rfl,rfl⟩
 | n+1,p :: l,q :: m,hl,hm=>by
  obtain ⟨z1,h2,h3,h4⟩:=h1 p q;obtain ⟨z2,h5,h6,h7⟩:=many h1 n l m (by simpa using hl) (by simpa using hm);refine ⟨z1++z2,?_,by simp [h3,h6],by simp [h4,h7]⟩;rw [Kr,kE];exact h2.append h5
 | 0,_ :: _,_,hl,_=>by simp at hl
 | 0,[],_ :: _,_,hm=>by simp at hm
 | n+1,[],_,hl,_=>by simp at hl
 | n+1,_ :: _,[],_,hm=>by simp at hm
theorem j4J (l m:List Ph) (hl:l.length=8) (hm:m.length=8):Eqs 26 (l.flatMap Ph.cells) (m.flatMap Ph.cells) (decide (l=m)):=by
 obtain ⟨zs,h1,h2,h3⟩:=many j9o 8 l m hl hm;exact j4I jeZ (by decide) (by kernel_rfl) zs h1 h2 h3 ⟨j4n,fun e=>by rw [e]⟩
theorem jaB (l:List Int):l.flatMap (fun n=>[I n])=l.map I:=by
 induction l with
 | nil=>rfl
 | cons a l ih=>rw [Kf,ih];rfl
theorem j2g (l m:List Int) (hl:l.length=8) (hm:m.length=8):Eqs 28 (l.map I) (m.map I) (decide (l=m)):=by
 obtain ⟨zs,h1,h2,h3⟩:=many (ts:=[3]) (enc:=fun n=>[I n]) (fun p q=>⟨[(I p,I q)],⟨lint _ _,trivial⟩,rfl,rfl⟩) 8 l m hl hm;rw [jaB] at h2 h3;exact j4I jf0 (by decide) (by kernel_rfl) zs h1 h2 h3 ⟨j6C,fun e=>by rw [e]⟩
def single (T:Tab):List Int:=[T.extend,T.budget,T.start,T.revert,T.least,T.window,T.share]
theorem jdU:Tryz.prog.eqGuardType Tryz.prog.depth 75=false:=by kernel_rfl
theorem jdV:Tryz.prog.eqGuardType Tryz.prog.depth 77=false:=by kernel_rfl
theorem jaC:Tryz.prog.eqGuardType Tryz.prog.depth 26=false:=by kernel_rfl
theorem j68:Tryz.prog.eqGuardType Tryz.prog.depth 28=false:=by kernel_rfl
end Same
namespace Copy
open Go Go.RowKit
open Tab
section
variable {P:Program}
end
section
variable {α:Type} {n:Nat} {enc:α->List Value}
theorem j1f (he:∀ v,(enc v).length=n) (l:List α):(l.flatMap enc).length=l.length*n:=by
 induction l with
 | nil=>simp
 | cons v l ih=>rw [Kf,k7,ih,he,K3,kR,KE,qs]
theorem j2h (he:∀ v,(enc v).length=n):∀ (l:List α) (i:Nat) (v:α) (j:Nat) (u:Value),l[i]?=some v->(enc v)[j]?=some u->(l.flatMap enc)[i*n+j]?=some u
 | x :: l,0,v,j,u,h,hu=>by
  obtain rfl:=Ka h;rw [Kf,q6,kp,List.getElem?_append_left (kg.1 hu).1];exact hu
 | x :: l,i+1,v,j,u,h,hu=>by
  have:=j2h he l i v j u (by simpa using h) hu;rw [Kf,kL (by rw [he,kR];omega),he,kR,KE,show i*n+n+j - n=i*n+j by omega];exact this
theorem j2Y (he:∀ v,(enc v).length=n) {w:World} {g:Nat} {t:TypeId} {fr:Nat × Nat} (l:List α) (hg:w.heap[g]?=some (.cells (l.flatMap enc).toArray t fr)) (hl:l.length<=maxLen):ju n enc w ⟨some ⟨g,0,none⟩,l.length⟩ l:=by
 refine .inr ⟨_,rfl,k5 _,hl,fun i v hv j u hu=>?_⟩;rw [j25,KH,qy _ _ _ _ _ _ hg,kp];simpa using j2h he l i v j u hv hu
end
end Copy
namespace Clone
open Go.ChangeShapes Go.WideShapes Go.ChangeAt Go.RowKit
open Tab Copy
open May (chain jG j0f jT jH j06)
theorem zI:(Tryz.prog.info? 3).map (fun i=>(i.zero,i.size,i.bytes))=some (some (.int .i64 0),1,8):=by kernel_rfl
theorem zG:(Tryz.prog.info? 68).map (fun i=>(i.zero,i.size,i.bytes))=some (some (.agg #[.slice none 0 0,.slice none 0 0]),2,48):=by kernel_rfl
theorem zD:(Tryz.prog.info? 71).map (fun i=>(i.zero,i.size,i.bytes))=some (some (.agg #[.int .i64 0,.float .f64 0,.float .f64 0,.float .f64 0,.float .f64 0,.int .i64 0,.int .i64 0]),7,56):=by kernel_rfl
theorem zR:(Tryz.prog.info? 75).map (fun i=>(i.zero,i.size,i.bytes))=some (some (.agg #[.int .i64 0,.int .i64 0,.int .i64 0,.int .i64 0,.int .i64 0,.int .i64 0,.int .i64 0,.int .i64 0,.int .i64 0,.int .i64 0,.int .i64 0]),11,88):=by kernel_rfl
theorem zB:(Tryz.prog.info? 77).map (fun i=>(i.zero,i.size,i.bytes))=some (some (.agg #[.int .i64 0,.int .i64 0]),2,16):=by kernel_rfl
end Clone
namespace Owned
open Go Go.RowKit
open Tab Copy
structure Blk where
 at_:Nat
 cells:List Value
 type:TypeId
def Own (B:Nat) (w:World) (L:List Blk):Prop:=(L.map Blk.at_).Nodup/\∀ x ∈ L,B<=x.at_/\w.heap[x.at_]?=some (.cells x.cells.toArray x.type (0,0))
variable {B:Nat} {w w':World} {L M:List Blk} {x:Blk}
theorem Own.nil:Own B w []:=⟨by simp,fun x h=>by simp at h⟩
theorem Own.get (h:Own B w L) (hx:x ∈ L):w.heap[x.at_]?=some (.cells x.cells.toArray x.type (0,0)):=(h.2 x hx).2
theorem Own.base (h:Own B w L) (hx:x ∈ L):B<=x.at_:=(h.2 x hx).1
theorem Own.lt (h:Own B w L) (hx:x ∈ L):x.at_ < w.heap.size:=(k3.1 (h.get hx)).1
theorem Own.step (h:Own B w L) (hb:Below w.heap.size w w'):Own B w' L:=⟨h.1,fun x hx=>⟨h.base hx,by rw [hb.block _ (h.lt hx)];exact h.get hx⟩⟩
theorem Own.add (h:Own B w L) (hb:Below w.heap.size w w') {g:Nat} {cs:List Value} {t:TypeId} (hg:w'.heap[g]?=some (.cells cs.toArray t (0,0))) (hn:w.heap.size<=g) (hB:B<=w.heap.size):Own B w' (⟨g,cs,t⟩ :: L):=by
 refine ⟨List.nodup_cons.2 ⟨fun hm=>?_,h.1⟩,fun y hy=>?_⟩
 ·obtain ⟨y,hy,e⟩:=Ku.1 hm;have:=h.lt hy;have e':y.at_=g:=e;omega
 rcases List.mem_cons.1 hy with rfl | hy
 ·exact ⟨k8 hB hn,hg⟩
 exact (h.step hb).2 y hy
theorem Own.jaD {i:Nat} (h:Own B w L) (hx:L[i]?=some x) {cs:List Value} (hg:w'.heap[x.at_]?=some (.cells cs.toArray x.type (0,0))) (ho:∀ j,j ≠ x.at_->w'.heap[j]?=w.heap[j]?):Own B w' (L.set i ⟨x.at_,cs,x.type⟩):=by
 have hi:i < L.length:=(kg.1 hx).1;have hxi:L[i]=x:=(kg.1 hx).2
 have hm:(L.set i ⟨x.at_,cs,x.type⟩).map Blk.at_=L.map Blk.at_:=by
  rw [List.map_set];apply q7;intro j;rw [q8];split
  ·rename_i e;subst e;simp [hi,hxi]
  rfl
 refine ⟨by rw [hm];exact h.1,fun y hy=>?_⟩;obtain ⟨j,hj⟩:=List.getElem?_of_mem hy;rw [q8] at hj;split at hj
 ·rename_i e;subst e;obtain rfl:=Ka hj;exact ⟨(h.base (x:=x) (kq hx):B<=x.at_),hg⟩
 rename_i e;have hyL:=kq hj
 have hne:y.at_ ≠ x.at_:=fun e'=>by
  have h1:(L.map Blk.at_)[j]?=some y.at_:=by rw [KD,hj];rfl
  have h2:(L.map Blk.at_)[i]?=some x.at_:=by rw [KD,hx];rfl
  have hjl:=(kg.1 h1).1;have hil:=(kg.1 h2).1;have e1:=(kg.1 h1).2;have e2:=(kg.1 h2).2;have hp:=List.pairwise_iff_getElem.1 h.1;rcases Nat.lt_trichotomy i j with h3 | h3 | h3
  ·exact hp i j hil hjl h3 (by rw [e1,e2,e'])
  ·exact e h3
  exact hp j i hjl hil h3 (by rw [e1,e2,e'])
 exact ⟨h.base hyL,by rw [ho _ hne];exact h.get hyL⟩
theorem Own.j69 {i:Nat} (h:Own B w L) (hx:L[i]?=some x) (cs:List Value):Own B (w.setRow x.at_ cs.toArray) (L.set i ⟨x.at_,cs,x.type⟩) :=
 h.jaD hx (qA _ _ _ _ _ _ (h.get (kq hx))) (fun j hj=>qB _ _ _ _ hj)
theorem ja {a:World} (hb:Below B a w) {g i:Nat} (hg:B<=g) (v:Value):Below B a (w.setCell ⟨g,i,none⟩ v):=hb.setCell (p:=⟨g,i,none⟩) hg v
end Owned
namespace Clone
open Go.ChangeShapes Go.WideShapes Go.ChangeAt Go.RowKit
open Tab Copy Owned
open May (chain jG j0f jT jH j06 jK)
structure NG where
 r0:List Int
 r1:List Int
 b0:Nat
 b1:Nat
def NG.gr (g:NG):Gr:=⟨g.r0,g.r1,⟨some ⟨g.b0,0,none⟩,g.r0.length⟩,⟨some ⟨g.b1,0,none⟩,g.r1.length⟩⟩
def NG.jfz (g:NG):List Blk:=[⟨g.b0,g.r0.flatMap (fun n=>[I n]),3⟩,⟨g.b1,g.r1.flatMap (fun n=>[I n]),3⟩]
abbrev at0 (g n:Nat):Sl:=⟨some ⟨g,0,none⟩,n⟩
def own (T:Tab) (ns:List NG) (G D R S:Nat):List Blk :=
 ⟨G,(ns.map NG.gr).flatMap Gr.cells,68⟩ :: ⟨D,T.dets.flatMap Det.cells,71⟩ :: ⟨R,T.rails.flatMap Rl.cells,75⟩ :: ⟨S,T.buses.flatMap Bs.cells,77⟩ :: ns.flatMap NG.jfz
def hd (T:Tab) (G D R S:Nat):Hd:=⟨at0 G T.groups.length,at0 D T.dets.length,at0 R T.rails.length,at0 S T.buses.length⟩
section
variable {T:Tab} {ns:List NG} {G D R S:Nat}
end
def zPh:Ph:=⟨false,0,0,0,0,0,0,0,0,0,0,false,false⟩
def jB:Tab:=⟨k6 8 zPh,[],k6 8 0,[],[],[],0,0,0,0,0,k6 8 0,0,0⟩
def zHd:Hd:=⟨⟨none,0⟩,⟨none,0⟩,⟨none,0⟩,⟨none,0⟩⟩
theorem j1p:(Tryz.prog.info? 33).map (fun i=>(i.zero,i.size))=some (some (.agg (jB.cells zHd).toArray),131):=by kernel_rfl
theorem j3m (w:World):jy w zHd jB:=⟨rfl,rfl,rfl,⟨[],rfl,ju.nil w,fun g hg=>by simp at hg⟩,ju.nil w,ju.nil w,ju.nil w⟩
end Clone
namespace QL
open Go Go.RowKit
open Tab
theorem j1q {P:Program} {C:World->Prop} {ops:Array Oper} {Q:Act->Prop} {a:Act} {o:Oper} {rest:List Oper} (hw:qp o (yielded ops a.tmps)=true) (ty:TypeId) (x:Operand) (ho:o.op=.load ty x) (y:Addr) (hx:a.eval x=.pointer (some y))
  (cs:List Value) (d:TypeDesc) (hc:∀ w,C w->jl w y cs) (hu:P.underlying ty=some d) (hd:d.isRow=true) (hi:(P.info? ty).map (·.size)=some cs.length) (h:wpQuiet P ops C Q rest (a.put o.dst (.agg cs.toArray))):wpQuiet P ops C Q (o :: rest) a :=
 qU fun K hK=>by
  rw [if_pos hw];refine ⟨_,fun w hw'=>?_,hK _ h⟩;unfold qt execOp;simp only [ho,hx,Instr.loadAt,Instr.sureAddr,kG,Kt,ky,Row.JO w y ty cs d (hc w hw') hu hd hi];exact ⟨rfl,rfl⟩
theorem wpList_store_mid {P:Program} {ops:Array Oper} {rest:List Oper} {o:Oper} {a:Act} {w:World} {Q:Exit->Act->World->Prop} (hgd:o.guard=none) (ty:TypeId) (x y:Operand) (ho:o.op=.store ty x y) (g off:Nat) (cells:Array Value) (hx:a.eval x=.pointer (some ⟨g,off,none⟩)) (hy:a.eval y=.agg cells)
  (t:TypeId) (cur:Array Value) (hg:w.heap[g]?=some (.cells cur t (0,0))) (hi:(P.info? ty).map (·.size)=some cells.size) (hl:off+cells.size<=cur.size) (h1:cells.all (·.oneCell')=true)
  (h:wpList P ops Q rest (a.put o.dst undef) (w.setRow g (cur.toList.take off++cells.toList++cur.toList.drop (off+cells.size)).toArray)):wpList P ops Q (o :: rest) a w :=
 qP hgd fun _ hK=>by
  unfold qw execOp;simp only [ho,hx,hy,kG,Row.j1L w g off t ty cur cells hg hi hl h1,ky,Kt];exact hK _ _ h
end QL
namespace Rr
open Zip
open Go Go.RowKit Go.ChangeShapes
open Tab
open Po (fault jW)
open Rd (Rd But)
open Put (lim)
theorem j1P {P:Program} {C:World->Prop} {ops:Array Oper} {Q:Act->Prop} {a:Act} {o:Oper} {rest:List Oper} (hw:qp o (yielded ops a.tmps)=true) (v:Value)
  (hr:∀ w,(execOp a.eval o).run P w=.ok (.value v) w) (h:wpQuiet P ops C Q rest (a.put o.dst v)):wpQuiet P ops C Q (o :: rest) a :=
 qU fun K hK=>by
  rw [if_pos hw];refine ⟨_,fun w _=>?_,hK _ h⟩;unfold qt;rw [hr w];exact ⟨rfl,rfl⟩
theorem flF:Flat.flat Tryz.prog 5 36=some [34,3]:=by kernel_rfl
theorem j3n (a b c d:Int):Same.Eqs 36 [I a,I b] [I c,I d] (decide (a=c/\b=d)):=by
 refine Same.j4I flF (by decide) (by kernel_rfl) [(I a,I c),(I b,I d)] ⟨Same.lint _ _,Same.lint _ _,trivial⟩ rfl rfl ?_;simp
theorem j7Y:Tryz.prog.eqGuardType Tryz.prog.depth 36=false:=by kernel_rfl
theorem JD:(Tryz.prog.info? 55).map (·.size)=some 1:=by kernel_rfl
abbrev rdr (g:Nat):Value:=.agg #[.pointer (some ⟨g,0,none⟩)]
theorem j2Z (g:Nat) (ad:Option Addr) (cap:Nat) (l:List Nat) (k:Nat) (code fat:Int) (w:World) (h:Rd w g ad cap l k code fat) (hne:code ≠ 0) :
  Calls Tryz.prog 113 #[rdr g] w fun e w'=>e=.panicked [{ v:=fault (code,fat),recovered:=false }]/\Below w.heap.size w w':=by
 have hpan:∀ (u:TypeId) (v:Value) (w:World),(kJ (.iface u v)).run Tryz.prog w=.halt (.panic (.iface u v)) w:=fun _ _ _=>rfl;have hb:=(k4 w.heap.size w).alloc (k5 _) (.cells #[.pointer (some ⟨g,0,none⟩)] 55);have hg:=qx w (.cells #[.pointer (some ⟨g,0,none⟩)] 55);have HR:=hJJ (h.below hb);have HB:=hJJ hb;have HE:Hid (Same.Eqs 36 [I code,I fat] [I 0,I 0] false):=hJJ (by have:=j3n code fat 0 0;rwa [decide_eq_false (by simp [hne])] at this);clear h hb hne;go_enter Tryz.func113,Tryz.ntmps113
 go_upto_region 1 with fail
 generalize kr w _=v at HR HB hg |-;have k0:v.cell? ⟨w.heap.size,0,none⟩=some (.pointer (some ⟨g,0,none⟩)):=by rw [qy _ _ _ _ _ _ hg];rfl
 go_wp2_with fail
 refine (Rd.j5x g ad cap l k code fat v HR.out).mono ?_;rintro e v1 ⟨rfl,hb1⟩;go_upto_region 2 with fail
 have hb2:=hb1.alloc hb1.size (.cells #[I code,I fat] 36);have hg2:=qx v1 (.cells #[I code,I fat] 36);generalize kr v1 _=v2 at hb2 hg2 |-;generalize v1.heap.size=nb at hg2 |-;have HB2:Hid (Below w.heap.size w v2):=hJJ (HB.out.trans (hb2.mono HB.out.size));have HG:=hJJ hg2;clear hb1 hb2 hg2 k0 hg;have LF:Hid (jl v2 ⟨nb,0,none⟩ [I code,I fat]):=hJJ (by have:=Row.j1 HG.out;simpa using this);go_wp2_with (first | (refine lgZ 36 ⟨nb,0,none⟩ [I code,I fat] rfl LF.out Tryz.underlying36 jW ?_) | (refine Row.JG 36 _ _ _ rfl rfl #[I code,I fat] #[I 0,I 0] rfl rfl j7Y false HE.out ?_))
 exact ⟨rfl,rfl,HB2.out⟩
theorem j7Z {B g nb:Nat} (ad:Option Addr) (cap:Nat) (m:Int) (w:World) (h:Rd w g ad cap [] 0 0 0) (hn:w.heap[nb]?=some (.cells #[I 0] 3 (0,0))) (hne:nb ≠ g) (hB:B<=w.heap.size) (hg:B<=g) (hnb:B<=nb) :
  Calls Tryz.prog 91 #[rdr g,.int .i64 3,.int .i64 m,.pointer (some ⟨nb,0,none⟩)] w fun e w'=>e=.panicked [{ v:=fault (2,0),recovered:=false }]/\Below B w w':=by
 have hb:=(k4 w.heap.size w).alloc (k5 _) (.cells #[.pointer (some ⟨g,0,none⟩)] 55);have hgg:=qx w (.cells #[.pointer (some ⟨g,0,none⟩)] 55);have hR:=h.below hb;have hn1:=(hb.block nb (k3.1 hn).1).trans hn;have HR:=hJJ hR;have HB:=hJJ hb;have HN:=hJJ hn1;have hgl:=h.lt;have hnl:=(k3.1 hn).1;clear h hb hn hR hn1;go_enter Tryz.func91,Tryz.ntmps91
 go_upto_region 1 with fail
 generalize kr w _=v at HR HB hgg HN |-;generalize hrb:w.heap.size=rb at hgg |-;have k0:v.cell? ⟨rb,0,none⟩=some (.pointer (some ⟨g,0,none⟩)):=by rw [qy _ _ _ _ _ _ hgg];rfl
 go_wp2_with fail
 refine (Nm.j4e g ad cap [] 0 3 0 m v HR.out (by decide) (by decide) (by decide)).mono ?_;rintro e v1 ⟨rfl,hr1,hb1⟩;have hn2:=(hb1.block nb (k3.1 HN.out).1 hne).trans HN.out;have hg2:=(hb1.block rb (k3.1 hgg).1 (by omega)).trans hgg;have c1:v1.cell? ⟨nb,0,none⟩=some (I 0):=by rw [qy _ _ _ _ _ _ hn2];rfl
 have f1:v1.frozen? ⟨nb,0,none⟩=false:=qC _ _ _ _ _ hn2;have hst:v1.setCell ⟨nb,0,none⟩ (I 0)=v1.setRow nb #[I 0]:=qz v1 nb 0 #[I 0] 3 (0,0) (I 0) hn2;have HB1:Hid (Below B w v1):=hJJ ((HB.out.mono hB).trans (hb1.below (k8 hB HB.out.size) hg));have HR1:=hJJ hr1;have HG2:=hJJ hg2;clear k0 hr1 hb1 hg2 hgg;go_upto_region 2 with fail
 have hb2:But nb v1 (v1.setCell ⟨nb,0,none⟩ (I 0)):=But.set nb 0 v1 _;have hB2:Below B w (v1.setCell ⟨nb,0,none⟩ (I 0)):=HB1.out.setCell hnb _;have hR2:=HR1.out.but hb2 (Ne.symm hne) (fun h=>absurd rfl h);have hG2:=(hb2.block rb (k3.1 HG2.out).1 (by omega)).trans HG2.out;rw [hst] at hb2 hB2 hR2 hG2;generalize v1.setRow nb #[I 0]=v2 at hB2 hR2 hG2 |-;have HB3:=hJJ hB2;have LR:Hid (jl v2 ⟨rb,0,none⟩ [.pointer (some ⟨g,0,none⟩)]):=hJJ (by have:=Row.j1 hG2;simpa using this);have hwb:=hJJ (j2Z g ad cap [] 0 2 (0:Nat) v2 hR2 (by decide));clear hst hb2 hB2 hR2 hG2 c1 f1;go_wp2_with (refine lgZ 55 ⟨rb,0,none⟩ [.pointer (some ⟨g,0,none⟩)] rfl LR.out Tryz.underlying55 JD ?_)
 refine hwb.out.mono ?_;rintro e v3 ⟨rfl,hb3⟩;exact ⟨rfl,rfl,HB3.out.trans (hb3.mono (k8 hB HB3.out.size))⟩
theorem jcs {g:Nat} (ad:Option Addr) (cap:Nat) (w0 w:World) (h:Rd w g ad cap [] 0 0 0) (hw:Below w0.heap.size w0 w) (hg:w0.heap.size<=g) :
  Calls Tryz.prog 46 #[rdr g,.int .i64 3] w fun e w'=>e=.panicked [{ v:=fault (2,0),recovered:=false }]/\Below w0.heap.size w0 w':=by
 have hb:=(k4 w.heap.size w).alloc (k5 _) (.cells #[.pointer (some ⟨g,0,none⟩)] 55);have hb2:=hb.alloc hb.size (.cells #[I 0] 3);have hg1:=qx w (.cells #[.pointer (some ⟨g,0,none⟩)] 55);have hg2:=qx (w.alloc (.cells #[.pointer (some ⟨g,0,none⟩)] 55)) (.cells #[I 0] 3);have hs1:(w.alloc (.cells #[.pointer (some ⟨g,0,none⟩)] 55)).heap.size=w.heap.size+1:=by simp
 rw [hs1] at hg2
 have hg3:((w.alloc (.cells #[.pointer (some ⟨g,0,none⟩)] 55)).alloc (.cells #[I 0] 3)).heap[w.heap.size]?=some (.cells #[.pointer (some ⟨g,0,none⟩)] 55 (0,0)):=by
  rw [Kj _ _ _ (by rw [hs1];omega)];exact hg1
 have HR:=hJJ (h.below hb2);have hgl:=h.lt;have HW:Hid (Below w0.heap.size w0 ((w.alloc (.cells #[.pointer (some ⟨g,0,none⟩)] 55)).alloc (.cells #[I 0] 3))):=hJJ (hw.trans (hb2.mono hw.size));have hws:=hw.size;clear h hb hg1 hs1 hw hb2;go_enter Tryz.func46,Tryz.ntmps46
 go_upto_region 2 with fail
 generalize kr (kr w _) _=v at HR HW hg2 hg3 |-;generalize hnb:w.heap.size+1=nb at hg2 |-;generalize hrb:w.heap.size=rb at hg3 |-;have LR:Hid (∀ W,Below v.heap.size v W->jl W ⟨rb,0,none⟩ [.pointer (some ⟨g,0,none⟩)]):=hJJ (fun W hb=>by have:=Row.j1 ((hb.block rb (k3.1 hg3).1).trans hg3);simpa using this);have HG2:=hJJ hg2;clear hg2 hg3;refine QT.region v.heap.size 6 (by kernel_rfl) (by kernel_rfl) ?_;simp only [KY,KS]
 repeat first
  | (refine QL.j1q rfl 55 _ rfl ⟨rb,0,none⟩ rfl [.pointer (some ⟨g,0,none⟩)] _ (fun w' ⟨p,e⟩=>by rw [e];exact LR.out _ p.below) Tryz.underlying55 rfl JD ?_
     dsimp only [qv];simp only [kt,Ky,Kz])
  | (quiet_step (fail))
  | (refine j1P rfl (I 16777216) (fun w=>rfl) ?_
     dsimp only [qv];simp only [kt,Ky,Kz])
 refine qH ?_;intro _ hw';obtain ⟨p,rfl⟩:=hw';have HR2:=hJJ (HR.out.below p.below);have HN2:=hJJ ((p.below.block nb (k3.1 HG2.out).1).trans HG2.out);have HWD:Hid (Below w0.heap.size w0 p.world):=hJJ (HW.out.trans (p.below.mono HW.out.size));generalize p.world=vd at HR2 HN2 HWD |-;simp only [Kq,kV];go_wp2_with fail
 refine (j7Z (B:=w0.heap.size) ad cap _ vd HR2.out HN2.out (by omega) HWD.out.size hg (by omega)).mono ?_;rintro e v3 ⟨rfl,hb3⟩;exact ⟨rfl,rfl,HWD.out.trans hb3⟩
theorem jaE {g:Nat} (ad:Option Addr) (cap:Nat) (w0 w:World) (h:Rd w g ad cap [] 0 0 0) (hw:Below w0.heap.size w0 w) (hg:w0.heap.size<=g) :
  Calls Tryz.prog 19 #[rdr g] w fun e w'=>e=.panicked [{ v:=fault (2,0),recovered:=false }]/\Below w0.heap.size w0 w':=by
 have hb:=(k4 w.heap.size w).alloc (k5 _) (.cells #[.pointer (some ⟨g,0,none⟩)] 55);have hg1:=qx w (.cells #[.pointer (some ⟨g,0,none⟩)] 55);have hw2:=hw.trans (hb.mono hw.size);have HC:=hJJ (jcs ad cap w0 _ (h.below hb) hw2 hg);clear h hb hw hw2;go_enter Tryz.func19,Tryz.ntmps19
 go_upto_region 1 with fail
 generalize kr w _=v at HC hg1 |-;have LR:Hid (jl v ⟨w.heap.size,0,none⟩ [.pointer (some ⟨g,0,none⟩)]):=hJJ (by have:=Row.j1 hg1;simpa using this);go_wp2_with (refine lgZ 55 ⟨w.heap.size,0,none⟩ [.pointer (some ⟨g,0,none⟩)] rfl LR.out Tryz.underlying55 JD ?_)
 refine HC.out.mono ?_;rintro e v3 ⟨rfl,hb3⟩;exact ⟨rfl,rfl,hb3⟩
end Rr
namespace Rr
open Zip
open Go Go.RowKit Go.ChangeShapes
open Tab
open Po (fault jW j2S)
open Rd (Rd But)
open Clone (jB zHd j1p j3m)
theorem jz {P:Program} {fn:Func} {p q:Tmp} {t1 t2:TypeId} (h:fn.results=#[.cell p t1,.cell q t2]) (tmps:Array Value) (w:World) (g1 g2:Nat) (s1 s2:TypeId) (c1 c2:Array Value) (d1 d2:TypeDesc)
  (hp:tmps.getD p undef=.pointer (some ⟨g1,0,none⟩)) (hq:tmps.getD q undef=.pointer (some ⟨g2,0,none⟩)) (hg1:w.heap[g1]?=some (.cells c1 s1 (0,0))) (hg2:w.heap[g2]?=some (.cells c2 s2 (0,0)))
  (hu1:P.underlying t1=some d1) (hd1:(match d1 with | .struct _ | .array _ _=>true | _=>false)=true) (hi1:(P.info? t1).map (·.size)=some c1.size)
  (hu2:P.underlying t2=some d2) (hd2:(match d2 with | .struct _ | .array _ _=>true | _=>false)=true) (hi2:(P.info? t2).map (·.size)=some c2.size) :
  (results fn tmps).run P w=.ok (.tuple #[.agg c1,.agg c2]) w:=by
 have hp':tmps[p]?.getD undef=.pointer (some ⟨g1,0,none⟩):=by simpa using hp
 have hq':tmps[q]?.getD undef=.pointer (some ⟨g2,0,none⟩):=by simpa using hq
 simp [results,h,hp',hq',asAddr,kG,KU,qS w g1 s1 t1 c1 _ d1 hg1 hu1 hd1 hi1,qS w g2 s2 t2 c2 _ d2 hg2 hu2 hd2 hi2]
theorem j0l (b:Nat) (z0 z1 x y:Int) (w:World) (hc:w.heap[b]?=some (.cells #[I z0,I z1] 36 (0,0))) :
  CallsD Tryz.prog 15 #[.pointer (some ⟨b,0,none⟩)] (.panicking [{ v:=fault (x,y),recovered:=false }]) w fun e u' w'=>e=.returned (.tuple #[])/\u'=.panicking [{ v:=fault (x,y),recovered:=true }]/\But b w w'/\w'.heap[b]?=some (.cells #[I x,I y] 36 (0,0)):=by
 refine qI Tryz.func15 rfl fun c₀ cs hu=>?_;apply wpS_region;simp [wpOpsS,go_sem,recoverD,hu];refine (j2S x y _).mono ?_;rintro e w' ⟨rfl,hb⟩;have hc1:=(hb.block b (k3.1 hc).1).trans hc;have c0:w'.cell? ⟨b,0,none⟩=some (I z0):=by rw [qy _ _ _ _ _ _ hc1];rfl
 have c1:w'.cell? ⟨b,1,none⟩=some (I z1):=by rw [qy _ _ _ _ _ _ hc1];rfl
 have f0:w'.frozen? ⟨b,0,none⟩=false:=qC _ _ _ _ _ hc1;have f1:w'.frozen? ⟨b,1,none⟩=false:=qC _ _ _ _ _ hc1;have hs1:w'.setCell ⟨b,0,none⟩ (I x)=w'.setRow b #[I x,I z1]:=qz w' b 0 #[I z0,I z1] 36 (0,0) (I x) hc1;have hr1:=qA w' b _ #[I x,I z1] _ _ hc1;have hs2:(w'.setRow b #[I x,I z1]).setCell ⟨b,1,none⟩ (I y)=(w'.setRow b #[I x,I z1]).setRow b #[I x,I y]:=qz _ b 1 #[I x,I z1] 36 (0,0) (I y) hr1;have hr2:=qA _ b _ #[I x,I y] _ _ hr1;rw [<-hs2,<-hs1] at hr2;have hbut:But b w ((w'.setCell ⟨b,0,none⟩ (I x)).setCell ⟨b,1,none⟩ (I y)):=((But.of hb).trans (But.set b 0 w' _)).trans (But.set b 1 _ _);clear hs1 hs2 hr1;simp [wpOpsS,go_sem,c0,f0,c1,f1,ki,bodyPostS,results,Tryz.results15];exact ⟨hbut,hr2⟩
theorem jct (w:World):Calls Tryz.prog 6 #[.slice none 0 0] w fun e w'=>e=.returned (.tuple #[.agg (jB.cells zHd).toArray,.agg #[I 2,I 0]])/\Below w.heap.size w w':=by
 have hmf:∀ (fn:Fn) (first cap:Array Value) (w:World),(kx fn first cap).run Tryz.prog w=.ok (.func fn first cap) w:=fun _ _ _ _=>rfl;have hz:=(qK j1p).1;have ZS:(jB.cells zHd).toArray.size=131:=(j9 (j3m w)).size;have ZI:(Tryz.prog.info? 33).map (·.size)=some (jB.cells zHd).toArray.size:=by rw [ZS];kernel_rfl
 obtain ⟨Z,hZ⟩:∃ Z,(jB.cells zHd).toArray=Z:=⟨_,rfl⟩;rw [hZ] at hz ZI;have EZ:=hJJ hZ;have hb1:=(k4 w.heap.size w).alloc (k5 _) (.cells Z 33);have hb2:=hb1.alloc hb1.size (.cells #[I 0,I 0] 36);have hg1:=qx w (.cells Z 33);have hg2:=qx (w.alloc (.cells Z 33)) (.cells #[I 0,I 0] 36);have hs1:(w.alloc (.cells Z 33)).heap.size=w.heap.size+1:=by simp
 rw [hs1] at hg2
 have hg3:((w.alloc (.cells Z 33)).alloc (.cells #[I 0,I 0] 36)).heap[w.heap.size]?=some (.cells Z 33 (0,0)):=by
  rw [Kj _ _ _ (by rw [hs1];omega)];exact hg1
 clear hZ ZS hb1 hg1 hs1
 go_enter_defers Tryz.func6,Tryz.ntmps6
 go_upto_region 2 with fail
 generalize kr (kr w _) _=v at hb2 hg2 hg3 |-;generalize hfb:w.heap.size+1=fb at hg2 |-;generalize htb:w.heap.size=tb at hg3 |-;have HB:=hJJ hb2;have HF:=hJJ hg2;have HT:=hJJ hg3;clear hb2 hg2 hg3;go_wp2_with fail
 refine (Rd.jcn none 0 [] v (Go.Proofs.YtonpphjleapafaaGreat.B.j48 _ _ _ rfl) (by decide) (fun _=>rfl)).mono ?_;rintro e v1 ⟨g,ad,cap,rfl,hg,_,hrd,hb⟩;go_upto_region 5 with fail
 have hb3:=hb.alloc hb.size (.cells #[.pointer (some ⟨g,0,none⟩)] 55);have hr3:=qx v1 (.cells #[.pointer (some ⟨g,0,none⟩)] 55);have hrd3:=hrd.below ((k4 v1.heap.size v1).alloc (k5 _) (.cells #[.pointer (some ⟨g,0,none⟩)] 55));generalize kr v1 _=v2 at hb3 hr3 hrd3 |-;generalize v1.heap.size=rb at hr3 |-;have LR:Hid (jl v2 ⟨rb,0,none⟩ [.pointer (some ⟨g,0,none⟩)]):=hJJ (by have:=Row.j1 hr3;simpa using this);have HH:=hJJ (jaE ad cap v v2 hrd3 hb3 hg);clear hb hb3 hr3 hrd hrd3 hg;go_wp2_with (refine lgZ 55 ⟨rb,0,none⟩ [.pointer (some ⟨g,0,none⟩)] rfl LR.out Tryz.underlying55 JD ?_)
 refine HH.out.mono ?_;rintro e v3 ⟨rfl,hb3⟩;have hF3:=(hb3.block fb (k3.1 HF.out).1).trans HF.out;have hT3:=(hb3.block tb (k3.1 HT.out).1).trans HT.out;go_wp2;refine qD (f:=15) (args:=#[.pointer (some ⟨fb,0,none⟩)]) (by simp) (by simp [go_sem]) ?_;refine (j0l fb 0 0 2 0 v3 hF3).mono ?_;rintro e u' w'' ⟨rfl,rfl,hbut,hF4⟩;have hT4:=(hbut.block tb (k3.1 hT3).1 (by omega)).trans hT3;have hBB:Below w.heap.size w w'':=(HB.out.trans (hb3.mono HB.out.size)).trans (hbut.below (k8 HB.out.size hb3.size) (by omega));exact ⟨_,jz rfl _ w'' tb fb 33 36 Z #[I 2,I 0] _ _ rfl rfl hT4 hF4 Tryz.underlying33 rfl ZI Tryz.underlying36 rfl jW,by rw [EZ.out],hBB⟩
end Rr
namespace Rr
open Zip
open Go Go.RowKit Go.ChangeShapes
open Tab
open Po (jW)
open Clone (jB zHd j1p j3m)
theorem Jd {P:Program} {ops:Array Oper} {Q:Exit->Act->World->Prop} {rest:List Oper} {o:Oper} {a:Act} {w:World} (hgd:o.guard=none) (t:TypeId) (ho:o.op=.build t #[]) (cells:Array Value) (hb:P.built t []=some cells)
  (h:wpList P ops Q rest (a.put o.dst (.agg cells)) w):wpList P ops Q (o :: rest) a w :=
 qP hgd fun _ hK=>by
  unfold qw execOp;have hb':P.built t ((#[]:Array (Nat × Operand)).map fun (i,x)=>(i,a.eval x)).toList=some cells:=by simpa using hb
  simp only [ho,kG,run_build w t _ _ hb',ky,Kt];exact hK _ _ h
theorem jaF:Tryz.prog.built 33 []=some (jB.cells zHd).toArray:=by kernel_rfl
theorem jf1:May.jZ jB=true:=by decide +kernel
theorem j5B (w:World):Calls Tryz.prog 5 #[] w fun e w'=>e=.returned (.bool true)/\Below w.heap.size w w':=by
 have hz:=(qK j1p).1;have ZS:(jB.cells zHd).toArray.size=131:=(j9 (j3m w)).size;have ZO:=(j9 (j3m w)).one;have ZI:(Tryz.prog.info? 33).map (·.size)=some (jB.cells zHd).toArray.size:=by rw [ZS];kernel_rfl
 have DN:Hid (∀ W,Calls Tryz.prog 6 #[.slice none 0 0] W fun e w'=>e=.returned (.tuple #[.agg (jB.cells zHd).toArray,.agg #[I 2,I 0]])/\Below W.heap.size W w'):=hJJ (fun W=>jct W);have EN:Hid (∀ W,Calls Tryz.prog 13 #[.agg (jB.cells zHd).toArray] W fun e w'=>∃ v,e=.returned (.tuple #[v,I 0])/\B.Own W.heap.size w' v (Cd.jP (Cd.J0 jB))/\Below W.heap.size W w'):=hJJ (fun W=>Po.j6Y (j3m W) jf1);have BZ:=hJJ jaF;have L8:Hid (∀ x ∈ Cd.jP (Cd.J0 jB),x < 256):=hJJ ((Cd.B8.body _).app (Cd.B8.low _ _));have LL:Hid (3 < (Cd.jP (Cd.J0 jB)).length/\(Cd.jP (Cd.J0 jB)).getD 0 0=88):=hJJ ⟨by unfold Cd.jP;rw [k7,Put.jE];show 3 < (3+(Cd.JK jB).length)+2 ;omega,rfl⟩;generalize (jB.cells zHd).toArray=Z at hz ZS ZO ZI DN EN BZ;generalize Cd.jP (Cd.J0 jB)=L at EN L8 LL;go_enter Tryz.func5,Tryz.ntmps5
 go_wp2_with fail
 refine (DN.out w).mono ?_;rintro e v1 ⟨rfl,hb1⟩;have HB1:=hJJ hb1;have hs1:(v1.alloc (.cells Z 33)).heap.size=v1.heap.size+1:=by simp
 have kb0:((v1.alloc (.cells Z 33)).alloc (.cells #[I 0,I 0] 36)).heap[v1.heap.size]?=some (.cells Z 33 (0,0)):=by
  rw [Kj _ _ _ (by rw [hs1];omega)];exact qx v1 _
 have kf0:((v1.alloc (.cells Z 33)).alloc (.cells #[I 0,I 0] 36)).heap[v1.heap.size+1]?=some (.cells #[I 0,I 0] 36 (0,0)):=by
  have:=qx (v1.alloc (.cells Z 33)) (.cells #[I 0,I 0] 36)
  rwa [hs1] at this
 have kf1:(((v1.alloc (.cells Z 33)).alloc (.cells #[I 0,I 0] 36)).setRow v1.heap.size Z).heap[v1.heap.size+1]?=some (.cells #[I 0,I 0] 36 (0,0)):=(qB _ _ _ _ (by omega)).trans kf0;have kf2:=qA _ (v1.heap.size+1) _ #[I 2,I 0] _ _ kf1
 have hb2:Below v1.heap.size v1 ((((v1.alloc (.cells Z 33)).alloc (.cells #[I 0,I 0] 36)).setRow v1.heap.size Z).setRow (v1.heap.size+1) #[I 2,I 0]) :=
  below_setRow (below_setRow (((k4 _ _).alloc (k5 _) _).alloc (by rw [hs1];omega) _) (k5 _) Z) (by omega) _
 have KB:=hJJ kb0;have KF:=hJJ kf1;have KF2:=hJJ kf2;have HB2:=hJJ (hb1.trans (hb2.mono hb1.size));clear kb0 kf0 kf1 kf2 hb2 hs1 hb1;go_upto_region 2 with (first | (refine qR rfl 33 _ _ rfl v1.heap.size Z rfl rfl 33 _ KB.out ZI rfl ZO ?_) | (refine qR rfl 36 _ _ rfl (v1.heap.size+1) #[I 2,I 0] rfl rfl 36 _ KF.out jW rfl (by simp [Value.oneCell']) ?_))
 generalize ((((v1.alloc (.cells Z 33)).alloc (.cells #[I 0,I 0] 36)).setRow v1.heap.size Z).setRow (v1.heap.size+1) #[I 2,I 0])=v2 at KF2 HB2 |-;generalize v1.heap.size+1=fb at KF2 |-;clear KB KF;go_wp2_with (refine Jd rfl 33 rfl Z BZ.out ?_)
 refine (EN.out v2).mono ?_;rintro e v3 ⟨bv,rfl,hown,hb3⟩;obtain ⟨a,cap,rfl,hr⟩:=B.jY hown L8.out;obtain ⟨n,hn⟩:∃ n,n=L.length:=⟨_,rfl⟩;have hn3:3 < n:=by rw [hn];exact LL.out.1
 obtain ⟨x,rfl,hc⟩:=hr.cells (k:=0) (by omega);have hc0:=hc 0 (by omega);rw [LL.out.2,Tab.add_zero] at hc0;have hF3:=(hb3.block fb (k3.1 KF2.out).1).trans KF2.out;have k0:v3.cell? ⟨fb,0,none⟩=some (I 2):=by rw [qy _ _ _ _ _ _ hF3];rfl
 have k1:v3.cell? ⟨fb,1,none⟩=some (I 0):=by rw [qy _ _ _ _ _ _ hF3];rfl
 have HB3:=hJJ (HB2.out.trans (hb3.mono HB2.out.size));rw [<-hn];clear hown hr hc hF3 hb3 hn;go_wp2;go_ret;exact ⟨rfl,HB3.out⟩
end Rr
namespace Copy
open Go Go.RowKit
open Tab
theorem j5C {z:Array Value} (n:Nat):madeCells z (n*z.size)=(k6 n z.toList).flatten.toArray:=by
 apply Array.ext';apply q7;intro i
 have hlen:(k6 n z.toList).flatten.length=n*z.size:=by
  rw [km,KA,kH,K7]
 by_cases hi:i < n*z.size
 ·have hz:0 < z.size:=by
   rcases kM z.size with h | h
   ·rw [h] at hi;omega
   exact h
  have hq:i / z.size < n:=(Nat.div_lt_iff_lt_mul hz).2 hi;have hr:i % z.size < z.size:=q0 _ hz;have h1:=j2h (enc:=fun _:Unit=>z.toList) (n:=z.size) (fun _=>K7) (k6 n ()) (i / z.size) () (i % z.size) z[i % z.size] (by rw [KG,if_pos hq]) (by rw [KP];exact KC hr);rw [show i / z.size*z.size+i % z.size=i by rw [KI];exact Nat.div_add_mod i z.size] at h1;rw [show (k6 n ()).flatMap (fun _=>z.toList)=(k6 n z.toList).flatten by rw [List.flatMap_def,KA]] at h1;show _=(k6 n z.toList).flatten[i]?;rw [h1,KP];unfold madeCells;rw [Array.getElem?_map,Array.getElem?_range,if_pos (by show i < n*z.size;exact hi),Option.map_some,getElem!_pos z _ hr]
 rw [KQ (by rw [K7,size_madeCells];omega),KQ (by show (k6 n z.toList).flatten.length<=i;omega)]
section
variable {P:Program}
theorem Jo {ops:Array Oper} {rest:List Oper} {o:Oper} {a:Act} {w:World} {Q:Exit->Act->World->Prop} (hg:o.guard=none) (l c:Operand) (t e:TypeId) (hop:o.op=Op.makeSlice t l c) (hu:P.underlying t=some (.slice e))
  (z:Value) (size bytes:Nat) (hi:(P.info? e).map (fun i=>(i.zero,i.size,i.bytes))=some (some z,size,bytes)) (hz:z.cells.size=size) (n:Nat) (hl:a.eval l=.int .i64 (n:Int)) (hc:a.eval c=.int .i64 (n:Int)) (hn:n<=1000) (hb:bytes<=100000)
  (h:∀ w',w'.heap[w.heap.size]?=some (.cells (k6 n z.cells.toList).flatten.toArray e (0,0))->Below w.heap.size w w'->w'.heap.size=w.heap.size+1->wpList P ops Q rest (a.put o.dst (.slice (some ⟨w.heap.size,0,none⟩) n n)) w'):wpList P ops Q (o :: rest) a w:=by
 obtain ⟨i,hi0,hz0,hs,hby⟩:=info_parts hi;refine qP hg fun K hK=>?_
 have hle:(i.bytes:Int)*(n:Int)<=281474976710656:=by
  have h1:i.bytes*n<=100000*1000:=Nat.mul_le_mul (by omega) hn;have h2:(i.bytes:Int)*(n:Int)=((i.bytes*n:Nat):Int):=by simp
  omega
 have hrun:=run_make (P:=P) w t e i z hu hi0 hz0 .i64 .i64 (n:Int) (n:Int) (by omega) (by omega) hle (by omega);unfold qw;simp only [execOp,hop,hl,hc,kG,hrun,ky];refine hK _ _ (h _ ?_ ((k4 _ _).alloc (k5 _) _) (by simp));have:=qx w (.cells (madeCells z.cells (n*z.cells.size)) e);rw [j5C] at this;rw [hs,<-hz,kD,j5C];exact this
end
end Copy
namespace Po
open Zip
open Go Go.RowKit Go.ChangeShapes
open Tab
def jr (P:PP) (most:Int) (st:List Sp) (zr:List Value) (s:P.σ):Except Flt (List (List Value) × P.σ):=match P.num s 1 most 0 with
 | .error f=>.error f
 | .ok (y,s1)=>jf P st (k6 y.toNat zr) s1
def j1Q (P:PP) (R:P.σ->World->Prop) (B c oc:Nat) (ccs:Array Value) (ct:TypeId) (T:TypeId) (r:Except Flt (List (List Value) × P.σ)) (W:World) (e:Ending) (W':World):Prop:=match r with
 | .ok (xs',s')=>e=.returned (.tuple #[])/\R s' W'/\Mv B c W W'/\∃ (a:Option Addr),W'.heap[c]?=some (.cells (ccs.setIfInBounds oc (.slice a xs'.length xs'.length)) ct (0,0))/\(xs' ≠ []->∃ b,W.heap.size<=b/\a=some ⟨b,0,none⟩/\W'.heap[b]?=some (.cells xs'.flatten.toArray T (0,0)))
 | .error f=>e=.panicked [{ v:=fault f,recovered:=false }]/\Below B W W'
theorem Jp {cs:Array Value} {l:List Value} (h:cs.size=l.length):wrt cs 0 l=l.toArray:=by
 unfold wrt;rw [KS,qh,kp,kI (by rw [K7];omega),kZ]
theorem j1R {cs:Array Value} {i:Nat} {v:Value} (h:cs[i]?=some v):cs.setIfInBounds i v=cs:=by
 apply Kx;intro j;rw [kl];split
 ·rename_i e;subst e;rw [if_pos (k3.1 h).1,h]
 rfl
theorem Mv.off {B b c:Nat} {W V U:World} (h:Mv B c W V) (k:Mv B b V U) (hb:W.heap.size<=b):Mv B c W U :=
 ⟨h.low.trans k.low,fun j cs t fr hj ht hc=>by
  have h1:=h.other j cs t fr hj ht hc;have hl:=(k3.1 hj).1;exact (k.other j cs t fr (h1.trans hj) ht (by omega)).trans h1⟩
section
variable {P:PP} {R:P.σ->World->Prop} {B:Nat} {ok:Nat->Nat × Nat->Prop} {ti:TypeId} {v rv:Value} {FN FF FG:FuncId}
theorem jaG (PT:Port P R B ok ti v rv FN FF FG) {F:FuncId} {st:List Sp} {ks:List Nat} (en':∀ (args:Array Value) (w:World),(callFunc F args).run Tryz.prog w=.ok (.enter F args) w)
  (EF:Hid (∀ (W:World) (s:P.σ) (l:List Value) (b o:Nat) (cs:Array Value) (t:TypeId) (fr:Nat × Nat),l.map kind=ks->R s W->B<=W.heap.size->ok b fr->(b < B\/¬ Pt t)->o+l.length<=cs.size->W.heap[b]?=some (.cells (wrt cs o l) t fr)->Fit (runs P st l s)->Calls Tryz.prog F #[.iface ti v,.pointer (some ⟨b,o,none⟩)] W (Ends P R B b o cs t fr (runs P st l s) W)))
  {s:P.σ} {W:World} {most:Int} (hks:([I 0]:List Value).map kind=ks) (hR:R s W) (hB:B<=W.heap.size) (few:∀ y s1,P.num s 1 most 0=.ok (y,s1)->∃ n:Nat,y=n/\n<=1000)
  {c oc:Nat} {ccs:Array Value} {ct:TypeId} (hc:W.heap[c]?=some (.cells ccs ct (0,0))) (hct:¬ Pt ct) (hcB:B<=c) (hca:ccs[oc]?=some (.slice none 0 0)) (hfit:Fit (jr P most st [I 0] s)) :
  Calls Tryz.prog 92 #[.iface ti v,.int .i64 most,.pointer (some ⟨c,oc,none⟩),.func (.func F) #[] #[]] W (j1Q P R B c oc ccs ct 3 (jr P most st [I 0] s) W):=by
 have hm:=PT.mn;have en:=PT.en;have HKS:=hJJ hks;have HCT:=hJJ hct;have HC:=hJJ hc;have FW:=hJJ few;have HR:=hJJ hR;have HCA:=hJJ hca;have k1:W.cell? ⟨c,oc,none⟩=some (.slice none 0 0):=by rw [qy _ _ _ _ _ _ hc];exact hca
 have hcl:=(k3.1 hc).1;have hb1:Below W.heap.size W (W.alloc (.cells #[I 0] 3)):=(k4 _ _).alloc (k5 _) _;have hst:=PT.stay s W _ hR hb1.size (fun j cs t fr hj _=>hb1.block j (k3.1 hj).1)
 have hfn:Fit (Sp.run P [I 0] s (.num 1 most 0)):=fun h=>by
  simp only [Sp.run,kj] at h;cases hp:P.num s 1 most 0 with
  | ok y=>rw [hp] at h;cases h
  | error f=>rw [hp] at h;cases h;exact hfit (by unfold jr;rw [hp])
 have HFIT:=hJJ hfit;clear hfit;have hnum:=hJJ (PT.num s (W.alloc (.cells #[I 0] 3)) W.heap.size 0 #[I 0] 3 (0,0) [I 0] 1 most 0 0 hst (k8 hB hb1.size) (PT.new _ hB) (.inr (by decide)) (by simp) (by rw [JV (by simp) (by intro j hj;match j,hj with | 0,_=>rfl)];exact qx W _) rfl hfn);clear hks hct hc few hR hca hst hfn;obtain ⟨zr,hzr⟩:∃ zr:List Value,zr=[I 0]:=⟨_,rfl⟩;have hzl:zr.length=1:=by rw [hzr];rfl
 rw [<-hzr] at HKS HFIT |-;have HZR:=hJJ hzr;have HZL:=hJJ hzl;clear hzr hzl
 have HLP:Hid (jr P most st zr s=match P.num s 1 most 0 with
   | .error f=>.error f
   | .ok (y,s1)=>jf P st (k6 y.toNat zr) s1):=hJJ rfl
 generalize jr P most st zr s=r0 at HLP HFIT |-;go_enter Tryz.func92,Tryz.ntmps92
 go_upto_region 1 with fail
 generalize kr W _=W1 at hb1 hnum |-;generalize hnb:W.heap.size=nb at hb1 hnum |-;have HB1:=hJJ hb1;clear hb1;go_wp2_with fail
 refine hnum.out.mono ?_;intro e W2 he;simp only [Sp.run,kj] at he;cases hr:P.num s 1 most 0 with
 | error f =>
  rw [hr] at he HLP;obtain ⟨rfl,h2⟩:=he;refine ⟨rfl,?_⟩;rw [HLP.out];exact ⟨rfl,(HB1.out.mono (by omega)).trans h2⟩
 | ok y =>
 obtain ⟨y,s1⟩:=y;obtain ⟨n,rfl,hn2⟩:=FW.out _ _ hr;rw [hr] at he HLP;obtain ⟨xs,hxs⟩:∃ xs,xs=k6 n zr:=⟨_,rfl⟩;have hn:xs.length=n:=by rw [hxs,kO]
 have hk:∀ x ∈ xs,x.map kind=ks/\x.length=1:=fun x hx=>by
  rw [hxs] at hx;obtain rfl:=kU hx;exact ⟨HKS.out,HZL.out⟩
 have HN:=hJJ hn;have HK:=hJJ hk;have HXS:=hJJ hxs;dsimp only at HLP;rw [kD,<-hxs] at HLP;clear hn hk hxs;have HFE:Hid (Fit (jf P st xs s1)):=hJJ (by have:=HFIT.out;rw [HLP.out] at this;exact this);clear HFIT FW;obtain ⟨rfl,h2,h3,h4⟩:=he;have hwn:wrt #[I 0] 0 ([I 0].set 0 (I (n:Int)))=#[I (n:Int)]:=Jp rfl;rw [hwn] at h4;clear hwn;have hC2:=h3.Ju ((HB1.out.block c (by rw [<-hnb];exact hcl)).trans HC.out) (.inr HCT.out) (by omega);have kn:W2.cell? ⟨nb,0,none⟩=some (I (n:Int)):=by rw [qy _ _ _ _ _ _ h4];rfl
 have k1:W2.cell? ⟨c,oc,none⟩=some (.slice none 0 0):=by rw [qy _ _ _ _ _ _ hC2];exact HCA.out
 have HM:Hid (Mv B c W W2):=hJJ ⟨(HB1.out.mono (by omega)).trans h3.low,fun j cs t fr hj hjt hjb=>by
  have hjl:=(k3.1 hj).1;have h1:=(HB1.out.block j (by omega)).trans hj;exact (h3.other j cs t fr h1 hjt (by omega)).trans (HB1.out.block j (by omega))⟩
 have HR2:=hJJ h2;have HC2:=hJJ hC2;have HNB:=hJJ h4;have HBS:Hid (B<=W2.heap.size):=hJJ (k8 (k8 hB HB1.out.size) h3.low.size);clear h2 h3 h4 hC2 hnum hr HC HB1 HR;go_upto_region 2 with fail
 have q1:∀ p:QB.By W2.heap.size W2,p.world.cell? ⟨nb,0,none⟩=some (I (n:Int)):=fun p=>(p.below.cell (kh W2 _ kn)).trans kn;have q2:∀ p:QB.By W2.heap.size W2,p.world.cell? ⟨c,oc,none⟩=some (.slice none 0 0):=fun p=>(p.below.cell (kh W2 _ k1)).trans k1;refine QB.J8 W2.heap.size (by kernel_rfl) (by kernel_rfl) ?_;repeat (quiet_step (fail))
 refine qH ?_;intro _ hw';obtain ⟨p,rfl⟩:=hw';have k2:=q2 p;have kn2:=q1 p;have HRV:=hJJ (PT.stay s1 W2 p.world HR2.out p.below.size (fun j cs t fr hj _=>p.below.block j (k3.1 hj).1));have HMV:=hJJ (HM.out.trans (Mv.of p.below HBS.out));have HCV:Hid (p.world.heap[c]?=some (.cells ccs ct (0,0))):=hJJ ((p.below.block c (k3.1 HC2.out).1).trans HC2.out);have HBV:Hid (B<=p.world.heap.size):=hJJ (k8 HBS.out p.below.size);have HNV:Hid (p.world.heap[nb]?=some (.cells #[I (n:Int)] 3 (0,0))):=hJJ ((p.below.block nb (k3.1 HNB.out).1).trans HNB.out);clear q1 q2 kn k1 HM HR2 HC2 HBS HNB;generalize p.world=V at k2 kn2 HRV HMV HCV HBV HNV |-;rcases kM n with h0 | h0
 ·subst h0;obtain rfl:=kB HN.out;have hne:((((0:Nat):Int)) != 0)=false:=by decide
  go_wp2_with fail
  refine qE 1 ?_;rw [qF];go_wp2
  go_end0
  rw [HLP.out];exact ⟨rfl,HRV.out,HMV.out,none,by rw [kP,j1R HCA.out];exact HCV.out,fun h=>absurd rfl h⟩
 have hne:((n:Int) != 0)=true:=by simp;omega
 go_wp2_with (at_make;refine Copy.Jo rfl _ _ 42 3 rfl Tryz.underlying42 _ _ _ Clone.zI (by rfl) n (by first | rfl | go_simp) (by first | rfl | go_simp) hn2 (by decide) ?_)
 intro V2 hg2 hb2 hs2;generalize hbb:V.heap.size=b at hg2 |-;have hC3:=(hb2.block c (k3.1 HCV.out).1).trans HCV.out;have c1:V2.cell? ⟨c,oc,none⟩=some (.slice none 0 0):=by rw [qy _ _ _ _ _ _ hC3];exact HCA.out
 have f1:V2.frozen? ⟨c,oc,none⟩=false:=qC _ _ _ _ _ hC3;go_wp2_with fail
 rw [qz _ _ _ _ _ _ _ hC3];have hC4:=qA V2 c _ (ccs.setIfInBounds oc (.slice (some ⟨b,0,none⟩) n n)) ct (0,0) hC3
 have hbut:Rd.But c V2 (V2.setRow c (ccs.setIfInBounds oc (.slice (some ⟨b,0,none⟩) n n))):=by
  rw [<-qz _ _ _ _ _ _ _ hC3];exact Rd.But.set c _ V2 _
 have hst:∀ k,k ≠ c->(V2.setRow c (ccs.setIfInBounds oc (.slice (some ⟨b,0,none⟩) n n))).heap[k]?=V2.heap[k]?:=fun k hk=>qB _ _ _ _ hk;generalize V2.setRow c _=V3 at hC4 hbut hst |-;have hoc:oc < ccs.size:=(k3.1 HCA.out).1;have HCC:Hid ((ccs.setIfInBounds oc (.slice (some ⟨b,0,none⟩) n n))[oc]?=some (.slice (some ⟨b,0,none⟩) n n)):=hJJ (by rw [kl,if_pos rfl,if_pos hoc]);have hcV:=(k3.1 HCV.out).1
 have HRW:Hid (R s1 V3):=hJJ (PT.stay s1 V V3 HRV.out (k8 hb2.size hbut.size) (fun j cs t fr hj hp=>by
  have hjc:j ≠ c:=fun e=>by
   subst e;have h1:=HCV.out;rw [hj] at h1;cases h1;exact HCT.out hp
  exact (hst j hjc).trans (hb2.block j (k3.1 hj).1)))
 have HMW:Hid (Mv B c W V3):=hJJ (HMV.out.trans ((Mv.of hb2 HBV.out).trans ⟨hbut.below (k8 HBV.out hb2.size) hcB,fun j cs t fr hj hp hjc=>hst j hjc⟩));have HZF:Hid (xs.flatten=(k6 n zr).flatten):=hJJ (by rw [HXS.out])
 have HB0:Hid (V3.heap[b]?=some (.cells (wrt xs.flatten.toArray 0 xs.flatten) 3 (0,0))):=hJJ (by
  rw [Jp (by simp),hst b (by omega),hg2,HZF.out,HZR.out] <;> simp)
 have HCW0:=hJJ hC4;have HNW:Hid (W.heap.size<=b):=hJJ (by rw [<-hbb];exact HMV.out.low.size);have HBb:Hid (B<=b):=hJJ (by rw [<-hbb];exact HBV.out);have hcb:c ≠ b:=by omega
 clear hC3 hC4 hbut hst c1 f1 hg2 hb2 hs2 k2 kn2 HRV HMV HCV HBV HNV hbb HXS HZF HCA hoc;obtain ⟨cc2,hcc⟩:∃ cc2,cc2=ccs.setIfInBounds oc (.slice (some ⟨b,0,none⟩) n n):=⟨_,rfl⟩;rw [<-hcc] at HCC HCW0;have HQ:=hJJ hcc;clear hcc
 have HXL:Hid (∀ q,(xs.take q).flatten.length=min q n*1):=hJJ (fun q=>by
  rw [km,show (xs.take q).map kC=k6 (min q n) 1 from K0.2 ⟨by rw [kk,K4,HN.out],fun m hm=>by
   obtain ⟨x,hx,rfl⟩:=Ku.1 hm;exact (HK.out x (kS hx)).2⟩,kH])
 have HCS:Hid (xs.flatten.toArray.size=n*1):=hJJ (by
  have h3:=HXL.out n;rw [ke (by rw [HN.out];omega),KM] at h3;rw [kQ,h3])
 obtain ⟨cs,hcs⟩:∃ cs,cs=xs.flatten.toArray:=⟨_,rfl⟩;rw [<-hcs] at HCS HB0;clear hcs;go_loopw [31] (fun i wr=>∃ (q:Nat) (ys:List (List Value)) (s':P.σ),q<=n/\i=.int .i64 (q:Int)/\jf P st (xs.take q) s1=.ok (ys,s')/\R s' wr/\Mv B c W wr/\wr.heap[c]?=some (.cells cc2 ct (0,0))/\wr.heap[b]?=some (.cells (wrt cs 0 (ys.flatten++(xs.drop q).flatten)) 3 (0,0))) (fun i _=>n - (intOf i).toNat)
 case atStart=>exact ⟨0,[],s1,by omega,rfl,rfl,HRW.out,HMW.out,HCW0.out,HB0.out⟩
 case round =>
  obtain ⟨q,ys,s',hq,rfl,hrun,hr,hmv,hcv,hbv⟩:=hrel;have HE:=hJJ hrun;have HS:=hJJ hr;have HM:=hJJ hmv;have HCW:=hJJ hcv;have HBW:=hJJ hbv;clear hrun hr hmv hcv hbv
  have hyl:ys.flatten.length=q:=by
   have h1:=Jz P st HE.out;have h2:=HXL.out q;rw [km] at h2 |-;rw [h1,h2,kF hq,qc]
  by_cases hlt:q < n
  ·obtain ⟨x,hx⟩:∃ x,xs[q]?=some x:=⟨_,kd (by rw [HN.out];exact hlt)⟩
   have hdrop:xs.drop q=x :: xs.drop (q+1):=by
    have hq':q < xs.length:=by rw [HN.out];exact hlt
    rw [kz hq'];congr 1;exact (kg.1 hx).2
   obtain ⟨hxk,hxl⟩:=HK.out x (kq hx)
   have htot:0+(ys.flatten++(x++(xs.drop (q+1)).flatten)).length<=cs.size:=by
    have h1:(xs.drop (q+1)).flatten.length+(xs.take (q+1)).flatten.length=xs.flatten.length:=by
     have:=congrArg kC (show (xs.take (q+1)++xs.drop (q+1)).flatten=xs.flatten by rw [ko]);rw [kv,k7] at this;omega
    have h2:=HXL.out (q+1);have h3:=HXL.out n;rw [ke (by rw [HN.out];omega)] at h3;have h4:=HCS.out;rw [kF (by omega)] at h2 h3;rw [k7,k7,hyl,hxl];omega
   have hseg:=HBW.out;rw [hdrop,kE] at hseg;have hseg2:=hseg;rw [<-j0t (y:=x) hyl htot rfl,kp] at hseg2;have kc:wr.cell? ⟨c,oc,none⟩=some (.slice (some ⟨b,0,none⟩) n n):=by rw [qy _ _ _ _ _ _ HCW.out];exact HCC.out
   have HXQ:=hJJ hx
   have HER:Hid (∀ f,runs P st x s'=.error f->jf P st xs s1=.error f):=hJJ (fun f h=>by
    have e:xs=xs.take q++([x]++xs.drop (q+1)):=by
     rw [K1,<-hdrop,ko]
    rw [e,jx,HE.out]
    (try dsimp only)
    rw [jx,Jy,h])
   have hcall:=hJJ (EF.out wr s' x b (q) (wrt cs 0 (ys.flatten++(x++(xs.drop (q+1)).flatten))) 3 (0,0) hxk HS.out (k8 hB HM.out.low.size) (PT.new _ HBb.out) (.inr (by decide)) (by rw [j2N htot,hxl];rw [k7,k7,hyl,hxl] at htot;omega) hseg2 (fun h=>HFE.out (HER.out _ h)));have HT1:=hJJ htot;have HYL:=hJJ hyl;have HXX:=hJJ hxl;clear hseg hseg2 htot hyl hxl hx hxk hdrop
   have HA:Hid (∀ zs s2,jf P st [x] s'=.ok (zs,s2)->jf P st (xs.take (q+1)) s1=.ok (ys++zs,s2)):=hJJ (fun zs s2 h=>by
    rw [Kg,HXQ.out];show jf P st (xs.take q++[x]) s1=_;rw [jx,HE.out]
    (try dsimp only)
    rw [h])
   go_wp2_with fail
   refine hcall.out.mono ?_;intro e W' he;cases hrx:runs P st x s' with
   | error f =>
    rw [hrx] at he;obtain ⟨rfl,h2⟩:=he;refine ⟨rfl,?_⟩;rw [HLP.out]
    (try dsimp only)
    rw [HER.out f hrx];exact ⟨rfl,HM.out.low.trans h2⟩
   | ok y =>
    obtain ⟨x',s2⟩:=y;rw [hrx] at he;obtain ⟨rfl,h2,h3,h4⟩:=he;have hxl':=Jv P st hrx;have hwm:=j0t HYL.out HT1.out hxl';rw [kp] at hwm;rw [hwm] at h4;have H2:=hJJ h2;have H3:=hJJ (HM.out.off h3 HNW.out);have H4:=hJJ h4;have HC4:=hJJ (h3.Ju HCW.out (.inr HCT.out) hcb);have HEN:=hJJ (HA.out [x'] s2 (by rw [Jy,hrx]));clear h2 h3 h4 kc hxl' hrx hwm;go_wp2;go_roundw;case rel=>exact ⟨q+1,ys++[x'],s2,by omega,by go_num,HEN.out,H2.out,H3.out,HC4.out,by rw [kv,kY,kT];exact H4.out⟩
    case measure=>simp [intOf];omega
  obtain rfl:n=q:=by omega
  have HF:Hid (jf P st xs s1=.ok (ys,s')):=hJJ (by have:=HE.out;rwa [ke (by rw [HN.out];omega)] at this)
  have HYN:Hid (ys.length=n):=hJJ (by
   have:=congrArg kC (Jz P st HF.out)
   rwa [kk,kk,HN.out] at this)
  have HYL:=hJJ hyl;clear hyl;go_wp2
  go_end0
  rw [HLP.out]
  (try dsimp only)
  rw [HF.out];refine ⟨rfl,HS.out,HM.out,some ⟨b,0,none⟩,by rw [HYN.out,<-HQ.out];exact HCW.out,fun _=>⟨b,HNW.out,rfl,?_⟩⟩;have:=HBW.out
  rwa [kI (by rw [HN.out];omega),K5,kZ,Jp (by rw [HYL.out,HCS.out];omega)] at this
theorem jaH (PT:Port P R B ok ti v rv FN FF FG) {F:FuncId} {st:List Sp} {ks:List Nat} (en':∀ (args:Array Value) (w:World),(callFunc F args).run Tryz.prog w=.ok (.enter F args) w)
  (EF:Hid (∀ (W:World) (s:P.σ) (l:List Value) (b o:Nat) (cs:Array Value) (t:TypeId) (fr:Nat × Nat),l.map kind=ks->R s W->B<=W.heap.size->ok b fr->(b < B\/¬ Pt t)->o+l.length<=cs.size->W.heap[b]?=some (.cells (wrt cs o l) t fr)->Fit (runs P st l s)->Calls Tryz.prog F #[.iface ti v,.pointer (some ⟨b,o,none⟩)] W (Ends P R B b o cs t fr (runs P st l s) W)))
  {s:P.σ} {W:World} {most:Int} (hks:([I 0,.float .f64 0,.float .f64 0,.float .f64 0,.float .f64 0,I 0,I 0]:List Value).map kind=ks) (hR:R s W) (hB:B<=W.heap.size) (few:∀ y s1,P.num s 1 most 0=.ok (y,s1)->∃ n:Nat,y=n/\n<=1000)
  {c oc:Nat} {ccs:Array Value} {ct:TypeId} (hc:W.heap[c]?=some (.cells ccs ct (0,0))) (hct:¬ Pt ct) (hcB:B<=c) (hca:ccs[oc]?=some (.slice none 0 0)) (hfit:Fit (jr P most st [I 0,.float .f64 0,.float .f64 0,.float .f64 0,.float .f64 0,I 0,I 0] s)) :
  Calls Tryz.prog 51 #[.iface ti v,.int .i64 most,.pointer (some ⟨c,oc,none⟩),.func (.func F) #[] #[]] W (j1Q P R B c oc ccs ct 71 (jr P most st [I 0,.float .f64 0,.float .f64 0,.float .f64 0,.float .f64 0,I 0,I 0] s) W):=by
 have hm:=PT.mn;have en:=PT.en;have HKS:=hJJ hks;have HCT:=hJJ hct;have HC:=hJJ hc;have FW:=hJJ few;have HR:=hJJ hR;have HCA:=hJJ hca;have k1:W.cell? ⟨c,oc,none⟩=some (.slice none 0 0):=by rw [qy _ _ _ _ _ _ hc];exact hca
 have hcl:=(k3.1 hc).1;have hb1:Below W.heap.size W (W.alloc (.cells #[I 0] 3)):=(k4 _ _).alloc (k5 _) _;have hst:=PT.stay s W _ hR hb1.size (fun j cs t fr hj _=>hb1.block j (k3.1 hj).1)
 have hfn:Fit (Sp.run P [I 0] s (.num 1 most 0)):=fun h=>by
  simp only [Sp.run,kj] at h;cases hp:P.num s 1 most 0 with
  | ok y=>rw [hp] at h;cases h
  | error f=>rw [hp] at h;cases h;exact hfit (by unfold jr;rw [hp])
 have HFIT:=hJJ hfit;clear hfit;have hnum:=hJJ (PT.num s (W.alloc (.cells #[I 0] 3)) W.heap.size 0 #[I 0] 3 (0,0) [I 0] 1 most 0 0 hst (k8 hB hb1.size) (PT.new _ hB) (.inr (by decide)) (by simp) (by rw [JV (by simp) (by intro j hj;match j,hj with | 0,_=>rfl)];exact qx W _) rfl hfn);clear hks hct hc few hR hca hst hfn;obtain ⟨zr,hzr⟩:∃ zr:List Value,zr=[I 0,.float .f64 0,.float .f64 0,.float .f64 0,.float .f64 0,I 0,I 0]:=⟨_,rfl⟩;have hzl:zr.length=7:=by rw [hzr];rfl
 rw [<-hzr] at HKS HFIT |-;have HZR:=hJJ hzr;have HZL:=hJJ hzl;clear hzr hzl
 have HLP:Hid (jr P most st zr s=match P.num s 1 most 0 with
   | .error f=>.error f
   | .ok (y,s1)=>jf P st (k6 y.toNat zr) s1):=hJJ rfl
 generalize jr P most st zr s=r0 at HLP HFIT |-;go_enter Tryz.func51,Tryz.ntmps51
 go_upto_region 1 with fail
 generalize kr W _=W1 at hb1 hnum |-;generalize hnb:W.heap.size=nb at hb1 hnum |-;have HB1:=hJJ hb1;clear hb1;go_wp2_with fail
 refine hnum.out.mono ?_;intro e W2 he;simp only [Sp.run,kj] at he;cases hr:P.num s 1 most 0 with
 | error f =>
  rw [hr] at he HLP;obtain ⟨rfl,h2⟩:=he;refine ⟨rfl,?_⟩;rw [HLP.out];exact ⟨rfl,(HB1.out.mono (by omega)).trans h2⟩
 | ok y =>
 obtain ⟨y,s1⟩:=y;obtain ⟨n,rfl,hn2⟩:=FW.out _ _ hr;rw [hr] at he HLP;obtain ⟨xs,hxs⟩:∃ xs,xs=k6 n zr:=⟨_,rfl⟩;have hn:xs.length=n:=by rw [hxs,kO]
 have hk:∀ x ∈ xs,x.map kind=ks/\x.length=7:=fun x hx=>by
  rw [hxs] at hx;obtain rfl:=kU hx;exact ⟨HKS.out,HZL.out⟩
 have HN:=hJJ hn;have HK:=hJJ hk;have HXS:=hJJ hxs;dsimp only at HLP;rw [kD,<-hxs] at HLP;clear hn hk hxs;have HFE:Hid (Fit (jf P st xs s1)):=hJJ (by have:=HFIT.out;rw [HLP.out] at this;exact this);clear HFIT FW;obtain ⟨rfl,h2,h3,h4⟩:=he;have hwn:wrt #[I 0] 0 ([I 0].set 0 (I (n:Int)))=#[I (n:Int)]:=Jp rfl;rw [hwn] at h4;clear hwn;have hC2:=h3.Ju ((HB1.out.block c (by rw [<-hnb];exact hcl)).trans HC.out) (.inr HCT.out) (by omega);have kn:W2.cell? ⟨nb,0,none⟩=some (I (n:Int)):=by rw [qy _ _ _ _ _ _ h4];rfl
 have k1:W2.cell? ⟨c,oc,none⟩=some (.slice none 0 0):=by rw [qy _ _ _ _ _ _ hC2];exact HCA.out
 have HM:Hid (Mv B c W W2):=hJJ ⟨(HB1.out.mono (by omega)).trans h3.low,fun j cs t fr hj hjt hjb=>by
  have hjl:=(k3.1 hj).1;have h1:=(HB1.out.block j (by omega)).trans hj;exact (h3.other j cs t fr h1 hjt (by omega)).trans (HB1.out.block j (by omega))⟩
 have HR2:=hJJ h2;have HC2:=hJJ hC2;have HNB:=hJJ h4;have HBS:Hid (B<=W2.heap.size):=hJJ (k8 (k8 hB HB1.out.size) h3.low.size);clear h2 h3 h4 hC2 hnum hr HC HB1 HR;go_upto_region 2 with fail
 have q1:∀ p:QB.By W2.heap.size W2,p.world.cell? ⟨nb,0,none⟩=some (I (n:Int)):=fun p=>(p.below.cell (kh W2 _ kn)).trans kn;have q2:∀ p:QB.By W2.heap.size W2,p.world.cell? ⟨c,oc,none⟩=some (.slice none 0 0):=fun p=>(p.below.cell (kh W2 _ k1)).trans k1;refine QB.J8 W2.heap.size (by kernel_rfl) (by kernel_rfl) ?_;repeat (quiet_step (fail))
 refine qH ?_;intro _ hw';obtain ⟨p,rfl⟩:=hw';have k2:=q2 p;have kn2:=q1 p;have HRV:=hJJ (PT.stay s1 W2 p.world HR2.out p.below.size (fun j cs t fr hj _=>p.below.block j (k3.1 hj).1));have HMV:=hJJ (HM.out.trans (Mv.of p.below HBS.out));have HCV:Hid (p.world.heap[c]?=some (.cells ccs ct (0,0))):=hJJ ((p.below.block c (k3.1 HC2.out).1).trans HC2.out);have HBV:Hid (B<=p.world.heap.size):=hJJ (k8 HBS.out p.below.size);have HNV:Hid (p.world.heap[nb]?=some (.cells #[I (n:Int)] 3 (0,0))):=hJJ ((p.below.block nb (k3.1 HNB.out).1).trans HNB.out);clear q1 q2 kn k1 HM HR2 HC2 HBS HNB;generalize p.world=V at k2 kn2 HRV HMV HCV HBV HNV |-;rcases kM n with h0 | h0
 ·subst h0;obtain rfl:=kB HN.out;have hne:((((0:Nat):Int)) != 0)=false:=by decide
  go_wp2_with fail
  refine qE 1 ?_;rw [qF];go_wp2
  go_end0
  rw [HLP.out];exact ⟨rfl,HRV.out,HMV.out,none,by rw [kP,j1R HCA.out];exact HCV.out,fun h=>absurd rfl h⟩
 have hne:((n:Int) != 0)=true:=by simp;omega
 go_wp2_with (at_make;refine Copy.Jo rfl _ _ 29 71 rfl Tryz.underlying29 _ _ _ Clone.zD (by rfl) n (by first | rfl | go_simp) (by first | rfl | go_simp) hn2 (by decide) ?_)
 intro V2 hg2 hb2 hs2;generalize hbb:V.heap.size=b at hg2 |-;have hC3:=(hb2.block c (k3.1 HCV.out).1).trans HCV.out;have c1:V2.cell? ⟨c,oc,none⟩=some (.slice none 0 0):=by rw [qy _ _ _ _ _ _ hC3];exact HCA.out
 have f1:V2.frozen? ⟨c,oc,none⟩=false:=qC _ _ _ _ _ hC3;go_wp2_with fail
 rw [qz _ _ _ _ _ _ _ hC3];have hC4:=qA V2 c _ (ccs.setIfInBounds oc (.slice (some ⟨b,0,none⟩) n n)) ct (0,0) hC3
 have hbut:Rd.But c V2 (V2.setRow c (ccs.setIfInBounds oc (.slice (some ⟨b,0,none⟩) n n))):=by
  rw [<-qz _ _ _ _ _ _ _ hC3];exact Rd.But.set c _ V2 _
 have hst:∀ k,k ≠ c->(V2.setRow c (ccs.setIfInBounds oc (.slice (some ⟨b,0,none⟩) n n))).heap[k]?=V2.heap[k]?:=fun k hk=>qB _ _ _ _ hk;generalize V2.setRow c _=V3 at hC4 hbut hst |-;have hoc:oc < ccs.size:=(k3.1 HCA.out).1;have HCC:Hid ((ccs.setIfInBounds oc (.slice (some ⟨b,0,none⟩) n n))[oc]?=some (.slice (some ⟨b,0,none⟩) n n)):=hJJ (by rw [kl,if_pos rfl,if_pos hoc]);have hcV:=(k3.1 HCV.out).1
 have HRW:Hid (R s1 V3):=hJJ (PT.stay s1 V V3 HRV.out (k8 hb2.size hbut.size) (fun j cs t fr hj hp=>by
  have hjc:j ≠ c:=fun e=>by
   subst e;have h1:=HCV.out;rw [hj] at h1;cases h1;exact HCT.out hp
  exact (hst j hjc).trans (hb2.block j (k3.1 hj).1)))
 have HMW:Hid (Mv B c W V3):=hJJ (HMV.out.trans ((Mv.of hb2 HBV.out).trans ⟨hbut.below (k8 HBV.out hb2.size) hcB,fun j cs t fr hj hp hjc=>hst j hjc⟩));have HZF:Hid (xs.flatten=(k6 n zr).flatten):=hJJ (by rw [HXS.out])
 have HB0:Hid (V3.heap[b]?=some (.cells (wrt xs.flatten.toArray 0 xs.flatten) 71 (0,0))):=hJJ (by
  rw [Jp (by simp),hst b (by omega),hg2,HZF.out,HZR.out] <;> simp)
 have HCW0:=hJJ hC4;have HNW:Hid (W.heap.size<=b):=hJJ (by rw [<-hbb];exact HMV.out.low.size);have HBb:Hid (B<=b):=hJJ (by rw [<-hbb];exact HBV.out);have hcb:c ≠ b:=by omega
 clear hC3 hC4 hbut hst c1 f1 hg2 hb2 hs2 k2 kn2 HRV HMV HCV HBV HNV hbb HXS HZF HCA hoc;obtain ⟨cc2,hcc⟩:∃ cc2,cc2=ccs.setIfInBounds oc (.slice (some ⟨b,0,none⟩) n n):=⟨_,rfl⟩;rw [<-hcc] at HCC HCW0;have HQ:=hJJ hcc;clear hcc
 have HXL:Hid (∀ q,(xs.take q).flatten.length=min q n*7):=hJJ (fun q=>by
  rw [km,show (xs.take q).map kC=k6 (min q n) 7 from K0.2 ⟨by rw [kk,K4,HN.out],fun m hm=>by
   obtain ⟨x,hx,rfl⟩:=Ku.1 hm;exact (HK.out x (kS hx)).2⟩,kH])
 have HCS:Hid (xs.flatten.toArray.size=n*7):=hJJ (by
  have h3:=HXL.out n;rw [ke (by rw [HN.out];omega),KM] at h3;rw [kQ,h3])
 obtain ⟨cs,hcs⟩:∃ cs,cs=xs.flatten.toArray:=⟨_,rfl⟩;rw [<-hcs] at HCS HB0;clear hcs;go_loopw [31] (fun i wr=>∃ (q:Nat) (ys:List (List Value)) (s':P.σ),q<=n/\i=.int .i64 (q:Int)/\jf P st (xs.take q) s1=.ok (ys,s')/\R s' wr/\Mv B c W wr/\wr.heap[c]?=some (.cells cc2 ct (0,0))/\wr.heap[b]?=some (.cells (wrt cs 0 (ys.flatten++(xs.drop q).flatten)) 71 (0,0))) (fun i _=>n - (intOf i).toNat)
 case atStart=>exact ⟨0,[],s1,by omega,rfl,rfl,HRW.out,HMW.out,HCW0.out,HB0.out⟩
 case round =>
  obtain ⟨q,ys,s',hq,rfl,hrun,hr,hmv,hcv,hbv⟩:=hrel;have HE:=hJJ hrun;have HS:=hJJ hr;have HM:=hJJ hmv;have HCW:=hJJ hcv;have HBW:=hJJ hbv;clear hrun hr hmv hcv hbv
  have hyl:ys.flatten.length=q*7:=by
   have h1:=Jz P st HE.out;have h2:=HXL.out q;rw [km] at h2 |-;rw [h1,h2,kF hq]
  by_cases hlt:q < n
  ·obtain ⟨x,hx⟩:∃ x,xs[q]?=some x:=⟨_,kd (by rw [HN.out];exact hlt)⟩
   have hdrop:xs.drop q=x :: xs.drop (q+1):=by
    have hq':q < xs.length:=by rw [HN.out];exact hlt
    rw [kz hq'];congr 1;exact (kg.1 hx).2
   obtain ⟨hxk,hxl⟩:=HK.out x (kq hx)
   have htot:0+(ys.flatten++(x++(xs.drop (q+1)).flatten)).length<=cs.size:=by
    have h1:(xs.drop (q+1)).flatten.length+(xs.take (q+1)).flatten.length=xs.flatten.length:=by
     have:=congrArg kC (show (xs.take (q+1)++xs.drop (q+1)).flatten=xs.flatten by rw [ko]);rw [kv,k7] at this;omega
    have h2:=HXL.out (q+1);have h3:=HXL.out n;rw [ke (by rw [HN.out];omega)] at h3;have h4:=HCS.out;rw [kF (by omega)] at h2 h3;rw [k7,k7,hyl,hxl];omega
   have hseg:=HBW.out;rw [hdrop,kE] at hseg;have hseg2:=hseg;rw [<-j0t (y:=x) hyl htot rfl,kp] at hseg2;have kc:wr.cell? ⟨c,oc,none⟩=some (.slice (some ⟨b,0,none⟩) n n):=by rw [qy _ _ _ _ _ _ HCW.out];exact HCC.out
   have HXQ:=hJJ hx
   have HER:Hid (∀ f,runs P st x s'=.error f->jf P st xs s1=.error f):=hJJ (fun f h=>by
    have e:xs=xs.take q++([x]++xs.drop (q+1)):=by
     rw [K1,<-hdrop,ko]
    rw [e,jx,HE.out]
    (try dsimp only)
    rw [jx,Jy,h])
   have hcall:=hJJ (EF.out wr s' x b (q*7) (wrt cs 0 (ys.flatten++(x++(xs.drop (q+1)).flatten))) 71 (0,0) hxk HS.out (k8 hB HM.out.low.size) (PT.new _ HBb.out) (.inr (by decide)) (by rw [j2N htot,hxl];rw [k7,k7,hyl,hxl] at htot;omega) hseg2 (fun h=>HFE.out (HER.out _ h)));have HT1:=hJJ htot;have HYL:=hJJ hyl;have HXX:=hJJ hxl;clear hseg hseg2 htot hyl hxl hx hxk hdrop
   have HA:Hid (∀ zs s2,jf P st [x] s'=.ok (zs,s2)->jf P st (xs.take (q+1)) s1=.ok (ys++zs,s2)):=hJJ (fun zs s2 h=>by
    rw [Kg,HXQ.out];show jf P st (xs.take q++[x]) s1=_;rw [jx,HE.out]
    (try dsimp only)
    rw [h])
   go_wp2_with fail
   refine hcall.out.mono ?_;intro e W' he;cases hrx:runs P st x s' with
   | error f =>
    rw [hrx] at he;obtain ⟨rfl,h2⟩:=he;refine ⟨rfl,?_⟩;rw [HLP.out]
    (try dsimp only)
    rw [HER.out f hrx];exact ⟨rfl,HM.out.low.trans h2⟩
   | ok y =>
    obtain ⟨x',s2⟩:=y;rw [hrx] at he;obtain ⟨rfl,h2,h3,h4⟩:=he;have hxl':=Jv P st hrx;have hwm:=j0t HYL.out HT1.out hxl';rw [kp] at hwm;rw [hwm] at h4;have H2:=hJJ h2;have H3:=hJJ (HM.out.off h3 HNW.out);have H4:=hJJ h4;have HC4:=hJJ (h3.Ju HCW.out (.inr HCT.out) hcb);have HEN:=hJJ (HA.out [x'] s2 (by rw [Jy,hrx]));clear h2 h3 h4 kc hxl' hrx hwm;go_wp2;go_roundw;case rel=>exact ⟨q+1,ys++[x'],s2,by omega,by go_num,HEN.out,H2.out,H3.out,HC4.out,by rw [kv,kY,kT];exact H4.out⟩
    case measure=>simp [intOf];omega
  obtain rfl:n=q:=by omega
  have HF:Hid (jf P st xs s1=.ok (ys,s')):=hJJ (by have:=HE.out;rwa [ke (by rw [HN.out];omega)] at this)
  have HYN:Hid (ys.length=n):=hJJ (by
   have:=congrArg kC (Jz P st HF.out)
   rwa [kk,kk,HN.out] at this)
  have HYL:=hJJ hyl;clear hyl;go_wp2
  go_end0
  rw [HLP.out]
  (try dsimp only)
  rw [HF.out];refine ⟨rfl,HS.out,HM.out,some ⟨b,0,none⟩,by rw [HYN.out,<-HQ.out];exact HCW.out,fun _=>⟨b,HNW.out,rfl,?_⟩⟩;have:=HBW.out
  rwa [kI (by rw [HN.out];omega),K5,kZ,Jp (by rw [HYL.out,HCS.out])] at this
theorem jaI (PT:Port P R B ok ti v rv FN FF FG) {F:FuncId} {st:List Sp} {ks:List Nat} (en':∀ (args:Array Value) (w:World),(callFunc F args).run Tryz.prog w=.ok (.enter F args) w)
  (EF:Hid (∀ (W:World) (s:P.σ) (l:List Value) (b o:Nat) (cs:Array Value) (t:TypeId) (fr:Nat × Nat),l.map kind=ks->R s W->B<=W.heap.size->ok b fr->(b < B\/¬ Pt t)->o+l.length<=cs.size->W.heap[b]?=some (.cells (wrt cs o l) t fr)->Fit (runs P st l s)->Calls Tryz.prog F #[.iface ti v,.pointer (some ⟨b,o,none⟩)] W (Ends P R B b o cs t fr (runs P st l s) W)))
  {s:P.σ} {W:World} {most:Int} (hks:([I 0,I 0,I 0,I 0,I 0,I 0,I 0,I 0,I 0,I 0,I 0]:List Value).map kind=ks) (hR:R s W) (hB:B<=W.heap.size) (few:∀ y s1,P.num s 1 most 0=.ok (y,s1)->∃ n:Nat,y=n/\n<=1000)
  {c oc:Nat} {ccs:Array Value} {ct:TypeId} (hc:W.heap[c]?=some (.cells ccs ct (0,0))) (hct:¬ Pt ct) (hcB:B<=c) (hca:ccs[oc]?=some (.slice none 0 0)) (hfit:Fit (jr P most st [I 0,I 0,I 0,I 0,I 0,I 0,I 0,I 0,I 0,I 0,I 0] s)) :
  Calls Tryz.prog 53 #[.iface ti v,.int .i64 most,.pointer (some ⟨c,oc,none⟩),.func (.func F) #[] #[]] W (j1Q P R B c oc ccs ct 75 (jr P most st [I 0,I 0,I 0,I 0,I 0,I 0,I 0,I 0,I 0,I 0,I 0] s) W):=by
 have hm:=PT.mn;have en:=PT.en;have HKS:=hJJ hks;have HCT:=hJJ hct;have HC:=hJJ hc;have FW:=hJJ few;have HR:=hJJ hR;have HCA:=hJJ hca;have k1:W.cell? ⟨c,oc,none⟩=some (.slice none 0 0):=by rw [qy _ _ _ _ _ _ hc];exact hca
 have hcl:=(k3.1 hc).1;have hb1:Below W.heap.size W (W.alloc (.cells #[I 0] 3)):=(k4 _ _).alloc (k5 _) _;have hst:=PT.stay s W _ hR hb1.size (fun j cs t fr hj _=>hb1.block j (k3.1 hj).1)
 have hfn:Fit (Sp.run P [I 0] s (.num 1 most 0)):=fun h=>by
  simp only [Sp.run,kj] at h;cases hp:P.num s 1 most 0 with
  | ok y=>rw [hp] at h;cases h
  | error f=>rw [hp] at h;cases h;exact hfit (by unfold jr;rw [hp])
 have HFIT:=hJJ hfit;clear hfit;have hnum:=hJJ (PT.num s (W.alloc (.cells #[I 0] 3)) W.heap.size 0 #[I 0] 3 (0,0) [I 0] 1 most 0 0 hst (k8 hB hb1.size) (PT.new _ hB) (.inr (by decide)) (by simp) (by rw [JV (by simp) (by intro j hj;match j,hj with | 0,_=>rfl)];exact qx W _) rfl hfn);clear hks hct hc few hR hca hst hfn;obtain ⟨zr,hzr⟩:∃ zr:List Value,zr=[I 0,I 0,I 0,I 0,I 0,I 0,I 0,I 0,I 0,I 0,I 0]:=⟨_,rfl⟩;have hzl:zr.length=11:=by rw [hzr];rfl
 rw [<-hzr] at HKS HFIT |-;have HZR:=hJJ hzr;have HZL:=hJJ hzl;clear hzr hzl
 have HLP:Hid (jr P most st zr s=match P.num s 1 most 0 with
   | .error f=>.error f
   | .ok (y,s1)=>jf P st (k6 y.toNat zr) s1):=hJJ rfl
 generalize jr P most st zr s=r0 at HLP HFIT |-;go_enter Tryz.func53,Tryz.ntmps53
 go_upto_region 1 with fail
 generalize kr W _=W1 at hb1 hnum |-;generalize hnb:W.heap.size=nb at hb1 hnum |-;have HB1:=hJJ hb1;clear hb1;go_wp2_with fail
 refine hnum.out.mono ?_;intro e W2 he;simp only [Sp.run,kj] at he;cases hr:P.num s 1 most 0 with
 | error f =>
  rw [hr] at he HLP;obtain ⟨rfl,h2⟩:=he;refine ⟨rfl,?_⟩;rw [HLP.out];exact ⟨rfl,(HB1.out.mono (by omega)).trans h2⟩
 | ok y =>
 obtain ⟨y,s1⟩:=y;obtain ⟨n,rfl,hn2⟩:=FW.out _ _ hr;rw [hr] at he HLP;obtain ⟨xs,hxs⟩:∃ xs,xs=k6 n zr:=⟨_,rfl⟩;have hn:xs.length=n:=by rw [hxs,kO]
 have hk:∀ x ∈ xs,x.map kind=ks/\x.length=11:=fun x hx=>by
  rw [hxs] at hx;obtain rfl:=kU hx;exact ⟨HKS.out,HZL.out⟩
 have HN:=hJJ hn;have HK:=hJJ hk;have HXS:=hJJ hxs;dsimp only at HLP;rw [kD,<-hxs] at HLP;clear hn hk hxs;have HFE:Hid (Fit (jf P st xs s1)):=hJJ (by have:=HFIT.out;rw [HLP.out] at this;exact this);clear HFIT FW;obtain ⟨rfl,h2,h3,h4⟩:=he;have hwn:wrt #[I 0] 0 ([I 0].set 0 (I (n:Int)))=#[I (n:Int)]:=Jp rfl;rw [hwn] at h4;clear hwn;have hC2:=h3.Ju ((HB1.out.block c (by rw [<-hnb];exact hcl)).trans HC.out) (.inr HCT.out) (by omega);have kn:W2.cell? ⟨nb,0,none⟩=some (I (n:Int)):=by rw [qy _ _ _ _ _ _ h4];rfl
 have k1:W2.cell? ⟨c,oc,none⟩=some (.slice none 0 0):=by rw [qy _ _ _ _ _ _ hC2];exact HCA.out
 have HM:Hid (Mv B c W W2):=hJJ ⟨(HB1.out.mono (by omega)).trans h3.low,fun j cs t fr hj hjt hjb=>by
  have hjl:=(k3.1 hj).1;have h1:=(HB1.out.block j (by omega)).trans hj;exact (h3.other j cs t fr h1 hjt (by omega)).trans (HB1.out.block j (by omega))⟩
 have HR2:=hJJ h2;have HC2:=hJJ hC2;have HNB:=hJJ h4;have HBS:Hid (B<=W2.heap.size):=hJJ (k8 (k8 hB HB1.out.size) h3.low.size);clear h2 h3 h4 hC2 hnum hr HC HB1 HR;go_upto_region 2 with fail
 have q1:∀ p:QB.By W2.heap.size W2,p.world.cell? ⟨nb,0,none⟩=some (I (n:Int)):=fun p=>(p.below.cell (kh W2 _ kn)).trans kn;have q2:∀ p:QB.By W2.heap.size W2,p.world.cell? ⟨c,oc,none⟩=some (.slice none 0 0):=fun p=>(p.below.cell (kh W2 _ k1)).trans k1;refine QB.J8 W2.heap.size (by kernel_rfl) (by kernel_rfl) ?_;repeat (quiet_step (fail))
 refine qH ?_;intro _ hw';obtain ⟨p,rfl⟩:=hw';have k2:=q2 p;have kn2:=q1 p;have HRV:=hJJ (PT.stay s1 W2 p.world HR2.out p.below.size (fun j cs t fr hj _=>p.below.block j (k3.1 hj).1));have HMV:=hJJ (HM.out.trans (Mv.of p.below HBS.out));have HCV:Hid (p.world.heap[c]?=some (.cells ccs ct (0,0))):=hJJ ((p.below.block c (k3.1 HC2.out).1).trans HC2.out);have HBV:Hid (B<=p.world.heap.size):=hJJ (k8 HBS.out p.below.size);have HNV:Hid (p.world.heap[nb]?=some (.cells #[I (n:Int)] 3 (0,0))):=hJJ ((p.below.block nb (k3.1 HNB.out).1).trans HNB.out);clear q1 q2 kn k1 HM HR2 HC2 HBS HNB;generalize p.world=V at k2 kn2 HRV HMV HCV HBV HNV |-;rcases kM n with h0 | h0
 ·subst h0;obtain rfl:=kB HN.out;have hne:((((0:Nat):Int)) != 0)=false:=by decide
  go_wp2_with fail
  refine qE 1 ?_;rw [qF];go_wp2
  go_end0
  rw [HLP.out];exact ⟨rfl,HRV.out,HMV.out,none,by rw [kP,j1R HCA.out];exact HCV.out,fun h=>absurd rfl h⟩
 have hne:((n:Int) != 0)=true:=by simp;omega
 go_wp2_with (at_make;refine Copy.Jo rfl _ _ 30 75 rfl Tryz.underlying30 _ _ _ Clone.zR (by rfl) n (by first | rfl | go_simp) (by first | rfl | go_simp) hn2 (by decide) ?_)
 intro V2 hg2 hb2 hs2;generalize hbb:V.heap.size=b at hg2 |-;have hC3:=(hb2.block c (k3.1 HCV.out).1).trans HCV.out;have c1:V2.cell? ⟨c,oc,none⟩=some (.slice none 0 0):=by rw [qy _ _ _ _ _ _ hC3];exact HCA.out
 have f1:V2.frozen? ⟨c,oc,none⟩=false:=qC _ _ _ _ _ hC3;go_wp2_with fail
 rw [qz _ _ _ _ _ _ _ hC3];have hC4:=qA V2 c _ (ccs.setIfInBounds oc (.slice (some ⟨b,0,none⟩) n n)) ct (0,0) hC3
 have hbut:Rd.But c V2 (V2.setRow c (ccs.setIfInBounds oc (.slice (some ⟨b,0,none⟩) n n))):=by
  rw [<-qz _ _ _ _ _ _ _ hC3];exact Rd.But.set c _ V2 _
 have hst:∀ k,k ≠ c->(V2.setRow c (ccs.setIfInBounds oc (.slice (some ⟨b,0,none⟩) n n))).heap[k]?=V2.heap[k]?:=fun k hk=>qB _ _ _ _ hk;generalize V2.setRow c _=V3 at hC4 hbut hst |-;have hoc:oc < ccs.size:=(k3.1 HCA.out).1;have HCC:Hid ((ccs.setIfInBounds oc (.slice (some ⟨b,0,none⟩) n n))[oc]?=some (.slice (some ⟨b,0,none⟩) n n)):=hJJ (by rw [kl,if_pos rfl,if_pos hoc]);have hcV:=(k3.1 HCV.out).1
 have HRW:Hid (R s1 V3):=hJJ (PT.stay s1 V V3 HRV.out (k8 hb2.size hbut.size) (fun j cs t fr hj hp=>by
  have hjc:j ≠ c:=fun e=>by
   subst e;have h1:=HCV.out;rw [hj] at h1;cases h1;exact HCT.out hp
  exact (hst j hjc).trans (hb2.block j (k3.1 hj).1)))
 have HMW:Hid (Mv B c W V3):=hJJ (HMV.out.trans ((Mv.of hb2 HBV.out).trans ⟨hbut.below (k8 HBV.out hb2.size) hcB,fun j cs t fr hj hp hjc=>hst j hjc⟩));have HZF:Hid (xs.flatten=(k6 n zr).flatten):=hJJ (by rw [HXS.out])
 have HB0:Hid (V3.heap[b]?=some (.cells (wrt xs.flatten.toArray 0 xs.flatten) 75 (0,0))):=hJJ (by
  rw [Jp (by simp),hst b (by omega),hg2,HZF.out,HZR.out] <;> simp)
 have HCW0:=hJJ hC4;have HNW:Hid (W.heap.size<=b):=hJJ (by rw [<-hbb];exact HMV.out.low.size);have HBb:Hid (B<=b):=hJJ (by rw [<-hbb];exact HBV.out);have hcb:c ≠ b:=by omega
 clear hC3 hC4 hbut hst c1 f1 hg2 hb2 hs2 k2 kn2 HRV HMV HCV HBV HNV hbb HXS HZF HCA hoc;obtain ⟨cc2,hcc⟩:∃ cc2,cc2=ccs.setIfInBounds oc (.slice (some ⟨b,0,none⟩) n n):=⟨_,rfl⟩;rw [<-hcc] at HCC HCW0;have HQ:=hJJ hcc;clear hcc
 have HXL:Hid (∀ q,(xs.take q).flatten.length=min q n*11):=hJJ (fun q=>by
  rw [km,show (xs.take q).map kC=k6 (min q n) 11 from K0.2 ⟨by rw [kk,K4,HN.out],fun m hm=>by
   obtain ⟨x,hx,rfl⟩:=Ku.1 hm;exact (HK.out x (kS hx)).2⟩,kH])
 have HCS:Hid (xs.flatten.toArray.size=n*11):=hJJ (by
  have h3:=HXL.out n;rw [ke (by rw [HN.out];omega),KM] at h3;rw [kQ,h3])
 obtain ⟨cs,hcs⟩:∃ cs,cs=xs.flatten.toArray:=⟨_,rfl⟩;rw [<-hcs] at HCS HB0;clear hcs;go_loopw [31] (fun i wr=>∃ (q:Nat) (ys:List (List Value)) (s':P.σ),q<=n/\i=.int .i64 (q:Int)/\jf P st (xs.take q) s1=.ok (ys,s')/\R s' wr/\Mv B c W wr/\wr.heap[c]?=some (.cells cc2 ct (0,0))/\wr.heap[b]?=some (.cells (wrt cs 0 (ys.flatten++(xs.drop q).flatten)) 75 (0,0))) (fun i _=>n - (intOf i).toNat)
 case atStart=>exact ⟨0,[],s1,by omega,rfl,rfl,HRW.out,HMW.out,HCW0.out,HB0.out⟩
 case round =>
  obtain ⟨q,ys,s',hq,rfl,hrun,hr,hmv,hcv,hbv⟩:=hrel;have HE:=hJJ hrun;have HS:=hJJ hr;have HM:=hJJ hmv;have HCW:=hJJ hcv;have HBW:=hJJ hbv;clear hrun hr hmv hcv hbv
  have hyl:ys.flatten.length=q*11:=by
   have h1:=Jz P st HE.out;have h2:=HXL.out q;rw [km] at h2 |-;rw [h1,h2,kF hq]
  by_cases hlt:q < n
  ·obtain ⟨x,hx⟩:∃ x,xs[q]?=some x:=⟨_,kd (by rw [HN.out];exact hlt)⟩
   have hdrop:xs.drop q=x :: xs.drop (q+1):=by
    have hq':q < xs.length:=by rw [HN.out];exact hlt
    rw [kz hq'];congr 1;exact (kg.1 hx).2
   obtain ⟨hxk,hxl⟩:=HK.out x (kq hx)
   have htot:0+(ys.flatten++(x++(xs.drop (q+1)).flatten)).length<=cs.size:=by
    have h1:(xs.drop (q+1)).flatten.length+(xs.take (q+1)).flatten.length=xs.flatten.length:=by
     have:=congrArg kC (show (xs.take (q+1)++xs.drop (q+1)).flatten=xs.flatten by rw [ko]);rw [kv,k7] at this;omega
    have h2:=HXL.out (q+1);have h3:=HXL.out n;rw [ke (by rw [HN.out];omega)] at h3;have h4:=HCS.out;rw [kF (by omega)] at h2 h3;rw [k7,k7,hyl,hxl];omega
   have hseg:=HBW.out;rw [hdrop,kE] at hseg;have hseg2:=hseg;rw [<-j0t (y:=x) hyl htot rfl,kp] at hseg2;have kc:wr.cell? ⟨c,oc,none⟩=some (.slice (some ⟨b,0,none⟩) n n):=by rw [qy _ _ _ _ _ _ HCW.out];exact HCC.out
   have HXQ:=hJJ hx
   have HER:Hid (∀ f,runs P st x s'=.error f->jf P st xs s1=.error f):=hJJ (fun f h=>by
    have e:xs=xs.take q++([x]++xs.drop (q+1)):=by
     rw [K1,<-hdrop,ko]
    rw [e,jx,HE.out]
    (try dsimp only)
    rw [jx,Jy,h])
   have hcall:=hJJ (EF.out wr s' x b (q*11) (wrt cs 0 (ys.flatten++(x++(xs.drop (q+1)).flatten))) 75 (0,0) hxk HS.out (k8 hB HM.out.low.size) (PT.new _ HBb.out) (.inr (by decide)) (by rw [j2N htot,hxl];rw [k7,k7,hyl,hxl] at htot;omega) hseg2 (fun h=>HFE.out (HER.out _ h)));have HT1:=hJJ htot;have HYL:=hJJ hyl;have HXX:=hJJ hxl;clear hseg hseg2 htot hyl hxl hx hxk hdrop
   have HA:Hid (∀ zs s2,jf P st [x] s'=.ok (zs,s2)->jf P st (xs.take (q+1)) s1=.ok (ys++zs,s2)):=hJJ (fun zs s2 h=>by
    rw [Kg,HXQ.out];show jf P st (xs.take q++[x]) s1=_;rw [jx,HE.out]
    (try dsimp only)
    rw [h])
   go_wp2_with fail
   refine hcall.out.mono ?_;intro e W' he;cases hrx:runs P st x s' with
   | error f =>
    rw [hrx] at he;obtain ⟨rfl,h2⟩:=he;refine ⟨rfl,?_⟩;rw [HLP.out]
    (try dsimp only)
    rw [HER.out f hrx];exact ⟨rfl,HM.out.low.trans h2⟩
   | ok y =>
    obtain ⟨x',s2⟩:=y;rw [hrx] at he;obtain ⟨rfl,h2,h3,h4⟩:=he;have hxl':=Jv P st hrx;have hwm:=j0t HYL.out HT1.out hxl';rw [kp] at hwm;rw [hwm] at h4;have H2:=hJJ h2;have H3:=hJJ (HM.out.off h3 HNW.out);have H4:=hJJ h4;have HC4:=hJJ (h3.Ju HCW.out (.inr HCT.out) hcb);have HEN:=hJJ (HA.out [x'] s2 (by rw [Jy,hrx]));clear h2 h3 h4 kc hxl' hrx hwm;go_wp2;go_roundw;case rel=>exact ⟨q+1,ys++[x'],s2,by omega,by go_num,HEN.out,H2.out,H3.out,HC4.out,by rw [kv,kY,kT];exact H4.out⟩
    case measure=>simp [intOf];omega
  obtain rfl:n=q:=by omega
  have HF:Hid (jf P st xs s1=.ok (ys,s')):=hJJ (by have:=HE.out;rwa [ke (by rw [HN.out];omega)] at this)
  have HYN:Hid (ys.length=n):=hJJ (by
   have:=congrArg kC (Jz P st HF.out)
   rwa [kk,kk,HN.out] at this)
  have HYL:=hJJ hyl;clear hyl;go_wp2
  go_end0
  rw [HLP.out]
  (try dsimp only)
  rw [HF.out];refine ⟨rfl,HS.out,HM.out,some ⟨b,0,none⟩,by rw [HYN.out,<-HQ.out];exact HCW.out,fun _=>⟨b,HNW.out,rfl,?_⟩⟩;have:=HBW.out
  rwa [kI (by rw [HN.out];omega),K5,kZ,Jp (by rw [HYL.out,HCS.out])] at this
theorem jaJ (PT:Port P R B ok ti v rv FN FF FG) {F:FuncId} {st:List Sp} {ks:List Nat} (en':∀ (args:Array Value) (w:World),(callFunc F args).run Tryz.prog w=.ok (.enter F args) w)
  (EF:Hid (∀ (W:World) (s:P.σ) (l:List Value) (b o:Nat) (cs:Array Value) (t:TypeId) (fr:Nat × Nat),l.map kind=ks->R s W->B<=W.heap.size->ok b fr->(b < B\/¬ Pt t)->o+l.length<=cs.size->W.heap[b]?=some (.cells (wrt cs o l) t fr)->Fit (runs P st l s)->Calls Tryz.prog F #[.iface ti v,.pointer (some ⟨b,o,none⟩)] W (Ends P R B b o cs t fr (runs P st l s) W)))
  {s:P.σ} {W:World} {most:Int} (hks:([I 0,I 0]:List Value).map kind=ks) (hR:R s W) (hB:B<=W.heap.size) (few:∀ y s1,P.num s 1 most 0=.ok (y,s1)->∃ n:Nat,y=n/\n<=1000)
  {c oc:Nat} {ccs:Array Value} {ct:TypeId} (hc:W.heap[c]?=some (.cells ccs ct (0,0))) (hct:¬ Pt ct) (hcB:B<=c) (hca:ccs[oc]?=some (.slice none 0 0)) (hfit:Fit (jr P most st [I 0,I 0] s)) :
  Calls Tryz.prog 55 #[.iface ti v,.int .i64 most,.pointer (some ⟨c,oc,none⟩),.func (.func F) #[] #[]] W (j1Q P R B c oc ccs ct 77 (jr P most st [I 0,I 0] s) W):=by
 have hm:=PT.mn;have en:=PT.en;have HKS:=hJJ hks;have HCT:=hJJ hct;have HC:=hJJ hc;have FW:=hJJ few;have HR:=hJJ hR;have HCA:=hJJ hca;have k1:W.cell? ⟨c,oc,none⟩=some (.slice none 0 0):=by rw [qy _ _ _ _ _ _ hc];exact hca
 have hcl:=(k3.1 hc).1;have hb1:Below W.heap.size W (W.alloc (.cells #[I 0] 3)):=(k4 _ _).alloc (k5 _) _;have hst:=PT.stay s W _ hR hb1.size (fun j cs t fr hj _=>hb1.block j (k3.1 hj).1)
 have hfn:Fit (Sp.run P [I 0] s (.num 1 most 0)):=fun h=>by
  simp only [Sp.run,kj] at h;cases hp:P.num s 1 most 0 with
  | ok y=>rw [hp] at h;cases h
  | error f=>rw [hp] at h;cases h;exact hfit (by unfold jr;rw [hp])
 have HFIT:=hJJ hfit;clear hfit;have hnum:=hJJ (PT.num s (W.alloc (.cells #[I 0] 3)) W.heap.size 0 #[I 0] 3 (0,0) [I 0] 1 most 0 0 hst (k8 hB hb1.size) (PT.new _ hB) (.inr (by decide)) (by simp) (by rw [JV (by simp) (by intro j hj;match j,hj with | 0,_=>rfl)];exact qx W _) rfl hfn);clear hks hct hc few hR hca hst hfn;obtain ⟨zr,hzr⟩:∃ zr:List Value,zr=[I 0,I 0]:=⟨_,rfl⟩;have hzl:zr.length=2:=by rw [hzr];rfl
 rw [<-hzr] at HKS HFIT |-;have HZR:=hJJ hzr;have HZL:=hJJ hzl;clear hzr hzl
 have HLP:Hid (jr P most st zr s=match P.num s 1 most 0 with
   | .error f=>.error f
   | .ok (y,s1)=>jf P st (k6 y.toNat zr) s1):=hJJ rfl
 generalize jr P most st zr s=r0 at HLP HFIT |-;go_enter Tryz.func55,Tryz.ntmps55
 go_upto_region 1 with fail
 generalize kr W _=W1 at hb1 hnum |-;generalize hnb:W.heap.size=nb at hb1 hnum |-;have HB1:=hJJ hb1;clear hb1;go_wp2_with fail
 refine hnum.out.mono ?_;intro e W2 he;simp only [Sp.run,kj] at he;cases hr:P.num s 1 most 0 with
 | error f =>
  rw [hr] at he HLP;obtain ⟨rfl,h2⟩:=he;refine ⟨rfl,?_⟩;rw [HLP.out];exact ⟨rfl,(HB1.out.mono (by omega)).trans h2⟩
 | ok y =>
 obtain ⟨y,s1⟩:=y;obtain ⟨n,rfl,hn2⟩:=FW.out _ _ hr;rw [hr] at he HLP;obtain ⟨xs,hxs⟩:∃ xs,xs=k6 n zr:=⟨_,rfl⟩;have hn:xs.length=n:=by rw [hxs,kO]
 have hk:∀ x ∈ xs,x.map kind=ks/\x.length=2:=fun x hx=>by
  rw [hxs] at hx;obtain rfl:=kU hx;exact ⟨HKS.out,HZL.out⟩
 have HN:=hJJ hn;have HK:=hJJ hk;have HXS:=hJJ hxs;dsimp only at HLP;rw [kD,<-hxs] at HLP;clear hn hk hxs;have HFE:Hid (Fit (jf P st xs s1)):=hJJ (by have:=HFIT.out;rw [HLP.out] at this;exact this);clear HFIT FW;obtain ⟨rfl,h2,h3,h4⟩:=he;have hwn:wrt #[I 0] 0 ([I 0].set 0 (I (n:Int)))=#[I (n:Int)]:=Jp rfl;rw [hwn] at h4;clear hwn;have hC2:=h3.Ju ((HB1.out.block c (by rw [<-hnb];exact hcl)).trans HC.out) (.inr HCT.out) (by omega);have kn:W2.cell? ⟨nb,0,none⟩=some (I (n:Int)):=by rw [qy _ _ _ _ _ _ h4];rfl
 have k1:W2.cell? ⟨c,oc,none⟩=some (.slice none 0 0):=by rw [qy _ _ _ _ _ _ hC2];exact HCA.out
 have HM:Hid (Mv B c W W2):=hJJ ⟨(HB1.out.mono (by omega)).trans h3.low,fun j cs t fr hj hjt hjb=>by
  have hjl:=(k3.1 hj).1;have h1:=(HB1.out.block j (by omega)).trans hj;exact (h3.other j cs t fr h1 hjt (by omega)).trans (HB1.out.block j (by omega))⟩
 have HR2:=hJJ h2;have HC2:=hJJ hC2;have HNB:=hJJ h4;have HBS:Hid (B<=W2.heap.size):=hJJ (k8 (k8 hB HB1.out.size) h3.low.size);clear h2 h3 h4 hC2 hnum hr HC HB1 HR;go_upto_region 2 with fail
 have q1:∀ p:QB.By W2.heap.size W2,p.world.cell? ⟨nb,0,none⟩=some (I (n:Int)):=fun p=>(p.below.cell (kh W2 _ kn)).trans kn;have q2:∀ p:QB.By W2.heap.size W2,p.world.cell? ⟨c,oc,none⟩=some (.slice none 0 0):=fun p=>(p.below.cell (kh W2 _ k1)).trans k1;refine QB.J8 W2.heap.size (by kernel_rfl) (by kernel_rfl) ?_;repeat (quiet_step (fail))
 refine qH ?_;intro _ hw';obtain ⟨p,rfl⟩:=hw';have k2:=q2 p;have kn2:=q1 p;have HRV:=hJJ (PT.stay s1 W2 p.world HR2.out p.below.size (fun j cs t fr hj _=>p.below.block j (k3.1 hj).1));have HMV:=hJJ (HM.out.trans (Mv.of p.below HBS.out));have HCV:Hid (p.world.heap[c]?=some (.cells ccs ct (0,0))):=hJJ ((p.below.block c (k3.1 HC2.out).1).trans HC2.out);have HBV:Hid (B<=p.world.heap.size):=hJJ (k8 HBS.out p.below.size);have HNV:Hid (p.world.heap[nb]?=some (.cells #[I (n:Int)] 3 (0,0))):=hJJ ((p.below.block nb (k3.1 HNB.out).1).trans HNB.out);clear q1 q2 kn k1 HM HR2 HC2 HBS HNB;generalize p.world=V at k2 kn2 HRV HMV HCV HBV HNV |-;rcases kM n with h0 | h0
 ·subst h0;obtain rfl:=kB HN.out;have hne:((((0:Nat):Int)) != 0)=false:=by decide
  go_wp2_with fail
  refine qE 1 ?_;rw [qF];go_wp2
  go_end0
  rw [HLP.out];exact ⟨rfl,HRV.out,HMV.out,none,by rw [kP,j1R HCA.out];exact HCV.out,fun h=>absurd rfl h⟩
 have hne:((n:Int) != 0)=true:=by simp;omega
 go_wp2_with (at_make;refine Copy.Jo rfl _ _ 31 77 rfl Tryz.underlying31 _ _ _ Clone.zB (by rfl) n (by first | rfl | go_simp) (by first | rfl | go_simp) hn2 (by decide) ?_)
 intro V2 hg2 hb2 hs2;generalize hbb:V.heap.size=b at hg2 |-;have hC3:=(hb2.block c (k3.1 HCV.out).1).trans HCV.out;have c1:V2.cell? ⟨c,oc,none⟩=some (.slice none 0 0):=by rw [qy _ _ _ _ _ _ hC3];exact HCA.out
 have f1:V2.frozen? ⟨c,oc,none⟩=false:=qC _ _ _ _ _ hC3;go_wp2_with fail
 rw [qz _ _ _ _ _ _ _ hC3];have hC4:=qA V2 c _ (ccs.setIfInBounds oc (.slice (some ⟨b,0,none⟩) n n)) ct (0,0) hC3
 have hbut:Rd.But c V2 (V2.setRow c (ccs.setIfInBounds oc (.slice (some ⟨b,0,none⟩) n n))):=by
  rw [<-qz _ _ _ _ _ _ _ hC3];exact Rd.But.set c _ V2 _
 have hst:∀ k,k ≠ c->(V2.setRow c (ccs.setIfInBounds oc (.slice (some ⟨b,0,none⟩) n n))).heap[k]?=V2.heap[k]?:=fun k hk=>qB _ _ _ _ hk;generalize V2.setRow c _=V3 at hC4 hbut hst |-;have hoc:oc < ccs.size:=(k3.1 HCA.out).1;have HCC:Hid ((ccs.setIfInBounds oc (.slice (some ⟨b,0,none⟩) n n))[oc]?=some (.slice (some ⟨b,0,none⟩) n n)):=hJJ (by rw [kl,if_pos rfl,if_pos hoc]);have hcV:=(k3.1 HCV.out).1
 have HRW:Hid (R s1 V3):=hJJ (PT.stay s1 V V3 HRV.out (k8 hb2.size hbut.size) (fun j cs t fr hj hp=>by
  have hjc:j ≠ c:=fun e=>by
   subst e;have h1:=HCV.out;rw [hj] at h1;cases h1;exact HCT.out hp
  exact (hst j hjc).trans (hb2.block j (k3.1 hj).1)))
 have HMW:Hid (Mv B c W V3):=hJJ (HMV.out.trans ((Mv.of hb2 HBV.out).trans ⟨hbut.below (k8 HBV.out hb2.size) hcB,fun j cs t fr hj hp hjc=>hst j hjc⟩));have HZF:Hid (xs.flatten=(k6 n zr).flatten):=hJJ (by rw [HXS.out])
 have HB0:Hid (V3.heap[b]?=some (.cells (wrt xs.flatten.toArray 0 xs.flatten) 77 (0,0))):=hJJ (by
  rw [Jp (by simp),hst b (by omega),hg2,HZF.out,HZR.out] <;> simp)
 have HCW0:=hJJ hC4;have HNW:Hid (W.heap.size<=b):=hJJ (by rw [<-hbb];exact HMV.out.low.size);have HBb:Hid (B<=b):=hJJ (by rw [<-hbb];exact HBV.out);have hcb:c ≠ b:=by omega
 clear hC3 hC4 hbut hst c1 f1 hg2 hb2 hs2 k2 kn2 HRV HMV HCV HBV HNV hbb HXS HZF HCA hoc;obtain ⟨cc2,hcc⟩:∃ cc2,cc2=ccs.setIfInBounds oc (.slice (some ⟨b,0,none⟩) n n):=⟨_,rfl⟩;rw [<-hcc] at HCC HCW0;have HQ:=hJJ hcc;clear hcc
 have HXL:Hid (∀ q,(xs.take q).flatten.length=min q n*2):=hJJ (fun q=>by
  rw [km,show (xs.take q).map kC=k6 (min q n) 2 from K0.2 ⟨by rw [kk,K4,HN.out],fun m hm=>by
   obtain ⟨x,hx,rfl⟩:=Ku.1 hm;exact (HK.out x (kS hx)).2⟩,kH])
 have HCS:Hid (xs.flatten.toArray.size=n*2):=hJJ (by
  have h3:=HXL.out n;rw [ke (by rw [HN.out];omega),KM] at h3;rw [kQ,h3])
 obtain ⟨cs,hcs⟩:∃ cs,cs=xs.flatten.toArray:=⟨_,rfl⟩;rw [<-hcs] at HCS HB0;clear hcs;go_loopw [31] (fun i wr=>∃ (q:Nat) (ys:List (List Value)) (s':P.σ),q<=n/\i=.int .i64 (q:Int)/\jf P st (xs.take q) s1=.ok (ys,s')/\R s' wr/\Mv B c W wr/\wr.heap[c]?=some (.cells cc2 ct (0,0))/\wr.heap[b]?=some (.cells (wrt cs 0 (ys.flatten++(xs.drop q).flatten)) 77 (0,0))) (fun i _=>n - (intOf i).toNat)
 case atStart=>exact ⟨0,[],s1,by omega,rfl,rfl,HRW.out,HMW.out,HCW0.out,HB0.out⟩
 case round =>
  obtain ⟨q,ys,s',hq,rfl,hrun,hr,hmv,hcv,hbv⟩:=hrel;have HE:=hJJ hrun;have HS:=hJJ hr;have HM:=hJJ hmv;have HCW:=hJJ hcv;have HBW:=hJJ hbv;clear hrun hr hmv hcv hbv
  have hyl:ys.flatten.length=q*2:=by
   have h1:=Jz P st HE.out;have h2:=HXL.out q;rw [km] at h2 |-;rw [h1,h2,kF hq]
  by_cases hlt:q < n
  ·obtain ⟨x,hx⟩:∃ x,xs[q]?=some x:=⟨_,kd (by rw [HN.out];exact hlt)⟩
   have hdrop:xs.drop q=x :: xs.drop (q+1):=by
    have hq':q < xs.length:=by rw [HN.out];exact hlt
    rw [kz hq'];congr 1;exact (kg.1 hx).2
   obtain ⟨hxk,hxl⟩:=HK.out x (kq hx)
   have htot:0+(ys.flatten++(x++(xs.drop (q+1)).flatten)).length<=cs.size:=by
    have h1:(xs.drop (q+1)).flatten.length+(xs.take (q+1)).flatten.length=xs.flatten.length:=by
     have:=congrArg kC (show (xs.take (q+1)++xs.drop (q+1)).flatten=xs.flatten by rw [ko]);rw [kv,k7] at this;omega
    have h2:=HXL.out (q+1);have h3:=HXL.out n;rw [ke (by rw [HN.out];omega)] at h3;have h4:=HCS.out;rw [kF (by omega)] at h2 h3;rw [k7,k7,hyl,hxl];omega
   have hseg:=HBW.out;rw [hdrop,kE] at hseg;have hseg2:=hseg;rw [<-j0t (y:=x) hyl htot rfl,kp] at hseg2;have kc:wr.cell? ⟨c,oc,none⟩=some (.slice (some ⟨b,0,none⟩) n n):=by rw [qy _ _ _ _ _ _ HCW.out];exact HCC.out
   have HXQ:=hJJ hx
   have HER:Hid (∀ f,runs P st x s'=.error f->jf P st xs s1=.error f):=hJJ (fun f h=>by
    have e:xs=xs.take q++([x]++xs.drop (q+1)):=by
     rw [K1,<-hdrop,ko]
    rw [e,jx,HE.out]
    (try dsimp only)
    rw [jx,Jy,h])
   have hcall:=hJJ (EF.out wr s' x b (q*2) (wrt cs 0 (ys.flatten++(x++(xs.drop (q+1)).flatten))) 77 (0,0) hxk HS.out (k8 hB HM.out.low.size) (PT.new _ HBb.out) (.inr (by decide)) (by rw [j2N htot,hxl];rw [k7,k7,hyl,hxl] at htot;omega) hseg2 (fun h=>HFE.out (HER.out _ h)));have HT1:=hJJ htot;have HYL:=hJJ hyl;have HXX:=hJJ hxl;clear hseg hseg2 htot hyl hxl hx hxk hdrop
   have HA:Hid (∀ zs s2,jf P st [x] s'=.ok (zs,s2)->jf P st (xs.take (q+1)) s1=.ok (ys++zs,s2)):=hJJ (fun zs s2 h=>by
    rw [Kg,HXQ.out];show jf P st (xs.take q++[x]) s1=_;rw [jx,HE.out]
    (try dsimp only)
    rw [h])
   go_wp2_with fail
   refine hcall.out.mono ?_;intro e W' he;cases hrx:runs P st x s' with
   | error f =>
    rw [hrx] at he;obtain ⟨rfl,h2⟩:=he;refine ⟨rfl,?_⟩;rw [HLP.out]
    (try dsimp only)
    rw [HER.out f hrx];exact ⟨rfl,HM.out.low.trans h2⟩
   | ok y =>
    obtain ⟨x',s2⟩:=y;rw [hrx] at he;obtain ⟨rfl,h2,h3,h4⟩:=he;have hxl':=Jv P st hrx;have hwm:=j0t HYL.out HT1.out hxl';rw [kp] at hwm;rw [hwm] at h4;have H2:=hJJ h2;have H3:=hJJ (HM.out.off h3 HNW.out);have H4:=hJJ h4;have HC4:=hJJ (h3.Ju HCW.out (.inr HCT.out) hcb);have HEN:=hJJ (HA.out [x'] s2 (by rw [Jy,hrx]));clear h2 h3 h4 kc hxl' hrx hwm;go_wp2;go_roundw;case rel=>exact ⟨q+1,ys++[x'],s2,by omega,by go_num,HEN.out,H2.out,H3.out,HC4.out,by rw [kv,kY,kT];exact H4.out⟩
    case measure=>simp [intOf];omega
  obtain rfl:n=q:=by omega
  have HF:Hid (jf P st xs s1=.ok (ys,s')):=hJJ (by have:=HE.out;rwa [ke (by rw [HN.out];omega)] at this)
  have HYN:Hid (ys.length=n):=hJJ (by
   have:=congrArg kC (Jz P st HF.out)
   rwa [kk,kk,HN.out] at this)
  have HYL:=hJJ hyl;clear hyl;go_wp2
  go_end0
  rw [HLP.out]
  (try dsimp only)
  rw [HF.out];refine ⟨rfl,HS.out,HM.out,some ⟨b,0,none⟩,by rw [HYN.out,<-HQ.out];exact HCW.out,fun _=>⟨b,HNW.out,rfl,?_⟩⟩;have:=HBW.out
  rwa [kI (by rw [HN.out];omega),K5,kZ,Jp (by rw [HYL.out,HCS.out])] at this
end
end Po
namespace Po
open Zip
open Go Go.RowKit Go.ChangeShapes
open Tab
def jM (n0:Nat) (W:World) (a:Option Addr) (xs:List (List Value)) (T:TypeId):Prop:=xs ≠ []->∃ b,n0<=b/\a=some ⟨b,0,none⟩/\W.heap[b]?=some (.cells xs.flatten.toArray T (0,0))
theorem jM.Ju {n0 c B:Nat} {W V:World} {a:Option Addr} {xs:List (List Value)} {T:TypeId} (h:jM n0 W a xs T) (k:Mv B c W V) (hc:c < n0) (hT:¬ Pt T):jM n0 V a xs T:=fun hx=>by
 obtain ⟨b,h1,h2,h3⟩:=h hx;exact ⟨b,h1,h2,k.Ju h3 (.inr hT) (by omega)⟩
theorem jM.j5l {n0 n1:Nat} {W:World} {a:Option Addr} {xs:List (List Value)} {T:TypeId} (h:jM n0 W a xs T) (hn:n1<=n0):jM n1 W a xs T:=fun hx=>by
 obtain ⟨b,h1,h2,h3⟩:=h hx;exact ⟨b,by omega,h2,h3⟩
def j0a (P:PP) (s:P.σ):Except Flt (List (List Value) × P.σ):=jr P 8 [.num 1 7 0] [I 0] s
def JW (P:PP) (s:P.σ):Except Flt ((List (List Value) × List (List Value)) × P.σ):=match j0a P s with
 | .error f=>.error f
 | .ok (r0,s1)=>match j0a P s1 with
  | .error f=>.error f
  | .ok (r1,s2)=>.ok ((r0,r1),s2)
def slc (a:Option Addr) (xs:List (List Value)):Value:=.slice a xs.length xs.length
def jf2 (P:PP) (R:P.σ->World->Prop) (B c oc:Nat) (ccs:Array Value) (ct:TypeId) (r:Except Flt ((List (List Value) × List (List Value)) × P.σ)) (W:World) (e:Ending) (W':World):Prop:=match r with
 | .ok (g,s')=>e=.returned (.tuple #[])/\R s' W'/\Mv B c W W'/\∃ a0 a1,W'.heap[c]?=some (.cells ((ccs.setIfInBounds oc (slc a0 g.1)).setIfInBounds (oc+1) (slc a1 g.2)) ct (0,0))/\jM W.heap.size W' a0 g.1 3/\jM W.heap.size W' a1 g.2 3
 | .error f=>e=.panicked [{ v:=fault f,recovered:=false }]/\Below B W W'
section
variable {P:PP} {R:P.σ->World->Prop} {B:Nat} {ok:Nat->Nat × Nat->Prop} {ti:TypeId} {v rv:Value} {FN FF FG:FuncId}
theorem j80 (PT:Port P R B ok ti v rv FN FF FG) (W:World) (s:P.σ) (l:List Value) (b o:Nat) (cs:Array Value) (t:TypeId) (fr:Nat × Nat) (hk:l.map kind=[0]) (hR:R s W) (hB:B<=W.heap.size) (hok:ok b fr) (ht:b < B\/¬ Pt t) (hl:o+l.length<=cs.size) (hb:W.heap[b]?=some (.cells (wrt cs o l) t fr)) (hf:Fit (runs P [.num 1 7 0] l s)) :
  Calls Tryz.prog 93 #[.iface ti v,.pointer (some ⟨b,o,none⟩)] W (Ends P R B b o cs t fr (runs P [.num 1 7 0] l s) W):=by
 obtain ⟨x,hx⟩:=j0i hk (j:=0) rfl;rw [jD] at hf |-;exact j0K PT hR hB hok ht hl hb hx hf
theorem j8G (PT:Port P R B ok ti v rv FN FF FG) (few:∀ s y s1,P.num s 1 8 0=.ok (y,s1)->∃ n:Nat,y=n/\n<=1000) {s:P.σ} {W:World} (hR:R s W) (hB:B<=W.heap.size)
  {c oc:Nat} {ccs:Array Value} {ct:TypeId} (hc:W.heap[c]?=some (.cells ccs ct (0,0))) (hct:¬ Pt ct) (hcB:B<=c) (hca:ccs[oc]?=some (.slice none 0 0)) (hfit:Fit (j0a P s)) :
  Calls Tryz.prog 92 #[.iface ti v,.int .i64 8,.pointer (some ⟨c,oc,none⟩),.func (.func 93) #[] #[]] W (j1Q P R B c oc ccs ct 3 (j0a P s) W) :=
 jaG PT (fun _ _=>rfl) (hJJ (j80 PT)) rfl hR hB (few s) hc hct hcB hca hfit
theorem jcu (PT:Port P R B ok ti v rv FN FF FG) (few:∀ s y s1,P.num s 1 8 0=.ok (y,s1)->∃ n:Nat,y=n/\n<=1000) {s:P.σ} {W:World} (hR:R s W) (hB:B<=W.heap.size)
  {c oc:Nat} {ccs:Array Value} {ct:TypeId} (hc:W.heap[c]?=some (.cells ccs ct (0,0))) (hct:¬ Pt ct) (hcB:B<=c) (h0:ccs[oc]?=some (.slice none 0 0)) (h1:ccs[oc+1]?=some (.slice none 0 0)) (hfit:Fit (JW P s)) :
  Calls Tryz.prog 49 #[.iface ti v,.pointer (some ⟨c,oc,none⟩)] W (jf2 P R B c oc ccs ct (JW P s) W):=by
 have hf0:Fit (j0a P s):=fun h=>hfit (by unfold JW;rw [h]);have HC0:=hJJ (j8G PT few hR hB hc hct hcB h0 hf0);have hcl:=(k3.1 hc).1
 have HSEC:Hid (∀ r0 s1 V a0,j0a P s=.ok (r0,s1)->R s1 V->Mv B c W V->V.heap[c]?=some (.cells (ccs.setIfInBounds oc (slc a0 r0)) ct (0,0))->Calls Tryz.prog 92 #[.iface ti v,.int .i64 8,.pointer (some ⟨c,oc+1,none⟩),.func (.func 93) #[] #[]] V (j1Q P R B c (oc+1) (ccs.setIfInBounds oc (slc a0 r0)) ct 3 (j0a P s1) V)):=hJJ (fun r0 s1 V a0 hr hR1 hm hV=>by
  refine j8G PT few hR1 (k8 hB hm.low.size) hV hct hcB ?_ (fun h=>hfit (by unfold JW;rw [hr];dsimp only;rw [h]));rw [kl,if_neg (by omega)];exact h1)
 have HG:Hid (JW P s=match j0a P s with
 | .error f=>.error f
 | .ok (r0,s1)=>match j0a P s1 with
  | .error f=>.error f
  | .ok (r1,s2)=>.ok ((r0,r1),s2)):=hJJ rfl
 have HCT:=hJJ hct;generalize hres:JW P s=res at HG |-;clear PT few hR hc h0 h1 hfit hf0 hct hres;go_enter Tryz.func49,Tryz.ntmps49
 go_wp2_with fail
 refine qE 3 ?_;rw [qF];go_wp2_with fail
 refine HC0.out.mono ?_;intro e V he;cases hr:j0a P s with
 | error f =>
  rw [hr] at he;obtain ⟨rfl,h2⟩:=he;refine ⟨rfl,?_⟩;rw [HG.out,hr];exact ⟨rfl,h2⟩
 | ok y =>
 obtain ⟨r0,s1⟩:=y;rw [hr] at he;obtain ⟨rfl,hR1,hm1,a0,hV,hn0⟩:=he;have HS:=hJJ (HSEC.out r0 s1 V a0 hr hR1 hm1 hV);have HM1:=hJJ hm1;have HN0:Hid (jM W.heap.size V a0 r0 3):=hJJ hn0;have HR0:=hJJ hr;clear hR1 hm1 hV hn0 hr HSEC HC0;go_wp2_with fail
 rw [qF];go_wp2_with fail
 refine HS.out.mono ?_;intro e V' he;cases hr:j0a P s1 with
 | error f =>
  rw [hr] at he;obtain ⟨rfl,h2⟩:=he;refine ⟨rfl,?_⟩;rw [HG.out,HR0.out];dsimp only;rw [hr];exact ⟨rfl,HM1.out.low.trans h2⟩
 | ok y =>
 obtain ⟨r1,s2⟩:=y;rw [hr] at he;obtain ⟨rfl,hR2,hm2,a1,hV2,hn1⟩:=he;have H2:=hJJ hR2;have HM2:=hJJ hm2;have HV2:=hJJ hV2;have HN1:Hid (jM V.heap.size V' a1 r1 3):=hJJ hn1;have HR1:=hJJ hr;clear hR2 hm2 hV2 hn1 hr HS;go_wp2_with fail
 rw [qF];go_wp2
 go_end0
 rw [HG.out,HR0.out];dsimp only;rw [HR1.out];exact ⟨rfl,H2.out,HM1.out.trans HM2.out,a0,a1,HV2.out,HN0.out.Ju HM2.out hcl (by decide),HN1.out.j5l HM1.out.low.size⟩
end
end Po
namespace Po
open Zip
open Go Go.RowKit Go.ChangeShapes
open Tab
abbrev Zr:Type:=(Option Addr × Option Addr) × (List (List Value) × List (List Value))
def zc (z:Zr):List Value:=[slc z.1.1 z.2.1,slc z.1.2 z.2.2]
abbrev zz:List Value:=[.slice none 0 0,.slice none 0 0]
def Rows (n0:Nat) (W:World) (zs:List Zr):Prop:=∀ z ∈ zs,jM n0 W z.1.1 z.2.1 3/\jM n0 W z.1.2 z.2.2 3
def jX (P:PP):Nat->P.σ->Except Flt (List (List (List Value) × List (List Value)) × P.σ)
 | 0,s=>.ok ([],s)
 | n+1,s=>match jX P n s with
  | .error f=>.error f
  | .ok (ys,s')=>match JW P s' with
   | .error f=>.error f
   | .ok (y,s2)=>.ok (ys++[y],s2)
theorem j4K {P:PP} {q:Nat} {s:P.σ} {f:Flt}:∀ {n:Nat},q < n->jX P (q+1) s=.error f->jX P n s=.error f
 | 0,h,_=>absurd h (by omega)
 | n+1,h,he=>by
  by_cases e:q=n
  ·subst e;exact he
  rw [jX,j4K (n:=n) (by omega) he]
def Jt (P:PP) (most:Int) (s:P.σ):Except Flt (List (List (List Value) × List (List Value)) × P.σ):=match P.num s 1 most 0 with
 | .error f=>.error f
 | .ok (y,s1)=>jX P y.toNat s1
def jdW (P:PP) (R:P.σ->World->Prop) (B c oc:Nat) (ccs:Array Value) (ct:TypeId) (r:Except Flt (List (List (List Value) × List (List Value)) × P.σ)) (W:World) (e:Ending) (W':World):Prop:=match r with
 | .ok (ys,s')=>e=.returned (.tuple #[])/\R s' W'/\Mv B c W W'/\∃ (a:Option Addr) (zs:List Zr),zs.map (·.2)=ys/\W'.heap[c]?=some (.cells (ccs.setIfInBounds oc (.slice a ys.length ys.length)) ct (0,0))/\(ys ≠ []->∃ b,W.heap.size<=b/\a=some ⟨b,0,none⟩/\W'.heap[b]?=some (.cells (zs.flatMap zc).toArray 68 (0,0)))/\Rows W.heap.size W' zs
 | .error f=>e=.panicked [{ v:=fault f,recovered:=false }]/\Below B W W'
theorem j2z {zs:List Zr} {q:Nat} (h:zs.length=q):(zs.flatMap zc).length=q*2:=by rw [Copy.j1f (enc:=zc) (n:=2) (fun _=>rfl),h]
theorem j6a {n q:Nat} (h:q < n):(k6 (n - q) zz).flatten=.slice none 0 0 :: .slice none 0 0 :: (k6 (n - (q+1)) zz).flatten:=by
 rw [show n - q=n - (q+1)+1 by omega,Kr,kE];rfl
theorem jdX {zs:List Zr} {n q:Nat} (h:zs.length=q) (hq:q < n):(zs.flatMap zc++(k6 (n - q) zz).flatten).toArray[q*2]?=some (.slice none 0 0):=by
 rw [kN,kL (by rw [j2z h];omega),j2z h,Kv,j6a hq];rfl
theorem jdY {zs:List Zr} {n q:Nat} (h:zs.length=q) (hq:q < n):(zs.flatMap zc++(k6 (n - q) zz).flatten).toArray[q*2+1]?=some (.slice none 0 0):=by
 rw [kN,kL (by rw [j2z h];omega),j2z h,show q*2+1 - q*2=1 by omega,j6a hq];rfl
theorem jdZ {zs:List Zr} {n q:Nat} {a0 a1:Option Addr} {y:List (List Value) × List (List Value)} (h:zs.length=q) (hq:q < n):(((zs.flatMap zc++(k6 (n - q) zz).flatten).toArray.setIfInBounds (q*2) (slc a0 y.1)).setIfInBounds (q*2+1) (slc a1 y.2))=((zs++[((a0,a1),y)]).flatMap zc++(k6 (n - (q+1)) zz).flatten).toArray:=by
 rw [kt,kt,Kh _ _ (by rw [j2z h];omega),Kh _ _ (by rw [j2z h];omega),j2z h,Kv,show q*2+1 - q*2=1 by omega,j6a hq,List.flatMap_append,kT];rfl
section
variable {P:PP} {R:P.σ->World->Prop} {B:Nat} {ok:Nat->Nat × Nat->Prop} {ti:TypeId} {v rv:Value} {FN FF FG:FuncId}
theorem jaK (PT:Port P R B ok ti v rv FN FF FG) (few8:∀ s y s1,P.num s 1 8 0=.ok (y,s1)->∃ n:Nat,y=n/\n<=1000)
  {s:P.σ} {W:World} {most:Int} (hR:R s W) (hB:B<=W.heap.size) (few:∀ y s1,P.num s 1 most 0=.ok (y,s1)->∃ n:Nat,y=n/\n<=1000)
  {c oc:Nat} {ccs:Array Value} {ct:TypeId} (hc:W.heap[c]?=some (.cells ccs ct (0,0))) (hct:¬ Pt ct) (hcB:B<=c) (hca:ccs[oc]?=some (.slice none 0 0)) (hfit:Fit (Jt P most s)) :
  Calls Tryz.prog 48 #[.iface ti v,.int .i64 most,.pointer (some ⟨c,oc,none⟩),.func (.func 49) #[] #[]] W (jdW P R B c oc ccs ct (Jt P most s) W):=by
 have hm:=PT.mn;have en:=PT.en;have en':∀ (args:Array Value) (w:World),(callFunc 49 args).run Tryz.prog w=.ok (.enter 49 args) w:=fun _ _=>rfl;have HCT:=hJJ hct;have HC:=hJJ hc;have FW:=hJJ few;have HR:=hJJ hR;have HCA:=hJJ hca;have k1:W.cell? ⟨c,oc,none⟩=some (.slice none 0 0):=by rw [qy _ _ _ _ _ _ hc];exact hca
 have hcl:=(k3.1 hc).1;have hb1:Below W.heap.size W (W.alloc (.cells #[I 0] 3)):=(k4 _ _).alloc (k5 _) _;have hst:=PT.stay s W _ hR hb1.size (fun j cs t fr hj _=>hb1.block j (k3.1 hj).1)
 have hfn:Fit (Sp.run P [I 0] s (.num 1 most 0)):=fun h=>by
  simp only [Sp.run,kj] at h;cases hp:P.num s 1 most 0 with
  | ok y=>rw [hp] at h;cases h
  | error f=>rw [hp] at h;cases h;exact hfit (by unfold Jt;rw [hp])
 have HFIT:=hJJ hfit;clear hfit;have hnum:=hJJ (PT.num s (W.alloc (.cells #[I 0] 3)) W.heap.size 0 #[I 0] 3 (0,0) [I 0] 1 most 0 0 hst (k8 hB hb1.size) (PT.new _ hB) (.inr (by decide)) (by simp) (by rw [JV (by simp) (by intro j hj;match j,hj with | 0,_=>rfl)];exact qx W _) rfl hfn);clear hct hc hR hca hst hfn few
 have HLP:Hid (Jt P most s=match P.num s 1 most 0 with
   | .error f=>.error f
   | .ok (y,s1)=>jX P y.toNat s1):=hJJ rfl
 generalize Jt P most s=r0 at HLP HFIT |-;go_enter Tryz.func48,Tryz.ntmps48
 go_upto_region 1 with fail
 generalize kr W _=W1 at hb1 hnum |-;generalize hnb:W.heap.size=nb at hb1 hnum |-;have HB1:=hJJ hb1;clear hb1;go_wp2_with fail
 refine hnum.out.mono ?_;intro e W2 he;simp only [Sp.run,kj] at he;cases hr:P.num s 1 most 0 with
 | error f =>
  rw [hr] at he HLP;obtain ⟨rfl,h2⟩:=he;refine ⟨rfl,?_⟩;rw [HLP.out];exact ⟨rfl,(HB1.out.mono (by omega)).trans h2⟩
 | ok y =>
 obtain ⟨y,s1⟩:=y;obtain ⟨n,rfl,hn2⟩:=FW.out _ _ hr;rw [hr] at he HLP;dsimp only at HLP;rw [kD] at HLP;have HFE:Hid (Fit (jX P n s1)):=hJJ (by have:=HFIT.out;rw [HLP.out] at this;exact this);clear HFIT FW;obtain ⟨rfl,h2,h3,h4⟩:=he;have hwn:wrt #[I 0] 0 ([I 0].set 0 (I (n:Int)))=#[I (n:Int)]:=Jp rfl;rw [hwn] at h4;clear hwn;have hC2:=h3.Ju ((HB1.out.block c (by rw [<-hnb];exact hcl)).trans HC.out) (.inr HCT.out) (by omega);have kn:W2.cell? ⟨nb,0,none⟩=some (I (n:Int)):=by rw [qy _ _ _ _ _ _ h4];rfl
 have k1:W2.cell? ⟨c,oc,none⟩=some (.slice none 0 0):=by rw [qy _ _ _ _ _ _ hC2];exact HCA.out
 have HM:Hid (Mv B c W W2):=hJJ ⟨(HB1.out.mono (by omega)).trans h3.low,fun j cs t fr hj hjt hjb=>by
  have hjl:=(k3.1 hj).1;have h1:=(HB1.out.block j (by omega)).trans hj;exact (h3.other j cs t fr h1 hjt (by omega)).trans (HB1.out.block j (by omega))⟩
 have HR2:=hJJ h2;have HC2:=hJJ hC2;have HNB:=hJJ h4;have HBS:Hid (B<=W2.heap.size):=hJJ (k8 (k8 hB HB1.out.size) h3.low.size);clear h2 h3 h4 hC2 hnum hr HC HB1 HR;go_upto_region 2 with fail
 have q1:∀ p:QB.By W2.heap.size W2,p.world.cell? ⟨nb,0,none⟩=some (I (n:Int)):=fun p=>(p.below.cell (kh W2 _ kn)).trans kn;have q2:∀ p:QB.By W2.heap.size W2,p.world.cell? ⟨c,oc,none⟩=some (.slice none 0 0):=fun p=>(p.below.cell (kh W2 _ k1)).trans k1;refine QB.J8 W2.heap.size (by kernel_rfl) (by kernel_rfl) ?_;repeat (quiet_step (fail))
 refine qH ?_;intro _ hw';obtain ⟨p,rfl⟩:=hw';have k2:=q2 p;have kn2:=q1 p;have HRV:=hJJ (PT.stay s1 W2 p.world HR2.out p.below.size (fun j cs t fr hj _=>p.below.block j (k3.1 hj).1));have HMV:=hJJ (HM.out.trans (Mv.of p.below HBS.out));have HCV:Hid (p.world.heap[c]?=some (.cells ccs ct (0,0))):=hJJ ((p.below.block c (k3.1 HC2.out).1).trans HC2.out);have HBV:Hid (B<=p.world.heap.size):=hJJ (k8 HBS.out p.below.size);have HNV:Hid (p.world.heap[nb]?=some (.cells #[I (n:Int)] 3 (0,0))):=hJJ ((p.below.block nb (k3.1 HNB.out).1).trans HNB.out);clear q1 q2 kn k1 HM HR2 HC2 HBS HNB;generalize p.world=V at k2 kn2 HRV HMV HCV HBV HNV |-;rcases kM n with h0 | h0
 ·subst h0;have hne:((((0:Nat):Int)) != 0)=false:=by decide
  go_wp2_with fail
  refine qE 1 ?_;rw [qF];go_wp2
  go_end0
  rw [HLP.out];exact ⟨rfl,HRV.out,HMV.out,none,[],rfl,by rw [kP,j1R HCA.out];exact HCV.out,fun h=>absurd rfl h,fun z hz=>by cases hz⟩
 have hne:((n:Int) != 0)=true:=by simp;omega
 go_wp2_with (at_make;refine Copy.Jo rfl _ _ 27 68 rfl Tryz.underlying27 _ _ _ Clone.zG (by rfl) n (by first | rfl | go_simp) (by first | rfl | go_simp) hn2 (by decide) ?_)
 intro V2 hg2 hb2 hs2;generalize hbb:V.heap.size=b at hg2 |-;have hC3:=(hb2.block c (k3.1 HCV.out).1).trans HCV.out;have c1:V2.cell? ⟨c,oc,none⟩=some (.slice none 0 0):=by rw [qy _ _ _ _ _ _ hC3];exact HCA.out
 have f1:V2.frozen? ⟨c,oc,none⟩=false:=qC _ _ _ _ _ hC3;go_wp2_with fail
 rw [qz _ _ _ _ _ _ _ hC3];have hC4:=qA V2 c _ (ccs.setIfInBounds oc (.slice (some ⟨b,0,none⟩) n n)) ct (0,0) hC3
 have hbut:Rd.But c V2 (V2.setRow c (ccs.setIfInBounds oc (.slice (some ⟨b,0,none⟩) n n))):=by
  rw [<-qz _ _ _ _ _ _ _ hC3];exact Rd.But.set c _ V2 _
 have hst:∀ k,k ≠ c->(V2.setRow c (ccs.setIfInBounds oc (.slice (some ⟨b,0,none⟩) n n))).heap[k]?=V2.heap[k]?:=fun k hk=>qB _ _ _ _ hk;generalize V2.setRow c _=V3 at hC4 hbut hst |-;have hoc:oc < ccs.size:=(k3.1 HCA.out).1;have HCC:Hid ((ccs.setIfInBounds oc (.slice (some ⟨b,0,none⟩) n n))[oc]?=some (.slice (some ⟨b,0,none⟩) n n)):=hJJ (by rw [kl,if_pos rfl,if_pos hoc]);have hcV:=(k3.1 HCV.out).1
 have HRW:Hid (R s1 V3):=hJJ (PT.stay s1 V V3 HRV.out (k8 hb2.size hbut.size) (fun j cs t fr hj hp=>by
  have hjc:j ≠ c:=fun e=>by
   subst e;have h1:=HCV.out;rw [hj] at h1;cases h1;exact HCT.out hp
  exact (hst j hjc).trans (hb2.block j (k3.1 hj).1)))
 have HMW:Hid (Mv B c W V3):=hJJ (HMV.out.trans ((Mv.of hb2 HBV.out).trans ⟨hbut.below (k8 HBV.out hb2.size) hcB,fun j cs t fr hj hp hjc=>hst j hjc⟩))
 have HB0:Hid (V3.heap[b]?=some (.cells ((([]:List Zr).flatMap zc)++(k6 (n - 0) zz).flatten).toArray 68 (0,0))):=hJJ (by
  rw [hst b (by omega),hg2,Nat.sub_zero];first | rfl | simp [zz])
 have HCW0:=hJJ hC4;have HNW:Hid (W.heap.size<=b):=hJJ (by rw [<-hbb];exact HMV.out.low.size);have HBb:Hid (B<=b):=hJJ (by rw [<-hbb];exact HBV.out);have hcb:c ≠ b:=by omega
 clear hC3 hC4 hbut hst c1 f1 hg2 hb2 hs2 k2 kn2 HRV HMV HCV HBV HNV hbb HCA hoc;obtain ⟨cc2,hcc⟩:∃ cc2,cc2=ccs.setIfInBounds oc (.slice (some ⟨b,0,none⟩) n n):=⟨_,rfl⟩;rw [<-hcc] at HCC HCW0;have HQ:=hJJ hcc;clear hcc;go_loopw [31] (fun i wr=>∃ (q:Nat) (zs:List Zr) (s':P.σ),q<=n/\i=.int .i64 (q:Int)/\zs.length=q/\jX P q s1=.ok (zs.map (·.2),s')/\R s' wr/\Mv B c W wr/\b < wr.heap.size/\wr.heap[c]?=some (.cells cc2 ct (0,0))/\wr.heap[b]?=some (.cells (zs.flatMap zc++(k6 (n - q) zz).flatten).toArray 68 (0,0))/\Rows (b+1) wr zs) (fun i _=>n - (intOf i).toNat)
 case atStart=>exact ⟨0,[],s1,by omega,rfl,rfl,rfl,HRW.out,HMW.out,(k3.1 HB0.out).1,HCW0.out,HB0.out,fun z hz=>by cases hz⟩
 case round =>
  obtain ⟨q,zs,s',hq,rfl,hzl,hrun,hr,hmv,hbs,hcv,hbv,hrw⟩:=hrel;have HE:=hJJ hrun;have HS:=hJJ hr;have HM:=hJJ hmv;have HCW:=hJJ hcv;have HBW:=hJJ hbv;have HRO:=hJJ hrw;clear hrun hr hmv hcv hbv hrw;by_cases hlt:q < n
  ·have kc:wr.cell? ⟨c,oc,none⟩=some (.slice (some ⟨b,0,none⟩) n n):=by rw [qy _ _ _ _ _ _ HCW.out];exact HCC.out
   have HER:Hid (∀ f,JW P s'=.error f->jX P n s1=.error f):=hJJ (fun f h=>j4K hlt (by unfold jX;rw [HE.out];dsimp only;rw [h]));have hcall:=hJJ (jcu PT few8 HS.out (k8 hB HM.out.low.size) HBW.out (by decide) HBb.out (jdX hzl hlt) (jdY hzl hlt) (fun h=>HFE.out (HER.out _ h)));go_wp2_with fail
   refine hcall.out.mono ?_;intro e W' he;cases hrx:JW P s' with
   | error f =>
    rw [hrx] at he;obtain ⟨rfl,h2⟩:=he;refine ⟨rfl,?_⟩;rw [HLP.out]
    (try dsimp only)
    rw [HER.out f hrx];exact ⟨rfl,HM.out.low.trans h2⟩
   | ok y =>
    obtain ⟨y,s2⟩:=y;rw [hrx] at he;obtain ⟨rfl,h2,h3,a0,a1,h4,h5,h6⟩:=he;rw [jdZ hzl hlt] at h4;have H2:=hJJ h2;have H3:=hJJ (HM.out.off h3 HNW.out);have H4:=hJJ h4;have HC4:=hJJ (h3.Ju HCW.out (.inr HCT.out) hcb);have HEN:Hid (jX P (q+1) s1=.ok ((zs++[((a0,a1),y)]).map (·.2),s2)):=hJJ (by unfold jX;rw [HE.out];dsimp only;rw [hrx,Kc];rfl)
    have HR4:Hid (Rows (b+1) W' (zs++[((a0,a1),y)])):=hJJ (fun z hz=>by
     rcases qf.1 hz with hz | hz
     ·exact ⟨(HRO.out z hz).1.Ju h3 (by omega) (by decide),(HRO.out z hz).2.Ju h3 (by omega) (by decide)⟩
     obtain rfl:=List.mem_singleton.1 hz;exact ⟨h5.j5l hbs,h6.j5l hbs⟩)
    have hbs':b < W'.heap.size:=ku hbs h3.low.size;clear h2 h3 h4 h5 h6 kc hrx;go_wp2;go_roundw;case rel=>exact ⟨q+1,zs++[((a0,a1),y)],s2,by omega,by go_num,by rw [k7,hzl];rfl,HEN.out,H2.out,H3.out,hbs',HC4.out,H4.out,HR4.out⟩
    case measure=>simp [intOf];omega
  obtain rfl:n=q:=by omega
  have HZL:=hJJ hzl;clear hzl;go_wp2
  go_end0
  rw [HLP.out]
  (try dsimp only)
  rw [HE.out];refine ⟨rfl,HS.out,HM.out,some ⟨b,0,none⟩,zs,rfl,by rw [kk,HZL.out,<-HQ.out];exact HCW.out,fun _=>⟨b,HNW.out,rfl,?_⟩,fun z hz=>⟨(HRO.out z hz).1.j5l (by have:=HNW.out;omega),(HRO.out z hz).2.j5l (by have:=HNW.out;omega)⟩⟩;have:=HBW.out
  rwa [Kv,List.replicate_zero,K5,kZ] at this
end
end Po
namespace Po
open Go Go.RowKit Go.ChangeShapes
open Tab
def andThen {α β:Type} (r:Except Flt α) (k:α->Except Flt β):Except Flt β:=match r with
 | .error f=>.error f
 | .ok x=>k x
theorem andThen_ok {α β:Type} (x:α) (k:α->Except Flt β):andThen (.ok x) k=k x:=rfl
theorem jJ {α β:Type} (f:Flt) (k:α->Except Flt β):andThen (.error f) k=.error f:=rfl
structure Raw where
 ph:List (List Value)
 gs:List (List (List Value) × List (List Value))
 cf:List Value
 ds:List (List Value)
 rs:List (List Value)
 bs:List (List Value)
 tm:List Value
 fl:List Value
 tk:List Value
def zPh:List Value:=[.bool false,I 0,I 0,I 0,I 0,I 0,I 0,I 0,I 0,I 0,I 0,.bool false,.bool false]
def zDt:List Value:=[I 0,.float .f64 0,.float .f64 0,.float .f64 0,.float .f64 0,I 0,I 0]
def zRl:List Value:=[I 0,I 0,I 0,I 0,I 0,I 0,I 0,I 0,I 0,I 0,I 0]
def zBs:List Value:=[I 0,I 0]
abbrev j1H:List Sp:=(([]:List Sp)++([.flg 0])++(([1,2,3,4,5,6,7,8,9]:List Nat).map (.num 2 9999))++([.num 1 3 10])++([.flg 11])++([.flg 12]))
abbrev stD:List Sp:=(([]:List Sp)++([.num 1 7 0])++([.flt true 1])++([.flt true 2])++([.flt false 3])++([.flt false 4])++(([5,6]:List Nat).map (.num 2 9999)))
abbrev stR:List Sp:=(([]:List Sp)++(([0,1,2,3]:List Nat).map (.num 1 255))++(([4,5,6,7,8,9]:List Nat).map (.num 2 9999))++(([10]:List Nat).map (.num 4 2147483647)))
abbrev stB:List Sp:=(([]:List Sp)++(([0]:List Nat).map (.num 1 255))++(([1]:List Nat).map (.num 2 9999)))
abbrev st8 (most:Int) (q:Nat):List Sp:=(Kw q).map (Sp.num 1 most)
def parts (P:PP) (s:P.σ):Except Flt (Raw × P.σ) :=
 andThen (jf P j1H (k6 8 zPh) s) fun x1 =>
 andThen (Jt P 4 x1.2) fun x2 =>
 andThen (runs P (st8 255 8) (k6 8 (I 0)) x2.2) fun x3 =>
 andThen (jr P 16 stD [I 0,.float .f64 0,.float .f64 0,.float .f64 0,.float .f64 0,I 0,I 0] x3.2) fun x4 =>
 andThen (jr P 4 stR [I 0,I 0,I 0,I 0,I 0,I 0,I 0,I 0,I 0,I 0,I 0] x4.2) fun x5 =>
 andThen (jr P 4 stB [I 0,I 0] x5.2) fun x6 =>
 andThen (runs P ([0,1,2,3,4].map (Sp.num 2 9999)) (k6 5 (I 0)) x6.2) fun x7 =>
 andThen (runs P (st8 2 8) (k6 8 (I 0)) x7.2) fun x8 =>
 andThen (runs P ([0,1].map (Sp.num 4 2147483647)) (k6 2 (I 0)) x8.2) fun x9 =>
 .ok (⟨x1.1,x2.1,x3.1,x4.1,x5.1,x6.1,x7.1,x8.1,x9.1⟩,x9.2)
def bx (PH:List Value) (g:Value) (cf:List Value) (d r b:Value) (tm fl tk:List Value):List Value:=PH++(g :: (cf++(d :: r :: b :: (tm++(fl++tk)))))
abbrev nl:Value:=.slice none 0 0
theorem j1r {cs:List Value} {A l C l':List Value} {k:Nat} (e:cs=A++(l++C)) (hk:A.length=k) (h:l'.length=l.length):wrt cs.toArray k l'=(A++(l'++C)).toArray:=by
 subst e hk;unfold wrt;simp only;rw [KO rfl,h,<-ql,Kp rfl,Kp rfl,kT]
theorem j30 {cs:List Value} {A l C:List Value} {k:Nat} (e:cs=A++(l++C)) (hk:A.length=k):wrt cs.toArray k l=cs.toArray:=by
 rw [j1r e hk rfl,<-e]
theorem j4f {cs:List Value} {A C:List Value} {k:Nat} {x:Value} (v:Value) (e:cs=A++(x :: C)) (hk:A.length=k):cs.toArray.setIfInBounds k v=(A++(v :: C)).toArray:=by
 subst e hk;rw [kt,Kh _ _ (k5 _),Kv];rfl
theorem j6b {cs:List Value} {A C:List Value} {k:Nat} {x:Value} (e:cs=A++(x :: C)) (hk:A.length=k):cs.toArray[k]?=some x:=by
 subst e hk;rw [kN,kL (k5 _),Kv];rfl
theorem j31 {cs:List Value} {A l C:List Value} {k:Nat} (e:cs=A++(l++C)) (hk:A.length=k):k+l.length<=cs.toArray.size:=by
 subst e hk;rw [kQ,k7,k7];omega
theorem j1s {P:PP} {st:List Sp} {n:Nat} {s:P.σ} {l':List Value} {s':P.σ} (h:runs P st (k6 n (I 0)) s=.ok (l',s')):l'.length=n/\∀ j,j < n->∃ x,l'[j]?=some (I x):=by
 have h1:=Jn P st h;have h2:=Jv P st h;rw [kO] at h2;refine ⟨h2,fun j hj=>?_⟩;refine j0i h1 (j:=j) ?_;rw [KA,KG,if_pos hj];rfl
end Po
end Go.Proofs.YtonpphjleapafaaGreat
