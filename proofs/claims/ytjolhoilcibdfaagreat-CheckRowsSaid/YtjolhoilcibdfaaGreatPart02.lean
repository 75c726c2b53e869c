/- 14 texts in one file, in build order. -/
import Derived.Test.YtjolhoilcibdfaaGreatPart01
import Derived.Test.YtjolhoilcibdfaaGreatRows
import Derived.WalkKit
import Derived.WalkLawsBesides
import Derived.ProofKit
import Derived.IntWalk
import Derived.Lib.Hide
import Derived.LoopTactic
import Derived.Great.BuildSlice
import Derived.Deep.Cut
import Derived.OwnWalk
import Derived.Laws.CopyOwn
import Derived.OpenShut
import Derived.ChangeArms
import Derived.DeepKeys
set_option linter.unusedVariables false
set_option linter.unusedSimpArgs false
set_option linter.unusedSectionVars false
set_option maxHeartbeats 8000000
set_option maxRecDepth 100000
namespace Go.Proofs.YtjolhoilcibdfaaGreat
namespace Secs
open Zip
open Go.ChangeShapes Go.WideShapes Go.ChangeAt Go.RowKit Go.Proofs.Fl
def cap (n:Int):Int:=if n < 0 then 0 else if 2147483647 < n then 2147483647 else n
theorem cap_neg {n:Int} (h:n < 0):cap n=0:=by unfold cap;rw [if_pos h]
theorem cap_big {n:Int} (h:2147483647 < n):cap n=2147483647:=by unfold cap;rw [if_neg (by omega),if_pos h]
theorem cap_in {n:Int} (h:0≤n) (h':n≤2147483647):cap n=n:=by unfold cap;rw [if_neg (by omega),if_neg (by omega)]
theorem ret_int {k:IntKind} {a b:Int} (h:a=b):Ending.returned (.int k a)=.returned (.int k b):=by rw [h]
theorem ret_tick {a b:Int} (h:a=b):Ending.returned (.tuple #[.int .i64 a,.bool true])=.returned (.tuple #[.int .i64 b,.bool true]):=by rw [h]
theorem ret_bool {a b:Bool} (h:a=b):Ending.returned (.bool a)=.returned (.bool b):=by rw [h]
theorem ret_float {k:FloatKind} {a b:Nat} (h:a=b):Ending.returned (.float k a)=.returned (.float k b):=by rw [h]
theorem limit_any (n:Int) (w:World):Calls Tryz.prog 101 #[.int .i64 n] w fun e w'=>e=.returned (.int .i64 (cap n))∧w=w':=by
 by_cases h1:n < 0
 ·go_enter Tryz.func101,Tryz.ntmps101
  go_wp2
  go_ret
  exact ⟨ret_int (cap_neg h1).symm,rfl⟩
 by_cases h2:2147483647 < n
 ·go_enter Tryz.func101,Tryz.ntmps101
  go_wp2
  go_ret
  exact ⟨ret_int (cap_big h2).symm,rfl⟩
 ·go_enter Tryz.func101,Tryz.ntmps101
  go_wp2
  go_ret
  exact ⟨ret_int (cap_in (by omega) (by omega)).symm,rfl⟩
theorem cap_any (n:Int) (w:World):Calls Tryz.prog 126 #[.int .i64 n] w fun e w'=>e=.returned (.int .i64 (cap n))∧w=w':=by
 go_enter Tryz.func126,Tryz.ntmps126
 go_wp2_with (go_at_call 101;refine (limit_any _ _).mono ?_;rintro e w' ⟨rfl,rfl⟩)
 go_ret
 exact ⟨rfl,rfl⟩
theorem o_ne_self (x:Nat):(FloatKind.f64.format.order x x != some .eq)=isn x:=by
 show (D.order x x != some .eq)=isn x
 cases h:isn x
 ·have:=o_eq h h
  rw [bne,this];simp
 ·rw [order_nan x x (.inl h)];rfl
theorem isnan_any (x:Nat) (w:World):Calls Tryz.prog 150 #[.float .f64 x] w fun e w'=>e=.returned (.bool (isn x))∧w=w':=by
 go_enter Tryz.func150,Tryz.ntmps150
 go_wp2
 go_ret
 exact ⟨ret_bool (o_ne_self x),rfl⟩
def cut (n:Int):Nat:=(if n < 0 then 0 else if 9999 < n then 9999 else n).toNat
def Quo:Prop:=∀ k:Nat,k≤9999→D.div (floatOfInt .f64 (k:Int)) ten=some (ofB k)
theorem quo_holds:Quo:=by
 intro k hk
 have hf:=float_of k (by omega)
 have hi:=irung_lt k (by omega)
 obtain ⟨m,i,P,rx,-,-,-⟩:=read_fin (irung k) (by unfold fin rung;omega)
 have:∃ s,D.div (floatOfInt .f64 (k:Int)) ten=some s:=by
  rw [hf]
  unfold Ieee.Format.div
  rw [rx,show D.read ten=.number false 5629499534213120 (-49) by decide]
  unfold Ieee.Datum.quotient
  dsimp only
  rw [if_neg (by decide)]
  exact ⟨_,rfl⟩
 obtain ⟨s,hs⟩:=this
 unfold ofB
 rw [hs]
 rfl
theorem quo_at (hQ:Quo) (k:Int) (hk0:0≤k) (hk:k≤9999):∀ t w,(binOp .quo t (.float .f64 (floatOfInt .f64 k)) (.float .f64 4621819117588971520)).run Tryz.prog w=.ok (.float .f64 (ofB k.toNat)) w:=by
 intro t w
 obtain ⟨n,rfl⟩:=Int.eq_ofNat_of_zero_le hk0
 exact run_float_arith w .quo t .f64 _ _ _ (hQ n (by omega))
theorem of_any (hQ:Quo) (n:Int) (w:World):Calls Tryz.prog 153 #[.int .i64 n] w fun e w'=>e=.returned (.float .f64 (ofB (cut n)))∧w=w':=by
 have hop:=quo_at hQ
 clear hQ
 by_cases h1:n < 0
 ·have HC:=hJJ (show cut n=0 by unfold cut;rw [if_pos h1];rfl)
  have hq:=hop 0 (by omega) (by omega)
  have hcap:=cap_neg h1
  clear hop
  go_enter Tryz.func153,Tryz.ntmps153
  go_wp2_with (first | (go_at_call 126;refine (cap_any _ _).mono ?_;rintro e w' ⟨rfl,rfl⟩) | simp only [hq])
  go_ret
  exact ⟨ret_float (by rw [HC.out]),rfl⟩
 by_cases h2:9999 < n
 ·have HC:=hJJ (show cut n=9999 by unfold cut;rw [if_neg h1,if_pos h2];rfl)
  have hq:=hop 9999 (by omega) (by omega)
  have hcap:9999 < cap n:=by unfold cap;rw [if_neg h1];split <;> omega
  clear hop
  go_enter Tryz.func153,Tryz.ntmps153
  go_wp2_with (first | (go_at_call 126;refine (cap_any _ _).mono ?_;rintro e w' ⟨rfl,rfl⟩) | simp only [hq])
  go_ret
  exact ⟨ret_float (by rw [HC.out]),rfl⟩
 ·have HC:=hJJ (show cut n=n.toNat by unfold cut;rw [if_neg h1,if_neg h2])
  have hq:=hop n (by omega) (by omega)
  have hcap:=cap_in (n:=n) (by omega) (by omega)
  clear hop
  go_enter Tryz.func153,Tryz.ntmps153
  go_wp2_with (first | (go_at_call 126;refine (cap_any _ _).mono ?_;rintro e w' ⟨rfl,rfl⟩) | simp only [hq])
  go_ret
  exact ⟨ret_float (by rw [HC.out]),rfl⟩
theorem of_top:ofB (cut 9999)=4652006429231887155:=by decide +kernel
theorem longest_any (hQ:Quo) (w:World):Calls Tryz.prog 151 #[] w fun e w'=>e=.returned (.float .f64 4652006429231887155)∧w=w':=by
 have HQ:=hJJ hQ
 clear hQ
 go_enter Tryz.func151,Tryz.ntmps151
 go_wp2_with (go_at_call 153;refine (of_any HQ.out _ _).mono ?_;rintro e w' ⟨rfl,rfl⟩)
 go_ret
 exact ⟨ret_float of_top,rfl⟩
theorem even_call {s:Nat} (h:ok s=true) (w:World):(callFunc 152 #[.float .f64 (xw s)]).run Tryz.prog w=.ok (.value (.float .f64 (rw' s))) w:=by
 rw [run_callFunc_extern (e:=Extern.MathFloor.toIntegral "math.RoundToEven" .even) Tryz.func152 (by kernel_rfl) (by kernel_rfl) (by kernel_rfl) (by kernel_rfl)]
 have hr:=round_ok h
 obtain ⟨m,i,P,rx,-,-,-⟩:=read_fin (xw s) (xw_fin h)
 have e:FloatKind.decode .f64 (xw s)=.number (sg (xw s)) m i:=rx
 have e2:FloatKind.encode .f64 (Ieee.Datum.integral .even (.number (sg (xw s)) m i))=rw' s:=by rw [← hr,← rx];rfl
 have key:Extern.MathFloor.toIntegral "math.RoundToEven" .even #[.float .f64 (xw s)]=pure (.float .f64 (rw' s)):=by
  show Extern.MathFloor.toIntegral.match_1 (fun _=>Sem Value) (FloatKind.decode .f64 (xw s)) _ _=_
  rw [e]
  show pure (Value.float .f64 (FloatKind.encode .f64 (Ieee.Datum.integral .even (.number (sg (xw s)) m i))))=_
  rw [e2]
 rw [key]
 rfl
theorem bits_call (x:Nat) (w:World):(callFunc 148 #[.float .f64 x]).run Tryz.prog w=.ok (.value (.int .u64 x)) w:=by
 rw [run_callFunc_extern (e:=Extern.MathFloatBits.float64bits) Tryz.func148 (by kernel_rfl) (by kernel_rfl) (by kernel_rfl) (by kernel_rfl)]
 rfl
theorem ord_cases (x y:Nat) (hx:isn x=false) (hy:isn y=false) :
  (key x < key y∧FloatKind.f64.format.order x y=some .lt)∨(key x=key y∧FloatKind.f64.format.order x y=some .eq)∨(key y < key x∧FloatKind.f64.format.order x y=some .gt):=by
 have h:FloatKind.f64.format.order x y=some (compare (key x) (key y)):=order_key x y hx hy
 rw [h,Int.compare_eq_ite_lt]
 rcases Int.lt_trichotomy (key x) (key y) with hl | hl | hl
 ·exact .inl ⟨hl,by rw [if_pos hl]⟩
 ·exact .inr (.inl ⟨hl,by rw [if_neg (by omega),if_neg (by omega)]⟩)
 ·exact .inr (.inr ⟨hl,by rw [if_neg (by omega),if_pos hl]⟩)
theorem ord_nan (x y:Nat) (h:isn x=true∨isn y=true):FloatKind.f64.format.order x y=none:=order_nan x y h
theorem key0:key 0=0:=by decide
theorem keyT:key 4652006429231887155=4652006429231887155:=by decide
theorem isn0:isn 0=false:=by decide
theorem isnT:isn 4652006429231887155=false:=by decide
theorem isnan_t {x:Nat} (h:isn x=true) (w:World):Calls Tryz.prog 150 #[.float .f64 x] w fun e w'=>e=.returned (.bool true)∧w=w' :=
 (isnan_any x w).mono fun _ _ ⟨a,b⟩=>⟨by rw [a,h],b⟩
theorem isnan_f {x:Nat} (h:isn x=false) (w:World):Calls Tryz.prog 150 #[.float .f64 x] w fun e w'=>e=.returned (.bool false)∧w=w' :=
 (isnan_any x w).mono fun _ _ ⟨a,b⟩=>⟨by rw [a,h],b⟩
theorem ticks_no (hQ:Quo) {s:Nat} (h:ok s=false) (w:World):Calls Tryz.prog 149 #[.float .f64 s] w fun e w'=>e=.returned (.tuple #[.int .i64 0,.bool false])∧w=w':=by
 have HQ:=hJJ hQ
 clear hQ
 cases hn:isn s
 ·have h0:=ord_cases s 0 hn isn0
  have hT:=ord_cases s 4652006429231887155 hn isnT
  rw [key0] at h0
  rw [keyT] at hT
  have hk:key s < 0∨0≤key s∧4652006429231887155 < key s:=by
   have:¬ ok s=true:=by rw [h];simp
   rw [ok_iff] at this
   by_cases a:key s < 0
   ·exact .inl a
   ·by_cases b:4652006429231887155 < key s
    ·exact .inr ⟨by omega,b⟩
    ·exact absurd ⟨hn,by omega,by omega⟩ this
  have HN:=hJJ hn
  clear hn h
  rcases hk with hk | ⟨hk0,hk⟩
  ·have ho:FloatKind.f64.format.order s 0=some .lt:=by rcases h0 with ⟨a,b⟩ | ⟨a,b⟩ | ⟨a,b⟩ <;> first | exact b | omega
   clear h0 hT
   go_enter Tryz.func149,Tryz.ntmps149
   go_wp2_with (go_at_call 150;refine (isnan_f HN.out _).mono ?_;rintro e w' ⟨rfl,rfl⟩)
   go_ret2
   exact ⟨rfl,rfl⟩
  ·have ho2:FloatKind.f64.format.order s 4652006429231887155=some .gt:=by rcases hT with ⟨a,b⟩ | ⟨a,b⟩ | ⟨a,b⟩ <;> first | exact b | omega
   clear hT
   rcases h0 with ⟨a,ho⟩ | ⟨a,ho⟩ | ⟨a,ho⟩
   ·omega
   all_goals
    clear a
    go_enter Tryz.func149,Tryz.ntmps149
    go_wp2_with (first | (go_at_call 150;refine (isnan_f HN.out _).mono ?_;rintro e w' ⟨rfl,rfl⟩) | (go_at_call 151;refine (longest_any HQ.out _).mono ?_;rintro e w' ⟨rfl,rfl⟩))
    go_ret2
    exact ⟨rfl,rfl⟩
 ·have HN:=hJJ hn
  clear hn h
  go_enter Tryz.func149,Tryz.ntmps149
  go_wp2_with (go_at_call 150;refine (isnan_t HN.out _).mono ?_;rintro e w' ⟨rfl,rfl⟩)
  go_ret2
  exact ⟨rfl,rfl⟩
theorem ticks_yes (hQ:Quo) {s:Nat} (h:ok s=true) (w:World):Calls Tryz.prog 149 #[.float .f64 s] w fun e w'=>e=.returned (.tuple #[.int .i64 (tk s),.bool true])∧w=w':=by
 have HQ:=hJJ hQ
 clear hQ
 obtain ⟨hn,hlo,hhi⟩:=(ok_iff s).1 h
 have h0:=ord_cases s 0 hn isn0
 have hT:=ord_cases s 4652006429231887155 hn isnT
 rw [key0] at h0
 rw [keyT] at hT
 have HN:=hJJ hn
 have hm:∀ t w,(binOp .mul t (.float .f64 4621819117588971520) (.float .f64 s)).run Tryz.prog w=.ok (.float .f64 (xw s)) w:=fun t w=>run_float_arith w .mul t .f64 _ _ _ (mul_ok h).1
 have he:=even_call h
 have hc:∀ w,(convert 43 3 (.float .f64 (rw' s))).run Tryz.prog w=.ok (.int .i64 (tk s)) w:=fun w=>run_convert_float_int w 43 3 .f64 .i64 _ _ (by rw [Tryz.underlying43];rfl) Tryz.underlying3 (int_ok h)
 clear hn h
 rcases h0 with ⟨a,ho⟩ | ⟨a,ho⟩ | ⟨a,ho⟩
 ·omega
 all_goals
  rcases hT with ⟨b,ho2⟩ | ⟨b,ho2⟩ | ⟨b,ho2⟩
  rotate_right
  ·omega
  all_goals
   clear a b hlo hhi
   go_enter Tryz.func149,Tryz.ntmps149
   go_wp2_with (first | (go_at_call 150;refine (isnan_f HN.out _).mono ?_;rintro e w' ⟨rfl,rfl⟩) | (go_at_call 151;refine (longest_any HQ.out _).mono ?_;rintro e w' ⟨rfl,rfl⟩) | simp only [hm,he,hc])
   go_ret2
   exact ⟨rfl,rfl⟩
theorem rticks_no {s:Nat} (h:ok s=false) (w:World):Calls Tryz.prog 142 #[.float .f64 s] w fun e w'=>e=.returned (.tuple #[.int .i64 0,.bool false])∧w=w':=by
 cases hn:isn s
 ·have h0:=ord_cases s 0 hn isn0
  have hT:=ord_cases s 4652006429231887155 hn isnT
  rw [key0] at h0
  rw [keyT] at hT
  have hk:key s < 0∨0≤key s∧4652006429231887155 < key s:=by
   have:¬ ok s=true:=by rw [h];simp
   rw [ok_iff] at this
   by_cases a:key s < 0
   ·exact .inl a
   ·by_cases b:4652006429231887155 < key s
    ·exact .inr ⟨by omega,b⟩
    ·exact absurd ⟨hn,by omega,by omega⟩ this
  clear hn h
  rcases hk with hk | ⟨hk0,hk⟩
  ·have ho:FloatKind.f64.format.order s 0=some .lt:=by rcases h0 with ⟨a,b⟩ | ⟨a,b⟩ | ⟨a,b⟩ <;> first | exact b | omega
   clear h0 hT
   go_enter Tryz.func142,Tryz.ntmps142
   go_wp2
   go_ret2
   exact ⟨rfl,rfl⟩
  ·have ho2:FloatKind.f64.format.order s 4652006429231887155=some .gt:=by rcases hT with ⟨a,b⟩ | ⟨a,b⟩ | ⟨a,b⟩ <;> first | exact b | omega
   clear hT
   rcases h0 with ⟨a,ho⟩ | ⟨a,ho⟩ | ⟨a,ho⟩
   ·omega
   all_goals
    clear a
    go_enter Tryz.func142,Tryz.ntmps142
    go_wp2
    go_ret2
    exact ⟨rfl,rfl⟩
 ·have ho:=ord_nan s 0 (.inl hn)
  have ho2:=ord_nan s 4652006429231887155 (.inl hn)
  clear hn h
  go_enter Tryz.func142,Tryz.ntmps142
  go_wp2
  go_ret2
  exact ⟨rfl,rfl⟩
theorem b00 (q:Nat):q+(false || (false && q % 2 == 1)).toNat=q:=rfl
theorem b01 (q:Nat) (h:q % 2=1):q+(false || (true && q % 2 == 1)).toNat=q+1:=by rw [h];rfl
theorem b02 (q:Nat) (h:q % 2=0):q+(false || (true && q % 2 == 1)).toNat=q:=by rw [h];rfl
theorem b1 (q:Nat) (b:Bool):q+(true || b).toNat=q+1:=rfl
theorem cast1 (q:Nat):(q:Int)+1=((q+1:Nat):Int):=rfl
theorem isnH:isn half=false:=by decide
theorem rticks_yes {s:Nat} (h:ok s=true) (w:World):Calls Tryz.prog 142 #[.float .f64 s] w fun e w'=>e=.returned (.tuple #[.int .i64 (tk s),.bool true])∧w=w':=by
 obtain ⟨hn,hlo,hhi⟩:=(ok_iff s).1 h
 have h0:=ord_cases s 0 hn isn0
 have hT:=ord_cases s 4652006429231887155 hn isnT
 rw [key0] at h0
 rw [keyT] at hT
 obtain ⟨hsub,hln,hgt,heq⟩:=rest_ok h
 have hH:=ord_cases (lw s) half hln isnH
 have hq:qk s≤9999:=Nat.le_trans (rhe_lo _ _) (tk_hi h)
 have htk:=tk_qk s
 rw [← hgt,← heq] at htk
 have hm:∀ t w,(binOp .mul t (.float .f64 s) (.float .f64 4621819117588971520)).run Tryz.prog w=.ok (.float .f64 (xw s)) w:=fun t w=>run_float_arith w .mul t .f64 _ _ _ (mul_ok h).2
 have hc:∀ w,(convert 43 3 (.float .f64 (xw s))).run Tryz.prog w=.ok (.int .i64 (qk s)) w:=fun w=>run_convert_float_int w 43 3 .f64 .i64 _ _ (by rw [Tryz.underlying43];rfl) Tryz.underlying3 (cut_ok h)
 have hs:∀ t w,(binOp .sub t (.float .f64 (xw s)) (.float .f64 (irung (qk s)))).run Tryz.prog w=.ok (.float .f64 (lw s)) w:=fun t w=>run_float_arith w .sub t .f64 _ _ _ hsub
 have hf:=float_of (qk s) (by omega)
 have hq0:(0:Int)≤(qk s:Int):=by omega
 have hq1:(qk s:Int)≤9999:=by omega
 have HT:=hJJ (show tk s=qk s+(decide (key half < key (lw s)) || (decide (key (lw s)=key half) && qk s % 2 == 1)).toNat from htk)
 clear htk hgt heq hsub hln hn h hq
 have par:qk s % 2=1∨qk s % 2=0:=by omega
 rcases h0 with ⟨a,ho⟩ | ⟨a,ho⟩ | ⟨a,ho⟩
 ·omega
 all_goals
  rcases hT with ⟨b,ho2⟩ | ⟨b,ho2⟩ | ⟨b,ho2⟩
  rotate_right
  ·omega
  all_goals
   clear a b hlo hhi
   rcases hH with ⟨c,ho3⟩ | ⟨c,ho3⟩ | ⟨c,ho3⟩
   ·have HE:=hJJ (show tk s=qk s from by rw [HT.out,decide_eq_false (by omega),decide_eq_false (by omega)];exact b00 _)
    clear HT par c
    go_enter Tryz.func142,Tryz.ntmps142
    go_wp2_with (simp only [hm,hc,hs,hf])
    go_ret2
    exact ⟨ret_tick (by rw [HE.out]),rfl⟩
   ·rcases par with p | p
    ·have HE:=hJJ (show tk s=qk s+1 from by rw [HT.out,decide_eq_false (by omega),decide_eq_true c];exact b01 _ p)
     have p':(qk s:Int) % 2=1:=by omega
     clear HT p c
     go_enter Tryz.func142,Tryz.ntmps142
     go_wp2_with (simp only [hm,hc,hs,hf])
     go_ret2
     exact ⟨ret_tick (by rw [HE.out];exact cast1 _),rfl⟩
    ·have HE:=hJJ (show tk s=qk s from by rw [HT.out,decide_eq_false (by omega),decide_eq_true c];exact b02 _ p)
     have p':(qk s:Int) % 2=0:=by omega
     clear HT p c
     go_enter Tryz.func142,Tryz.ntmps142
     go_wp2_with (simp only [hm,hc,hs,hf])
     go_ret2
     exact ⟨ret_tick (by rw [HE.out]),rfl⟩
   ·have HE:=hJJ (show tk s=qk s+1 from by rw [HT.out,decide_eq_true c];exact b1 _ _)
    clear HT par c
    go_enter Tryz.func142,Tryz.ntmps142
    go_wp2_with (simp only [hm,hc,hs,hf])
    go_ret2
    exact ⟨ret_tick (by rw [HE.out];exact cast1 _),rfl⟩
end Secs
namespace MayF
open Zip
open Go.ChangeShapes Go.WideShapes Go.ChangeAt Go.RowKit Go.Proofs.Fl
open Secs
def neg (x:Nat):Bool:=decide (wrap64 (x:Int) < 0)
theorem signbit_any (x:Nat) (w:World):Calls Tryz.prog 143 #[.float .f64 x] w fun e w'=>e=.returned (.bool (neg x))∧w=w':=by
 have hb:=bits_call x
 go_enter Tryz.func143,Tryz.ntmps143
 go_wp2_with (simp only [hb])
 go_ret
 exact ⟨rfl,rfl⟩
def level (x:Nat):Bool:=!isn x && decide (0 < key x) && decide (key x≤4696837146684686336)
theorem keyM:key 4696837146684686336=4696837146684686336:=by decide
theorem isnM:isn 4696837146684686336=false:=by decide
theorem level_any (x:Nat) (w:World):Calls Tryz.prog 145 #[.float .f64 x] w fun e w'=>e=.returned (.bool (level x))∧w=w':=by
 cases hn:isn x
 ·have h0:=ord_cases x 0 hn isn0
  have hT:=ord_cases x 4696837146684686336 hn isnM
  rw [key0] at h0
  rw [keyM] at hT
  have HN:=hJJ hn
  clear hn
  rcases h0 with ⟨a,ho⟩ | ⟨a,ho⟩ | ⟨a,ho⟩
  all_goals rcases hT with ⟨b,ho2⟩ | ⟨b,ho2⟩ | ⟨b,ho2⟩
  all_goals
   have HA:=hJJ a
   have HB:=hJJ b
   clear a b
   go_enter Tryz.func145,Tryz.ntmps145
   go_wp2
   go_ret
   have a:=HA.out
   have b:=HB.out
   exact ⟨ret_bool (by unfold level;rw [HN.out];first | (rw [decide_eq_true (by omega),decide_eq_true (by omega)];rfl) | (rw [decide_eq_false (by omega)];simp) | (rw [decide_eq_false (p:=key x≤_) (by omega)];simp)),rfl⟩
 ·have ho:=ord_nan x 0 (.inl hn)
  have ho2:=ord_nan x 4696837146684686336 (.inl hn)
  have HN:=hJJ hn
  clear hn
  go_enter Tryz.func145,Tryz.ntmps145
  go_wp2
  go_ret
  exact ⟨ret_bool (by unfold level;rw [HN.out];rfl),rfl⟩
theorem rlevel_any (x:Nat) (w:World):Calls Tryz.prog 121 #[.float .f64 x] w fun e w'=>e=.returned (.bool (level x))∧w=w':=by
 cases hn:isn x
 ·have h0:=ord_cases x 0 hn isn0
  have hT:=ord_cases x 4696837146684686336 hn isnM
  rw [key0] at h0
  rw [keyM] at hT
  have HN:=hJJ hn
  clear hn
  rcases h0 with ⟨a,ho⟩ | ⟨a,ho⟩ | ⟨a,ho⟩
  all_goals rcases hT with ⟨b,ho2⟩ | ⟨b,ho2⟩ | ⟨b,ho2⟩
  all_goals
   have HA:=hJJ a
   have HB:=hJJ b
   clear a b
   go_enter Tryz.func121,Tryz.ntmps121
   go_wp2
   go_ret
   have a:=HA.out
   have b:=HB.out
   exact ⟨ret_bool (by unfold level;rw [HN.out];first | (rw [decide_eq_true (by omega),decide_eq_true (by omega)];rfl) | (rw [decide_eq_false (by omega)];simp) | (rw [decide_eq_false (p:=key x≤_) (by omega)];simp)),rfl⟩
 ·have ho:=ord_nan x 0 (.inl hn)
  have ho2:=ord_nan x 4696837146684686336 (.inl hn)
  have HN:=hJJ hn
  clear hn
  go_enter Tryz.func121,Tryz.ntmps121
  go_wp2
  go_ret
  exact ⟨ret_bool (by unfold level;rw [HN.out];rfl),rfl⟩
def span (x:Nat):Bool:=ok x && !neg x
theorem span_any (x:Nat) (w:World):Calls Tryz.prog 146 #[.float .f64 x] w fun e w'=>e=.returned (.bool (span x))∧w=w':=by
 cases hk:ok x
 ·have HK:=hJJ hk
  clear hk
  go_enter Tryz.func146,Tryz.ntmps146
  go_wp2_with (go_at_call 149;refine (ticks_no quo_holds HK.out _).mono ?_;rintro e w' ⟨rfl,rfl⟩)
  go_ret
  exact ⟨ret_bool (by unfold span;rw [HK.out,Bool.false_and]),rfl⟩
 ·have HK:=hJJ hk
  clear hk
  go_enter Tryz.func146,Tryz.ntmps146
  go_wp2_with (first | (go_at_call 149;refine (ticks_yes quo_holds HK.out _).mono ?_;rintro e w' ⟨rfl,rfl⟩) | (go_at_call 143;refine (signbit_any _ _).mono ?_;rintro e w' ⟨rfl,rfl⟩))
  go_ret
  exact ⟨ret_bool (by unfold span;rw [HK.out,Bool.true_and]),rfl⟩
theorem rspan_any (x:Nat) (w:World):Calls Tryz.prog 122 #[.float .f64 x] w fun e w'=>e=.returned (.bool (span x))∧w=w':=by
 cases hk:ok x
 ·have HK:=hJJ hk
  clear hk
  go_enter Tryz.func122,Tryz.ntmps122
  go_wp2_with (go_at_call 142;refine (rticks_no HK.out _).mono ?_;rintro e w' ⟨rfl,rfl⟩)
  go_ret
  exact ⟨ret_bool (by unfold span;rw [HK.out,Bool.false_and]),rfl⟩
 ·have HK:=hJJ hk
  clear hk
  go_enter Tryz.func122,Tryz.ntmps122
  go_wp2_with (first | (go_at_call 142;refine (rticks_yes HK.out _).mono ?_;rintro e w' ⟨rfl,rfl⟩) | (go_at_call 143;refine (signbit_any _ _).mono ?_;rintro e w' ⟨rfl,rfl⟩))
  go_ret
  exact ⟨ret_bool (by unfold span;rw [HK.out,Bool.true_and]),rfl⟩
end MayF
namespace May
open Zip
open Go.ChangeShapes Go.WideShapes Go.ChangeAt Go.RowKit
open Tab MayF
def Ph.may (p:Ph):Bool:=allIn 9999 [p.min,p.gap,p.max,p.top,p.step,p.yellow,p.red,p.walk,p.blinks] && allIn 3 [p.recall]
def rowMay (l:List Int):Bool:=decide (l.length≤8) && allIn 7 l
def groupMay (g:List Int × List Int):Bool:=rowMay g.1 && rowMay g.2
def Det.may (d:Det):Bool:=allIn 7 [d.phase] && (level d.on && (level d.off && (span d.delay && (span d.extend && allIn 9999 [d.maxOn,d.maxOff]))))
def Rl.may (r:Rl):Bool:=allIn 255 [r.bars,r.clear,r.dwell,r.exit] && (allIn 9999 [r.delay,r.green,r.foot,r.hold,r.stay,r.most] && allIn 2147483647 [r.limit])
def Bs.may (b:Bs):Bool:=allIn 255 [b.set] && allIn 9999 [b.lock]
theorem row_new (w:World) (t:TypeId) (l:List Int) (n:Nat) (hn:l.length=n) (hm:n≤maxLen) (k:Nat) (hk:w.heap.size=k):IntRow (w.alloc (.cells (l.map I).toArray t)) ⟨some ⟨k,0,none⟩,n⟩ l:=by
 subst hn hk
 refine .inr ⟨_,rfl,Nat.le_refl _,hm,fun i v hv j u hu=>?_⟩
 cases j with
 | zero =>
  obtain rfl:=Option.some.inj hu
  rw [Nat.mul_one,add_two,Nat.add_zero,Addr.add_mid,Nat.zero_add]
  rw [cell_of_row _ _ _ _ _ _ (heap_alloc_new w _)]
  simp [hv]
 | succ j=>cases hu
theorem mayPhase_any (p:Ph) (w:World) :
  Calls Tryz.prog 129 #[.agg (Ph.cells p).toArray] w fun e w'=>e=.returned (.bool (Ph.may p))∧Below w.heap.size w w':=by
 obtain ⟨on,min,gap,max,top,step,yellow,red,walk,blinks,recall,lock,rest⟩:=p
 show Calls Tryz.prog 129 #[.agg #[.bool on,I min,I gap,I max,I top,I step,I yellow,I red,I walk,I blinks,I recall,.bool lock,.bool rest]] w _
 go_enter Tryz.func129,Tryz.ntmps129
 go_wp2_with fail
 refine (within_any 9999 _ _ [min,gap,max,top,step,yellow,red,walk,blinks] _ (row_new _ _ [min,gap,max,top,step,yellow,red,walk,blinks] 9 rfl (by decide) _ (by simp))).mono ?_
 rintro e w' ⟨rfl,rfl⟩
 generalize hb1:allIn 9999 [min,gap,max,top,step,yellow,red,walk,blinks]=b1
 have HB1:=hJJ hb1
 clear hb1
 cases b1
 ·go_wp2
  go_ret
  exact ⟨ret_bool (by unfold Ph.may;simp only [HB1.out,Bool.true_and,Bool.false_and,Bool.and_true,Bool.and_false]),(by repeat' first | exact Below.refl _ _ | (refine Below.alloc ?_ ?_ _) | (simp;done) | (simp;omega))⟩
 go_wp2_with fail
 refine (within_any 3 _ _ [recall] _ (row_new _ _ [recall] 1 rfl (by decide) _ (by simp))).mono ?_
 rintro e w' ⟨rfl,rfl⟩
 generalize hb2:allIn 3 [recall]=b2
 have HB2:=hJJ hb2
 clear hb2
 go_wp2
 go_ret
 exact ⟨ret_bool (by unfold Ph.may;simp only [HB1.out,HB2.out,Bool.true_and,Bool.false_and,Bool.and_true,Bool.and_false]),(by repeat' first | exact Below.refl _ _ | (refine Below.alloc ?_ ?_ _) | (simp;done) | (simp;omega))⟩
theorem rphase_any (p:Ph) (w:World) :
  Calls Tryz.prog 90 #[.agg (Ph.cells p).toArray] w fun e w'=>e=.returned (.bool (Ph.may p))∧Below w.heap.size w w':=by
 obtain ⟨on,min,gap,max,top,step,yellow,red,walk,blinks,recall,lock,rest⟩:=p
 show Calls Tryz.prog 90 #[.agg #[.bool on,I min,I gap,I max,I top,I step,I yellow,I red,I walk,I blinks,I recall,.bool lock,.bool rest]] w _
 go_enter Tryz.func90,Tryz.ntmps90
 go_wp2_with fail
 refine (times_any _ _ [min,gap,max,top,step,yellow,red,walk,blinks] _ (row_new _ _ [min,gap,max,top,step,yellow,red,walk,blinks] 9 rfl (by decide) _ (by simp))).mono ?_
 rintro e w' ⟨rfl,rfl⟩
 generalize hb1:allIn 9999 [min,gap,max,top,step,yellow,red,walk,blinks]=b1
 have HB1:=hJJ hb1
 clear hb1
 cases b1
 ·go_wp2
  go_ret
  exact ⟨ret_bool (by unfold Ph.may;simp only [HB1.out,Bool.true_and,Bool.false_and,Bool.and_true,Bool.and_false]),(by repeat' first | exact Below.refl _ _ | (refine Below.alloc ?_ ?_ _) | (simp;done) | (simp;omega))⟩
 go_wp2_with fail
 refine (upto_any 3 _ _ [recall] _ (row_new _ _ [recall] 1 rfl (by decide) _ (by simp))).mono ?_
 rintro e w' ⟨rfl,rfl⟩
 generalize hb2:allIn 3 [recall]=b2
 have HB2:=hJJ hb2
 clear hb2
 go_wp2
 go_ret
 exact ⟨ret_bool (by unfold Ph.may;simp only [HB1.out,HB2.out,Bool.true_and,Bool.false_and,Bool.and_true,Bool.and_false]),(by repeat' first | exact Below.refl _ _ | (refine Below.alloc ?_ ?_ _) | (simp;done) | (simp;omega))⟩
theorem mayDetector_any (d:Det) (w:World) :
  Calls Tryz.prog 134 #[.agg (Det.cells d).toArray] w fun e w'=>e=.returned (.bool (Det.may d))∧Below w.heap.size w w':=by
 obtain ⟨phase,on,off,delay,extend,maxOn,maxOff⟩:=d
 show Calls Tryz.prog 134 #[.agg #[I phase,F on,F off,F delay,F extend,I maxOn,I maxOff]] w _
 go_enter Tryz.func134,Tryz.ntmps134
 go_wp2_with fail
 refine (within_any 7 _ _ [phase] _ (row_new _ _ [phase] 1 rfl (by decide) _ (by simp))).mono ?_
 rintro e w' ⟨rfl,rfl⟩
 generalize hb1:allIn 7 [phase]=b1
 have HB1:=hJJ hb1
 clear hb1
 cases b1
 ·go_wp2
  go_ret
  exact ⟨ret_bool (by unfold Det.may;simp only [HB1.out,Bool.true_and,Bool.false_and,Bool.and_true,Bool.and_false]),(by repeat' first | exact Below.refl _ _ | (refine Below.alloc ?_ ?_ _) | (simp;done) | (simp;omega))⟩
 go_wp2_with fail
 refine (level_any on _).mono ?_
 rintro e w' ⟨rfl,rfl⟩
 generalize hb2:level on=b2
 have HB2:=hJJ hb2
 clear hb2
 cases b2
 ·go_wp2
  go_ret
  exact ⟨ret_bool (by unfold Det.may;simp only [HB1.out,HB2.out,Bool.true_and,Bool.false_and,Bool.and_true,Bool.and_false]),(by repeat' first | exact Below.refl _ _ | (refine Below.alloc ?_ ?_ _) | (simp;done) | (simp;omega))⟩
 go_wp2_with fail
 refine (level_any off _).mono ?_
 rintro e w' ⟨rfl,rfl⟩
 generalize hb3:level off=b3
 have HB3:=hJJ hb3
 clear hb3
 cases b3
 ·go_wp2
  go_ret
  exact ⟨ret_bool (by unfold Det.may;simp only [HB1.out,HB2.out,HB3.out,Bool.true_and,Bool.false_and,Bool.and_true,Bool.and_false]),(by repeat' first | exact Below.refl _ _ | (refine Below.alloc ?_ ?_ _) | (simp;done) | (simp;omega))⟩
 go_wp2_with fail
 refine (span_any delay _).mono ?_
 rintro e w' ⟨rfl,rfl⟩
 generalize hb4:span delay=b4
 have HB4:=hJJ hb4
 clear hb4
 cases b4
 ·go_wp2
  go_ret
  exact ⟨ret_bool (by unfold Det.may;simp only [HB1.out,HB2.out,HB3.out,HB4.out,Bool.true_and,Bool.false_and,Bool.and_true,Bool.and_false]),(by repeat' first | exact Below.refl _ _ | (refine Below.alloc ?_ ?_ _) | (simp;done) | (simp;omega))⟩
 go_wp2_with fail
 refine (span_any extend _).mono ?_
 rintro e w' ⟨rfl,rfl⟩
 generalize hb5:span extend=b5
 have HB5:=hJJ hb5
 clear hb5
 cases b5
 ·go_wp2
  go_ret
  exact ⟨ret_bool (by unfold Det.may;simp only [HB1.out,HB2.out,HB3.out,HB4.out,HB5.out,Bool.true_and,Bool.false_and,Bool.and_true,Bool.and_false]),(by repeat' first | exact Below.refl _ _ | (refine Below.alloc ?_ ?_ _) | (simp;done) | (simp;omega))⟩
 go_wp2_with fail
 refine (within_any 9999 _ _ [maxOn,maxOff] _ (row_new _ _ [maxOn,maxOff] 2 rfl (by decide) _ (by simp))).mono ?_
 rintro e w' ⟨rfl,rfl⟩
 generalize hb6:allIn 9999 [maxOn,maxOff]=b6
 have HB6:=hJJ hb6
 clear hb6
 go_wp2
 go_ret
 exact ⟨ret_bool (by unfold Det.may;simp only [HB1.out,HB2.out,HB3.out,HB4.out,HB5.out,HB6.out,Bool.true_and,Bool.false_and,Bool.and_true,Bool.and_false]),(by repeat' first | exact Below.refl _ _ | (refine Below.alloc ?_ ?_ _) | (simp;done) | (simp;omega))⟩
theorem rdetector_any (d:Det) (w:World) :
  Calls Tryz.prog 91 #[.agg (Det.cells d).toArray] w fun e w'=>e=.returned (.bool (Det.may d))∧Below w.heap.size w w':=by
 obtain ⟨phase,on,off,delay,extend,maxOn,maxOff⟩:=d
 show Calls Tryz.prog 91 #[.agg #[I phase,F on,F off,F delay,F extend,I maxOn,I maxOff]] w _
 go_enter Tryz.func91,Tryz.ntmps91
 go_wp2_with fail
 refine (upto_any 7 _ _ [phase] _ (row_new _ _ [phase] 1 rfl (by decide) _ (by simp))).mono ?_
 rintro e w' ⟨rfl,rfl⟩
 generalize hb1:allIn 7 [phase]=b1
 have HB1:=hJJ hb1
 clear hb1
 cases b1
 ·go_wp2
  go_ret
  exact ⟨ret_bool (by unfold Det.may;simp only [HB1.out,Bool.true_and,Bool.false_and,Bool.and_true,Bool.and_false]),(by repeat' first | exact Below.refl _ _ | (refine Below.alloc ?_ ?_ _) | (simp;done) | (simp;omega))⟩
 go_wp2_with fail
 refine (rlevel_any on _).mono ?_
 rintro e w' ⟨rfl,rfl⟩
 generalize hb2:level on=b2
 have HB2:=hJJ hb2
 clear hb2
 cases b2
 ·go_wp2
  go_ret
  exact ⟨ret_bool (by unfold Det.may;simp only [HB1.out,HB2.out,Bool.true_and,Bool.false_and,Bool.and_true,Bool.and_false]),(by repeat' first | exact Below.refl _ _ | (refine Below.alloc ?_ ?_ _) | (simp;done) | (simp;omega))⟩
 go_wp2_with fail
 refine (rlevel_any off _).mono ?_
 rintro e w' ⟨rfl,rfl⟩
 generalize hb3:level off=b3
 have HB3:=hJJ hb3
 clear hb3
 cases b3
 ·go_wp2
  go_ret
  exact ⟨ret_bool (by unfold Det.may;simp only [HB1.out,HB2.out,HB3.out,Bool.true_and,Bool.false_and,Bool.and_true,Bool.and_false]),(by repeat' first | exact Below.refl _ _ | (refine Below.alloc ?_ ?_ _) | (simp;done) | (simp;omega))⟩
 go_wp2_with fail
 refine (rspan_any delay _).mono ?_
 rintro e w' ⟨rfl,rfl⟩
 generalize hb4:span delay=b4
 have HB4:=hJJ hb4
 clear hb4
 cases b4
 ·go_wp2
  go_ret
  exact ⟨ret_bool (by unfold Det.may;simp only [HB1.out,HB2.out,HB3.out,HB4.out,Bool.true_and,Bool.false_and,Bool.and_true,Bool.and_false]),(by repeat' first | exact Below.refl _ _ | (refine Below.alloc ?_ ?_ _) | (simp;done) | (simp;omega))⟩
 go_wp2_with fail
 refine (rspan_any extend _).mono ?_
 rintro e w' ⟨rfl,rfl⟩
 generalize hb5:span extend=b5
 have HB5:=hJJ hb5
 clear hb5
 cases b5
 ·go_wp2
  go_ret
  exact ⟨ret_bool (by unfold Det.may;simp only [HB1.out,HB2.out,HB3.out,HB4.out,HB5.out,Bool.true_and,Bool.false_and,Bool.and_true,Bool.and_false]),(by repeat' first | exact Below.refl _ _ | (refine Below.alloc ?_ ?_ _) | (simp;done) | (simp;omega))⟩
 go_wp2_with fail
 refine (times_any _ _ [maxOn,maxOff] _ (row_new _ _ [maxOn,maxOff] 2 rfl (by decide) _ (by simp))).mono ?_
 rintro e w' ⟨rfl,rfl⟩
 generalize hb6:allIn 9999 [maxOn,maxOff]=b6
 have HB6:=hJJ hb6
 clear hb6
 go_wp2
 go_ret
 exact ⟨ret_bool (by unfold Det.may;simp only [HB1.out,HB2.out,HB3.out,HB4.out,HB5.out,HB6.out,Bool.true_and,Bool.false_and,Bool.and_true,Bool.and_false]),(by repeat' first | exact Below.refl _ _ | (refine Below.alloc ?_ ?_ _) | (simp;done) | (simp;omega))⟩
theorem mayRail_any (r:Rl) (w:World) :
  Calls Tryz.prog 136 #[.agg (Rl.cells r).toArray] w fun e w'=>e=.returned (.bool (Rl.may r))∧Below w.heap.size w w':=by
 obtain ⟨bars,clear,dwell,exit,delay,green,foot,hold,stay,most,limit⟩:=r
 show Calls Tryz.prog 136 #[.agg #[I bars,I clear,I dwell,I exit,I delay,I green,I foot,I hold,I stay,I most,I limit]] w _
 go_enter Tryz.func136,Tryz.ntmps136
 go_wp2_with fail
 refine (within_any 255 _ _ [bars,clear,dwell,exit] _ (row_new _ _ [bars,clear,dwell,exit] 4 rfl (by decide) _ (by simp))).mono ?_
 rintro e w' ⟨rfl,rfl⟩
 generalize hb1:allIn 255 [bars,clear,dwell,exit]=b1
 have HB1:=hJJ hb1
 clear hb1
 cases b1
 ·go_wp2
  go_ret
  exact ⟨ret_bool (by unfold Rl.may;simp only [HB1.out,Bool.true_and,Bool.false_and,Bool.and_true,Bool.and_false]),(by repeat' first | exact Below.refl _ _ | (refine Below.alloc ?_ ?_ _) | (simp;done) | (simp;omega))⟩
 go_wp2_with fail
 refine (within_any 9999 _ _ [delay,green,foot,hold,stay,most] _ (row_new _ _ [delay,green,foot,hold,stay,most] 6 rfl (by decide) _ (by simp))).mono ?_
 rintro e w' ⟨rfl,rfl⟩
 generalize hb2:allIn 9999 [delay,green,foot,hold,stay,most]=b2
 have HB2:=hJJ hb2
 clear hb2
 cases b2
 ·go_wp2
  go_ret
  exact ⟨ret_bool (by unfold Rl.may;simp only [HB1.out,HB2.out,Bool.true_and,Bool.false_and,Bool.and_true,Bool.and_false]),(by repeat' first | exact Below.refl _ _ | (refine Below.alloc ?_ ?_ _) | (simp;done) | (simp;omega))⟩
 go_wp2_with fail
 refine (within_any 2147483647 _ _ [limit] _ (row_new _ _ [limit] 1 rfl (by decide) _ (by simp))).mono ?_
 rintro e w' ⟨rfl,rfl⟩
 generalize hb3:allIn 2147483647 [limit]=b3
 have HB3:=hJJ hb3
 clear hb3
 go_wp2
 go_ret
 exact ⟨ret_bool (by unfold Rl.may;simp only [HB1.out,HB2.out,HB3.out,Bool.true_and,Bool.false_and,Bool.and_true,Bool.and_false]),(by repeat' first | exact Below.refl _ _ | (refine Below.alloc ?_ ?_ _) | (simp;done) | (simp;omega))⟩
theorem rrail_any (r:Rl) (w:World) :
  Calls Tryz.prog 92 #[.agg (Rl.cells r).toArray] w fun e w'=>e=.returned (.bool (Rl.may r))∧Below w.heap.size w w':=by
 obtain ⟨bars,clear,dwell,exit,delay,green,foot,hold,stay,most,limit⟩:=r
 show Calls Tryz.prog 92 #[.agg #[I bars,I clear,I dwell,I exit,I delay,I green,I foot,I hold,I stay,I most,I limit]] w _
 go_enter Tryz.func92,Tryz.ntmps92
 go_wp2_with fail
 refine (upto_any 255 _ _ [bars,clear,dwell,exit] _ (row_new _ _ [bars,clear,dwell,exit] 4 rfl (by decide) _ (by simp))).mono ?_
 rintro e w' ⟨rfl,rfl⟩
 generalize hb1:allIn 255 [bars,clear,dwell,exit]=b1
 have HB1:=hJJ hb1
 clear hb1
 cases b1
 ·go_wp2
  go_ret
  exact ⟨ret_bool (by unfold Rl.may;simp only [HB1.out,Bool.true_and,Bool.false_and,Bool.and_true,Bool.and_false]),(by repeat' first | exact Below.refl _ _ | (refine Below.alloc ?_ ?_ _) | (simp;done) | (simp;omega))⟩
 go_wp2_with fail
 refine (times_any _ _ [delay,green,foot,hold,stay,most] _ (row_new _ _ [delay,green,foot,hold,stay,most] 6 rfl (by decide) _ (by simp))).mono ?_
 rintro e w' ⟨rfl,rfl⟩
 generalize hb2:allIn 9999 [delay,green,foot,hold,stay,most]=b2
 have HB2:=hJJ hb2
 clear hb2
 cases b2
 ·go_wp2
  go_ret
  exact ⟨ret_bool (by unfold Rl.may;simp only [HB1.out,HB2.out,Bool.true_and,Bool.false_and,Bool.and_true,Bool.and_false]),(by repeat' first | exact Below.refl _ _ | (refine Below.alloc ?_ ?_ _) | (simp;done) | (simp;omega))⟩
 go_wp2_with fail
 refine (upto_any 2147483647 _ _ [limit] _ (row_new _ _ [limit] 1 rfl (by decide) _ (by simp))).mono ?_
 rintro e w' ⟨rfl,rfl⟩
 generalize hb3:allIn 2147483647 [limit]=b3
 have HB3:=hJJ hb3
 clear hb3
 go_wp2
 go_ret
 exact ⟨ret_bool (by unfold Rl.may;simp only [HB1.out,HB2.out,HB3.out,Bool.true_and,Bool.false_and,Bool.and_true,Bool.and_false]),(by repeat' first | exact Below.refl _ _ | (refine Below.alloc ?_ ?_ _) | (simp;done) | (simp;omega))⟩
theorem mayBus_any (b:Bs) (w:World) :
  Calls Tryz.prog 138 #[.agg (Bs.cells b).toArray] w fun e w'=>e=.returned (.bool (Bs.may b))∧Below w.heap.size w w':=by
 obtain ⟨set,lock⟩:=b
 show Calls Tryz.prog 138 #[.agg #[I set,I lock]] w _
 go_enter Tryz.func138,Tryz.ntmps138
 go_wp2_with fail
 refine (within_any 255 _ _ [set] _ (row_new _ _ [set] 1 rfl (by decide) _ (by simp))).mono ?_
 rintro e w' ⟨rfl,rfl⟩
 generalize hb1:allIn 255 [set]=b1
 have HB1:=hJJ hb1
 clear hb1
 cases b1
 ·go_wp2
  go_ret
  exact ⟨ret_bool (by unfold Bs.may;simp only [HB1.out,Bool.true_and,Bool.false_and,Bool.and_true,Bool.and_false]),(by repeat' first | exact Below.refl _ _ | (refine Below.alloc ?_ ?_ _) | (simp;done) | (simp;omega))⟩
 go_wp2_with fail
 refine (within_any 9999 _ _ [lock] _ (row_new _ _ [lock] 1 rfl (by decide) _ (by simp))).mono ?_
 rintro e w' ⟨rfl,rfl⟩
 generalize hb2:allIn 9999 [lock]=b2
 have HB2:=hJJ hb2
 clear hb2
 go_wp2
 go_ret
 exact ⟨ret_bool (by unfold Bs.may;simp only [HB1.out,HB2.out,Bool.true_and,Bool.false_and,Bool.and_true,Bool.and_false]),(by repeat' first | exact Below.refl _ _ | (refine Below.alloc ?_ ?_ _) | (simp;done) | (simp;omega))⟩
theorem mayRow_any (a:Option Addr) (cap:Nat) (l:List Int) (w:World) (h:IntRow w ⟨a,cap⟩ l) :
  Calls Tryz.prog 144 #[.slice a l.length cap] w fun e w'=>e=.returned (.bool (rowMay l))∧w=w':=by
 have h1:=h.len
 unfold maxLen at h1
 have Hr:=hJJ h
 clear h
 by_cases h8:l.length≤8
 ·go_enter Tryz.func144,Tryz.ntmps144
  go_wp2_with (go_at_call 132;refine (within_any _ _ _ _ _ Hr.out).mono ?_;rintro e w' ⟨rfl,rfl⟩)
  go_ret
  exact ⟨ret_bool (by unfold rowMay;rw [decide_eq_true h8,Bool.true_and]),rfl⟩
 ·go_enter Tryz.func144,Tryz.ntmps144
  go_wp2
  go_ret
  exact ⟨ret_bool (by unfold rowMay;rw [decide_eq_false h8,Bool.false_and]),rfl⟩
theorem mayGroup_any (g:Gr) (w:World) (h:g.ok w) :
  Calls Tryz.prog 131 #[.agg g.cells.toArray] w fun e w'=>e=.returned (.bool (groupMay g.data))∧Below w.heap.size w w':=by
 obtain ⟨l0,l1,⟨a0,cap0⟩,⟨a1,cap1⟩⟩:=g
 have H0:=hJJ h.1
 have H1:=hJJ h.2
 clear h
 show Calls Tryz.prog 131 #[.agg #[.slice a0 l0.length cap0,.slice a1 l1.length cap1]] w _
 go_enter Tryz.func131,Tryz.ntmps131
 go_wp2_with fail
 refine (mayRow_any a0 cap0 l0 _ (H0.out.below ((Below.refl _ _).alloc (Nat.le_refl _) _))).mono ?_
 rintro e w' ⟨rfl,rfl⟩
 generalize hb1:rowMay l0=b1
 have HB1:=hJJ hb1
 clear hb1
 cases b1
 ·go_wp2
  go_ret
  exact ⟨ret_bool (by unfold groupMay;simp only [Gr.data,HB1.out,Bool.true_and,Bool.false_and,Bool.and_true,Bool.and_false]),(by repeat' first | exact Below.refl _ _ | (refine Below.alloc ?_ ?_ _) | (simp;done) | (simp;omega))⟩
 go_wp2_with fail
 refine (mayRow_any a1 cap1 l1 _ (H1.out.below ((Below.refl _ _).alloc (Nat.le_refl _) _))).mono ?_
 rintro e w' ⟨rfl,rfl⟩
 generalize hb2:rowMay l1=b2
 have HB2:=hJJ hb2
 clear hb2
 go_wp2
 go_ret
 exact ⟨ret_bool (by unfold groupMay;simp only [Gr.data,HB1.out,HB2.out,Bool.true_and,Bool.false_and,Bool.and_true,Bool.and_false]),(by repeat' first | exact Below.refl _ _ | (refine Below.alloc ?_ ?_ _) | (simp;done) | (simp;omega))⟩
end May
namespace May
open Zip
open Go.ChangeShapes Go.WideShapes Go.ChangeAt Go.RowKit
open Tab
theorem chain {a b c:World} (h:Below a.heap.size a b) (k:Below b.heap.size b c):Below a.heap.size a c:=h.trans (k.mono h.size)
theorem infoP:(Tryz.prog.info? 24).map (·.size)=some 13:=by kernel_rfl
theorem infoG:(Tryz.prog.info? 41).map (·.size)=some 2:=by kernel_rfl
theorem infoD:(Tryz.prog.info? 45).map (·.size)=some 7:=by kernel_rfl
theorem infoR:(Tryz.prog.info? 47).map (·.size)=some 11:=by kernel_rfl
theorem infoB:(Tryz.prog.info? 49).map (·.size)=some 2:=by kernel_rfl
theorem mayAllP_any (m:Int) (a:Option Addr) (cap:Nat) (l:List Ph) (w:World) (h:RowOf 13 Ph.cells w ⟨a,cap⟩ l) :
  Calls Tryz.prog 128 #[.slice a l.length cap,.int .i64 m,.func (.func 129) #[] #[]] w fun e w'=>e=.returned (.bool (decide ((l.length:Int)≤m) && l.all Ph.may))∧Below w.heap.size w w':=by
 have h1:=h.len
 unfold maxLen at h1
 have Hr:=hJJ h
 clear h
 by_cases hm:(l.length:Int)≤m
 ·have hm':decide (m < (l.length:Int))=false:=decide_eq_false (by omega)
  have Hm:=hJJ hm
  go_enter Tryz.func128,Tryz.ntmps128
  go_wp2
  go_loopw [15] (fun i wr=>∃ k:Nat,k≤l.length∧i=.int .i64 k∧(l.take k).all Ph.may=true∧Below w.heap.size w wr) (fun i _=>l.length - (intOf i).toNat)
  case atStart=>exact ⟨0,Nat.zero_le _,rfl,rfl,Below.refl _ _⟩
  case round =>
   obtain ⟨k,hk,rfl,hall,hbel⟩:=hrel
   have Hall:=hJJ hall
   have Hb:=hJJ hbel
   clear hall hbel
   by_cases hlt:k < l.length
   ·have hv:=List.getElem?_eq_getElem hlt
    generalize l[k]=v at hv
    obtain ⟨x,hx,hcell⟩:=(Hr.out.below Hb.out).at hv
    obtain rfl:a=some x:=hx
    have HV:=hJJ hv
    have HC:=hJJ hcell
    clear hv hcell
    go_wp2_with (first | (refine Row.wpList_load_lies rfl 24 _ rfl (x.add (k*13)) rfl v.cells _ HC.out Tryz.underlying24 rfl infoP ?_) | (refine Row.wpList_store_new rfl 24 _ _ rfl _ _ v.cells.toArray rfl rfl rfl infoP rfl v.one ?_) | (refine wpList_load_row rfl 24 _ rfl _ rfl _ _ _ _ (heap_alloc_new _ _) Tryz.underlying24 rfl infoP ?_))
    refine (mayPhase_any v _).mono ?_
    rintro e w2 ⟨rfl,hb2⟩
    have B2:=hJJ (chain Hb.out (chain ((Below.refl _ _).alloc (Nat.le_refl _) _) hb2))
    clear hb2
    generalize hb:Ph.may v=b
    have HB:=hJJ hb
    clear hb
    cases b
    ·go_wp2
     go_ret
     exact ⟨ret_bool (by rw [all_break (f:=Ph.may) HV.out HB.out,Bool.and_false]),B2.out⟩
    ·go_wp2
     go_roundw
     case rel=>exact ⟨k+1,by omega,by go_num,all_step (f:=Ph.may) HV.out Hall.out HB.out,B2.out⟩
     case measure=>simp [intOf];omega
   ·go_wp2
    go_ret
    exact ⟨ret_bool (by rw [all_end Hall.out hlt,decide_eq_true (by have:=Hm.out;omega)];rfl),Hb.out⟩
 ·have Hm:=hJJ hm
  go_enter Tryz.func128,Tryz.ntmps128
  go_wp2
  go_ret
  exact ⟨ret_bool (by rw [decide_eq_false (by have:=Hm.out;omega)];rfl),Below.refl _ _⟩
theorem mayAllG_any (m:Int) (a:Option Addr) (cap:Nat) (l:List Gr) (w:World) (h:RowOf 2 Gr.cells w ⟨a,cap⟩ l) (h2:∀ v ∈ l,v.ok w) :
  Calls Tryz.prog 130 #[.slice a l.length cap,.int .i64 m,.func (.func 131) #[] #[]] w fun e w'=>e=.returned (.bool (decide ((l.length:Int)≤m) && l.all (fun v=>groupMay v.data)))∧Below w.heap.size w w':=by
 have h1:=h.len
 unfold maxLen at h1
 have Hr:=hJJ h
 clear h
 have H2:=hJJ h2
 clear h2
 by_cases hm:(l.length:Int)≤m
 ·have hm':decide (m < (l.length:Int))=false:=decide_eq_false (by omega)
  have Hm:=hJJ hm
  go_enter Tryz.func130,Tryz.ntmps130
  go_wp2
  go_loopw [15] (fun i wr=>∃ k:Nat,k≤l.length∧i=.int .i64 k∧(l.take k).all (fun v=>groupMay v.data)=true∧Below w.heap.size w wr) (fun i _=>l.length - (intOf i).toNat)
  case atStart=>exact ⟨0,Nat.zero_le _,rfl,rfl,Below.refl _ _⟩
  case round =>
   obtain ⟨k,hk,rfl,hall,hbel⟩:=hrel
   have Hall:=hJJ hall
   have Hb:=hJJ hbel
   clear hall hbel
   by_cases hlt:k < l.length
   ·have hv:=List.getElem?_eq_getElem hlt
    generalize l[k]=v at hv
    obtain ⟨x,hx,hcell⟩:=(Hr.out.below Hb.out).at hv
    obtain rfl:a=some x:=hx
    have HV:=hJJ hv
    have HC:=hJJ hcell
    clear hv hcell
    go_wp2_with (first | (refine Row.wpList_load_lies rfl 41 _ rfl (x.add (k*2)) rfl v.cells _ HC.out Tryz.underlying41 rfl infoG ?_) | (refine Row.wpList_store_new rfl 41 _ _ rfl _ _ v.cells.toArray rfl rfl rfl infoG rfl v.one ?_) | (refine wpList_load_row rfl 41 _ rfl _ rfl _ _ _ _ (heap_alloc_new _ _) Tryz.underlying41 rfl infoG ?_))
    refine (mayGroup_any v _ (((H2.out _ (List.mem_of_getElem? HV.out)).below Hb.out).below ((Below.refl _ _).alloc (Nat.le_refl _) _))).mono ?_
    rintro e w2 ⟨rfl,hb2⟩
    have B2:=hJJ (chain Hb.out (chain ((Below.refl _ _).alloc (Nat.le_refl _) _) hb2))
    clear hb2
    generalize hb:groupMay v.data=b
    have HB:=hJJ hb
    clear hb
    cases b
    ·go_wp2
     go_ret
     exact ⟨ret_bool (by rw [all_break (f:=(fun v=>groupMay v.data)) HV.out HB.out,Bool.and_false]),B2.out⟩
    ·go_wp2
     go_roundw
     case rel=>exact ⟨k+1,by omega,by go_num,all_step (f:=(fun v=>groupMay v.data)) HV.out Hall.out HB.out,B2.out⟩
     case measure=>simp [intOf];omega
   ·go_wp2
    go_ret
    exact ⟨ret_bool (by rw [all_end Hall.out hlt,decide_eq_true (by have:=Hm.out;omega)];rfl),Hb.out⟩
 ·have Hm:=hJJ hm
  go_enter Tryz.func130,Tryz.ntmps130
  go_wp2
  go_ret
  exact ⟨ret_bool (by rw [decide_eq_false (by have:=Hm.out;omega)];rfl),Below.refl _ _⟩
theorem mayAllD_any (m:Int) (a:Option Addr) (cap:Nat) (l:List Det) (w:World) (h:RowOf 7 Det.cells w ⟨a,cap⟩ l) :
  Calls Tryz.prog 133 #[.slice a l.length cap,.int .i64 m,.func (.func 134) #[] #[]] w fun e w'=>e=.returned (.bool (decide ((l.length:Int)≤m) && l.all Det.may))∧Below w.heap.size w w':=by
 have h1:=h.len
 unfold maxLen at h1
 have Hr:=hJJ h
 clear h
 by_cases hm:(l.length:Int)≤m
 ·have hm':decide (m < (l.length:Int))=false:=decide_eq_false (by omega)
  have Hm:=hJJ hm
  go_enter Tryz.func133,Tryz.ntmps133
  go_wp2
  go_loopw [15] (fun i wr=>∃ k:Nat,k≤l.length∧i=.int .i64 k∧(l.take k).all Det.may=true∧Below w.heap.size w wr) (fun i _=>l.length - (intOf i).toNat)
  case atStart=>exact ⟨0,Nat.zero_le _,rfl,rfl,Below.refl _ _⟩
  case round =>
   obtain ⟨k,hk,rfl,hall,hbel⟩:=hrel
   have Hall:=hJJ hall
   have Hb:=hJJ hbel
   clear hall hbel
   by_cases hlt:k < l.length
   ·have hv:=List.getElem?_eq_getElem hlt
    generalize l[k]=v at hv
    obtain ⟨x,hx,hcell⟩:=(Hr.out.below Hb.out).at hv
    obtain rfl:a=some x:=hx
    have HV:=hJJ hv
    have HC:=hJJ hcell
    clear hv hcell
    go_wp2_with (first | (refine Row.wpList_load_lies rfl 45 _ rfl (x.add (k*7)) rfl v.cells _ HC.out Tryz.underlying45 rfl infoD ?_) | (refine Row.wpList_store_new rfl 45 _ _ rfl _ _ v.cells.toArray rfl rfl rfl infoD rfl v.one ?_) | (refine wpList_load_row rfl 45 _ rfl _ rfl _ _ _ _ (heap_alloc_new _ _) Tryz.underlying45 rfl infoD ?_))
    refine (mayDetector_any v _).mono ?_
    rintro e w2 ⟨rfl,hb2⟩
    have B2:=hJJ (chain Hb.out (chain ((Below.refl _ _).alloc (Nat.le_refl _) _) hb2))
    clear hb2
    generalize hb:Det.may v=b
    have HB:=hJJ hb
    clear hb
    cases b
    ·go_wp2
     go_ret
     exact ⟨ret_bool (by rw [all_break (f:=Det.may) HV.out HB.out,Bool.and_false]),B2.out⟩
    ·go_wp2
     go_roundw
     case rel=>exact ⟨k+1,by omega,by go_num,all_step (f:=Det.may) HV.out Hall.out HB.out,B2.out⟩
     case measure=>simp [intOf];omega
   ·go_wp2
    go_ret
    exact ⟨ret_bool (by rw [all_end Hall.out hlt,decide_eq_true (by have:=Hm.out;omega)];rfl),Hb.out⟩
 ·have Hm:=hJJ hm
  go_enter Tryz.func133,Tryz.ntmps133
  go_wp2
  go_ret
  exact ⟨ret_bool (by rw [decide_eq_false (by have:=Hm.out;omega)];rfl),Below.refl _ _⟩
theorem mayAllR_any (m:Int) (a:Option Addr) (cap:Nat) (l:List Rl) (w:World) (h:RowOf 11 Rl.cells w ⟨a,cap⟩ l) :
  Calls Tryz.prog 135 #[.slice a l.length cap,.int .i64 m,.func (.func 136) #[] #[]] w fun e w'=>e=.returned (.bool (decide ((l.length:Int)≤m) && l.all Rl.may))∧Below w.heap.size w w':=by
 have h1:=h.len
 unfold maxLen at h1
 have Hr:=hJJ h
 clear h
 by_cases hm:(l.length:Int)≤m
 ·have hm':decide (m < (l.length:Int))=false:=decide_eq_false (by omega)
  have Hm:=hJJ hm
  go_enter Tryz.func135,Tryz.ntmps135
  go_wp2
  go_loopw [15] (fun i wr=>∃ k:Nat,k≤l.length∧i=.int .i64 k∧(l.take k).all Rl.may=true∧Below w.heap.size w wr) (fun i _=>l.length - (intOf i).toNat)
  case atStart=>exact ⟨0,Nat.zero_le _,rfl,rfl,Below.refl _ _⟩
  case round =>
   obtain ⟨k,hk,rfl,hall,hbel⟩:=hrel
   have Hall:=hJJ hall
   have Hb:=hJJ hbel
   clear hall hbel
   by_cases hlt:k < l.length
   ·have hv:=List.getElem?_eq_getElem hlt
    generalize l[k]=v at hv
    obtain ⟨x,hx,hcell⟩:=(Hr.out.below Hb.out).at hv
    obtain rfl:a=some x:=hx
    have HV:=hJJ hv
    have HC:=hJJ hcell
    clear hv hcell
    go_wp2_with (first | (refine Row.wpList_load_lies rfl 47 _ rfl (x.add (k*11)) rfl v.cells _ HC.out Tryz.underlying47 rfl infoR ?_) | (refine Row.wpList_store_new rfl 47 _ _ rfl _ _ v.cells.toArray rfl rfl rfl infoR rfl v.one ?_) | (refine wpList_load_row rfl 47 _ rfl _ rfl _ _ _ _ (heap_alloc_new _ _) Tryz.underlying47 rfl infoR ?_))
    refine (mayRail_any v _).mono ?_
    rintro e w2 ⟨rfl,hb2⟩
    have B2:=hJJ (chain Hb.out (chain ((Below.refl _ _).alloc (Nat.le_refl _) _) hb2))
    clear hb2
    generalize hb:Rl.may v=b
    have HB:=hJJ hb
    clear hb
    cases b
    ·go_wp2
     go_ret
     exact ⟨ret_bool (by rw [all_break (f:=Rl.may) HV.out HB.out,Bool.and_false]),B2.out⟩
    ·go_wp2
     go_roundw
     case rel=>exact ⟨k+1,by omega,by go_num,all_step (f:=Rl.may) HV.out Hall.out HB.out,B2.out⟩
     case measure=>simp [intOf];omega
   ·go_wp2
    go_ret
    exact ⟨ret_bool (by rw [all_end Hall.out hlt,decide_eq_true (by have:=Hm.out;omega)];rfl),Hb.out⟩
 ·have Hm:=hJJ hm
  go_enter Tryz.func135,Tryz.ntmps135
  go_wp2
  go_ret
  exact ⟨ret_bool (by rw [decide_eq_false (by have:=Hm.out;omega)];rfl),Below.refl _ _⟩
theorem mayAllB_any (m:Int) (a:Option Addr) (cap:Nat) (l:List Bs) (w:World) (h:RowOf 2 Bs.cells w ⟨a,cap⟩ l) :
  Calls Tryz.prog 137 #[.slice a l.length cap,.int .i64 m,.func (.func 138) #[] #[]] w fun e w'=>e=.returned (.bool (decide ((l.length:Int)≤m) && l.all Bs.may))∧Below w.heap.size w w':=by
 have h1:=h.len
 unfold maxLen at h1
 have Hr:=hJJ h
 clear h
 by_cases hm:(l.length:Int)≤m
 ·have hm':decide (m < (l.length:Int))=false:=decide_eq_false (by omega)
  have Hm:=hJJ hm
  go_enter Tryz.func137,Tryz.ntmps137
  go_wp2
  go_loopw [15] (fun i wr=>∃ k:Nat,k≤l.length∧i=.int .i64 k∧(l.take k).all Bs.may=true∧Below w.heap.size w wr) (fun i _=>l.length - (intOf i).toNat)
  case atStart=>exact ⟨0,Nat.zero_le _,rfl,rfl,Below.refl _ _⟩
  case round =>
   obtain ⟨k,hk,rfl,hall,hbel⟩:=hrel
   have Hall:=hJJ hall
   have Hb:=hJJ hbel
   clear hall hbel
   by_cases hlt:k < l.length
   ·have hv:=List.getElem?_eq_getElem hlt
    generalize l[k]=v at hv
    obtain ⟨x,hx,hcell⟩:=(Hr.out.below Hb.out).at hv
    obtain rfl:a=some x:=hx
    have HV:=hJJ hv
    have HC:=hJJ hcell
    clear hv hcell
    go_wp2_with (first | (refine Row.wpList_load_lies rfl 49 _ rfl (x.add (k*2)) rfl v.cells _ HC.out Tryz.underlying49 rfl infoB ?_) | (refine Row.wpList_store_new rfl 49 _ _ rfl _ _ v.cells.toArray rfl rfl rfl infoB rfl v.one ?_) | (refine wpList_load_row rfl 49 _ rfl _ rfl _ _ _ _ (heap_alloc_new _ _) Tryz.underlying49 rfl infoB ?_))
    refine (mayBus_any v _).mono ?_
    rintro e w2 ⟨rfl,hb2⟩
    have B2:=hJJ (chain Hb.out (chain ((Below.refl _ _).alloc (Nat.le_refl _) _) hb2))
    clear hb2
    generalize hb:Bs.may v=b
    have HB:=hJJ hb
    clear hb
    cases b
    ·go_wp2
     go_ret
     exact ⟨ret_bool (by rw [all_break (f:=Bs.may) HV.out HB.out,Bool.and_false]),B2.out⟩
    ·go_wp2
     go_roundw
     case rel=>exact ⟨k+1,by omega,by go_num,all_step (f:=Bs.may) HV.out Hall.out HB.out,B2.out⟩
     case measure=>simp [intOf];omega
   ·go_wp2
    go_ret
    exact ⟨ret_bool (by rw [all_end Hall.out hlt,decide_eq_true (by have:=Hm.out;omega)];rfl),Hb.out⟩
 ·have Hm:=hJJ hm
  go_enter Tryz.func137,Tryz.ntmps137
  go_wp2
  go_ret
  exact ⟨ret_bool (by rw [decide_eq_false (by have:=Hm.out;omega)];rfl),Below.refl _ _⟩
end May
namespace GenG
open Go.ChangeShapes Go.WideShapes Go.ChangeAt Go.RowKit
open Tab Gath
open RefS (num from_any num_range ret_int)
def seg (p m:Nat):List Int:=(List.range m).map fun i=>((p+i:Nat):Int)
theorem seg_len (p m:Nat):(seg p m).length=m:=by simp [seg]
theorem seg_succ (p m:Nat):seg p (m+1)=seg p m++[((p+m:Nat):Int)]:=by unfold seg;rw [List.range_succ,List.map_append];rfl
def lim (G g:Nat):Nat:=9+g - G
def want0 (L:List Int) (g:Nat):Nat:=(num L (1+2*g) 3).toNat
def want1 (L:List Int) (g:Nat) (m:Nat):Nat:=if num L (2+2*g) 3=0∧m=0 then 1 else (num L (2+2*g) 3).toNat
def n0 (L:List Int) (G g p:Nat):Nat:=min (want0 L g) (lim G g - p)
def n1 (L:List Int) (G g p:Nat):Nat:=min (want1 L g (n0 L G g p)) (lim G g - (p+n0 L G g p))
def grpD (L:List Int) (G g p:Nat):List Int × List Int:=(seg p (n0 L G g p),seg (p+n0 L G g p) (n1 L G g p))
def upTo (L:List Int) (G:Nat):Nat→List (List Int × List Int) × Nat
 | 0=>([],0)
 | g+1=>((upTo L G g).1++[grpD L G g (upTo L G g).2],(upTo L G g).2+n0 L G g (upTo L G g).2+n1 L G g (upTo L G g).2)
def genG (L:List Int):Nat:=(1+num L 0 3).toNat
def genGs (L:List Int):List (List Int × List Int):=(upTo L (genG L) (genG L)).1
def genN (L:List Int):Nat:=(upTo L (genG L) (genG L)).2
theorem genG_range (L:List Int):1≤genG L∧genG L≤3:=by have:=num_range L 0 3 (by omega);unfold genG;omega
theorem want0_le (L:List Int) (g:Nat):want0 L g≤2:=by have:=num_range L (1+2*g) 3 (by omega);unfold want0;omega
theorem want1_le (L:List Int) (g m:Nat):want1 L g m≤2:=by have:=num_range L (2+2*g) 3 (by omega);unfold want1;split <;> omega
theorem up_le (L:List Int) (G:Nat) (hG:G≤3):∀ g,g≤G→(upTo L G g).2≤8
 | 0,_=>Nat.zero_le _
 | g+1,h=>by
  have:=up_le L G hG g (by omega)
  show (upTo L G g).2+n0 L G g (upTo L G g).2+n1 L G g (upTo L G g).2≤8
  unfold n1 n0 lim
  omega
theorem up_len (L:List Int) (G:Nat):∀ g,(upTo L G g).1.length=g
 | 0=>rfl
 | g+1=>by show ((upTo L G g).1++[_]).length=g+1;rw [List.length_append,up_len L G g];rfl
def RowI (w:World) (s:Sl) (l:List Int):Prop:=IntRow w s l∧∀ x,s.a=some x→∃ cs:Array Value,w.heap[x.block]?=some (.cells cs 3 (0,0))
theorem RowI.below {w w':World} {s:Sl} {l:List Int} (h:RowI w s l) (hb:Below w.heap.size w w'):RowI w' s l:=⟨h.1.below hb,fun x hx=>by
 obtain ⟨cs,hc⟩:=h.2 x hx
 exact ⟨cs,(hb.block _ (Array.getElem?_eq_some_iff.1 hc).1).trans hc⟩⟩
theorem add_block (x:Addr) (k:Nat):(x.add k).block=x.block:=by unfold Addr.add;split <;> rfl
theorem RowI.grown {w w':World} {s:Sl} {l:List Int} {row:Option Nat} (h:RowI w s l) (hg:w.grownBy w' row) (hne:∀ x,s.a=some x→some x.block ≠ row):RowI w' s l:=by
 refine ⟨?_,fun x hx=>?_⟩
 ·rcases h.1 with h | ⟨x,h1,h2,h3,h4⟩
  ·exact .inl h
  ·exact .inr ⟨x,h1,h2,h3,fun i v hv j u hu=>hg.cell (h4 i v hv j u hu) (by rw [add_block,add_block];exact hne x h1)⟩
 ·obtain ⟨cs,hc⟩:=h.2 x hx
  exact ⟨cs,(hg.block _ (Array.getElem?_eq_some_iff.1 hc).1 (hne x hx)).trans hc⟩
theorem RowI.ne {w:World} {s:Sl} {l:List Int} {b:Nat} {cs:Array Value} {t:TypeId} (h:RowI w s l) (hb:w.heap[b]?=some (.cells cs t (0,0))) (ht:t ≠ 3):∀ x,s.a=some x→x.block ≠ b:=by
 intro x hx e
 obtain ⟨ds,hc⟩:=h.2 x hx
 rw [e,hb] at hc
 simp at hc
 exact ht hc.2
theorem grown_set (W:World) (b i:Nat) (v:Value):W.grownBy (W.setCell ⟨b,i,none⟩ v) (some b) :=
 ⟨rfl,rfl,rfl,by simp,fun j _ hj=>heap_setCell_other _ _ _ _ (fun e=>hj (by rw [e]))⟩
theorem own_row {B:Nat} {w:World} {v:Value} {l:List Int} (h:Owns (fun n=>[I n]) 1 B w 3 v l):∃ s:Sl,v=s.val l.length∧RowI w s l:=by
 obtain ⟨s,hs,hr⟩:=Owns.row h (enc:=fun n=>[I n]) (fun _=>rfl)
 refine ⟨s,hs,hr,fun x hx=>?_⟩
 rcases h.2 with ⟨e,_⟩ | ⟨g,cap,cur,e,h1,h2,_⟩
 ·rw [hs] at e
  simp [Sl.val,hx] at e
 ·rw [hs] at e
  simp [Sl.val,hx] at e
  obtain ⟨rfl,_⟩:=e
  exact ⟨cur,h2⟩
theorem own_kept {α:Type} {enc:α→List Value} {n B:Nat} {w w':World} {t:TypeId} {v:Value} {l:List α} {row:Option Nat} (h:Owns enc n B w t v l) (hg:w.grownBy w' row) (hne:∀ m,v.ownBlock=some m→row ≠ some m):Owns enc n B w' t v l :=
 World.ownsRow.kept h hg (by
  cases e:v.ownBlock with
  | none=>exact .inl rfl
  | some m=>exact .inr (fun e'=>hne m e e'.symm))
theorem own_lt {α:Type} {enc:α→List Value} {n B:Nat} {w:World} {t:TypeId} {v:Value} {l:List α} (h:Owns enc n B w t v l):∀ m,v.ownBlock=some m→m < w.heap.size:=by
 intro m hm
 rcases h.2 with ⟨rfl,_⟩ | ⟨g,cap,cur,rfl,h1,h2,_⟩
 ·simp [Value.ownBlock] at hm
 ·simp [Value.ownBlock] at hm
  subst hm
  exact (Array.getElem?_eq_some_iff.1 h2).1
theorem own_type {α:Type} {enc:α→List Value} {n B:Nat} {w:World} {t:TypeId} {v:Value} {l:List α} (h:Owns enc n B w t v l):∀ m,v.ownBlock=some m→∃ cs:Array Value,w.heap[m]?=some (.cells cs t (0,0)):=by
 intro m hm
 rcases h.2 with ⟨rfl,_⟩ | ⟨g,cap,cur,rfl,h1,h2,_⟩
 ·simp [Value.ownBlock] at hm
 ·simp [Value.ownBlock] at hm
  subst hm
  exact ⟨cur,h2⟩
theorem own_ne {α:Type} {enc:α→List Value} {n B:Nat} {w:World} {t t':TypeId} {v:Value} {l:List α} {b:Nat} {cs:Array Value} (h:Owns enc n B w t v l) (hb:w.heap[b]?=some (.cells cs t' (0,0))) (ht:t' ≠ t):v.ownBlock ≠ some b:=by
 intro e
 obtain ⟨ds,hd⟩:=own_type h b e
 rw [hb] at hd
 simp at hd
 exact ht hd.2
theorem grown_below {w w':World} (hb:Below w.heap.size w w') (row:Option Nat):w.grownBy w' row:=⟨hb.os,hb.tape,hb.output,hb.size,fun j hj _=>hb.block j hj⟩
theorem grown_trans {w w1 w2:World} {b:Nat} {row:Option Nat} (h:w.grownBy w1 (some b)) (h2:w1.grownBy w2 row) (hr:∀ m,row=some m→m=b∨w.heap.size≤m):w.grownBy w2 (some b):=by
 refine ⟨h2.os.trans h.os,h2.tape.trans h.tape,h2.output.trans h.output,Nat.le_trans h.size h2.size,fun j hj hne=>?_⟩
 rw [h2.block j (Nat.lt_of_lt_of_le hj h.size) (fun e=>by rcases hr j e.symm with e' | e';exact hne (by rw [e']);omega),h.block j hj hne]
structure G0 (Bg:Nat) (w1:World) (a:Option Addr) (c:Nat) (p i:Nat) (W:World):Prop where
 bel:Below Bg w1 W
 box:W.heap[Bg]?=some (.cells #[.slice a i c,.slice none 0 0] 41 (0,0))
 own:Owns (fun n=>[I n]) 1 (Bg+1) W 3 (.slice a i c) (seg p i)
theorem G0.step {Bg:Nat} {w1 W W':World} {a:Option Addr} {c p i:Nat} (h:G0 Bg w1 a c p i W) (hb:Below W.heap.size W W') (hB:Bg≤W.heap.size):G0 Bg w1 a c p i W' :=
 ⟨h.bel.trans (hb.mono hB),(hb.block _ (Array.getElem?_eq_some_iff.1 h.box).1).trans h.box,h.own.below hb⟩
theorem G0.put {Bg:Nat} {w1 W W':World} {a:Option Addr} {c p i:Nat} {v':Value} (h:G0 Bg w1 a c p i W) (hB:Bg+1≤W.heap.size) (hg:W.grownBy W' (Value.slice a i c).ownBlock)
  (ho:W'.ownsRow (Bg+1) 3 1 v' (i+1) ((seg p i).flatMap (fun n=>[I n])++[I ((p+i:Nat):Int)])) :
  (W'.heap[Bg]?=some (.cells #[.slice a i c,.slice none 0 0] 41 (0,0)))∧∃ a' c',v'=.slice a' (i+1) c'∧G0 Bg w1 a' c' p (i+1) (W'.setCell ⟨Bg,0,none⟩ v'):=by
 have hne:some Bg ≠ (Value.slice a i c).ownBlock:=fun e=>by have:=h.own.blk _ e.symm;omega
 have hbx:=(hg.block Bg (by omega) hne).trans h.box
 have hO:Owns (fun n=>[I n]) 1 (Bg+1) W' 3 v' (seg p (i+1)):=by
  rw [seg_succ];refine Owns.snoc ?_;rw [seg_len];exact ho
 obtain ⟨⟨a',c'⟩,hs,hr⟩:=own_row hO
 rw [seg_len] at hs
 refine ⟨hbx,a',c',hs,?_⟩
 have hB':Bg≤W'.heap.size:=Nat.le_trans (by omega) hg.size
 refine ⟨?_,?_,?_⟩
 ·exact (h.bel.grown hg (by omega) (fun k hk=>by have:=h.own.blk k hk;omega)).setCell (p:=⟨Bg,0,none⟩) (Nat.le_refl _) v'
 ·rw [heap_setCell_same _ _ _ _ _ _ hbx,hs];rfl
 ·rw [hs] at hO ⊢
  exact own_kept hO (grown_set _ _ _ _) (fun m hm e=>by have:=hO.blk m hm;cases e;omega)
structure G1 (Bg:Nat) (w1:World) (B1:Nat) (a:Option Addr) (c:Nat) (p m:Nat) (a1:Option Addr) (c1:Nat) (i:Nat) (W:World):Prop where
 bel:Below Bg w1 W
 box:W.heap[Bg]?=some (.cells #[.slice a m c,.slice a1 i c1] 41 (0,0))
 own:Owns (fun n=>[I n]) 1 (Bg+1) W 3 (.slice a m c) (seg p m)
 lt:∀ j,(Value.slice a m c).ownBlock=some j→j < B1
 own1:Owns (fun n=>[I n]) 1 B1 W 3 (.slice a1 i c1) (seg (p+m) i)
 sz:B1≤W.heap.size
theorem G0.next {Bg:Nat} {w1 W:World} {a:Option Addr} {c p m:Nat} (h:G0 Bg w1 a c p m W):G1 Bg w1 W.heap.size a c p m none 0 0 W :=
 ⟨h.bel,h.box,h.own,own_lt h.own,Owns.nil,Nat.le_refl _⟩
theorem G1.step {Bg B1:Nat} {w1 W W':World} {a a1:Option Addr} {c p m c1 i:Nat} (h:G1 Bg w1 B1 a c p m a1 c1 i W) (hb:Below W.heap.size W W') (hB:Bg≤W.heap.size):G1 Bg w1 B1 a c p m a1 c1 i W' :=
 ⟨h.bel.trans (hb.mono hB),(hb.block _ (Array.getElem?_eq_some_iff.1 h.box).1).trans h.box,h.own.below hb,h.lt,h.own1.below hb,Nat.le_trans h.sz hb.size⟩
theorem G1.put {Bg B1:Nat} {w1 W W':World} {a a1:Option Addr} {c p m c1 i:Nat} {v':Value} (h:G1 Bg w1 B1 a c p m a1 c1 i W) (h1:Bg < B1) (hB:B1≤W.heap.size) (hg:W.grownBy W' (Value.slice a1 i c1).ownBlock)
  (ho:W'.ownsRow B1 3 1 v' (i+1) ((seg (p+m) i).flatMap (fun n=>[I n])++[I ((p+m+i:Nat):Int)])) :
  (W'.heap[Bg]?=some (.cells #[.slice a m c,.slice a1 i c1] 41 (0,0)))∧∃ a' c',v'=.slice a' (i+1) c'∧G1 Bg w1 B1 a c p m a' c' (i+1) (W'.setCell ⟨Bg,1,none⟩ v'):=by
 have hne:some Bg ≠ (Value.slice a1 i c1).ownBlock:=fun e=>by have:=h.own1.blk _ e.symm;omega
 have hbx:=(hg.block Bg (by omega) hne).trans h.box
 have hO:Owns (fun n=>[I n]) 1 B1 W' 3 v' (seg (p+m) (i+1)):=by
  rw [seg_succ];refine Owns.snoc ?_;rw [seg_len];exact ho
 have hO0:Owns (fun n=>[I n]) 1 (Bg+1) W' 3 (.slice a m c) (seg p m):=own_kept h.own hg (fun j hj e=>by have:=h.lt j hj;have:=h.own1.blk j e;omega)
 obtain ⟨⟨a',c'⟩,hs,hr⟩:=own_row hO
 rw [seg_len] at hs
 refine ⟨hbx,a',c',hs,?_⟩
 have hB':Bg≤W'.heap.size:=Nat.le_trans (by omega) hg.size
 refine ⟨?_,?_,?_,h.lt,?_,by simp;exact Nat.le_trans h.sz hg.size⟩
 ·exact (h.bel.grown hg (by omega) (fun k hk=>by have:=h.own1.blk k hk;omega)).setCell (p:=⟨Bg,1,none⟩) (Nat.le_refl _) v'
 ·rw [heap_setCell_same _ _ _ _ _ _ hbx,hs];rfl
 ·exact own_kept hO0 (grown_set _ _ _ _) (fun m hm e=>by have:=hO0.blk m hm;cases e;omega)
 ·rw [hs] at hO ⊢
  exact own_kept hO (grown_set _ _ _ _) (fun m hm e=>by have:=hO.blk m hm;cases e;omega)
structure GS (w:World) (tb:Nat) (cs:List Value) (ga:Option Addr) (gc:Nat) (g:Nat) (gs:List Gr) (W:World):Prop where
 gb:w.grownBy W (some tb)
 tbk:W.heap[tb]?=some (.cells (cs.set 104 (.slice ga g gc)).toArray 32 (0,0))
 own:Owns Gr.cells 2 w.heap.size W 41 (.slice ga g gc) gs
 len:gs.length=g
 rows:∀ x ∈ gs,RowI W x.s0 x.r0∧RowI W x.s1 x.r1
theorem GS.step {w W W':World} {tb:Nat} {cs:List Value} {ga:Option Addr} {gc g:Nat} {gs:List Gr} (h:GS w tb cs ga gc g gs W) (hb:Below W.heap.size W W'):GS w tb cs ga gc g gs W' :=
 ⟨grown_trans h.gb (grown_below hb none) (fun m e=>by cases e),(hb.block _ (Array.getElem?_eq_some_iff.1 h.tbk).1).trans h.tbk,h.own.below hb,h.len,fun x hx=>⟨(h.rows x hx).1.below hb,(h.rows x hx).2.below hb⟩⟩
theorem GS.put {w W W':World} {tb:Nat} {cs:List Value} {ga:Option Addr} {gc g:Nat} {gs:List Gr} {v':Value} (x:Gr) (h:GS w tb cs ga gc g gs W) (hx:RowI W x.s0 x.r0∧RowI W x.s1 x.r1) (hg:W.grownBy W' (Value.slice ga g gc).ownBlock) (hc:cs.length=131)
  (ho:W'.ownsRow w.heap.size 41 2 v' (g+1) (gs.flatMap Gr.cells++x.cells)) :
  (W'.heap[tb]?=some (.cells (cs.set 104 (.slice ga g gc)).toArray 32 (0,0)))∧∃ a' c',v'=.slice a' (g+1) c'∧GS w tb cs a' c' (g+1) (gs++[x]) (W'.setCell ⟨tb,104,none⟩ v'):=by
 have hne:some tb ≠ (Value.slice ga g gc).ownBlock:=fun e=>own_ne h.own h.tbk (by decide) e.symm
 have hbx:=(hg.block tb (Array.getElem?_eq_some_iff.1 h.tbk).1 hne).trans h.tbk
 have hO:Owns Gr.cells 2 w.heap.size W' 41 v' (gs++[x]):=Owns.snoc (by rw [h.len];exact ho)
 obtain ⟨⟨a',c'⟩,hs,hr⟩:=Owns.row hO (fun _=>rfl)
 have hs2:v'=.slice a' (g+1) c':=by rw [hs,List.length_append,h.len];rfl
 have hK:∀ s l,RowI W s l→RowI (W'.setCell ⟨tb,104,none⟩ v') s l:=fun s l hr=>by
  have h1:RowI W' s l:=hr.grown hg (fun y hy e=>by
   obtain ⟨ds,hd⟩:=own_type h.own _ e.symm
   exact hr.ne hd (by decide) y hy rfl)
  exact h1.grown (grown_set _ _ _ _) (fun y hy e=>h1.ne hbx (by decide) y hy (by cases e;rfl))
 refine ⟨hbx,a',c',hs2,?_,?_,?_,by rw [List.length_append,h.len];rfl,?_⟩
 ·exact grown_trans (grown_trans h.gb hg (fun m e=>.inr (h.own.blk m e))) (grown_set _ _ _ _) (fun m e=>.inl (by cases e;rfl))
 ·rw [heap_setCell_same _ _ _ _ _ _ hbx,hs2]
  simp
 ·rw [← hs2]
  exact own_kept hO (grown_set _ _ _ _) (fun m hm e=>by cases e;exact own_ne hO hbx (by decide) hm)
 ·intro y hy
  rcases List.mem_append.1 hy with hy | hy
  ·exact ⟨hK _ _ (h.rows y hy).1,hK _ _ (h.rows y hy).2⟩
  ·obtain rfl:y=x:=by simpa using hy
   exact ⟨hK _ _ hx.1,hK _ _ hx.2⟩
theorem from_at (a:Option Addr) (cap:Nat) (L:List Int) (i j n:Int) (hij:i=j) (w:World) (h:IntRow w ⟨a,cap⟩ L) (h0:0≤i) (hn:0 < n) (hn':n≤1000) :
  Calls Tryz.prog 43 #[.slice a L.length cap,.int .i64 i,.int .i64 n] w fun e w'=>e=.returned (.int .i64 (num L j n))∧w=w':=by
 subst hij;exact from_any a cap L i n w h h0 hn hn'
theorem infoGz:(Tryz.prog.info? 41).map (fun i=>(i.zero,i.size))=some (some (.agg #[.slice none 0 0,.slice none 0 0]),2):=by kernel_rfl
theorem infoG2:(Tryz.prog.info? 41).map (·.size)=some 2:=by kernel_rfl
theorem infoG3:(Tryz.prog.info? 41).map (fun i=>(i.zero,i.size,i.bytes))=some (some (.agg #[.slice none 0 0,.slice none 0 0]),2,48):=by kernel_rfl
end GenG
namespace May
open Zip
open Go.ChangeShapes Go.WideShapes Go.ChangeAt Go.RowKit
open Tab
def listMay {α:Type} (m:Int) (f:α→Bool) (l:List α):Bool:=decide ((l.length:Int)≤m) && l.all f
def tabMay (T:Tab):Bool :=
 listMay 8 Ph.may T.phases && (listMay 4 groupMay T.groups && (allIn 255 T.conflict && (listMay 16 Det.may T.dets && (listMay 4 Rl.may T.rails && (listMay 4 Bs.may T.buses &&
  (allIn 9999 [T.extend,T.budget,T.start,T.revert,T.least] && (allIn 2 T.flash && allIn 2147483647 [T.window,T.share])))))))
theorem ints_in {w:World} {g:Nat} {cs:Array Value} {t:TypeId} {fr:Nat × Nat} (hg:w.heap[g]?=some (.cells cs t fr)) (o n:Nat) (l:List Int) (h:(cs.toList.drop o).take n=l.map I) (hn:l.length=n) (hm:n≤maxLen) :
  IntRow w ⟨some ⟨g,o,none⟩,n⟩ l:=by
 subst hn
 refine .inr ⟨_,rfl,Nat.le_refl _,hm,fun i v hv j u hu=>?_⟩
 cases j with
 | zero =>
  obtain rfl:=Option.some.inj hu
  rw [Nat.mul_one,add_two,Nat.add_zero,Addr.add_mid]
  exact range_of hg o _ _ h i _ (by simp [hv])
 | succ j=>cases hu
theorem phases_in {w:World} {g:Nat} {cs:Array Value} {t:TypeId} {fr:Nat × Nat} {T:Tab} {h:Hd} (hg:w.heap[g]?=some (.cells cs t fr)) (C:CellsOk T h cs) (hn:T.phases.length=8) :
  RowOf 13 Ph.cells w ⟨some ⟨g,0,none⟩,8⟩ T.phases:=by
 refine .inr ⟨_,rfl,by rw [hn];exact Nat.le_refl _,(show 8≤maxLen by decide),fun i v hv j u hu=>?_⟩
 rw [add_two,Addr.add_mid,Nat.zero_add,Nat.mul_comm]
 exact range_of hg (13*i) 13 _ (C.phase i v hv) j u hu
structure St (w:World) (N:Nat) (cs:Array Value) (h:Hd) (T:Tab) (W:World):Prop where
 bel:Below w.heap.size w W
 blk:W.heap[N]?=some (.cells cs 32 (0,0))
 tab:IsTab W h T
 le:w.heap.size≤N
theorem St.step {w W W':World} {N:Nat} {cs:Array Value} {h:Hd} {T:Tab} (k:St w N cs h T W) (hb:Below W.heap.size W W'):St w N cs h T W' :=
 ⟨chain k.bel hb,by rw [hb.block N (Array.getElem?_eq_some_iff.1 k.blk).1];exact k.blk,k.tab.below hb,k.le⟩
theorem St.cell {w W:World} {N:Nat} {cs:Array Value} {h:Hd} {T:Tab} (k:St w N cs h T W) {o:Nat} {v:Value} (hv:cs[o]?=some v):W.cell? ⟨N,o,none⟩=some v:=by
 rw [cell_of_row _ _ _ _ _ _ k.blk];exact hv
theorem St.box {w:World} {cs:Array Value} {h:Hd} {T:Tab} (k:IsTab w h T):St w w.heap.size cs h T (w.alloc (.cells cs 32)) :=
 ⟨(Below.refl _ _).alloc (Nat.le_refl _) _,heap_alloc_new _ _,k.below ((Below.refl _ _).alloc (Nat.le_refl _) _),Nat.le_refl _⟩
theorem within_len (m:Int) (a:Option Addr) (cap:Nat) (l:List Int) (n:Nat) (hn:l.length=n) (w:World) (h:IntRow w ⟨a,cap⟩ l) :
  Calls Tryz.prog 132 #[.int .i64 m,.slice a n cap] w fun e w'=>e=.returned (.bool (allIn m l))∧w=w':=by
 subst hn;exact within_any m a cap l w h
theorem upto_len (m:Int) (a:Option Addr) (cap:Nat) (l:List Int) (n:Nat) (hn:l.length=n) (w:World) (h:IntRow w ⟨a,cap⟩ l) :
  Calls Tryz.prog 89 #[.slice a n cap,.int .i64 m] w fun e w'=>e=.returned (.bool (allIn m l))∧w=w':=by
 subst hn;exact upto_any m a cap l w h
theorem may_any (T:Tab) (h:Hd) (w:World) (k:IsTab w h T) :
  Calls Tryz.prog 108 #[.agg (T.cells h).toArray] w fun e w'=>e=.returned (.bool (tabMay T))∧Below w.heap.size w w':=by
 have C:=hJJ (cells_ok k)
 have L8:=hJJ k.ph
 have Lc:=hJJ k.cf
 have Lf:=hJJ k.fl
 generalize (T.cells h).toArray=cs at C ⊢
 have hsz:=C.out.size
 obtain ⟨gs,hgd,hgr⟩:=k.groups
 have Hgr:=hJJ hgr
 clear hgr
 have hw0:Below w.heap.size w (w.alloc (.cells cs 32)):=(Below.refl _ _).alloc (Nat.le_refl _) _
 have HW0:=hJJ hw0
 clear hw0
 have S0:=hJJ (St.box (cs:=cs) k)
 clear k
 have Hgd:=hJJ hgd
 have hgl:T.groups.length=gs.length:=by rw [← hgd,List.length_map]
 have Hgl:=hJJ hgl
 clear hgd hgl
 have hph:=phases_in S0.out.blk C.out L8.out
 have cP:=mayAllP_any 8 (some ⟨w.heap.size,0,none⟩) 8 T.phases _ hph
 rw [L8.out] at cP
 have CP:=hJJ cP
 clear cP hph
 have L8p:Hid ((8:Nat)=T.phases.length):=L8.out.symm
 go_enter Tryz.func108,Tryz.ntmps108
 go_wp2_with fail
 refine (CP.out).mono ?_
 rintro e w1 ⟨rfl,hb1⟩
 have S1:=hJJ (S0.out.step hb1)
 clear hb1 S0
 generalize hv:(decide (((8:Nat):Int)≤8) && T.phases.all Ph.may)=b1
 have HB1:Hid (listMay 8 Ph.may T.phases=b1):=(by unfold listMay;rw [L8.out];exact hv)
 clear hv
 cases b1
 ·go_wp2
  go_ret
  exact ⟨ret_bool (by unfold tabMay;simp only [HB1.out,Bool.true_and,Bool.false_and,Bool.and_true,Bool.and_false]),S1.out.bel⟩
 have c104:=S1.out.cell C.out.g
 rw [Hgl.out] at c104
 go_wp2_with fail
 refine (mayAllG_any 4 h.g.a h.g.cap gs _ (Hgr.out.1.below S1.out.bel) (fun v hv=>(Hgr.out.2 v hv).below S1.out.bel)).mono ?_
 rintro e w2 ⟨rfl,hb2⟩
 have S2:=hJJ (S1.out.step hb2)
 clear hb2 S1
 generalize hv:(decide ((gs.length:Int)≤4) && gs.all (fun v=>groupMay v.data))=b2
 have HB2:Hid (listMay 4 groupMay T.groups=b2):=(by unfold listMay;rw [← Hgd.out,List.length_map,List.all_map];exact hv)
 clear hv
 cases b2
 ·go_wp2
  go_ret
  exact ⟨ret_bool (by unfold tabMay;simp only [HB1.out,HB2.out,Bool.true_and,Bool.false_and,Bool.and_true,Bool.and_false]),S2.out.bel⟩
 go_wp2_with fail
 refine (within_len 255 (some ⟨w.heap.size,105,none⟩) 8 T.conflict 8 Lc.out _ (ints_in S2.out.blk 105 8 _ C.out.conflict Lc.out (by decide))).mono ?_
 rintro e w3 ⟨rfl,rfl⟩
 have S3:=S2
 generalize hv:allIn 255 T.conflict=b3
 have HB3:Hid (allIn 255 T.conflict=b3):=hv
 clear hv
 cases b3
 ·go_wp2
  go_ret
  exact ⟨ret_bool (by unfold tabMay;simp only [HB1.out,HB2.out,HB3.out,Bool.true_and,Bool.false_and,Bool.and_true,Bool.and_false]),S3.out.bel⟩
 have c113:=S3.out.cell C.out.d
 go_wp2_with fail
 refine (mayAllD_any 16 h.d.a h.d.cap T.dets _ S3.out.tab.dets).mono ?_
 rintro e w4 ⟨rfl,hb4⟩
 have S4:=hJJ (S3.out.step hb4)
 clear hb4 S3
 generalize hv:(decide ((T.dets.length:Int)≤16) && T.dets.all Det.may)=b4
 have HB4:Hid (listMay 16 Det.may T.dets=b4):=hv
 clear hv
 cases b4
 ·go_wp2
  go_ret
  exact ⟨ret_bool (by unfold tabMay;simp only [HB1.out,HB2.out,HB3.out,HB4.out,Bool.true_and,Bool.false_and,Bool.and_true,Bool.and_false]),S4.out.bel⟩
 have c114:=S4.out.cell C.out.r
 go_wp2_with fail
 refine (mayAllR_any 4 h.r.a h.r.cap T.rails _ S4.out.tab.rails).mono ?_
 rintro e w5 ⟨rfl,hb5⟩
 have S5:=hJJ (S4.out.step hb5)
 clear hb5 S4
 generalize hv:(decide ((T.rails.length:Int)≤4) && T.rails.all Rl.may)=b5
 have HB5:Hid (listMay 4 Rl.may T.rails=b5):=hv
 clear hv
 cases b5
 ·go_wp2
  go_ret
  exact ⟨ret_bool (by unfold tabMay;simp only [HB1.out,HB2.out,HB3.out,HB4.out,HB5.out,Bool.true_and,Bool.false_and,Bool.and_true,Bool.and_false]),S5.out.bel⟩
 have c115:=S5.out.cell C.out.b
 go_wp2_with fail
 refine (mayAllB_any 4 h.b.a h.b.cap T.buses _ S5.out.tab.buses).mono ?_
 rintro e w6 ⟨rfl,hb6⟩
 have S6:=hJJ (S5.out.step hb6)
 clear hb6 S5
 generalize hv:(decide ((T.buses.length:Int)≤4) && T.buses.all Bs.may)=b6
 have HB6:Hid (listMay 4 Bs.may T.buses=b6):=hv
 clear hv
 cases b6
 ·go_wp2
  go_ret
  exact ⟨ret_bool (by unfold tabMay;simp only [HB1.out,HB2.out,HB3.out,HB4.out,HB5.out,HB6.out,Bool.true_and,Bool.false_and,Bool.and_true,Bool.and_false]),S6.out.bel⟩
 have c116:=S6.out.cell C.out.extend
 have c117:=S6.out.cell C.out.budget
 have c118:=S6.out.cell C.out.start
 have c119:=S6.out.cell C.out.revert
 have c120:=S6.out.cell C.out.least
 go_wp2_with fail
 refine (within_any 9999 _ _ [T.extend,T.budget,T.start,T.revert,T.least] _ (row_new _ _ [T.extend,T.budget,T.start,T.revert,T.least] 5 rfl (by decide) _ rfl)).mono ?_
 rintro e w7 ⟨rfl,hw⟩
 have hb7:Below w6.heap.size w6 w7:=hw ▸ (Below.refl _ _).alloc (Nat.le_refl _) _
 clear hw
 have S7:=hJJ (S6.out.step hb7)
 clear hb7 S6
 generalize hv:allIn 9999 [T.extend,T.budget,T.start,T.revert,T.least]=b7
 have HB7:Hid (allIn 9999 [T.extend,T.budget,T.start,T.revert,T.least]=b7):=hv
 clear hv
 cases b7
 ·go_wp2
  go_ret
  exact ⟨ret_bool (by unfold tabMay;simp only [HB1.out,HB2.out,HB3.out,HB4.out,HB5.out,HB6.out,HB7.out,Bool.true_and,Bool.false_and,Bool.and_true,Bool.and_false]),S7.out.bel⟩
 go_wp2_with fail
 refine (within_len 2 (some ⟨w.heap.size,121,none⟩) 8 T.flash 8 Lf.out _ (ints_in S7.out.blk 121 8 _ C.out.flash Lf.out (by decide))).mono ?_
 rintro e w8 ⟨rfl,rfl⟩
 have S8:=S7
 generalize hv:allIn 2 T.flash=b8
 have HB8:Hid (allIn 2 T.flash=b8):=hv
 clear hv
 cases b8
 ·go_wp2
  go_ret
  exact ⟨ret_bool (by unfold tabMay;simp only [HB1.out,HB2.out,HB3.out,HB4.out,HB5.out,HB6.out,HB7.out,HB8.out,Bool.true_and,Bool.false_and,Bool.and_true,Bool.and_false]),S8.out.bel⟩
 have c129:=S8.out.cell C.out.window
 have c130:=S8.out.cell C.out.share
 go_wp2_with fail
 refine (within_any 2147483647 _ _ [T.window,T.share] _ (row_new _ _ [T.window,T.share] 2 rfl (by decide) _ rfl)).mono ?_
 rintro e w9 ⟨rfl,hw⟩
 have hb9:Below w7.heap.size w7 w9:=hw ▸ (Below.refl _ _).alloc (Nat.le_refl _) _
 clear hw
 have S9:=hJJ (S8.out.step hb9)
 clear hb9 S8
 generalize hv:allIn 2147483647 [T.window,T.share]=b9
 have HB9:Hid (allIn 2147483647 [T.window,T.share]=b9):=hv
 clear hv
 go_wp2
 go_ret
 exact ⟨ret_bool (by unfold tabMay;simp only [HB1.out,HB2.out,HB3.out,HB4.out,HB5.out,HB6.out,HB7.out,HB8.out,HB9.out,Bool.true_and,Bool.false_and,Bool.and_true,Bool.and_false]),S9.out.bel⟩
end May
namespace May
open Zip
open Go.ChangeShapes Go.WideShapes Go.ChangeAt Go.RowKit
open Tab
def tabRmay (T:Tab):Bool :=
 ((((allIn 9999 [T.extend,T.budget,T.start,T.revert,T.least] && allIn 2147483647 [T.window,T.share]) && allIn 255 T.conflict) && allIn 2 T.flash) && T.phases.all Ph.may)
theorem may_lens {T:Tab} (h:4 < T.groups.length∨16 < T.dets.length∨4 < T.rails.length∨4 < T.buses.length):tabMay T=false:=by
 unfold tabMay listMay
 rcases h with h | h | h | h
 ·rw [decide_eq_false (p:=(T.groups.length:Int)≤4) (by omega)];simp
 ·rw [decide_eq_false (p:=(T.dets.length:Int)≤16) (by omega)];simp
 ·rw [decide_eq_false (p:=(T.rails.length:Int)≤4) (by omega)];simp
 ·rw [decide_eq_false (p:=(T.buses.length:Int)≤4) (by omega)];simp
theorem may_group {T:Tab} {g:List Int × List Int} (h:g ∈ T.groups) (hg:groupMay g=false):tabMay T=false:=by
 have:T.groups.all groupMay=false:=by rw [List.all_eq_false];exact ⟨g,h,by simp [hg]⟩
 unfold tabMay listMay
 rw [this];simp
theorem may_order {T:Tab} (h8:T.phases.length=8) (hg:¬ 4 < T.groups.length) (hd:¬ 16 < T.dets.length) (hr:¬ 4 < T.rails.length) (hb:¬ 4 < T.buses.length) (hall:T.groups.all groupMay=true) :
  tabMay T=(((tabRmay T && T.dets.all Det.may) && T.rails.all Rl.may) && T.buses.all Bs.may):=by
 unfold tabMay listMay tabRmay
 rw [hall,decide_eq_true (p:=(T.phases.length:Int)≤8) (by omega),decide_eq_true (p:=(T.groups.length:Int)≤4) (by omega),decide_eq_true (p:=(T.dets.length:Int)≤16) (by omega),decide_eq_true (p:=(T.rails.length:Int)≤4) (by omega),decide_eq_true (p:=(T.buses.length:Int)≤4) (by omega)]
 simp only [Bool.true_and]
 generalize T.phases.all Ph.may=p
 generalize T.dets.all Det.may=d
 generalize T.rails.all Rl.may=r
 generalize T.buses.all Bs.may=b
 generalize allIn 255 T.conflict=c
 generalize allIn 2 T.flash=f
 generalize allIn 9999 _=x
 generalize allIn 2147483647 _=y
 revert p d r b c f x y
 decide
theorem acc_step {α:Type} {f:α→Bool} {l:List α} {k:Nat} {v:α} {b c:Bool} (h:l[k]?=some v) (hv:f v=c):(b && (l.take (k+1)).all f)=((b && (l.take k).all f) && c):=by
 rw [take_succ' l k v h,List.all_append];simp [hv,Bool.and_assoc]
theorem acc_end {α:Type} {f:α→Bool} {l:List α} {k:Nat} {b:Bool} (h:¬ k < l.length):(b && (l.take k).all f)=(b && l.all f):=by
 rw [List.take_of_length_le (by omega)]
def GAll (l:List Gr):Prop:=l.all (fun v=>groupMay v.data)=true
theorem GAll.step {l:List Gr} {k:Nat} {v:Gr} (h:l[k]?=some v) (hk:GAll (l.take k)) (hv:groupMay v.data=true):GAll (l.take (k+1)):=all_step (f:=fun v:Gr=>groupMay v.data) h hk hv
theorem GAll.fin {l:List Gr} {k:Nat} (hk:GAll (l.take k)) (h:¬ k < l.length):l.all (fun v=>groupMay v.data)=true:=all_end (f:=fun v:Gr=>groupMay v.data) hk h
theorem infoT:(Tryz.prog.info? 32).map (·.size)=some 131:=by kernel_rfl
theorem rmay_any (T:Tab) (h:Hd) (w:World) (k:IsTab w h T) :
  Calls Tryz.prog 48 #[.agg (T.cells h).toArray] w fun e w'=>e=.returned (.bool (tabMay T))∧Below w.heap.size w w':=by
 have C:=hJJ (cells_ok k)
 have L8:=hJJ k.ph
 have Lc:=hJJ k.cf
 have Lf:=hJJ k.fl
 have Kd:=(k.dets).len
 have Kr:=(k.rails).len
 have Kb:=(k.buses).len
 generalize (T.cells h).toArray=cs at C ⊢
 have hsz:=C.out.size
 obtain ⟨gs,hgd,hgr⟩:=k.groups
 have Kg:=hgr.1.len
 unfold maxLen at Kd Kr Kb Kg
 have Hgr:=hJJ hgr
 clear hgr
 have S0:=hJJ (St.box (cs:=cs) k)
 clear k
 have Hgd:=hJJ hgd
 have hgl:T.groups.length=gs.length:=by rw [← hgd,List.length_map]
 have Hgl:=hJJ hgl
 clear hgd
 clear hgl
 go_enter Tryz.func48,Tryz.ntmps48
 go_upto_region 1 with fail
 generalize hw1:w.alloc (.cells cs 32)=w1 at S0 ⊢
 clear hw1
 have c104:=S0.out.cell C.out.g
 rw [Hgl.out] at c104
 have c113:=S0.out.cell C.out.d
 have c114:=S0.out.cell C.out.r
 have c115:=S0.out.cell C.out.b
 clear hsz
 by_cases hG:4 < gs.length
 ·go_wp2
  go_ret
  exact ⟨ret_bool (may_lens (.inl (by rw [Hgl.out];omega))).symm,S0.out.bel⟩
 by_cases hD:16 < T.dets.length
 ·go_wp2
  go_ret
  exact ⟨ret_bool (may_lens (.inr (.inl (by omega)))).symm,S0.out.bel⟩
 by_cases hR:4 < T.rails.length
 ·go_wp2
  go_ret
  exact ⟨ret_bool (may_lens (.inr (.inr (.inl (by omega))))).symm,S0.out.bel⟩
 by_cases hB:4 < T.buses.length
 ·go_wp2
  go_ret
  exact ⟨ret_bool (may_lens (.inr (.inr (.inr (by omega))))).symm,S0.out.bel⟩
 have HG:=hJJ (show ¬ 4 < T.groups.length by rw [Hgl.out];exact hG)
 have HD:=hJJ hD
 have HR:=hJJ hR
 have HB:=hJJ hB
 have dG:decide ((4:Int) < (gs.length:Int))=false:=decide_eq_false (by omega)
 have dD:decide ((16:Int) < (T.dets.length:Int))=false:=decide_eq_false (by omega)
 have dR:decide ((4:Int) < (T.rails.length:Int))=false:=decide_eq_false (by omega)
 have dB:decide ((4:Int) < (T.buses.length:Int))=false:=decide_eq_false (by omega)
 clear hG hD hR hB
 go_upto_region 3 with fail
 clear c104 c113 c114 c115 dG dD dR dB
 go_cut [3] from 32 (fun t3 wx=>t3=.bool (((allIn 9999 [T.extend,T.budget,T.start,T.revert,T.least] && allIn 2147483647 [T.window,T.share]) && allIn 255 T.conflict) && allIn 2 T.flash)∧St w w.heap.size cs h T wx)
 case first =>
  have c116:=S0.out.cell C.out.extend
  have c117:=S0.out.cell C.out.budget
  have c118:=S0.out.cell C.out.start
  have c119:=S0.out.cell C.out.revert
  have c120:=S0.out.cell C.out.least
  go_wp2_with fail
  refine (times_any _ _ [T.extend,T.budget,T.start,T.revert,T.least] _ (row_new _ _ [T.extend,T.budget,T.start,T.revert,T.least] 5 rfl (by decide) _ rfl)).mono ?_
  rintro e w2 ⟨rfl,hw⟩
  have hb2:Below w1.heap.size w1 w2:=hw ▸ (Below.refl _ _).alloc (Nat.le_refl _) _
  have S2:=hJJ (S0.out.step hb2)
  clear hb2 hw c116 c117 c118 c119 c120
  generalize hv:allIn 9999 [T.extend,T.budget,T.start,T.revert,T.least]=b1
  have V1:=hJJ hv
  clear hv
  cases b1
  ·go_wp2_with fail
   go_meet
   exact ⟨by simp only [V1.out,Bool.true_and,Bool.false_and,Bool.and_false],S2.out⟩
  have c129:=S2.out.cell C.out.window
  have c130:=S2.out.cell C.out.share
  go_wp2_with fail
  refine (upto_any 2147483647 _ _ [T.window,T.share] _ (row_new _ _ [T.window,T.share] 2 rfl (by decide) _ rfl)).mono ?_
  rintro e w3 ⟨rfl,hw⟩
  have hb3:Below w2.heap.size w2 w3:=hw ▸ (Below.refl _ _).alloc (Nat.le_refl _) _
  have S3:=hJJ (S2.out.step hb3)
  clear hb3 hw c129 c130
  generalize hv:allIn 2147483647 [T.window,T.share]=b2
  have V2:=hJJ hv
  clear hv
  cases b2
  ·go_wp2_with fail
   go_meet
   exact ⟨by simp only [V1.out,V2.out,Bool.true_and,Bool.false_and,Bool.and_false],S3.out⟩
  go_wp2_with fail
  refine (upto_len 255 (some ⟨w.heap.size,105,none⟩) 8 T.conflict 8 Lc.out _ (ints_in S3.out.blk 105 8 _ C.out.conflict Lc.out (by decide))).mono ?_
  rintro e w4 ⟨rfl,rfl⟩
  generalize hv:allIn 255 T.conflict=b3
  have V3:=hJJ hv
  clear hv
  cases b3
  ·go_wp2_with fail
   go_meet
   exact ⟨by simp only [V1.out,V2.out,V3.out,Bool.true_and,Bool.false_and,Bool.and_false],S3.out⟩
  go_wp2_with fail
  refine (upto_len 2 (some ⟨w.heap.size,121,none⟩) 8 T.flash 8 Lf.out _ (ints_in S3.out.blk 121 8 _ C.out.flash Lf.out (by decide))).mono ?_
  rintro e w5 ⟨rfl,rfl⟩
  go_wp2_with fail
  go_meet
  exact ⟨by simp only [V1.out,V2.out,V3.out,Bool.true_and],S3.out⟩
 case rest =>
 obtain ⟨rfl,hs⟩:=hcut
 clear S0
 generalize hok:(((allIn 9999 [T.extend,T.budget,T.start,T.revert,T.least] && allIn 2147483647 [T.window,T.share]) && allIn 255 T.conflict) && allIn 2 T.flash)=ok
 have HOK:=hJJ hok
 have S1:=hJJ hs
 clear hok hs
 go_wp2_with fail
 go_loopw [3,4] (fun b i wr=>∃ q:Nat,q≤8∧i=.int .i64 q∧b=.bool (ok && (T.phases.take q).all Ph.may)∧St w w.heap.size cs h T wr) (fun _ i _=>8 - (intOf i).toNat)
 case atStart=>exact ⟨0,by omega,rfl,by simp,S1.out⟩
 case round =>
  clear S1
  obtain ⟨q,hq,rfl,rfl,hs⟩:=hrel
  have S1:=hJJ hs
  clear hs
  by_cases hlt:q < 8
  ·have hv:T.phases[q]?=some (T.phases[q]'(by rw [L8.out];exact hlt)):=List.getElem?_eq_getElem _
   generalize T.phases[q]'(by rw [L8.out];exact hlt)=v at hv
   have HV:=hJJ hv
   obtain ⟨x,hx,hc⟩:=(phases_in S1.out.blk C.out L8.out).at hv
   obtain rfl:=Option.some.inj hx
   have HC:=hJJ (show Lies wr ⟨w.heap.size,q*13,none⟩ v.cells by have:=hc;rwa [Addr.add_mid,Nat.zero_add] at this)
   clear hv hc hx
   generalize hacc:(ok && (T.phases.take q).all Ph.may)=acc
   have HA:=hJJ hacc
   clear hacc
   cases acc
   ·go_wp2
    go_roundw
    case rel=>exact ⟨q+1,by omega,by go_num,by rw [acc_step HV.out rfl,HA.out];rfl,S1.out⟩
    case measure=>simp [intOf];omega
   ·go_wp2_with (first | (refine lgZ 24 ⟨w.heap.size,q*13,none⟩ v.cells rfl HC.out Tryz.underlying24 infoP ?_))
    refine (rphase_any v _).mono ?_
    rintro e w2 ⟨rfl,hb2⟩
    have S2:=hJJ (S1.out.step hb2)
    clear hb2
    go_wp2
    go_roundw
    case rel=>exact ⟨q+1,by omega,by go_num,by rw [acc_step HV.out rfl,HA.out,Bool.true_and],S2.out⟩
    case measure=>simp [intOf];omega
  ·have hend:(ok && (T.phases.take q).all Ph.may)=(ok && T.phases.all Ph.may):=acc_end (by rw [L8.out];omega)
   rw [hend]
   generalize hok1:(ok && T.phases.all Ph.may)=ok1
   have HOK1:=hJJ hok1
   clear hok1 hend
   go_wp2_with fail
   go_loopw [5] (fun i wr=>∃ q:Nat,q≤gs.length∧i=.int .i64 q∧GAll (gs.take q)∧St w w.heap.size cs h T wr) (fun i _=>gs.length - (intOf i).toNat)
   case atStart=>exact ⟨0,by omega,rfl,(rfl:GAll []),S1.out⟩
   case round =>
    clear S1
    obtain ⟨q,hq,rfl,hall,hs⟩:=hrel
    have S1:=hJJ hs
    have Hall:=hJJ hall
    clear hs hall
    have c104:=S1.out.cell C.out.g
    rw [Hgl.out] at c104
    by_cases hlt:q < gs.length
    ·have hv:=List.getElem?_eq_getElem hlt
     generalize gs[q]=v at hv
     obtain ⟨x,hx,hc⟩:=(Hgr.out.1.below S1.out.bel).at hv
     have hok:=Hgr.out.2 v (List.mem_of_getElem? hv)
     have HV:=hJJ hv
     obtain ⟨l0,l1,⟨a0,cap0⟩,⟨a1,cap1⟩⟩:=v
     have HC:=hJJ hc
     have H0:=hJJ hok.1
     have H1:=hJJ hok.2
     have K0:=hok.1.len
     have K1:=hok.2.len
     unfold maxLen at K0 K1
     clear hv hc hok
     go_wp2_with fail
     go_loopw [6] (fun i wr=>∃ r:Nat,r≤2∧i=.int .i64 r∧(0 < r→rowMay l0=true)∧(1 < r→rowMay l1=true)∧St w w.heap.size cs h T wr) (fun i _=>2 - (intOf i).toNat)
     case atStart=>exact ⟨0,by omega,rfl,fun h=>absurd h (by omega),fun h=>absurd h (by omega),S1.out⟩
     case round =>
      clear S1 c104
      obtain ⟨r,hr,rfl,hr0,hr1,hs⟩:=hrel
      have S1:=hJJ hs
      have R0:=hJJ hr0
      have R1:=hJJ hr1
      clear hs hr0 hr1
      have c104:=S1.out.cell C.out.g
      simp only [Sl.val,Hgl.out,hx] at c104
      obtain ⟨x',hx',hc⟩:=(Hgr.out.1.below S1.out.bel).at HV.out
      obtain rfl:x'=x:=Option.some.inj (hx'.symm.trans hx)
      have e0:=hc 0 _ rfl
      have e1:=hc 1 _ rfl
      rw [add_zero] at e0
      rw [add_one] at e1
      clear hc hx'
      have hr2:r=0∨r=1∨r=2:=by omega
      rcases hr2 with rfl | rfl | rfl
      ·by_cases h8:8 < l0.length
       ·go_wp2
        go_ret
        exact ⟨ret_bool (may_group (T:=T) (g:=(l0,l1)) (by rw [← Hgd.out];exact List.mem_map.2 ⟨_,List.mem_of_getElem? HV.out,rfl⟩) (by unfold groupMay rowMay;simp only [];rw [decide_eq_false (p:=l0.length≤8) (by omega)];simp)).symm,S1.out.bel⟩
       ·have H8:=hJJ h8
        go_wp2_with (go_at_call 89;refine (upto_any 7 a0 cap0 l0 _ (H0.out.below S1.out.bel)).mono ?_;rintro e w2 ⟨rfl,rfl⟩;generalize hrow:allIn 7 l0=b;have HR2:=hJJ hrow;clear hrow;cases b)
        ·go_wp2
         go_ret
         exact ⟨ret_bool (may_group (T:=T) (g:=(l0,l1)) (by rw [← Hgd.out];exact List.mem_map.2 ⟨_,List.mem_of_getElem? HV.out,rfl⟩) (by unfold groupMay rowMay;simp only [];rw [HR2.out];simp)).symm,S1.out.bel⟩
        ·go_wp2
         go_roundw
         case rel=>exact ⟨0+1,by omega,by go_num,fun _=>by unfold rowMay;rw [HR2.out,decide_eq_true (by have:=H8.out;omega)];rfl,fun h=>absurd h (by omega),S1.out⟩
         case measure=>simp [intOf]
      ·by_cases h8:8 < l1.length
       ·go_wp2
        go_ret
        exact ⟨ret_bool (may_group (T:=T) (g:=(l0,l1)) (by rw [← Hgd.out];exact List.mem_map.2 ⟨_,List.mem_of_getElem? HV.out,rfl⟩) (by unfold groupMay rowMay;simp only [];rw [decide_eq_false (p:=l1.length≤8) (by omega)];simp)).symm,S1.out.bel⟩
       ·have H8:=hJJ h8
        go_wp2_with (go_at_call 89;refine (upto_any 7 a1 cap1 l1 _ (H1.out.below S1.out.bel)).mono ?_;rintro e w2 ⟨rfl,rfl⟩;generalize hrow:allIn 7 l1=b;have HR2:=hJJ hrow;clear hrow;cases b)
        ·go_wp2
         go_ret
         exact ⟨ret_bool (may_group (T:=T) (g:=(l0,l1)) (by rw [← Hgd.out];exact List.mem_map.2 ⟨_,List.mem_of_getElem? HV.out,rfl⟩) (by unfold groupMay rowMay;simp only [];rw [HR2.out];simp)).symm,S1.out.bel⟩
        ·go_wp2
         go_roundw
         case rel=>exact ⟨1+1,by omega,by go_num,fun _=>R0.out (by omega),fun _=>by unfold rowMay;rw [HR2.out,decide_eq_true (by have:=H8.out;omega)];rfl,S1.out⟩
         case measure=>simp [intOf]
      ·have Hrow:=hJJ (And.intro (R0.out (by omega)) (R1.out (by omega)))
       go_wp2
       go_roundw
       case rel=>exact ⟨q+1,by omega,by go_num,(Hall.out.step HV.out (by show (rowMay l0 && rowMay l1)=true;rw [Hrow.out.1,Hrow.out.2];rfl)),S1.out⟩
       case measure=>simp [intOf];omega
    ·have hall2:T.groups.all groupMay=true:=by
      have:=Hall.out.fin hlt
      rw [← Hgd.out,List.all_map];exact this
     have HALL:=hJJ hall2
     clear hall2 Hall
     have c113:=S1.out.cell C.out.d
     go_wp2_with fail
     go_loopw [3,7] (fun b i wr=>∃ q:Nat,q≤T.dets.length∧i=.int .i64 q∧b=.bool (ok1 && (T.dets.take q).all Det.may)∧St w w.heap.size cs h T wr) (fun _ i _=>T.dets.length - (intOf i).toNat)
     case atStart=>exact ⟨0,by omega,rfl,by simp,S1.out⟩
     case round =>
      clear S1
      obtain ⟨q,hq,rfl,rfl,hs⟩:=hrel
      have S1:=hJJ hs
      clear hs
      have c113:=S1.out.cell C.out.d
      by_cases hlt:q < T.dets.length
      ·have hv:=List.getElem?_eq_getElem hlt
       generalize T.dets[q]=v at hv
       obtain ⟨x,hx,hc⟩:=(S1.out.tab.dets).at hv
       simp only [Sl.val,hx] at c113
       have HV:=hJJ hv
       have HC:=hJJ hc
       clear hv hc
       generalize hacc:(ok1 && (T.dets.take q).all Det.may)=acc
       have HA:=hJJ hacc
       clear hacc
       cases acc
       ·go_wp2
        go_roundw
        case rel=>exact ⟨q+1,by omega,by go_num,by rw [acc_step HV.out rfl,HA.out];rfl,S1.out⟩
        case measure=>simp [intOf];omega
       ·go_wp2_with (first | (refine Row.wpList_load_g 45 _ rfl (by first | rfl | go_simp) (x.add (q*7)) rfl v.cells _ HC.out Tryz.underlying45 rfl infoD ?_))
        refine (rdetector_any v _).mono ?_
        rintro e w2 ⟨rfl,hb2⟩
        have S2:=hJJ (S1.out.step hb2)
        clear hb2
        go_wp2
        go_roundw
        case rel=>exact ⟨q+1,by omega,by go_num,by rw [acc_step HV.out rfl,HA.out,Bool.true_and],S2.out⟩
        case measure=>simp [intOf];omega
      ·have hend:(ok1 && (T.dets.take q).all Det.may)=(ok1 && T.dets.all Det.may):=acc_end hlt
       rw [hend]
       generalize hok1:(ok1 && T.dets.all Det.may)=ok2
       have HOK2:=hJJ hok1
       clear hok1 hend
       have c114:=S1.out.cell C.out.r
       go_wp2_with fail
       go_loopw [3,8] (fun b i wr=>∃ q:Nat,q≤T.rails.length∧i=.int .i64 q∧b=.bool (ok2 && (T.rails.take q).all Rl.may)∧St w w.heap.size cs h T wr) (fun _ i _=>T.rails.length - (intOf i).toNat)
       case atStart=>exact ⟨0,by omega,rfl,by simp,S1.out⟩
       case round =>
        clear S1
        obtain ⟨q,hq,rfl,rfl,hs⟩:=hrel
        have S1:=hJJ hs
        clear hs
        have c114:=S1.out.cell C.out.r
        by_cases hlt:q < T.rails.length
        ·have hv:=List.getElem?_eq_getElem hlt
         generalize T.rails[q]=v at hv
         obtain ⟨x,hx,hc⟩:=(S1.out.tab.rails).at hv
         simp only [Sl.val,hx] at c114
         have HV:=hJJ hv
         have HC:=hJJ hc
         clear hv hc
         generalize hacc:(ok2 && (T.rails.take q).all Rl.may)=acc
         have HA:=hJJ hacc
         clear hacc
         cases acc
         ·go_wp2
          go_roundw
          case rel=>exact ⟨q+1,by omega,by go_num,by rw [acc_step HV.out rfl,HA.out];rfl,S1.out⟩
          case measure=>simp [intOf];omega
         ·go_wp2_with (first | (refine Row.wpList_load_g 47 _ rfl (by first | rfl | go_simp) (x.add (q*11)) rfl v.cells _ HC.out Tryz.underlying47 rfl infoR ?_))
          refine (rrail_any v _).mono ?_
          rintro e w2 ⟨rfl,hb2⟩
          have S2:=hJJ (S1.out.step hb2)
          clear hb2
          go_wp2
          go_roundw
          case rel=>exact ⟨q+1,by omega,by go_num,by rw [acc_step HV.out rfl,HA.out,Bool.true_and],S2.out⟩
          case measure=>simp [intOf];omega
        ·have hend:(ok2 && (T.rails.take q).all Rl.may)=(ok2 && T.rails.all Rl.may):=acc_end hlt
         rw [hend]
         generalize hok1:(ok2 && T.rails.all Rl.may)=ok3
         have HOK3:=hJJ hok1
         clear hok1 hend
         have c115:=S1.out.cell C.out.b
         go_wp2_with fail
         go_loopw [3,9] (fun b i wr=>∃ q:Nat,q≤T.buses.length∧i=.int .i64 q∧b=.bool (ok3 && (T.buses.take q).all Bs.may)∧St w w.heap.size cs h T wr) (fun _ i _=>T.buses.length - (intOf i).toNat)
         case atStart=>exact ⟨0,by omega,rfl,by simp,S1.out⟩
         case round =>
          clear S1
          obtain ⟨q,hq,rfl,rfl,hs⟩:=hrel
          have S1:=hJJ hs
          clear hs
          have c115:=S1.out.cell C.out.b
          by_cases hlt:q < T.buses.length
          ·have hv:=List.getElem?_eq_getElem hlt
           generalize T.buses[q]=v at hv
           obtain ⟨x,hx,hc⟩:=(S1.out.tab.buses).at hv
           simp only [Sl.val,hx] at c115
           have HV:=hJJ hv
           have e0:=hc 0 _ rfl
           have e1:=hc 1 _ rfl
           rw [add_zero] at e0
           rw [add_one] at e1
           obtain ⟨set,lock⟩:=v
           have HC:=hJJ hc
           clear hv hc
           generalize hacc:(ok3 && (T.buses.take q).all Bs.may)=acc
           have HA:=hJJ hacc
           clear hacc
           cases acc
           ·go_wp2
            go_roundw
            case rel=>exact ⟨q+1,by omega,by go_num,by rw [acc_step HV.out rfl,HA.out];rfl,S1.out⟩
            case measure=>simp [intOf];omega
           ·go_wp2_with fail
            refine (upto_any 255 _ _ [set] _ (row_new _ _ [set] 1 rfl (by decide) _ rfl)).mono ?_
            rintro e w2 ⟨rfl,hw⟩
            have hb2:Below wr.heap.size wr w2:=hw ▸ (Below.refl _ _).alloc (Nat.le_refl _) _
            clear hw
            have S2:=hJJ (S1.out.step hb2)
            have HC2:=hJJ (HC.out.below hb2)
            clear hb2 e0 e1 c115
            generalize hv:allIn 255 [set]=b1
            have V1:=hJJ hv
            clear hv
            cases b1
            ·go_wp2
             go_roundw
             case rel=>exact ⟨q+1,by omega,by go_num,by rw [acc_step HV.out rfl,HA.out,Bool.true_and];unfold Bs.may;rw [V1.out];rfl,S2.out⟩
             case measure=>simp [intOf];omega
            ·have c115:=S2.out.cell C.out.b
             simp only [Sl.val,hx] at c115
             have e0:=HC2.out 0 _ rfl
             have e1:=HC2.out 1 _ rfl
             rw [add_zero] at e0
             rw [add_one] at e1
             go_wp2_with fail
             refine (times_any _ _ [lock] _ (row_new _ _ [lock] 1 rfl (by decide) _ rfl)).mono ?_
             rintro e w3 ⟨rfl,hw⟩
             have hb3:Below w2.heap.size w2 w3:=hw ▸ (Below.refl _ _).alloc (Nat.le_refl _) _
             clear hw
             have S3:=hJJ (S2.out.step hb3)
             clear hb3 e0 e1 c115
             go_wp2
             go_roundw
             case rel=>exact ⟨q+1,by omega,by go_num,by rw [acc_step HV.out rfl,HA.out,Bool.true_and];unfold Bs.may;rw [V1.out,Bool.true_and],S3.out⟩
             case measure=>simp [intOf];omega
          ·have hend:(ok3 && (T.buses.take q).all Bs.may)=(ok3 && T.buses.all Bs.may):=acc_end hlt
           rw [hend]
           go_wp2
           go_ret
           exact ⟨ret_bool (by rw [may_order L8.out HG.out HD.out HR.out HB.out HALL.out,← HOK3.out,← HOK2.out,← HOK1.out,← HOK.out];rfl),S1.out.bel⟩
end May
namespace Copy
open Go Go.RowKit
open Tab
section
variable {P:Program}
end
section
variable {α:Type} {n:Nat} {enc:α→List Value}
end
end Copy
namespace Clone
open Go.ChangeShapes Go.WideShapes Go.ChangeAt Go.RowKit
open Tab Copy
open May (chain infoP infoG infoD infoR infoB)
theorem zB:(Tryz.prog.info? 49).map (fun i=>(i.zero,i.size,i.bytes))=some (some (.agg #[.int .i64 0,.int .i64 0]),2,16):=by kernel_rfl
end Clone
namespace Owned
open Go Go.RowKit
open Tab Copy
structure Blk where
 at_:Nat
 cells:List Value
 type:TypeId
def Own (B:Nat) (w:World) (L:List Blk):Prop:=(L.map Blk.at_).Nodup∧∀ x ∈ L,B≤x.at_∧w.heap[x.at_]?=some (.cells x.cells.toArray x.type (0,0))
variable {B:Nat} {w w':World} {L M:List Blk} {x:Blk}
theorem Own.nil:Own B w []:=⟨by simp,fun x h=>by simp at h⟩
theorem Own.get (h:Own B w L) (hx:x ∈ L):w.heap[x.at_]?=some (.cells x.cells.toArray x.type (0,0)):=(h.2 x hx).2
theorem Own.base (h:Own B w L) (hx:x ∈ L):B≤x.at_:=(h.2 x hx).1
theorem Own.lt (h:Own B w L) (hx:x ∈ L):x.at_ < w.heap.size:=(Array.getElem?_eq_some_iff.1 (h.get hx)).1
theorem Own.step (h:Own B w L) (hb:Below w.heap.size w w'):Own B w' L:=⟨h.1,fun x hx=>⟨h.base hx,by rw [hb.block _ (h.lt hx)];exact h.get hx⟩⟩
theorem Own.same (h:Own B w L) (hs:w'.heap=w.heap):Own B w' L:=⟨h.1,fun x hx=>⟨h.base hx,by rw [hs];exact h.get hx⟩⟩
theorem Own.add (h:Own B w L) (hb:Below w.heap.size w w') {g:Nat} {cs:List Value} {t:TypeId} (hg:w'.heap[g]?=some (.cells cs.toArray t (0,0))) (hn:w.heap.size≤g) (hB:B≤w.heap.size):Own B w' (⟨g,cs,t⟩ :: L):=by
 refine ⟨List.nodup_cons.2 ⟨fun hm=>?_,h.1⟩,fun y hy=>?_⟩
 ·obtain ⟨y,hy,e⟩:=List.mem_map.1 hm
  have:=h.lt hy
  have e':y.at_=g:=e
  omega
 ·rcases List.mem_cons.1 hy with rfl | hy
  ·exact ⟨Nat.le_trans hB hn,hg⟩
  ·exact (h.step hb).2 y hy
theorem Own.write (h:Own B w (x :: L)) {cs:List Value} (hg:w'.heap[x.at_]?=some (.cells cs.toArray x.type (0,0))) (ho:∀ j,j ≠ x.at_→w'.heap[j]?=w.heap[j]?):Own B w' (⟨x.at_,cs,x.type⟩ :: L):=by
 have hx:=(List.nodup_cons.1 h.1).1
 refine ⟨List.nodup_cons.2 ⟨hx,(List.nodup_cons.1 h.1).2⟩,fun y hy=>?_⟩
 rcases List.mem_cons.1 hy with rfl | hy
 ·exact ⟨(h.base (x:=x) (List.mem_cons_self ..):B≤x.at_),hg⟩
 ·have hne:y.at_ ≠ x.at_:=fun e=>hx (List.mem_map.2 ⟨y,hy,e⟩)
  exact ⟨h.base (List.mem_cons_of_mem _ hy),by rw [ho _ hne];exact h.get (List.mem_cons_of_mem _ hy)⟩
theorem Own.cell (h:Own B w L) (hx:x ∈ L) (i:Nat):w.cell? ⟨x.at_,i,none⟩=x.cells[i]?:=by
 rw [cell_of_row _ _ _ _ _ _ (h.get hx)];simp
theorem Own.frozen (h:Own B w L) (hx:x ∈ L) (i:Nat):w.frozen? ⟨x.at_,i,none⟩=false:=frozen_of_row _ _ _ _ _ (h.get hx)
theorem below_write {a:World} (hb:Below B a w) {g i:Nat} (hg:B≤g) (v:Value):Below B a (w.setCell ⟨g,i,none⟩ v):=hb.setCell (p:=⟨g,i,none⟩) hg v
end Owned
namespace Clone
open Go.ChangeShapes Go.WideShapes Go.ChangeAt Go.RowKit
open Tab Copy Owned
open May (chain infoP infoG infoD infoR infoB infoT)
structure NG where
 r0:List Int
 r1:List Int
 b0:Nat
 b1:Nat
def NG.gr (g:NG):Gr:=⟨g.r0,g.r1,⟨some ⟨g.b0,0,none⟩,g.r0.length⟩,⟨some ⟨g.b1,0,none⟩,g.r1.length⟩⟩
def NG.blks (g:NG):List Blk:=[⟨g.b0,g.r0.flatMap (fun n=>[I n]),3⟩,⟨g.b1,g.r1.flatMap (fun n=>[I n]),3⟩]
abbrev at0 (g n:Nat):Sl:=⟨some ⟨g,0,none⟩,n⟩
def own (T:Tab) (ns:List NG) (G D R S:Nat):List Blk :=
 ⟨G,(ns.map NG.gr).flatMap Gr.cells,41⟩ :: ⟨D,T.dets.flatMap Det.cells,45⟩ :: ⟨R,T.rails.flatMap Rl.cells,47⟩ :: ⟨S,T.buses.flatMap Bs.cells,49⟩ :: ns.flatMap NG.blks
def hd (T:Tab) (G D R S:Nat):Hd:=⟨at0 G T.groups.length,at0 D T.dets.length,at0 R T.rails.length,at0 S T.buses.length⟩
section
variable {T:Tab} {ns:List NG} {G D R S:Nat}
end
structure Eights (T:Tab):Prop where
 p:T.phases.length=8
 c:T.conflict.length=8
 f:T.flash.length=8
theorem Eights.tab {T:Tab} (k:Eights T) (h:Hd) (w:World):CellsOk T h (T.cells h).toArray:=by
 have h0:IsTab w ⟨⟨none,0⟩,⟨none,0⟩,⟨none,0⟩,⟨none,0⟩⟩ { T with groups:=[],dets:=[],rails:=[],buses:=[] } :=
  ⟨k.p,k.c,k.f,⟨[],rfl,RowOf.nil w,fun g hg=>by simp at hg⟩,RowOf.nil w,RowOf.nil w,RowOf.nil w⟩
 have:=cells_ok h0
 obtain ⟨p0,p1,p2,p3,p4,p5,p6,p7,hp⟩:=eight k.p
 obtain ⟨c0,c1,c2,c3,c4,c5,c6,c7,hc⟩:=eight k.c
 obtain ⟨f0,f1,f2,f3,f4,f5,f6,f7,hf⟩:=eight k.f
 clear k
 obtain ⟨phases,groups,conflict,dets,rails,buses,extend,budget,start,revert,least,flash,window,share⟩:=T
 simp only at hp hc hf
 subst hp hc hf
 clear this h0
 constructor
 all_goals try rfl
 case one=>simp [Tab.cells,Ph.cells,Value.oneCell']
 intro i p hp
 match i,hp with
 | 0,hp | 1,hp | 2,hp | 3,hp | 4,hp | 5,hp | 6,hp | 7,hp =>
  obtain rfl:=Option.some.inj hp
  rfl
 | i+8,hp=>cases hp
def zPh:Ph:=⟨false,0,0,0,0,0,0,0,0,0,0,false,false⟩
def zTab:Tab:=⟨List.replicate 8 zPh,[],List.replicate 8 0,[],[],[],0,0,0,0,0,List.replicate 8 0,0,0⟩
def zHd:Hd:=⟨⟨none,0⟩,⟨none,0⟩,⟨none,0⟩,⟨none,0⟩⟩
theorem z_is (w:World):IsTab w zHd zTab:=⟨rfl,rfl,rfl,⟨[],rfl,RowOf.nil w,fun g hg=>by simp at hg⟩,RowOf.nil w,RowOf.nil w,RowOf.nil w⟩
end Clone
namespace Clone
open Go.ChangeShapes Go.WideShapes Go.ChangeAt Go.RowKit
open Tab Copy Owned
open May (chain infoP infoG infoD infoR infoB infoT take_succ')
def D5 (w:World) (B M:Nat) (L0 L1 L2 L3:List Blk) (q:Nat) (w':World):Prop :=
 Below B w w'∧match q with
  | 0=>Owned.Own B w' L0∧w'.heap.size=M+1
  | 1=>Owned.Own B w' L1∧w'.heap.size=M+1+1
  | 2=>Owned.Own B w' L2∧w'.heap.size=M+1+1+1
  | _=>Owned.Own B w' L3
theorem D5.get {w w':World} {B M q:Nat} {L0 L1 L2 L3:List Blk} {x:Blk} (h:D5 w B M L0 L1 L2 L3 q w') (h0:x ∈ L0) (h1:x ∈ L1) (h2:x ∈ L2) (h3:x ∈ L3):w'.heap[x.at_]?=some (.cells x.cells.toArray x.type (0,0)):=by
 match q,h with
 | 0,⟨_,h,_⟩=>exact h.get h0
 | 1,⟨_,h,_⟩=>exact h.get h1
 | 2,⟨_,h,_⟩=>exact h.get h2
 | _+3,⟨_,h⟩=>exact h.get h3
end Clone
namespace Flat
open Go Go.ChangeShapes Go.WideShapes
section
variable {α β:Type}
def All2 (R:α→β→Prop):List α→List β→Prop
 | [],[]=>True
 | a :: l,b :: m=>R a b∧All2 R l m
 | _,_=>False
variable {R:α→β→Prop}
theorem All2.length:∀ {a:List α} {b:List β},All2 R a b→a.length=b.length
 | [],[],_=>rfl
 | _ :: _,_ :: _,⟨_,h⟩=>by simp [All2.length h]
 | [],_ :: _,h=>h.elim
 | _ :: _,[],h=>h.elim
theorem All2.append:∀ {a:List α} {b:List β} {c:List α} {d:List β},All2 R a b→All2 R c d→All2 R (a++c) (b++d)
 | [],[],_,_,_,h=>h
 | _ :: _,_ :: _,_,_,⟨h,k⟩,h2=>⟨h,All2.append k h2⟩
 | [],_ :: _,_,_,h,_=>h.elim
 | _ :: _,[],_,_,h,_=>h.elim
theorem All2.split:∀ {a c:List α} {b:List β},All2 R (a++c) b→All2 R a (b.take a.length)∧All2 R c (b.drop a.length)
 | [],_,_,h=>⟨trivial,h⟩
 | _ :: _,_,_ :: _,⟨h,k⟩=>⟨⟨h,(All2.split k).1⟩,(All2.split k).2⟩
 | _ :: _,_,[],h=>h.elim
theorem All2.at:∀ {a:List α} {b:List β},All2 R a b→∀ {i:Nat} {x:α} {y:β},a[i]?=some x→b[i]?=some y→R x y
 | _ :: _,_ :: _,⟨h,_⟩,0,_,_,h1,h2=>by simp at h1 h2;subst h1 h2;exact h
 | _ :: _,_ :: _,⟨_,k⟩,i+1,_,_,h1,h2=>All2.at k (i:=i) (by simpa using h1) (by simpa using h2)
 | [],_,_,_,_,_,h1,_=>by simp at h1
 | _ :: _,[],h,_,_,_,_,_=>h.elim
theorem All2.mono {S:α→β→Prop} (hm:∀ x y,R x y→S x y):∀ {a:List α} {b:List β},All2 R a b→All2 S a b
 | [],[],_=>trivial
 | _ :: _,_ :: _,⟨h,k⟩=>⟨hm _ _ h,All2.mono hm k⟩
 | [],_ :: _,h=>h.elim
 | _ :: _,[],h=>h.elim
end
def rowT (P:Program) (t:TypeId):Bool:=match P.underlying t with | some (.struct _) | some (.array _ _)=>true | _=>false
def flatF (P:Program) (g:TypeId→Option (List TypeId)):Nat→List Field→Option (List TypeId)
 | _,[]=>some []
 | o,f :: fs=>if f.name ≠ "_"∧f.offset=o then
   match g f.type with
   | some r=>if r.length=P.cellsOf f.type then (flatF P g (o+r.length) fs).map (r++·) else none
   | none=>none
  else none
def flat (P:Program):Nat→TypeId→Option (List TypeId)
 | 0,_=>none
 | d+1,t=>match P.underlying t with
  | some (.struct fs)=>if P.stoodInHeld t=true then none else match flatF P (flat P d) 0 fs.toList with
   | some l=>if l.length=P.cellsOf t then some l else none
   | none=>none
  | some (.array n e)=>match flat P d e with
   | some r=>if r.length=P.cellsOf e∧n*P.cellsOf e=P.cellsOf t then some (List.replicate n r).flatten else none
   | none=>none
  | some _=>if P.cellsOf t=1 then some [t] else none
  | none=>none
theorem flatF_cons {P:Program} {g:TypeId→Option (List TypeId)} {o:Nat} {f:Field} {fs:List Field} {l:List TypeId} (h:flatF P g o (f :: fs)=some l) :
  f.name ≠ "_"∧f.offset=o∧∃ r l',g f.type=some r∧r.length=P.cellsOf f.type∧flatF P g (o+r.length) fs=some l'∧l=r++l':=by
 unfold flatF at h
 split at h
 ·rename_i h1
  split at h
  ·rename_i r hr
   split at h
   ·rename_i hl
    simp only [Option.map_eq_some_iff] at h
    obtain ⟨l',h2,rfl⟩:=h
    exact ⟨h1.1,h1.2,r,l',hr,hl,h2,rfl⟩
   ·cases h
  ·cases h
 ·cases h
theorem take_two {α:Type} (l:List α) (o a b:Nat):(l.drop o).take (a+b)=(l.drop o).take a++(l.drop (o+a)).take b:=by
 rw [List.take_add,List.drop_drop]
section
variable {P:Program} {R:TypeId→Value→Prop} {G:TypeId→List Value→Prop} {g:TypeId→Option (List TypeId)}
theorem fields_flat (hg:∀ t ts cs,g t=some ts→G t cs→All2 R ts cs) (cs:List Value):∀ (fs:List Field) (o:Nat) (l:List TypeId),flatF P g o fs=some l →
  (∀ f ∈ fs,G f.type ((cs.drop f.offset).take (P.cellsOf f.type)))→All2 R l ((cs.drop o).take l.length)
 | [],_,l,h,_=>by
  simp only [flatF,Option.some.injEq] at h
  subst h;simp [All2]
 | f :: fs,o,l,h,hall=>by
  obtain ⟨_,ho,r,l',h1,h2,h3,rfl⟩:=flatF_cons h
  have h4:=hg _ _ _ h1 (hall f (by simp))
  rw [ho,← h2] at h4
  rw [List.length_append,take_two]
  exact h4.append (fields_flat hg cs fs _ _ h3 fun f hf=>hall f (by simp [hf]))
theorem items_flat {c:Nat} {e:TypeId} {r:List TypeId} (hg:∀ cs,G e cs→All2 R r cs) (cs:List Value):∀ (n k:Nat),(∀ i,i < n→G e ((cs.drop ((k+i)*c)).take c)) →
  All2 R (List.replicate n r).flatten ((cs.drop (k*c)).take (n*c))
 | 0,_,_=>by simp [All2]
 | n+1,k,h=>by
  rw [List.replicate_succ,List.flatten_cons,Nat.add_mul,Nat.one_mul,Nat.add_comm (n*c) c,take_two]
  refine (hg _ (by simpa using h 0 (by omega))).append ?_
  have:=items_flat hg cs n (k+1) (fun i hi=>by have:=h (i+1) (by omega);rwa [show k+(i+1)=k+1+i by omega] at this)
  rwa [Nat.add_mul,Nat.one_mul] at this
end
section
variable {H:Type} {enc:TypeId × Value→H} {P:Program} {w:World} {base:Nat} {spare:Nat→Bool} {held:Bool}
theorem trod_one {t:TypeId} {n:Nat} {cs:List Value} {x:DataW H × List MemPlace} {d:TypeDesc} (hu:P.underlying t=some d) (hd:rowT P t=false) (h:DataW.trod enc P w base spare held n t cs=some x):∃ v,cs=[v]:=by
 cases n with
 | zero=>simp [DataW.trod] at h
 | succ n =>
  unfold DataW.trod at h
  unfold rowT at hd
  rw [hu] at h hd
  split at h <;> first | exact ⟨_,rfl⟩ | (simp_all;done)
theorem trod_flat:∀ (d:Nat) (t:TypeId) (ts:List TypeId),flat P d t=some ts→∀ (n:Nat) (cs:List Value) (x:DataW H × List MemPlace),DataW.trod enc P w base spare held n t cs=some x →
  All2 (fun t v=>∃ n y,DataW.trod enc P w base spare held n t [v]=some y) ts cs
 | 0,_,_,h,_,_,_,_=>by simp [flat] at h
 | d+1,t,ts,h,n,cs,x,hx=>by
  unfold flat at h
  split at h
  ·rename_i fs hu
   split at h
   ·cases h
   ·split at h
    ·rename_i l hl
     split at h
     ·rename_i hlen
      simp only [Option.some.injEq] at h;subst h
      obtain ⟨xs,m,_,_,hcl,hxl,hf⟩:=DataW.trod_struct hu hx
      have:=fields_flat (P:=P) (G:=fun t cs=>∃ n y,DataW.trod enc P w base spare held n t cs=some y) (g:=flat P d) (fun t ts cs h ⟨n,y,hy⟩=>trod_flat d t ts h n cs y hy) cs fs.toList 0 l hl (fun f hf'=>by
       obtain ⟨i,hi⟩:=List.getElem?_of_mem hf'
       have h1:=hf i f (by simpa using hi)
       have h2:i < xs.length:=by
        have:=(List.getElem?_eq_some_iff.1 hi).1
        simp at this;omega
       rw [List.getElem?_eq_getElem h2] at h1
       exact ⟨m,_,h1⟩)
      rw [List.drop_zero,hlen,← hcl,List.take_length] at this
      exact this
     ·cases h
    ·cases h
  ·rename_i k e hu
   split at h
   ·rename_i r hr
    split at h
    ·rename_i hlen
     simp only [Option.some.injEq] at h;subst h
     obtain ⟨xs,m,_,_,hcl,hxl,hf⟩:=DataW.trod_array hu hx
     have:=items_flat (c:=P.cellsOf e) (e:=e) (r:=r) (G:=fun t cs=>∃ n y,DataW.trod enc P w base spare held n t cs=some y) (fun cs ⟨n,y,hy⟩=>trod_flat d e r hr n cs y hy) cs k 0 (fun i hi=>by
      have h1:=hf i hi
      rw [List.getElem?_eq_getElem (by omega)] at h1
      exact ⟨m,_,by simpa using h1⟩)
     rw [Nat.zero_mul,List.drop_zero,hlen.2,← hcl,List.take_length] at this
     exact this
    ·cases h
   ·cases h
  ·rename_i dd hns hna hu
   split at h
   ·simp only [Option.some.injEq] at h;subst h
    obtain ⟨v,rfl⟩:=trod_one hu (by unfold rowT;rw [hu];cases dd <;> simp_all) hx
    exact ⟨⟨n,x,hx⟩,trivial⟩
   ·cases h
  ·cases h
end
section
variable {P:Program}
def vOf (P:Program) (t:TypeId) (cs:List Value):Value:=if rowT P t then .agg cs.toArray else cs.headD undef
def LeafEq (P:Program) (t:TypeId) (p:Value × Value):Prop:=∃ b:Bool,(∀ D w,(Op.equalIn (D+1) t p.1 p.2).run P w=.ok b w)∧(b=true ↔ p.1=p.2)
theorem leaf_int {t:TypeId} {k:IntKind} (h:P.underlying t=some (.int k)) (a b:Int):LeafEq P t (.int k a,.int k b):=⟨a == b,fun D w=>run_equalIn_int w D t k k a b h,by simp⟩
theorem run_part (w:World) {t:TypeId} {d:TypeDesc} (hu:P.underlying t=some d) (hc:rowT P t=false→P.cellsOf t=1) (cs:List Value) (off:Nat) (hl:off+P.cellsOf t≤cs.length) :
  (part t cs.toArray off).run P w=.ok (vOf P t ((cs.drop off).take (P.cellsOf t))) w:=by
 obtain ⟨i,hi⟩:=info_of_underlying hu
 have hagg:(isAgg t).run P w=.ok (rowT P t) w:=by
  unfold isAgg rowT
  rw [Sem.run_bind,run_underlying hu w]
  rw [hu]
  cases d <;> simp
 unfold part vOf
 rw [Sem.run_bind,hagg,Result.andThen_ok]
 cases hr:rowT P t with
 | true =>
  simp only [if_true,Sem.run_bind,run_sizeOf w hi,Result.andThen_ok,Sem.run_pure]
  congr 2
  simp [List.extract]
 | false =>
  have h1:=hc hr
  have h2:off < cs.length:=by omega
  simp only [Bool.false_eq_true,if_false,List.getElem?_toArray,List.getElem?_eq_getElem h2,Sem.run_pure,h1]
  have h3:(cs.drop off).take 1=[cs[off]]:=by rw [List.drop_eq_getElem_cons h2];rfl
  rw [h3]
  simp
theorem cells_one {d:Nat} {t:TypeId} {ts:List TypeId} (h:flat P d t=some ts):(∃ dd,P.underlying t=some dd)∧(rowT P t=false→P.cellsOf t=1):=by
 cases d with
 | zero=>simp [flat] at h
 | succ d =>
  unfold flat at h
  unfold rowT
  split at h
  ·rename_i hu;exact ⟨⟨_,hu⟩,by rw [hu];simp⟩
  ·rename_i hu;exact ⟨⟨_,hu⟩,by rw [hu];simp⟩
  ·rename_i hu
   split at h
   ·rename_i h1;exact ⟨⟨_,hu⟩,fun _=>h1⟩
   ·cases h
  ·cases h
def EqG (P:Program) (D:Nat) (g:TypeId→Option (List TypeId)):Prop:=∀ (t:TypeId) (ts:List TypeId) (zs:List (Value × Value)),g t=some ts→All2 (LeafEq P) ts zs →
 ∃ b:Bool,(∀ w,(Op.equalIn D t (vOf P t (zs.map (·.1))) (vOf P t (zs.map (·.2)))).run P w=.ok b w)∧(b=true ↔ zs.map (·.1)=zs.map (·.2))
theorem map_part {γ:Type} (f:Value × Value→γ) (zs:List (Value × Value)) (o n:Nat):((zs.map f).drop o).take n=((zs.drop o).take n).map f:=by
 rw [← List.map_drop,← List.map_take]
theorem fields_eq {D d:Nat} (hg:EqG P D (flat P d)) (zs:List (Value × Value)):∀ (fs:List Field) (o:Nat) (l:List TypeId),flatF P (flat P d) o fs=some l→o+l.length≤zs.length →
  All2 (LeafEq P) l ((zs.drop o).take l.length) →
  ∃ b:Bool,(∀ w,(Op.eqFields D (zs.map (·.1)).toArray (zs.map (·.2)).toArray fs).run P w=.ok b w)∧(b=true ↔ ((zs.drop o).take l.length).map (·.1)=((zs.drop o).take l.length).map (·.2))
 | [],_,l,h,_,_=>by
  simp only [flatF,Option.some.injEq] at h
  subst h
  exact ⟨true,fun w=>by simp [Op.eqFields],by simp⟩
 | f :: fs,o,l,h,hlen,hall=>by
  obtain ⟨hn,ho,r,l',h1,h2,h3,rfl⟩:=flatF_cons h
  obtain ⟨⟨dd,hu⟩,hone⟩:=cells_one h1
  rw [List.length_append] at hlen hall ⊢
  rw [take_two] at hall ⊢
  have hs:=hall.split
  have hlr:((zs.drop o).take r.length).length=r.length:=by simp;omega
  rw [List.take_left' hlr,List.drop_left' hlr] at hs
  obtain ⟨b,hb,hiff⟩:=hg f.type r _ h1 hs.1
  obtain ⟨b',hb',hiff'⟩:=fields_eq hg zs fs (o+r.length) l' h3 (by omega) hs.2
  have p1:=fun w=>run_part (P:=P) w hu hone (zs.map (·.1)) f.offset (by simp;omega)
  have p2:=fun w=>run_part (P:=P) w hu hone (zs.map (·.2)) f.offset (by simp;omega)
  rw [ho,← h2] at p1 p2
  simp only [map_part] at p1 p2
  refine ⟨b && b',fun w=>?_,?_⟩
  ·simp only [Op.eqFields,hn,ne_eq,not_false_eq_true,if_true,Sem.run_bind,ho,p1,p2,hb,Result.andThen_ok]
   cases b
   ·simp
   ·simpa using hb' w
  ·rw [Bool.and_eq_true,hiff,hiff',List.map_append,List.map_append]
   constructor
   ·rintro ⟨e1,e2⟩;rw [e1,e2]
   ·intro e;exact List.append_inj e (by simp)
theorem items_eq {D d:Nat} (hg:EqG P D (flat P d)) {e:TypeId} {r:List TypeId} (hr:flat P d e=some r) (hc:r.length=P.cellsOf e) (zs:List (Value × Value)):∀ (n k:Nat),(k+n)*P.cellsOf e≤zs.length →
  All2 (LeafEq P) (List.replicate n r).flatten ((zs.drop (k*P.cellsOf e)).take (n*P.cellsOf e)) →
  ∃ b:Bool,(∀ w,(Op.eqItems D e (P.cellsOf e) (zs.map (·.1)).toArray (zs.map (·.2)).toArray (List.range' k n)).run P w=.ok b w) ∧
   (b=true ↔ ((zs.drop (k*P.cellsOf e)).take (n*P.cellsOf e)).map (·.1)=((zs.drop (k*P.cellsOf e)).take (n*P.cellsOf e)).map (·.2))
 | 0,k,_,_=>⟨true,fun w=>by simp [Op.eqItems],by simp⟩
 | n+1,k,hlen,hall=>by
  obtain ⟨⟨dd,hu⟩,hone⟩:=cells_one hr
  have hlen':k*P.cellsOf e+P.cellsOf e+n*P.cellsOf e≤zs.length:=by
   have:(k+(n+1))*P.cellsOf e=k*P.cellsOf e+P.cellsOf e+n*P.cellsOf e:=by
    rw [Nat.add_mul,Nat.add_mul,Nat.one_mul];omega
   omega
  rw [List.replicate_succ,List.flatten_cons] at hall
  rw [Nat.add_mul,Nat.one_mul,Nat.add_comm (n*_),take_two] at hall ⊢
  have hs:=hall.split
  have hlr:((zs.drop (k*P.cellsOf e)).take (P.cellsOf e)).length=r.length:=by rw [hc];simp;omega
  rw [List.take_left' hlr,List.drop_left' hlr] at hs
  obtain ⟨b,hb,hiff⟩:=hg e r _ hr hs.1
  have hk:k*P.cellsOf e+P.cellsOf e=(k+1)*P.cellsOf e:=by rw [Nat.add_mul,Nat.one_mul]
  rw [hk] at hs ⊢
  obtain ⟨b',hb',hiff'⟩:=items_eq hg hr hc zs n (k+1) (by rw [Nat.add_mul,Nat.add_mul] at *;omega) hs.2
  have p1:=fun w=>run_part (P:=P) w hu hone (zs.map (·.1)) (k*P.cellsOf e) (by simp;omega)
  have p2:=fun w=>run_part (P:=P) w hu hone (zs.map (·.2)) (k*P.cellsOf e) (by simp;omega)
  simp only [map_part] at p1 p2
  refine ⟨b && b',fun w=>?_,?_⟩
  ·simp only [List.range'_succ,Op.eqItems,Sem.run_bind,p1,p2,hb,Result.andThen_ok]
   cases b
   ·simp
   ·simpa using hb' w
  ·rw [Bool.and_eq_true,hiff,hiff',List.map_append,List.map_append]
   constructor
   ·rintro ⟨e1,e2⟩;rw [e1,e2]
   ·intro e;exact List.append_inj e (by simp)
theorem eq_flat:∀ (d D:Nat),d≤D→EqG P D (flat P d)
 | 0,_,_=>fun t ts zs h _=>by simp [flat] at h
 | d+1,0,h=>absurd h (by omega)
 | d+1,D+1,hD=>fun t ts zs h hall=>by
  have IH:=eq_flat d D (by omega)
  unfold flat at h
  split at h
  ·rename_i fs hu
   split at h
   ·cases h
   ·rename_i hst
    split at h
    ·rename_i l hl
     split at h
     ·rename_i hlen
      simp only [Option.some.injEq] at h;subst h
      have hz:=hall.length
      obtain ⟨b,hb,hiff⟩:=fields_eq IH zs fs.toList 0 l hl (by omega) (by rw [List.drop_zero,hz,List.take_length];exact hall)
      rw [List.drop_zero,hz,List.take_length] at hiff
      have hfs:P.fieldsOf t=fs:=by simp [Program.fieldsOf,hu]
      refine ⟨b,fun w=>?_,hiff⟩
      have hr:rowT P t=true:=by unfold rowT;rw [hu]
      unfold vOf
      rw [if_pos hr,if_pos hr,run_equalIn_struct w D t _ _ (by rw [hfs];exact hu) (by simpa using hst),hfs]
      exact hb w
     ·cases h
    ·cases h
  ·rename_i n e hu
   split at h
   ·rename_i r hr
    split at h
    ·rename_i hlen
     simp only [Option.some.injEq] at h;subst h
     have hz:=hall.length
     have hz2:n*P.cellsOf e=zs.length:=by rw [← hz];simp [hlen.1]
     obtain ⟨b,hb,hiff⟩:=items_eq IH hr hlen.1 zs n 0 (by rw [Nat.zero_add];omega) (by rw [Nat.zero_mul,List.drop_zero,hz2,List.take_length];exact hall)
     rw [Nat.zero_mul,List.drop_zero,hz2,List.take_length] at hiff
     obtain ⟨⟨dd,hue⟩,_⟩:=cells_one hr
     obtain ⟨i,hi⟩:=info_of_underlying hue
     refine ⟨b,fun w=>?_,hiff⟩
     have hrow:rowT P t=true:=by unfold rowT;rw [hu]
     unfold vOf
     rw [if_pos hrow,if_pos hrow,run_equalIn_array w D _ _ hu hi,List.range_eq_range']
     exact hb w
    ·cases h
   ·cases h
  ·rename_i dd hns hna hu
   split at h
   ·simp only [Option.some.injEq] at h;subst h
    have hr:rowT P t=false:=by unfold rowT;rw [hu];cases dd <;> simp_all
    match zs,hall with
    | [p],⟨⟨b,hb,hiff⟩,_⟩ =>
     refine ⟨b,fun w=>?_,by simpa using hiff⟩
     unfold vOf
     rw [hr]
     simpa using hb D w
   ·cases h
  ·cases h
theorem eql_flat {d:Nat} {t:TypeId} {ts:List TypeId} (h:flat P d t=some ts) (hd:d≤10000) (hr:rowT P t=true) (zs:List (Value × Value)) (hall:All2 (LeafEq P) ts zs) :
  ∃ b:Bool,(∀ w,(Op.equalIn 10000 t (.agg (zs.map (·.1)).toArray) (.agg (zs.map (·.2)).toArray)).run P w=.ok b w)∧(b=true ↔ zs.map (·.1)=zs.map (·.2)):=by
 obtain ⟨b,hb,hiff⟩:=eq_flat d 10000 hd t ts zs h hall
 refine ⟨b,fun w=>?_,hiff⟩
 have:=hb w
 unfold vOf at this
 rwa [if_pos hr,if_pos hr] at this
end
end Flat
namespace Same
open Go.ChangeShapes Go.WideShapes Go.ChangeAt Go.RowKit
open Tab
open May (ret_bool chain take_succ' infoP infoG infoD infoR infoB row_new)
end Same
end Go.Proofs.YtjolhoilcibdfaaGreat
