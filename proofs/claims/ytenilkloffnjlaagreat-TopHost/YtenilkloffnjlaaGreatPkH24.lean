/- Part 25: contracts that the proof rests on. -/
import Derived.Test.YtenilkloffnjlaaGreatPkH23
set_option maxHeartbeats 64000000
set_option maxRecDepth 100000
namespace Go.Proofs.YtenilkloffnjlaaGreat
open Tryz
open Go.RowKit
theorem cR {a b:Bool} (h:a=b):Ending.returned (Value.bool a)=Ending.returned (Value.bool b):=by rw[h]
theorem pa (d:Nat) (P:Pm) (U:List Nat) (s:Sh) (k c ss num fl:Nat) (a:Option Addr) (len cap:Nat) (w:World) (h:HV w d P U s) :
  Calls prog 167 #[ac d 0,.agg #[.int .i64 (k:Nat),.int .u32 (c:Nat),.int .u32 (ss:Nat),.int .u32 (num:Nat),.int .i64 (fl:Nat),.slice a len cap]] w fun e w'=>e=.returned (.bool (bY P s k num len))∧Below w.heap.size w w':=by
 have hb:∀ ob,Below w.heap.size w (w.alloc ob):=fun ob=>(Below.refl _ _).alloc (Nat.le_refl _) _
 have hU:w.heap.size ∉ U:=fun hm=>by have:=HV.ult h _ hm;omega
 obtain⟨B,x⟩:=h
 have hdn:¬ d=w.heap.size:=fun e=>hU (by rw[← e];exact x.kd.2)
 have hdn':¬ w.heap.size=d:=fun e=>hdn e.symm
 have c2:∀ ob,(w.alloc ob).cell? ⟨d,2,none⟩=some (.int .i64 (P.i:Nat)):=fun ob=>(x.newd (Off.of_below (hb ob))).c2
 have c4:∀ ob,(w.alloc ob).cell? ⟨d,4,none⟩=some (.int .u32 (P.n:Nat)):=fun ob=>(x.newd (Off.of_below (hb ob))).c4
 have c8:∀ ob,(w.alloc ob).cell? ⟨d,8,none⟩=some (.int .i64 (s.st:Nat)):=fun ob=>(x.newd (Off.of_below (hb ob))).c8
 have c10:∀ ob,(w.alloc ob).cell? ⟨d,10,none⟩=some (.int .u32 (s.nm:Nat)):=fun ob=>(x.newd (Off.of_below (hb ob))).c10
 have HB:Hid (_):=hb
 clear hb x hU
 by_cases h4:s.st=4
 ·rw[h4]at c8
  have hA:bY P s k num len=decide (k=20∧(s.nm<num∧num<P.n)∧len=P.i∨k=21∧s.nm<num∧num=P.n):=by
   unfold bY
   rw[Bool.eq_iff_iff]
   simp only[decide_eq_true_eq]
   omega
  rw[hA]
  clear hA h4
  by_cases hn:s.nm<num
  ·have i1:(s.nm:Int) < (num:Int):=by omega
   by_cases k20:k=20
   ·subst k20
    by_cases hc:num<P.n
    ·have i2:(num:Int) < (P.n:Int):=by omega
     have HH:Hid (_):=And.intro hn hc
     go_enter func167,ntmps167
     go_wp2_with fail
     repeat (go_quiet (fail);go_wp2_with fail)
     go_ret
     refine⟨cR ?_,?_⟩
     ·have:=HH.out
      rw[Bool.eq_iff_iff]
      simp
      omega
     ·repeat (first | with_reducible refine below_drewN ?_ _ | with_reducible refine Below.drew ?_ | exact HB.out _)
    ·have i2:¬ (num:Int) < (P.n:Int):=by omega
     have HH:Hid (_):=And.intro hn hc
     go_enter func167,ntmps167
     go_wp2_with fail
     repeat (go_quiet (fail);go_wp2_with fail)
     go_ret
     refine⟨cR ?_,?_⟩
     ·have:=HH.out
      rw[Bool.eq_iff_iff]
      simp
      omega
     ·repeat (first | with_reducible refine below_drewN ?_ _ | with_reducible refine Below.drew ?_ | exact HB.out _)
   ·have j20:((k:Int) == 20)=false:=by simp;omega
    by_cases k21:k=21
    ·subst k21
     have HH:Hid (_):=hn
     clear k20 j20
     go_enter func167,ntmps167
     go_wp2_with fail
     repeat (go_quiet (fail);go_wp2_with fail)
     go_ret
     refine⟨cR ?_,?_⟩
     ·have:=HH.out
      rw[Bool.eq_iff_iff]
      simp
      omega
     ·repeat (first | with_reducible refine below_drewN ?_ _ | with_reducible refine Below.drew ?_ | exact HB.out _)
    ·have j21:((k:Int) == 21)=false:=by simp;omega
     have HH:Hid (_):=And.intro k20 k21
     clear k20 k21
     by_cases k18:k=18
     ·subst k18
      go_enter func167,ntmps167
      go_wp2_with fail
      repeat (go_quiet (fail);go_wp2_with fail)
      go_ret
      refine⟨cR (by simp),?_⟩
      repeat (first | with_reducible refine below_drewN ?_ _ | with_reducible refine Below.drew ?_ | exact HB.out _)
     ·have j18:((k:Int) == 18)=false:=by simp;omega
      by_cases k19:k=19
      ·subst k19
       go_enter func167,ntmps167
       go_wp2_with fail
       repeat (go_quiet (fail);go_wp2_with fail)
       go_ret
       refine⟨cR (by simp),?_⟩
       repeat (first | with_reducible refine below_drewN ?_ _ | with_reducible refine Below.drew ?_ | exact HB.out _)
      ·have j19:((k:Int) == 19)=false:=by simp;omega
       clear k18 k19
       go_enter func167,ntmps167
       go_wp2_with fail
       repeat (go_quiet (fail);go_wp2_with fail)
       go_ret
       refine⟨cR ?_,?_⟩
       ·have:=HH.out
        simp
        omega
       ·repeat (first | with_reducible refine below_drewN ?_ _ | with_reducible refine Below.drew ?_ | exact HB.out _)
  ·have i1:¬ (s.nm:Int) < (num:Int):=by omega
   have hA:decide (k=20∧(s.nm<num∧num<P.n)∧len=P.i∨k=21∧s.nm<num∧num=P.n)=false:=decide_eq_false (by omega)
   rw[hA]
   clear hA
   have hk:k=18∨k=19∨k=20∨k=21∨(((k:Int) == 18)=false∧((k:Int) == 19)=false∧((k:Int) == 20)=false∧((k:Int) == 21)=false):=by simp;omega
   rcases hk with rfl | rfl | rfl | rfl | ⟨j18,j19,j20,j21⟩
   all_goals
    go_enter func167,ntmps167
    go_wp2_with fail
    repeat (go_quiet (fail);go_wp2_with fail)
    go_ret
    refine⟨cR (by first | rfl | simp),?_⟩
    repeat (first | with_reducible refine below_drewN ?_ _ | with_reducible refine Below.drew ?_ | exact HB.out _)
 ·have n4:((s.st:Int) == 4)=false:=by simp;omega
  have hA:bY P s k num len=decide (k=18∧s.st=2∨k=19∧s.st=3):=by
   unfold bY
   rw[Bool.eq_iff_iff]
   simp only[decide_eq_true_eq]
   omega
  rw[hA]
  clear hA h4
  have hk:k=18∨k=19∨k=20∨k=21∨((((k:Int) == 18)=false∧((k:Int) == 19)=false∧((k:Int) == 20)=false∧((k:Int) == 21)=false)∧k≠18∧k≠19):=by simp;omega
  rcases hk with rfl | rfl | rfl | rfl | ⟨⟨j18,j19,j20,j21⟩,j1,j2⟩
  ·go_enter func167,ntmps167
   go_wp2_with fail
   repeat (go_quiet (fail);go_wp2_with fail)
   go_ret
   refine⟨cR ?_,?_⟩
   ·rw[Bool.eq_iff_iff]
    simp
    omega
   ·repeat (first | with_reducible refine below_drewN ?_ _ | with_reducible refine Below.drew ?_ | exact HB.out _)
  ·go_enter func167,ntmps167
   go_wp2_with fail
   repeat (go_quiet (fail);go_wp2_with fail)
   go_ret
   refine⟨cR ?_,?_⟩
   ·rw[Bool.eq_iff_iff]
    simp
    omega
   ·repeat (first | with_reducible refine below_drewN ?_ _ | with_reducible refine Below.drew ?_ | exact HB.out _)
  ·go_enter func167,ntmps167
   go_wp2_with fail
   repeat (go_quiet (fail);go_wp2_with fail)
   go_ret
   refine⟨cR (by simp),?_⟩
   repeat (first | with_reducible refine below_drewN ?_ _ | with_reducible refine Below.drew ?_ | exact HB.out _)
  ·go_enter func167,ntmps167
   go_wp2_with fail
   repeat (go_quiet (fail);go_wp2_with fail)
   go_ret
   refine⟨cR (by simp),?_⟩
   repeat (first | with_reducible refine below_drewN ?_ _ | with_reducible refine Below.drew ?_ | exact HB.out _)
  ·have HJ:Hid (_):=And.intro j1 j2
   clear j1 j2
   go_enter func167,ntmps167
   go_wp2_with fail
   repeat (go_quiet (fail);go_wp2_with fail)
   go_ret
   refine⟨cR ?_,?_⟩
   ·have:=HJ.out
    simp
    omega
   ·repeat (first | with_reducible refine below_drewN ?_ _ | with_reducible refine Below.drew ?_ | exact HB.out _)
theorem ro (d:Nat) (P:Pm) (U:List Nat) (s:Sh) (k c ss num fl:Nat) (a:Option Addr) (len cap:Nat) (bs:Nat→Nat) (w:World) (h:HV w d P U s) (hr:Row8 w a len cap bs) :
  Calls prog 166 #[ac d 0,.agg #[.int .i64 (k:Nat),.int .u32 (c:Nat),.int .u32 (ss:Nat),.int .u32 (num:Nat),.int .i64 (fl:Nat),.slice a len cap]] w fun e w'=>e=.returned (.int .i64 (jN P s k ss len bs))∧Below w.heap.size w w':=by
 have hb:∀ ob,Below w.heap.size w (w.alloc ob):=fun ob=>(Below.refl _ _).alloc (Nat.le_refl _) _
 have hU:w.heap.size ∉ U:=fun hm=>by have:=HV.ult h _ hm;omega
 obtain⟨B,x⟩:=h
 have hdn:¬ d=w.heap.size:=fun e=>hU (by rw[← e];exact x.kd.2)
 have hdn':¬ w.heap.size=d:=fun e=>hdn e.symm
 have c0:∀ ob,(w.alloc ob).cell? ⟨d,0,none⟩=some (.int .u32 (P.c:Nat)):=fun ob=>(x.newd (Off.of_below (hb ob))).c0
 have c1:∀ ob,(w.alloc ob).cell? ⟨d,1,none⟩=some (.int .i64 (P.o:Nat)):=fun ob=>(x.newd (Off.of_below (hb ob))).c1
 have c2:∀ ob,(w.alloc ob).cell? ⟨d,2,none⟩=some (.int .i64 (P.i:Nat)):=fun ob=>(x.newd (Off.of_below (hb ob))).c2
 have c3:∀ ob,(w.alloc ob).cell? ⟨d,3,none⟩=some (.int .i64 (P.t:Nat)):=fun ob=>(x.newd (Off.of_below (hb ob))).c3
 have c4:∀ ob,(w.alloc ob).cell? ⟨d,4,none⟩=some (.int .u32 (P.n:Nat)):=fun ob=>(x.newd (Off.of_below (hb ob))).c4
 have c9:∀ ob,(w.alloc ob).cell? ⟨d,9,none⟩=some (.int .u32 (s.ss:Nat)):=fun ob=>(x.newd (Off.of_below (hb ob))).c9
 have HB:Hid (_):=hb
 have hG:=fun ob n=>jO P.c P.o P.i P.t P.n a len cap bs (((w.alloc ob).drewN n).drew) (hr.below (Below.drew (below_drewN (hb ob) n))) x.pok.c x.pok.n x.pok.ok (aX P len bs) rfl
 clear hb x hU hr
 unfold jN
 by_cases h17:k=17
 ·subst h17
  by_cases hs:ss≤s.ss
  ·rw[if_pos (.inr hs)]
   have i1:(ss:Int) ≤ (s.ss:Int):=by omega
   clear hG
   go_enter func166,ntmps166
   go_wp2_with fail
   repeat (go_quiet (fail);go_wp2_with fail)
   go_ret
   refine⟨rfl,?_⟩
   repeat (first | with_reducible refine below_drewN ?_ _ | with_reducible refine Below.drew ?_ | exact HB.out _)
  ·rw[if_neg (by omega)]
   have i1:¬ (ss:Int) ≤ (s.ss:Int):=by omega
   cases hg:aX P len bs
   all_goals
    rw[hg]at hG
    go_enter func166,ntmps166
    go_wp2_with fail
    go_quiet (fail)
    go_wp2_with fail
    have HB2:Hid (∀ ob,Below w.heap.size w (((w.alloc ob).drewN nq).drew)):=fun ob=>Below.drew (below_drewN (HB.out ob) nq)
    go_region_with (go_at_call 200;refine (hG _ nq).mono ?_;rintro e w3 ⟨rfl,b3⟩)
    all_goals
     have H3:Hid (Below w.heap.size w w3):=(HB2.out _).trans (b3.mono (HB2.out _).size)
     clear hG b3 HB HB2 c0 c1 c2 c3 c4 c9
     go_wp2_with fail
     go_ret
     exact⟨by first | rfl | simp,H3.out⟩
 ·rw[if_pos (.inl h17)]
  have j17:((k:Int) != 17)=true:=by simp;omega
  clear h17 hG
  go_enter func166,ntmps166
  go_wp2_with fail
  repeat (go_quiet (fail);go_wp2_with fail)
  go_ret
  refine⟨rfl,?_⟩
  repeat (first | with_reducible refine below_drewN ?_ _ | with_reducible refine Below.drew ?_ | exact HB.out _)
end Go.Proofs.YtenilkloffnjlaaGreat
