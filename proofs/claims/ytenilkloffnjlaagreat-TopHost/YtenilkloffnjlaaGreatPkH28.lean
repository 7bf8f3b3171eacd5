/- Part 29: contracts that the proof rests on. -/
import Derived.Test.YtenilkloffnjlaaGreatPkH27
set_option maxHeartbeats 64000000
set_option maxRecDepth 100000
namespace Go.Proofs.YtenilkloffnjlaaGreat
open Tryz
open Go.RowKit
theorem nF (d:Nat) (P:Pm) (U:List Nat) (s:Sh) (k c ss num fl:Nat) (a:Option Addr) (len cap:Nat) (bs:Nat→Nat) (w:World) (h:HV w d P U s) (hr:Row8 w a len cap bs) :
  Calls prog 137 #[ac d 0,.agg #[.int .i64 (k:Nat),.int .u32 (c:Nat),.int .u32 (ss:Nat),.int .u32 (num:Nat),.int .i64 (fl:Nat),.slice a len cap]] w fun e w'=>e=.returned (.int .i64 (gh P s k c ss num len bs))∧Below w.heap.size w w':=by
 have hb:∀ ob,Below w.heap.size w (w.alloc ob):=fun ob=>(Below.refl _ _).alloc (Nat.le_refl _) _
 have hU:w.heap.size ∉ U:=fun hm=>by have:=HV.ult h _ hm;omega
 have hO:=fun wx (hx:Below w.heap.size w wx)=>ro d P U s k c ss num fl a len cap bs wx (HV.below h hx) (hr.below hx)
 have hW:=fun wx (hx:Below w.heap.size w wx)=>pa d P U s k c ss num fl a len cap wx (HV.below h hx)
 have hF:=fun wx=>gx (k:Int) wx
 obtain⟨B,x⟩:=h
 have hdn:¬ d=w.heap.size:=fun e=>hU (by rw[← e];exact x.kd.2)
 have hdn':¬ w.heap.size=d:=fun e=>hdn e.symm
 have c0:∀ ob,(w.alloc ob).cell? ⟨d,0,none⟩=some (.int .u32 (P.c:Nat)):=fun ob=>(x.newd (Off.of_below (hb ob))).c0
 have c8:∀ ob,(w.alloc ob).cell? ⟨d,8,none⟩=some (.int .i64 (s.st:Nat)):=fun ob=>(x.newd (Off.of_below (hb ob))).c8
 have c9:∀ ob,(w.alloc ob).cell? ⟨d,9,none⟩=some (.int .u32 (s.ss:Nat)):=fun ob=>(x.newd (Off.of_below (hb ob))).c9
 have HB:Hid (_):=hb
 have HO:Hid (_):=hO
 have HW:Hid (_):=hW
 clear hb x hU hr hO hW
 unfold gh
 by_cases hK:fE (k:Int)=false
 ·rw[if_pos hK]
  rw[hK]at hF
  go_enter func137,ntmps137
  go_wp2_with (go_at_call 165;refine (hF _).mono ?_;rintro e w' ⟨rfl,hw⟩;have hw:=hw.symm;subst hw)
  go_ret
  exact⟨rfl,HB.out _⟩
 ·rw[if_neg hK]
  have hK':fE (k:Int)=true:=by simpa using hK
  rw[hK']at hF
  clear hK hK'
  by_cases hC:c=P.c
  ·subst hC
   rw[if_neg (by omega)]
   by_cases h1:s.st=1
   ·rw[if_pos h1]
    rw[h1]at c8
    generalize jN P s k ss len bs=E at *
    clear h1
    go_enter func137,ntmps137
    go_wp2_with (go_at_call 165;refine (hF _).mono ?_;rintro e w' ⟨rfl,hw⟩;have hw:=hw.symm;subst hw)
    go_quiet (fail)
    go_wp2_with fail
    have HB2:Hid (∀ ob,Below w.heap.size w ((w.alloc ob).drewN nq)):=fun ob=>below_drewN (HB.out ob) nq
    refine (HO.out _ (HB2.out _)).mono ?_
    rintro e w3 ⟨rfl,b3⟩
    have H3:Hid (Below w.heap.size w w3):=(HB2.out _).trans (b3.mono (HB2.out _).size)
    clear b3 HB HB2 HO HW c0 c8 c9 hF
    go_wp2_with fail
    go_ret
    exact⟨rfl,H3.out⟩
   ·rw[if_neg h1]
    have n1:((s.st:Int) == 1)=false:=by simp;omega
    clear h1 HO
    by_cases hS:ss=s.ss
    ·subst hS
     cases hw:bY P s k num len
     all_goals
      first | rw[if_pos (.inr rfl)] | rw[if_neg (by simp)]
      rw[hw]at HW
      go_enter func137,ntmps137
      go_wp2_with (go_at_call 165;refine (hF _).mono ?_;rintro e w' ⟨rfl,hw⟩;have hw:=hw.symm;subst hw)
      go_quiet (fail)
      go_wp2_with fail
      have HB2:Hid (∀ ob,Below w.heap.size w (((w.alloc ob).drewN nq).drew)):=fun ob=>Below.drew (below_drewN (HB.out ob) nq)
      go_region_with (go_at_call 167;refine (HW.out _ (HB2.out _)).mono ?_;rintro e w3 ⟨rfl,b3⟩)
      all_goals
       have H3:Hid (Below w.heap.size w w3):=(HB2.out _).trans (b3.mono (HB2.out _).size)
       clear b3 HB HB2 HW c0 c8 c9 hF
       go_wp2_with fail
       go_ret
       exact⟨rfl,H3.out⟩
    ·rw[if_pos (.inl hS)]
     have j2:((ss:Int) != (s.ss:Int))=true:=by simp;omega
     clear HW
     go_enter func137,ntmps137
     go_wp2_with (go_at_call 165;refine (hF _).mono ?_;rintro e w' ⟨rfl,hw⟩;have hw:=hw.symm;subst hw)
     repeat (go_quiet (fail);go_wp2_with fail)
     go_ret
     refine⟨rfl,?_⟩
     repeat (first | with_reducible refine below_drewN ?_ _ | with_reducible refine Below.drew ?_ | exact HB.out _)
  ·rw[if_pos hC]
   have j1:((c:Int) != (P.c:Int))=true:=by simp;omega
   clear HO HW
   go_enter func137,ntmps137
   go_wp2_with (go_at_call 165;refine (hF _).mono ?_;rintro e w' ⟨rfl,hw⟩;have hw:=hw.symm;subst hw)
   go_quiet (fail)
   go_wp2_with fail
   go_ret
   refine⟨rfl,?_⟩
   repeat (first | with_reducible refine below_drewN ?_ _ | with_reducible refine Below.drew ?_ | exact HB.out _)
end Go.Proofs.YtenilkloffnjlaaGreat
