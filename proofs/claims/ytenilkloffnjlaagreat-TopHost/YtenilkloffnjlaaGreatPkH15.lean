/- Part 16: contracts that the proof rests on. -/
import Derived.Test.YtenilkloffnjlaaGreatPkH14
set_option maxHeartbeats 64000000
set_option maxRecDepth 100000
namespace Go.Proofs.YtenilkloffnjlaaGreat
open Tryz
open Go.RowKit
theorem us (d m g n mx:Nat) (P:Pm) (U:List Nat) (s:Sd) (c ss num fl:Nat) (a:Option Addr) (len cap:Nat) (bs:Nat→Nat) (w:World) (h:DV w d m g n mx P U s) (hr:Row8 w a len cap bs) (ha:∀ x,a=some x→x.block<w.heap.size∧x.block ∉ U) (hfl:fl<16) (hsn:s.st=4→s.sn+1<4294967296) (hs:s.st≠6) (ho:s.od<4) (hL:s.L.length<800000) (ht:s.ms.t<9223372036854774000) :
  Calls prog 174 #[ac d 0,.agg #[.int .i64 (1:Nat),.int .u32 (c:Nat),.int .u32 (ss:Nat),.int .u32 (num:Nat),.int .i64 (fl:Nat),.slice a len cap]] w fun e w'=>∃ v,e=.returned (.tuple #[v,.int .i64 (bc P mx n s 1 ss num fl len bs).e])∧Hid (Out U w w' d m g n mx P (bc P mx n s 1 ss num fl len bs).s (bc P mx n s 1 ss num fl len bs).f v):=by
 have b0:Below w.heap.size w (w.alloc (.cells #[.int .i64 (1:Nat),.int .u32 (c:Nat),.int .u32 (ss:Nat),.int .u32 (num:Nat),.int .i64 (fl:Nat),.slice a len cap] 50)):=(Below.refl _ _).alloc (Nat.le_refl _) _
 have hW:∀ wx,Below w.heap.size w wx→Calls prog 205 #[ac d 0,.slice a len cap] wx fun e w'=>∃ v,e=.returned (.tuple #[v,.int .i64 (if aX P len bs=true then cj P mx n s else aW P s 91).e])∧Hid (Out U w w' d m g n mx P (if aX P len bs=true then cj P mx n s else aW P s 91).s (if aX P len bs=true then cj P mx n s else aW P s 91).f v):=by
  intro wx hb
  refine (xB d m g n mx P U s a len cap bs wx (DV.below h hb) (hr.below hb) hs ho hL ht).mono ?_
  rintro e w' ⟨v,rfl,h5⟩
  exact⟨v,rfl,Out.pre (Gr.below hb) h5.out⟩
 have HU:Hid (_):=And.intro hr (And.intro ha (And.intro hfl (And.intro hsn (And.intro ho (And.intro hL (And.intro ht hs))))))
 clear HU
 obtain⟨B,x⟩:=h
 have hdl:=x.dlt
 have hdn:¬ d=w.heap.size:=by omega
 have hdn':¬ w.heap.size=d:=fun e=>hdn e.symm
 have c4:=x.cells.2.2.2.2.1
 have c1:=x.cells.2.1
 have c11:=x.cells.2.2.2.2.2.2.2.2.2.2.2.1
 have c12:=x.cells.2.2.2.2.2.2.2.2.2.2.2.2.1
 have c13:=x.cells.2.2.2.2.2.2.2.2.2.2.2.2.2.1
 have HB:Hid (_):=b0
 clear hr ha x b0 ho hL ht hfl hsn
 unfold bc
 by_cases hown:ss=s.ss
 ·subst hown
  by_cases h4:s.st=4
  ·rw[h4]at c11
   by_cases hn:s.nm<num
   ·have hn1:(s.nm:Int) < (num:Int):=by omega
    rw[if_pos rfl]
    generalize (if aX P len bs=true then cj P mx n s else aW P s 91)=R at *
    go_enter func174,ntmps174
    go_wp2_with fail
    repeat (go_quiet (fail);go_wp2_with fail)
    refine (hW _ (by repeat (first | exact HB.out | refine below_drewN ?_ _ | refine Below.drew ?_))).mono ?_
    rintro e w5 ⟨v,rfl,h5⟩
    clear hW
    go_wp2_with fail
    go_ret2
    exact⟨v,rfl,h5⟩
   ·have hn1:¬ (s.nm:Int) < (num:Int):=by omega
    rw[if_pos rfl]
    generalize (if aX P len bs=true then cj P mx n s else aW P s 91)=R at *
    go_enter func174,ntmps174
    go_wp2_with fail
    repeat (go_quiet (fail);go_wp2_with fail)
    refine (hW _ (by repeat (first | exact HB.out | refine below_drewN ?_ _ | refine Below.drew ?_))).mono ?_
    rintro e w5 ⟨v,rfl,h5⟩
    clear hW
    go_wp2_with fail
    go_ret2
    exact⟨v,rfl,h5⟩
  ·have e4:((s.st:Int) == 4)=false:=by simp;omega
   have e4':((s.st:Int)=4)=False:=by simp;omega
   rw[if_pos rfl]
   generalize (if aX P len bs=true then cj P mx n s else aW P s 91)=R at *
   go_enter func174,ntmps174
   go_wp2_with fail
   repeat (go_quiet (fail);go_wp2_with fail)
   refine (hW _ (by repeat (first | exact HB.out | refine below_drewN ?_ _ | refine Below.drew ?_))).mono ?_
   rintro e w5 ⟨v,rfl,h5⟩
   clear hW
   go_wp2_with fail
   go_ret2
   exact⟨v,rfl,h5⟩
 ·have e1:((ss:Int) == (s.ss:Int))=false:=by simp;omega
  have e1':((ss:Int)=(s.ss:Int))=False:=by simp;omega
  rw[if_pos rfl]
  generalize (if aX P len bs=true then cj P mx n s else aW P s 91)=R at *
  go_enter func174,ntmps174
  go_wp2_with fail
  repeat (go_quiet (fail);go_wp2_with fail)
  refine (hW _ (by repeat (first | exact HB.out | refine below_drewN ?_ _ | refine Below.drew ?_))).mono ?_
  rintro e w5 ⟨v,rfl,h5⟩
  clear hW
  go_wp2_with fail
  go_ret2
  exact⟨v,rfl,h5⟩
end Go.Proofs.YtenilkloffnjlaaGreat
