/- Part 15: contracts that the proof rests on. -/
import Derived.Test.YtdpahjfekoikiaaGreatPkX13
set_option maxHeartbeats 64000000
set_option maxRecDepth 100000
namespace Go.Proofs.YtdpahjfekoikiaaGreat
open Tryz
open Go.RowKit
theorem oU (d m g n mx:Nat) (P:Pm) (U:List Nat) (s:Sd) (c ss num fl:Nat) (a:Option Addr) (len cap:Nat) (bs:Nat→Nat) (w:World) (h:DV w d m g n mx P U s) (hr:Row8 w a len cap bs) (ha:∀ x,a=some x→x.block<w.heap.size∧x.block ∉ U) (hfl:fl<16) (hsn:s.st=4→s.sn+1<4294967296) (hs:s.st≠6) (ho:s.od<4) (hL:s.L.length<800000) (ht:s.ms.t<9223372036854774000) :
  Calls prog 114 #[aa d 0,.agg #[.int .i64 (1:Nat),.int .u32 (c:Nat),.int .u32 (ss:Nat),.int .u32 (num:Nat),.int .i64 (fl:Nat),.slice a len cap]] w fun e w'=>∃ v,e=.returned (.tuple #[v,.int .i64 (aw P mx n s 1 ss num fl len bs).e])∧Hid (Out U w w' d m g n mx P (aw P mx n s 1 ss num fl len bs).s (aw P mx n s 1 ss num fl len bs).f v):=by
 have b0:Below w.heap.size w (w.alloc (.cells #[.int .i64 (1:Nat),.int .u32 (c:Nat),.int .u32 (ss:Nat),.int .u32 (num:Nat),.int .i64 (fl:Nat),.slice a len cap] 103)):=(Below.refl _ _).alloc (Nat.le_refl _) _
 have hW:∀ wx,Below w.heap.size w wx→Calls prog 145 #[aa d 0,.slice a len cap] wx fun e w'=>∃ v,e=.returned (.tuple #[v,.int .i64 (if au P len bs=true then bk P mx n s else aA P s 91).e])∧Hid (Out U w w' d m g n mx P (if au P len bs=true then bk P mx n s else aA P s 91).s (if au P len bs=true then bk P mx n s else aA P s 91).f v):=by
  intro wx hb
  refine (rE d m g n mx P U s a len cap bs wx (DV.below h hb) (hr.below hb) hs ho hL ht).mono ?_
  rintro e w' ⟨v,rfl,h5⟩
  exact⟨v,rfl,Out.pre (Gr.below hb) h5.out⟩
 have HU:Hid (_):=And.intro hr (And.intro ha (And.intro hfl (And.intro hsn (And.intro ho (And.intro hL (And.intro ht hs))))))
 clear HU
 obtain⟨B,x⟩:=h
 have hdl:=x.dlt
 have hdn:¬ d=w.heap.size:=by omega
 have hdn':¬ w.heap.size=d:=fun e=>hdn e.symm
 have c4:=x.cells.2.2.2.2.1
 have c1:=x.cells.2.1
 have c11:=x.cells.2.2.2.2.2.2.2.2.2.2.2.1
 have c12:=x.cells.2.2.2.2.2.2.2.2.2.2.2.2.1
 have c13:=x.cells.2.2.2.2.2.2.2.2.2.2.2.2.2.1
 have HB:Hid (_):=b0
 clear hr ha x b0 ho hL ht hfl hsn
 unfold aw
 by_cases hown:ss=s.ss
 ·subst hown
  by_cases h4:s.st=4
  ·rw[h4]at c11
   by_cases hn:s.nm<num
   ·have hn1:(s.nm:Int) < (num:Int):=by omega
    rw[if_pos rfl]
    generalize (if au P len bs=true then bk P mx n s else aA P s 91)=R at *
    go_enter func114,ntmps114
    go_wp2_with fail
    repeat (go_quiet (fail);go_wp2_with fail)
    refine (hW _ (by repeat (first | exact HB.out | refine below_drewN ?_ _ | refine Below.drew ?_))).mono ?_
    rintro e w5 ⟨v,rfl,h5⟩
    clear hW
    go_wp2_with fail
    go_ret2
    exact⟨v,rfl,h5⟩
   ·have hn1:¬ (s.nm:Int) < (num:Int):=by omega
    rw[if_pos rfl]
    generalize (if au P len bs=true then bk P mx n s else aA P s 91)=R at *
    go_enter func114,ntmps114
    go_wp2_with fail
    repeat (go_quiet (fail);go_wp2_with fail)
    refine (hW _ (by repeat (first | exact HB.out | refine below_drewN ?_ _ | refine Below.drew ?_))).mono ?_
    rintro e w5 ⟨v,rfl,h5⟩
    clear hW
    go_wp2_with fail
    go_ret2
    exact⟨v,rfl,h5⟩
  ·have e4:((s.st:Int) == 4)=false:=by simp;omega
   have e4':((s.st:Int)=4)=False:=by simp;omega
   rw[if_pos rfl]
   generalize (if au P len bs=true then bk P mx n s else aA P s 91)=R at *
   go_enter func114,ntmps114
   go_wp2_with fail
   repeat (go_quiet (fail);go_wp2_with fail)
   refine (hW _ (by repeat (first | exact HB.out | refine below_drewN ?_ _ | refine Below.drew ?_))).mono ?_
   rintro e w5 ⟨v,rfl,h5⟩
   clear hW
   go_wp2_with fail
   go_ret2
   exact⟨v,rfl,h5⟩
 ·have e1:((ss:Int) == (s.ss:Int))=false:=by simp;omega
  have e1':((ss:Int)=(s.ss:Int))=False:=by simp;omega
  rw[if_pos rfl]
  generalize (if au P len bs=true then bk P mx n s else aA P s 91)=R at *
  go_enter func114,ntmps114
  go_wp2_with fail
  repeat (go_quiet (fail);go_wp2_with fail)
  refine (hW _ (by repeat (first | exact HB.out | refine below_drewN ?_ _ | refine Below.drew ?_))).mono ?_
  rintro e w5 ⟨v,rfl,h5⟩
  clear hW
  go_wp2_with fail
  go_ret2
  exact⟨v,rfl,h5⟩
theorem oX (d m g n mx:Nat) (P:Pm) (U:List Nat) (s:Sd) (c ss num fl:Nat) (a:Option Addr) (len cap:Nat) (bs:Nat→Nat) (w:World) (h:DV w d m g n mx P U s) (hr:Row8 w a len cap bs) (ha:∀ x,a=some x→x.block<w.heap.size∧x.block ∉ U) (hfl:fl<16) (hsn:s.st=4→s.sn+1<4294967296) (hs:s.st≠6) (ho:s.od<4) (hL:s.L.length<800000) (ht:s.ms.t<9223372036854774000) :
  Calls prog 114 #[aa d 0,.agg #[.int .i64 (2:Nat),.int .u32 (c:Nat),.int .u32 (ss:Nat),.int .u32 (num:Nat),.int .i64 (fl:Nat),.slice a len cap]] w fun e w'=>∃ v,e=.returned (.tuple #[v,.int .i64 (aw P mx n s 2 ss num fl len bs).e])∧Hid (Out U w w' d m g n mx P (aw P mx n s 2 ss num fl len bs).s (aw P mx n s 2 ss num fl len bs).f v):=by
 have b0:Below w.heap.size w (w.alloc (.cells #[.int .i64 (2:Nat),.int .u32 (c:Nat),.int .u32 (ss:Nat),.int .u32 (num:Nat),.int .i64 (fl:Nat),.slice a len cap] 103)):=(Below.refl _ _).alloc (Nat.le_refl _) _
 have hE:∀ wx,Below w.heap.size w wx→Calls prog 146 #[aa d 0,.slice a len cap] wx fun e w'=>∃ v,e=.returned (.tuple #[v,.int .i64 (if au P len bs=true then (⟨aM s,bC P (aM s) 18 0 0 0 (fun _=>0),0⟩:Rs) else aA P s 91).e])∧Hid (Out U w w' d m g n mx P (if au P len bs=true then (⟨aM s,bC P (aM s) 18 0 0 0 (fun _=>0),0⟩:Rs) else aA P s 91).s (if au P len bs=true then (⟨aM s,bC P (aM s) 18 0 0 0 (fun _=>0),0⟩:Rs) else aA P s 91).f v):=by
  intro wx hb
  refine (pP d m g n mx P U s a len cap bs wx (DV.below h hb) (hr.below hb) hs ho hL).mono ?_
  rintro e w' ⟨v,rfl,h5⟩
  exact⟨v,rfl,Out.pre (Gr.below hb) h5.out⟩
 have hR:∀ wx,Below w.heap.size w wx→Calls prog 150 #[aa d 0,.int .i64 130] wx fun e w'=>∃ v,e=.returned (.tuple #[v,.int .i64 130])∧Hid (Out U w w' d m g n mx P (aT s) (fq P (aT s)) v):=by
  intro wx hb
  refine (cO d m g n mx P U s 130 wx (DV.below h hb) hs ho (by omega)).mono ?_
  rintro e w' ⟨v,rfl,h5⟩
  exact⟨v,rfl,Out.pre (Gr.below hb) h5.out⟩
 have HU:Hid (_):=And.intro hr (And.intro ha (And.intro hfl (And.intro hsn (And.intro ho (And.intro hL (And.intro ht hs))))))
 clear HU
 obtain⟨B,x⟩:=h
 have hdl:=x.dlt
 have hdn:¬ d=w.heap.size:=by omega
 have hdn':¬ w.heap.size=d:=fun e=>hdn e.symm
 have c4:=x.cells.2.2.2.2.1
 have c1:=x.cells.2.1
 have c11:=x.cells.2.2.2.2.2.2.2.2.2.2.2.1
 have c12:=x.cells.2.2.2.2.2.2.2.2.2.2.2.2.1
 have c13:=x.cells.2.2.2.2.2.2.2.2.2.2.2.2.2.1
 have HB:Hid (_):=b0
 clear hr ha x b0 ho hL ht hfl hsn
 unfold aw
 by_cases hown:ss=s.ss
 ·subst hown
  by_cases h4:s.st=4
  ·rw[h4]at c11
   by_cases hn:s.nm<num
   ·have hn1:(s.nm:Int) < (num:Int):=by omega
    rw[if_neg (by omega),if_neg (by omega),if_neg (by omega),if_neg (by omega),if_neg (by omega)]
    go_enter func114,ntmps114
    go_wp2_with fail
    repeat (go_quiet (fail);go_wp2_with fail)
    refine (hR _ (by repeat (first | exact HB.out | refine below_drewN ?_ _ | refine Below.drew ?_))).mono ?_
    rintro e w5 ⟨v,rfl,h5⟩
    clear hE hR
    go_wp2_with fail
    go_ret2
    exact⟨v,rfl,h5⟩
   ·have hn1:¬ (s.nm:Int) < (num:Int):=by omega
    rw[if_neg (by omega),if_neg (by omega),if_neg (by omega),if_neg (by omega),if_neg (by omega)]
    go_enter func114,ntmps114
    go_wp2_with fail
    repeat (go_quiet (fail);go_wp2_with fail)
    refine (hR _ (by repeat (first | exact HB.out | refine below_drewN ?_ _ | refine Below.drew ?_))).mono ?_
    rintro e w5 ⟨v,rfl,h5⟩
    clear hE hR
    go_wp2_with fail
    go_ret2
    exact⟨v,rfl,h5⟩
  ·have e4:((s.st:Int) == 4)=false:=by simp;omega
   have e4':((s.st:Int)=4)=False:=by simp;omega
   by_cases h2:s.st=2
   ·rw[if_neg (by omega),if_pos (by omega)]
    generalize (if au P len bs=true then (⟨aM s,bC P (aM s) 18 0 0 0 (fun _=>0),0⟩:Rs) else aA P s 91)=R at *
    rw[h2]at c11 e4 e4'
    go_enter func114,ntmps114
    go_wp2_with fail
    repeat (go_quiet (fail);go_wp2_with fail)
    refine (hE _ (by repeat (first | exact HB.out | refine below_drewN ?_ _ | refine Below.drew ?_))).mono ?_
    rintro e w5 ⟨v,rfl,h5⟩
    clear hE hR
    go_wp2_with fail
    go_ret2
    exact⟨v,rfl,h5⟩
   ·by_cases h3:s.st=3
    ·rw[if_neg (by omega),if_pos (by omega)]
     generalize (if au P len bs=true then (⟨aM s,bC P (aM s) 18 0 0 0 (fun _=>0),0⟩:Rs) else aA P s 91)=R at *
     rw[h3]at c11 e4 e4'
     go_enter func114,ntmps114
     go_wp2_with fail
     repeat (go_quiet (fail);go_wp2_with fail)
     refine (hE _ (by repeat (first | exact HB.out | refine below_drewN ?_ _ | refine Below.drew ?_))).mono ?_
     rintro e w5 ⟨v,rfl,h5⟩
     clear hE hR
     go_wp2_with fail
     go_ret2
     exact⟨v,rfl,h5⟩
    ·have e2:((s.st:Int) == 2)=false:=by simp;omega
     have e2':((s.st:Int)=2)=False:=by simp;omega
     have e3:((s.st:Int) == 3)=false:=by simp;omega
     have e3':((s.st:Int)=3)=False:=by simp;omega
     rw[if_neg (by omega),if_neg (by omega),if_neg (by omega),if_neg (by omega),if_neg (by omega)]
     go_enter func114,ntmps114
     go_wp2_with fail
     repeat (go_quiet (fail);go_wp2_with fail)
     refine (hR _ (by repeat (first | exact HB.out | refine below_drewN ?_ _ | refine Below.drew ?_))).mono ?_
     rintro e w5 ⟨v,rfl,h5⟩
     clear hE hR
     go_wp2_with fail
     go_ret2
     exact⟨v,rfl,h5⟩
 ·have e1:((ss:Int) == (s.ss:Int))=false:=by simp;omega
  have e1':((ss:Int)=(s.ss:Int))=False:=by simp;omega
  rw[if_neg (by omega),if_neg (by omega),if_neg (by omega),if_neg (by omega),if_neg (by omega)]
  go_enter func114,ntmps114
  go_wp2_with fail
  repeat (go_quiet (fail);go_wp2_with fail)
  refine (hR _ (by repeat (first | exact HB.out | refine below_drewN ?_ _ | refine Below.drew ?_))).mono ?_
  rintro e w5 ⟨v,rfl,h5⟩
  clear hE hR
  go_wp2_with fail
  go_ret2
  exact⟨v,rfl,h5⟩
end Go.Proofs.YtdpahjfekoikiaaGreat
