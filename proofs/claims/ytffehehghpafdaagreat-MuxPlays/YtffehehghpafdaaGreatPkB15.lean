/- Part 16 of the texts on which the proofs of layer 13 rest: contracts of Go functions. -/
import Derived.Test.YtffehehghpafdaaGreatPkB08
import Derived.Test.YtffehehghpafdaaGreatPkB14
namespace Go.Proofs.YtffehehghpafdaaGreat
set_option maxRecDepth 100000
open Go.RowKit
theorem RW.below {w w':World} {d m g n mx:Nat} {P:Pm} {U:List Nat} {s:Sd} (h:RW w d m g n mx P U s) (hb:Below w.heap.size w w'):RW w' d m g n mx P U s:=by
 obtain⟨B,h⟩:=h
 exact⟨B,h.newd (Off.of_below hb)⟩
theorem RW.ult {w:World} {d m g n mx:Nat} {P:Pm} {U:List Nat} {s:Sd} (h:RW w d m g n mx P U s) (k:Nat) (hk:k ∈ U):k<w.heap.size:=by
 obtain⟨B,h⟩:=h
 exact h.ltU k hk
def dover (s:Sd):Bool:=dbusy s && decide (4≤s.od+1)
set_option maxHeartbeats 3200000 in
theorem rstrange_any (d m g n mx:Nat) (P:Pm) (U:List Nat) (s:Sd) (w:World) (h:RW w d m g n mx P U s) (hs:s.st≠6) (ho:s.od<4) (hL:s.L.length<900000) :
  Calls Tryz.prog 119 #[.pointer (some ⟨d,0,none⟩)] w fun e w'=>e=.returned (.bool (dover s))∧Hid (∃ U',Gr U w U' w'∧RW w' d m g n mx P U' (dodd s)):=by
 obtain⟨B,h⟩:=h
 have c18:w.cell? ⟨d,18,none⟩=some (.int .i64 (s.st:Nat)):=cell_of_row w d 18 _ _ _ h.dev
 have c22:w.cell? ⟨d,22,none⟩=some (.int .i64 (s.od:Nat)):=cell_of_row w d 22 _ _ _ h.dev
 have z22:=h.fz 22
 have hI:=rbusy_any d s.st w c18
 unfold dodd dover
 by_cases hb:dbusy s=true
 ·rw[if_pos hb,hb]
  rw[show decide (s.st=2∨s.st=3∨s.st=4)=true from hb]at hI
  obtain⟨od1,hod⟩:∃ k,s.od+1=k:=⟨_,rfl⟩
  rw[hod]
  have e1:(w.setCell ⟨d,22,none⟩ (.int .i64 (od1:Nat))).heap[d]?=some (.cells (RDC P m mx B.cp B.lv B.vv { s with od:=od1 } B.av) 60 (0,0)):=heap_setCell_same _ _ _ _ _ _ h.dev
  have o1:=Off.setCell d 22 w (.int .i64 (od1:Nat))
  have x1:=h.own (A':=s.st≠6) (s':={ s with od:=od1 }) o1 e1 rfl ⟨rfl,rfl⟩ rfl rfl h.vok h.dcl id
  have g1:Gr U w U (w.setCell ⟨d,22,none⟩ (.int .i64 (od1:Nat))):=Gr.same o1 (by simp[h.kd.2])
  have i1:(s.od:Int)+1=(od1:Int):=by omega
  clear hod
  by_cases h4:od1<4
  ·rw[if_pos h4,decide_eq_false (by omega)]
   have h4':(od1:Int)<4:=by omega
   have H:Hid (_):=And.intro g1 x1
   clear h hb o1 x1 g1 hL h4 hs e1
   go_enter Tryz.func119,Tryz.ntmps119
   go_wp2_with (go_at_call 180;refine hI.mono ?_;rintro e w' ⟨rfl,hw⟩;have hw:=hw.symm;subst hw)
   go_ret
   exact⟨rfl,U,H.out.1,B,H.out.2⟩
  ·rw[if_neg h4,decide_eq_true (by omega)]
   have h4':¬ (od1:Int)<4:=by omega
   by_cases hr:s.st=4
   ·rw[if_pos hr]
    have hT:=rvlatch_any d m g n mx P U { s with od:=od1 } 131 _ ⟨B,x1⟩ (by omega) hL
    rw[hr]at c18
    have H:Hid (_):=g1
    have HS:Hid (_):=hs
    clear h hb o1 x1 g1 hL h4 hs e1
    go_enter Tryz.func119,Tryz.ntmps119
    go_wp2_with (first | (go_at_call 180;refine hI.mono ?_;rintro e w' ⟨rfl,hw⟩;have hw:=hw.symm;subst hw) | (go_at_call 60;refine hT.mono ?_;rintro e w2 ⟨rfl,h2⟩))
    obtain⟨U2,g2,x2⟩:=h2.out
    have hV:=rvleave_any d m g n mx P U2 _ 1 w2 x2 (by rw[dlatch_st];exact HS.out)
    have H2:Hid (_):=H.out.trans g2
    clear hT hI h2 g2 x2 c18 c22 z22 H HS
    go_wp2_with (go_at_call 183;refine hV.mono ?_;rintro e w3 ⟨rfl,h3⟩)
    go_ret
    obtain⟨U3,g3,x3⟩:=h3.out
    exact⟨rfl,U3,H2.out.trans g3,x3⟩
   ·rw[if_neg hr]
    have hr':(((s.st:Nat):Int) == 4)=false:=by simp;omega
    have hV:=rvleave_any d m g n mx P U { s with od:=od1 } 1 _ ⟨B,x1⟩ hs
    have H:Hid (_):=g1
    clear h hb o1 x1 g1 hL h4 hr hs e1
    go_enter Tryz.func119,Tryz.ntmps119
    go_wp2_with (first | (go_at_call 180;refine hI.mono ?_;rintro e w' ⟨rfl,hw⟩;have hw:=hw.symm;subst hw) | (go_at_call 183;refine hV.mono ?_;rintro e w3 ⟨rfl,h3⟩))
    go_ret
    obtain⟨U3,g3,x3⟩:=h3.out
    exact⟨rfl,U3,H.out.trans g3,x3⟩
 ·have hb':dbusy s=false:=by simpa using hb
  rw[if_neg hb,hb']
  rw[show decide (s.st=2∨s.st=3∨s.st=4)=false from hb']at hI
  have H:Hid (_):=h
  clear h hb hb' c22 z22
  go_enter Tryz.func119,Tryz.ntmps119
  go_wp2_with (go_at_call 180;refine hI.mono ?_;rintro e w' ⟨rfl,hw⟩;have hw:=hw.symm;subst hw)
  go_ret
  exact⟨rfl,U,Gr.refl _ _,B,H.out⟩
set_option maxHeartbeats 3200000 in
theorem ranswer_any (d m g n mx:Nat) (P:Pm) (U:List Nat) (s:Sd) (k num fl:Nat) (a:Option Addr) (len cap:Nat) (bs:Nat→Nat) (w:World) (h:RW w d m g n mx P U s) (hr:Row8 w a len cap bs) (hss:s.ss<4294967296) (hnum:num<4294967296) :
  Calls Tryz.prog 122 #[.pointer (some ⟨d,0,none⟩),.int .i64 (k:Nat),.int .u32 (num:Nat),.int .i64 (fl:Nat),.slice a len cap] w fun e w'=>∃ v,e=.returned v∧Hid (Fr w' w.heap.size v (dsay P s k num fl len bs)∧Below w.heap.size w w'):=by
 obtain⟨B,h⟩:=h
 have c0:w.cell? ⟨d,0,none⟩=some (.int .u32 (P.c:Nat)):=cell_of_row w d 0 _ _ _ h.dev
 have c19:w.cell? ⟨d,19,none⟩=some (.int .u32 (s.ss:Nat)):=cell_of_row w d 19 _ _ _ h.dev
 have fin:Calls Tryz.prog 105 #[.agg #[.int .i64 (k:Nat),.int .u32 (P.c:Nat),.int .u32 (s.ss:Nat),.int .u32 (num:Nat),.int .i64 (fl:Nat),.slice a len cap]] w.drew fun e w'=>∃ v E,e=.returned (.tuple #[v,.int .i64 E])∧Hid (Fr w' w.heap.size v (dsay P s k num fl len bs)∧Below w.heap.size w w'):=by
  have b0:Below w.heap.size w w.drew:=Below.drew (Below.refl _ _)
  unfold dsay encF
  by_cases hE:LW k P.c s.ss num fl len len=0
  ·rw[if_pos hE]
   refine (refEncode_good k P.c s.ss num fl a len cap bs w.drew (hr.below b0) h.pok.c hss hnum hE).mono ?_
   rintro e w' ⟨v,rfl,h4⟩
   exact⟨v,0,rfl,h4.out.1,b0.trans h4.out.2⟩
  ·rw[if_neg hE]
   refine (refEncode_bad k P.c s.ss num fl a len cap w.drew hE).mono ?_
   rintro e w' ⟨rfl,h4⟩
   exact⟨_,_,rfl,own_nil _ _ _,b0.trans h4⟩
 clear h hr hss hnum
 go_enter Tryz.func122,Tryz.ntmps122
 go_wp2_with fail
 go_region_with (go_at_call 105;refine fin.mono ?_;rintro e w3 ⟨v,E,rfl,h3⟩)
 all_goals
  clear fin
  go_wp2_with fail
  go_ret
  exact⟨v,rfl,h3⟩
end Go.Proofs.YtffehehghpafdaaGreat
