/- Part 15 of the texts on which the proofs of layer 13 rest: contracts of Go functions. -/
import Derived.OpenShut
import Derived.Deep.RegionWith
import Derived.Test.YthbogkaoidbpgaaGreatPkB04
import Derived.Test.YthbogkaoidbpgaaGreatPkB07
import Derived.Test.YthbogkaoidbpgaaGreatPkB08
import Derived.Test.YthbogkaoidbpgaaGreatPkB13
namespace Go.Proofs.YthbogkaoidbpgaaGreat
set_option maxRecDepth 100000
open Go.RowKit
theorem RW.below {w w':World} {d m g n mx:Nat} {P:Pm} {U:List Nat} {s:Sd} (h:RW w d m g n mx P U s) (hb:Below w.heap.size w w'):RW w' d m g n mx P U s:=by
 obtain⟨B,h⟩:=h
 exact⟨B,h.newd (Off.of_below hb)⟩
theorem RW.ult {w:World} {d m g n mx:Nat} {P:Pm} {U:List Nat} {s:Sd} (h:RW w d m g n mx P U s) (k:Nat) (hk:k ∈ U):k<w.heap.size:=by
 obtain⟨B,h⟩:=h
 exact h.ltU k hk
def dover (s:Sd):Bool:=dbusy s && decide (4≤s.od+1)
set_option maxHeartbeats 3200000 in
theorem rstrange_any (d m g n mx:Nat) (P:Pm) (U:List Nat) (s:Sd) (w:World) (h:RW w d m g n mx P U s) (hs:s.st≠6) (ho:s.od<4) (hL:s.L.length<900000) :
  Calls Tryz.prog 95 #[.pointer (some ⟨d,0,none⟩)] w fun e w'=>e=.returned (.bool (dover s))∧Hid (∃ U',Gr U w U' w'∧RW w' d m g n mx P U' (dodd s)):=by
 obtain⟨B,h⟩:=h
 have c18:w.cell? ⟨d,18,none⟩=some (.int .i64 (s.st:Nat)):=cell_of_row w d 18 _ _ _ h.dev
 have c22:w.cell? ⟨d,22,none⟩=some (.int .i64 (s.od:Nat)):=cell_of_row w d 22 _ _ _ h.dev
 have z22:=h.fz 22
 have hI:=rbusy_any d s.st w c18
 unfold dodd dover
 by_cases hb:dbusy s=true
 ·rw[if_pos hb,hb]
  rw[show decide (s.st=2∨s.st=3∨s.st=4)=true from hb]at hI
  obtain⟨od1,hod⟩:∃ k,s.od+1=k:=⟨_,rfl⟩
  rw[hod]
  have e1:(w.setCell ⟨d,22,none⟩ (.int .i64 (od1:Nat))).heap[d]?=some (.cells (RDC P m mx B.cp B.lv B.vv { s with od:=od1 } B.av) 54 (0,0)):=heap_setCell_same _ _ _ _ _ _ h.dev
  have o1:=Off.setCell d 22 w (.int .i64 (od1:Nat))
  have x1:=h.own (A':=s.st≠6) (s':={ s with od:=od1 }) o1 e1 rfl ⟨rfl,rfl⟩ rfl rfl h.vok h.dcl id
  have g1:Gr U w U (w.setCell ⟨d,22,none⟩ (.int .i64 (od1:Nat))):=Gr.same o1 (by simp[h.kd.2])
  have i1:(s.od:Int)+1=(od1:Int):=by omega
  clear hod
  by_cases h4:od1<4
  ·rw[if_pos h4,decide_eq_false (by omega)]
   have h4':(od1:Int)<4:=by omega
   have H:Hid (_):=And.intro g1 x1
   clear h hb o1 x1 g1 hL h4 hs e1
   go_enter Tryz.func95,Tryz.ntmps95
   go_wp2_with (go_at_call 154;refine hI.mono ?_;rintro e w' ⟨rfl,hw⟩;have hw:=hw.symm;subst hw)
   go_ret
   exact⟨rfl,U,H.out.1,B,H.out.2⟩
  ·rw[if_neg h4,decide_eq_true (by omega)]
   have h4':¬ (od1:Int)<4:=by omega
   by_cases hr:s.st=4
   ·rw[if_pos hr]
    have hT:=rvlatch_any d m g n mx P U { s with od:=od1 } 131 _ ⟨B,x1⟩ (by omega) hL
    rw[hr]at c18
    have H:Hid (_):=g1
    have HS:Hid (_):=hs
    clear h hb o1 x1 g1 hL h4 hs e1
    go_enter Tryz.func95,Tryz.ntmps95
    go_wp2_with (first | (go_at_call 154;refine hI.mono ?_;rintro e w' ⟨rfl,hw⟩;have hw:=hw.symm;subst hw) | (go_at_call 44;refine hT.mono ?_;rintro e w2 ⟨rfl,h2⟩))
    obtain⟨U2,g2,x2⟩:=h2.out
    have hV:=rvleave_any d m g n mx P U2 _ 1 w2 x2 (by rw[dlatch_st];exact HS.out)
    have H2:Hid (_):=H.out.trans g2
    clear hT hI h2 g2 x2 c18 c22 z22 H HS
    go_wp2_with (go_at_call 157;refine hV.mono ?_;rintro e w3 ⟨rfl,h3⟩)
    go_ret
    obtain⟨U3,g3,x3⟩:=h3.out
    exact⟨rfl,U3,H2.out.trans g3,x3⟩
   ·rw[if_neg hr]
    have hr':(((s.st:Nat):Int) == 4)=false:=by simp;omega
    have hV:=rvleave_any d m g n mx P U { s with od:=od1 } 1 _ ⟨B,x1⟩ hs
    have H:Hid (_):=g1
    clear h hb o1 x1 g1 hL h4 hr hs e1
    go_enter Tryz.func95,Tryz.ntmps95
    go_wp2_with (first | (go_at_call 154;refine hI.mono ?_;rintro e w' ⟨rfl,hw⟩;have hw:=hw.symm;subst hw) | (go_at_call 157;refine hV.mono ?_;rintro e w3 ⟨rfl,h3⟩))
    go_ret
    obtain⟨U3,g3,x3⟩:=h3.out
    exact⟨rfl,U3,H.out.trans g3,x3⟩
 ·have hb':dbusy s=false:=by simpa using hb
  rw[if_neg hb,hb']
  rw[show decide (s.st=2∨s.st=3∨s.st=4)=false from hb']at hI
  have H:Hid (_):=h
  clear h hb hb' c22 z22
  go_enter Tryz.func95,Tryz.ntmps95
  go_wp2_with (go_at_call 154;refine hI.mono ?_;rintro e w' ⟨rfl,hw⟩;have hw:=hw.symm;subst hw)
  go_ret
  exact⟨rfl,U,Gr.refl _ _,B,H.out⟩
set_option maxHeartbeats 3200000 in
theorem ranswer_any (d m g n mx:Nat) (P:Pm) (U:List Nat) (s:Sd) (k num fl:Nat) (a:Option Addr) (len cap:Nat) (bs:Nat→Nat) (w:World) (h:RW w d m g n mx P U s) (hr:Row8 w a len cap bs) (hss:s.ss<4294967296) (hnum:num<4294967296) :
  Calls Tryz.prog 98 #[.pointer (some ⟨d,0,none⟩),.int .i64 (k:Nat),.int .u32 (num:Nat),.int .i64 (fl:Nat),.slice a len cap] w fun e w'=>∃ v,e=.returned v∧Hid (Fr w' w.heap.size v (dsay P s k num fl len bs)∧Below w.heap.size w w'):=by
 obtain⟨B,h⟩:=h
 have c0:w.cell? ⟨d,0,none⟩=some (.int .u32 (P.c:Nat)):=cell_of_row w d 0 _ _ _ h.dev
 have c19:w.cell? ⟨d,19,none⟩=some (.int .u32 (s.ss:Nat)):=cell_of_row w d 19 _ _ _ h.dev
 have fin:Calls Tryz.prog 81 #[.agg #[.int .i64 (k:Nat),.int .u32 (P.c:Nat),.int .u32 (s.ss:Nat),.int .u32 (num:Nat),.int .i64 (fl:Nat),.slice a len cap]] w.drew fun e w'=>∃ v E,e=.returned (.tuple #[v,.int .i64 E])∧Hid (Fr w' w.heap.size v (dsay P s k num fl len bs)∧Below w.heap.size w w'):=by
  have b0:Below w.heap.size w w.drew:=Below.drew (Below.refl _ _)
  unfold dsay encF
  by_cases hE:LW k P.c s.ss num fl len len=0
  ·rw[if_pos hE]
   refine (refEncode_good k P.c s.ss num fl a len cap bs w.drew (hr.below b0) h.pok.c hss hnum hE).mono ?_
   rintro e w' ⟨v,rfl,h4⟩
   exact⟨v,0,rfl,h4.out.1,b0.trans h4.out.2⟩
  ·rw[if_neg hE]
   refine (refEncode_bad k P.c s.ss num fl a len cap w.drew hE).mono ?_
   rintro e w' ⟨rfl,h4⟩
   exact⟨_,_,rfl,own_nil _ _ _,b0.trans h4⟩
 clear h hr hss hnum
 go_enter Tryz.func98,Tryz.ntmps98
 go_wp2_with fail
 go_region_with (go_at_call 81;refine fin.mono ?_;rintro e w3 ⟨v,E,rfl,h3⟩)
 all_goals
  clear fin
  go_wp2_with fail
  go_ret
  exact⟨v,rfl,h3⟩
theorem life14 {w:World} {d m mx k:Nat} {P:Pm} {s:Sd} {B:Bk2} (h:w.heap[d]?=some (.cells (RDC P m mx B.cp B.lv B.vv s B.av) 54 (0,0))) :
  ((((((((((((((w.setCell ⟨d,9,none⟩ (.int .i64 (P.t:Nat))).setCell ⟨d,10,none⟩ (.int .i64 0)).setCell ⟨d,11,none⟩ (.int .i64 (P.o:Nat))).setCell ⟨d,12,none⟩ (.bool false)).setCell ⟨d,13,none⟩ (.bool false)).setCell ⟨d,14,none⟩ (.bool false)).setCell ⟨d,15,none⟩ (.int .i64 0)).setCell ⟨d,16,none⟩ (.slice none 0 0)).setCell ⟨d,17,none⟩ (.bool false)).setCell ⟨d,18,none⟩ (.int .i64 (k:Nat))).setCell ⟨d,19,none⟩ (.int .u32 0)).setCell ⟨d,20,none⟩ (.int .u32 0)).setCell ⟨d,21,none⟩ (.int .u32 0)).setCell ⟨d,22,none⟩ (.int .i64 0)).heap[d]?=some (.cells (RDC P m mx B.cp B.lv (.slice none 0 0) { s with v:={ s.v with run:=false,held:=false,fr:=false,lat:=0,sm:=false },dc:=0,st:=k,ss:=0,nm:=0,sn:=0,od:=0 } B.av) 54 (0,0))∧Off [d] w ((((((((((((((w.setCell ⟨d,9,none⟩ (.int .i64 (P.t:Nat))).setCell ⟨d,10,none⟩ (.int .i64 0)).setCell ⟨d,11,none⟩ (.int .i64 (P.o:Nat))).setCell ⟨d,12,none⟩ (.bool false)).setCell ⟨d,13,none⟩ (.bool false)).setCell ⟨d,14,none⟩ (.bool false)).setCell ⟨d,15,none⟩ (.int .i64 0)).setCell ⟨d,16,none⟩ (.slice none 0 0)).setCell ⟨d,17,none⟩ (.bool false)).setCell ⟨d,18,none⟩ (.int .i64 (k:Nat))).setCell ⟨d,19,none⟩ (.int .u32 0)).setCell ⟨d,20,none⟩ (.int .u32 0)).setCell ⟨d,21,none⟩ (.int .u32 0)).setCell ⟨d,22,none⟩ (.int .i64 0)):=by
 have e0:(w.setCell ⟨d,9,none⟩ (.int .i64 (P.t:Nat))).heap[d]?=some (.cells (RDC P m mx B.cp B.lv B.vv s B.av) 54 (0,0)):=heap_setCell_same _ _ _ _ _ _ h
 have e1:((w.setCell ⟨d,9,none⟩ (.int .i64 (P.t:Nat))).setCell ⟨d,10,none⟩ (.int .i64 0)).heap[d]?=some (.cells (RDC P m mx B.cp B.lv B.vv { s with dc:=0 } B.av) 54 (0,0)):=heap_setCell_same _ _ _ _ _ _ e0
 have e2:(((w.setCell ⟨d,9,none⟩ (.int .i64 (P.t:Nat))).setCell ⟨d,10,none⟩ (.int .i64 0)).setCell ⟨d,11,none⟩ (.int .i64 (P.o:Nat))).heap[d]?=some (.cells (RDC P m mx B.cp B.lv B.vv { s with dc:=0 } B.av) 54 (0,0)):=heap_setCell_same _ _ _ _ _ _ e1
 have e3:((((w.setCell ⟨d,9,none⟩ (.int .i64 (P.t:Nat))).setCell ⟨d,10,none⟩ (.int .i64 0)).setCell ⟨d,11,none⟩ (.int .i64 (P.o:Nat))).setCell ⟨d,12,none⟩ (.bool false)).heap[d]?=some (.cells (RDC P m mx B.cp B.lv B.vv { s with v:={ s.v with run:=false },dc:=0 } B.av) 54 (0,0)):=heap_setCell_same _ _ _ _ _ _ e2
 have e4:(((((w.setCell ⟨d,9,none⟩ (.int .i64 (P.t:Nat))).setCell ⟨d,10,none⟩ (.int .i64 0)).setCell ⟨d,11,none⟩ (.int .i64 (P.o:Nat))).setCell ⟨d,12,none⟩ (.bool false)).setCell ⟨d,13,none⟩ (.bool false)).heap[d]?=some (.cells (RDC P m mx B.cp B.lv B.vv { s with v:={ s.v with run:=false,held:=false },dc:=0 } B.av) 54 (0,0)):=heap_setCell_same _ _ _ _ _ _ e3
 have e5:((((((w.setCell ⟨d,9,none⟩ (.int .i64 (P.t:Nat))).setCell ⟨d,10,none⟩ (.int .i64 0)).setCell ⟨d,11,none⟩ (.int .i64 (P.o:Nat))).setCell ⟨d,12,none⟩ (.bool false)).setCell ⟨d,13,none⟩ (.bool false)).setCell ⟨d,14,none⟩ (.bool false)).heap[d]?=some (.cells (RDC P m mx B.cp B.lv B.vv { s with v:={ s.v with run:=false,held:=false,fr:=false },dc:=0 } B.av) 54 (0,0)):=heap_setCell_same _ _ _ _ _ _ e4
 have e6:(((((((w.setCell ⟨d,9,none⟩ (.int .i64 (P.t:Nat))).setCell ⟨d,10,none⟩ (.int .i64 0)).setCell ⟨d,11,none⟩ (.int .i64 (P.o:Nat))).setCell ⟨d,12,none⟩ (.bool false)).setCell ⟨d,13,none⟩ (.bool false)).setCell ⟨d,14,none⟩ (.bool false)).setCell ⟨d,15,none⟩ (.int .i64 0)).heap[d]?=some (.cells (RDC P m mx B.cp B.lv B.vv { s with v:={ s.v with run:=false,held:=false,fr:=false,lat:=0 },dc:=0 } B.av) 54 (0,0)):=heap_setCell_same _ _ _ _ _ _ e5
 have e7:((((((((w.setCell ⟨d,9,none⟩ (.int .i64 (P.t:Nat))).setCell ⟨d,10,none⟩ (.int .i64 0)).setCell ⟨d,11,none⟩ (.int .i64 (P.o:Nat))).setCell ⟨d,12,none⟩ (.bool false)).setCell ⟨d,13,none⟩ (.bool false)).setCell ⟨d,14,none⟩ (.bool false)).setCell ⟨d,15,none⟩ (.int .i64 0)).setCell ⟨d,16,none⟩ (.slice none 0 0)).heap[d]?=some (.cells (RDC P m mx B.cp B.lv (.slice none 0 0) { s with v:={ s.v with run:=false,held:=false,fr:=false,lat:=0 },dc:=0 } B.av) 54 (0,0)):=heap_setCell_same _ _ _ _ _ _ e6
 have e8:(((((((((w.setCell ⟨d,9,none⟩ (.int .i64 (P.t:Nat))).setCell ⟨d,10,none⟩ (.int .i64 0)).setCell ⟨d,11,none⟩ (.int .i64 (P.o:Nat))).setCell ⟨d,12,none⟩ (.bool false)).setCell ⟨d,13,none⟩ (.bool false)).setCell ⟨d,14,none⟩ (.bool false)).setCell ⟨d,15,none⟩ (.int .i64 0)).setCell ⟨d,16,none⟩ (.slice none 0 0)).setCell ⟨d,17,none⟩ (.bool false)).heap[d]?=some (.cells (RDC P m mx B.cp B.lv (.slice none 0 0) { s with v:={ s.v with run:=false,held:=false,fr:=false,lat:=0,sm:=false },dc:=0 } B.av) 54 (0,0)):=heap_setCell_same _ _ _ _ _ _ e7
 have e9:((((((((((w.setCell ⟨d,9,none⟩ (.int .i64 (P.t:Nat))).setCell ⟨d,10,none⟩ (.int .i64 0)).setCell ⟨d,11,none⟩ (.int .i64 (P.o:Nat))).setCell ⟨d,12,none⟩ (.bool false)).setCell ⟨d,13,none⟩ (.bool false)).setCell ⟨d,14,none⟩ (.bool false)).setCell ⟨d,15,none⟩ (.int .i64 0)).setCell ⟨d,16,none⟩ (.slice none 0 0)).setCell ⟨d,17,none⟩ (.bool false)).setCell ⟨d,18,none⟩ (.int .i64 (k:Nat))).heap[d]?=some (.cells (RDC P m mx B.cp B.lv (.slice none 0 0) { s with v:={ s.v with run:=false,held:=false,fr:=false,lat:=0,sm:=false },dc:=0,st:=k } B.av) 54 (0,0)):=heap_setCell_same _ _ _ _ _ _ e8
 have e10:(((((((((((w.setCell ⟨d,9,none⟩ (.int .i64 (P.t:Nat))).setCell ⟨d,10,none⟩ (.int .i64 0)).setCell ⟨d,11,none⟩ (.int .i64 (P.o:Nat))).setCell ⟨d,12,none⟩ (.bool false)).setCell ⟨d,13,none⟩ (.bool false)).setCell ⟨d,14,none⟩ (.bool false)).setCell ⟨d,15,none⟩ (.int .i64 0)).setCell ⟨d,16,none⟩ (.slice none 0 0)).setCell ⟨d,17,none⟩ (.bool false)).setCell ⟨d,18,none⟩ (.int .i64 (k:Nat))).setCell ⟨d,19,none⟩ (.int .u32 0)).heap[d]?=some (.cells (RDC P m mx B.cp B.lv (.slice none 0 0) { s with v:={ s.v with run:=false,held:=false,fr:=false,lat:=0,sm:=false },dc:=0,st:=k,ss:=0 } B.av) 54 (0,0)):=heap_setCell_same _ _ _ _ _ _ e9
 have e11:((((((((((((w.setCell ⟨d,9,none⟩ (.int .i64 (P.t:Nat))).setCell ⟨d,10,none⟩ (.int .i64 0)).setCell ⟨d,11,none⟩ (.int .i64 (P.o:Nat))).setCell ⟨d,12,none⟩ (.bool false)).setCell ⟨d,13,none⟩ (.bool false)).setCell ⟨d,14,none⟩ (.bool false)).setCell ⟨d,15,none⟩ (.int .i64 0)).setCell ⟨d,16,none⟩ (.slice none 0 0)).setCell ⟨d,17,none⟩ (.bool false)).setCell ⟨d,18,none⟩ (.int .i64 (k:Nat))).setCell ⟨d,19,none⟩ (.int .u32 0)).setCell ⟨d,20,none⟩ (.int .u32 0)).heap[d]?=some (.cells (RDC P m mx B.cp B.lv (.slice none 0 0) { s with v:={ s.v with run:=false,held:=false,fr:=false,lat:=0,sm:=false },dc:=0,st:=k,ss:=0,nm:=0 } B.av) 54 (0,0)):=heap_setCell_same _ _ _ _ _ _ e10
 have e12:(((((((((((((w.setCell ⟨d,9,none⟩ (.int .i64 (P.t:Nat))).setCell ⟨d,10,none⟩ (.int .i64 0)).setCell ⟨d,11,none⟩ (.int .i64 (P.o:Nat))).setCell ⟨d,12,none⟩ (.bool false)).setCell ⟨d,13,none⟩ (.bool false)).setCell ⟨d,14,none⟩ (.bool false)).setCell ⟨d,15,none⟩ (.int .i64 0)).setCell ⟨d,16,none⟩ (.slice none 0 0)).setCell ⟨d,17,none⟩ (.bool false)).setCell ⟨d,18,none⟩ (.int .i64 (k:Nat))).setCell ⟨d,19,none⟩ (.int .u32 0)).setCell ⟨d,20,none⟩ (.int .u32 0)).setCell ⟨d,21,none⟩ (.int .u32 0)).heap[d]?=some (.cells (RDC P m mx B.cp B.lv (.slice none 0 0) { s with v:={ s.v with run:=false,held:=false,fr:=false,lat:=0,sm:=false },dc:=0,st:=k,ss:=0,nm:=0,sn:=0 } B.av) 54 (0,0)):=heap_setCell_same _ _ _ _ _ _ e11
 have e13:((((((((((((((w.setCell ⟨d,9,none⟩ (.int .i64 (P.t:Nat))).setCell ⟨d,10,none⟩ (.int .i64 0)).setCell ⟨d,11,none⟩ (.int .i64 (P.o:Nat))).setCell ⟨d,12,none⟩ (.bool false)).setCell ⟨d,13,none⟩ (.bool false)).setCell ⟨d,14,none⟩ (.bool false)).setCell ⟨d,15,none⟩ (.int .i64 0)).setCell ⟨d,16,none⟩ (.slice none 0 0)).setCell ⟨d,17,none⟩ (.bool false)).setCell ⟨d,18,none⟩ (.int .i64 (k:Nat))).setCell ⟨d,19,none⟩ (.int .u32 0)).setCell ⟨d,20,none⟩ (.int .u32 0)).setCell ⟨d,21,none⟩ (.int .u32 0)).setCell ⟨d,22,none⟩ (.int .i64 0)).heap[d]?=some (.cells (RDC P m mx B.cp B.lv (.slice none 0 0) { s with v:={ s.v with run:=false,held:=false,fr:=false,lat:=0,sm:=false },dc:=0,st:=k,ss:=0,nm:=0,sn:=0,od:=0 } B.av) 54 (0,0)):=heap_setCell_same _ _ _ _ _ _ e12
 exact⟨e13,((((((((((((((Off.setCell d 9 w (.int .i64 (P.t:Nat))).trans (Off.setCell d 10 _ (.int .i64 0))).trans (Off.setCell d 11 _ (.int .i64 (P.o:Nat)))).trans (Off.setCell d 12 _ (.bool false))).trans (Off.setCell d 13 _ (.bool false))).trans (Off.setCell d 14 _ (.bool false))).trans (Off.setCell d 15 _ (.int .i64 0))).trans (Off.setCell d 16 _ (.slice none 0 0))).trans (Off.setCell d 17 _ (.bool false))).trans (Off.setCell d 18 _ (.int .i64 (k:Nat)))).trans (Off.setCell d 19 _ (.int .u32 0))).trans (Off.setCell d 20 _ (.int .u32 0))).trans (Off.setCell d 21 _ (.int .u32 0))).trans (Off.setCell d 22 _ (.int .i64 0)))⟩
theorem RB.lived {w w1 w2 w3:World} {d m g n mx:Nat} {P:Pm} {U:List Nat} {s:Sd} {B:Bk2} {A A':Prop} (h:RB w d m g n mx P U s B A) {k ga:Nat} (q1:Off [d] w w1) (b2:Below w1.heap.size w1 w2) (ho:w2.ownsRow w1.heap.size 5 1 (.slice (some ⟨ga,0,none⟩) P.i P.i) P.i (CB (fun _=>0) P.i)) (q3:Off [d] w2 w3)
  (e:w3.heap[d]?=some (.cells (RDC P m mx B.cp B.lv (.slice none 0 0) (dlife s k) (.slice (some ⟨ga,0,none⟩) P.i P.i)) 54 (0,0))) (h6:A'→A) :
  ∃ U' B',Gr U w U' w3∧RB w3 d m g n mx P U' (dlife s k) B' A':=by
 have s1:=q1.size
 have s2:=b2.size
 have s3:=q3.size
 have hga:=own_far ho ⟨ga,0,none⟩ rfl
 have hgl:ga<w3.heap.size:=Nat.lt_of_lt_of_le hga.2 s3
 have hge:w.heap.size≤ga:=Nat.le_trans s1 hga.1
 have hd:=h.dlt
 have Q:Off [d] w w3:=(q1.trans (Off.of_below b2)).trans q3
 have hn:∀ k,B.col k≠0→k ∉ [d]:=fun k hk hm=>by simp at hm;rw[hm,h.kd.1]at hk;exact hk rfl
 have hq:∀ k x,B.col k=x∧k ∈ U→(if k<w.heap.size then B.col k else 6)=x∧k ∈ ga :: U:=fun k x hk=>⟨by rw[if_pos (h.ltU k hk.2)];exact hk.1,by simp[hk.2]⟩
 refine⟨ga :: U,{ B with vv:=.slice none 0 0,av:=.slice (some ⟨ga,0,none⟩) P.i P.i,col:=fun k=>if k<w.heap.size then B.col k else 6 },⟨Q.more (by simp[h.kd.2]),fun k hk=>?_⟩,?_⟩
 ·simp at hk
  rcases hk with rfl | hk
  ·exact .inr hge
  ·exact .inl hk
 ·refine⟨e,h.mem.off Q (hn _ (by rw[h.km.1];omega)) (hn _ (by rw[h.kg.1];omega)),fun hA=>?_,.inl ⟨rfl,rfl⟩,own_offk h.log Q (fun k hk=>hn _ (by rw[(h.kl k hk).1];omega)),?_,fun _ _=>by show 0<256;omega,Vok.new,Nat.zero_le _,?_,hq _ _ h.kd,hq _ _ h.km,hq _ _ h.kg,hq _ _ h.kc,fun k hk=>hq _ _ (h.kM k hk),fun k hk=>hq _ _ (h.kl k hk),?_,h.pok,h.n10,h.mx0,h.mxl,h.nl⟩
  ·obtain⟨c1,c2,c3⟩:=h.cel (h6 hA)
   exact⟨c1,c2.off Q (hn _ (by rw[h.kc.1];omega)),c3⟩
  ·refine own_offk (own_base ho (Nat.zero_le _)) q3 (fun k hk=>?_)
   cases hk
   simp;omega
  ·intro k hk
   simp at hk
   rcases hk with rfl | hk
   ·exact hgl
   ·exact Nat.lt_of_lt_of_le (h.ltU k hk) Q.size
  ·intro k hk
   cases hk
   exact⟨by show (if ga<w.heap.size then _ else 6)=6;rw[if_neg (by omega)],by simp⟩
set_option maxHeartbeats 6400000 in
theorem rlife_any (d m g n mx:Nat) (P:Pm) (U:List Nat) (s:Sd) (B:Bk2) (A:Prop) (k:Nat) (w:World) (h:RB w d m g n mx P U s B A) :
  Calls Tryz.prog 77 #[.pointer (some ⟨d,0,none⟩),.int .i64 (k:Nat)] w fun e w'=>e=.returned (.tuple #[])∧Hid (∃ U' B',Gr U w U' w'∧RB w' d m g n mx P U' (dlife s k) B' A):=by
 obtain⟨i0,hi,hz0,hz1,hz2⟩:=info_parts info_u8
 have c1:w.cell? ⟨d,1,none⟩=some (.int .i64 (P.o:Nat)):=cell_of_row w d 1 _ _ _ h.dev
 have c2:w.cell? ⟨d,2,none⟩=some (.int .i64 (P.i:Nat)):=cell_of_row w d 2 _ _ _ h.dev
 have c3:w.cell? ⟨d,3,none⟩=some (.int .i64 (P.t:Nat)):=cell_of_row w d 3 _ _ _ h.dev
 have c9:w.cell? ⟨d,9,none⟩=some (.int .i64 (P.t:Nat)):=cell_of_row w d 9 _ _ _ h.dev
 have z9:=h.fz 9
 have c10:w.cell? ⟨d,10,none⟩=some (.int .i64 (s.dc:Nat)):=cell_of_row w d 10 _ _ _ h.dev
 have z10:=h.fz 10
 have c11:w.cell? ⟨d,11,none⟩=some (.int .i64 (P.o:Nat)):=cell_of_row w d 11 _ _ _ h.dev
 have z11:=h.fz 11
 have c12:w.cell? ⟨d,12,none⟩=some (.bool s.v.run):=cell_of_row w d 12 _ _ _ h.dev
 have z12:=h.fz 12
 have c13:w.cell? ⟨d,13,none⟩=some (.bool s.v.held):=cell_of_row w d 13 _ _ _ h.dev
 have z13:=h.fz 13
 have c14:w.cell? ⟨d,14,none⟩=some (.bool s.v.fr):=cell_of_row w d 14 _ _ _ h.dev
 have z14:=h.fz 14
 have c15:w.cell? ⟨d,15,none⟩=some (.int .i64 s.v.lat):=cell_of_row w d 15 _ _ _ h.dev
 have z15:=h.fz 15
 have c16:w.cell? ⟨d,16,none⟩=some (B.vv):=cell_of_row w d 16 _ _ _ h.dev
 have z16:=h.fz 16
 have c17:w.cell? ⟨d,17,none⟩=some (.bool s.v.sm):=cell_of_row w d 17 _ _ _ h.dev
 have z17:=h.fz 17
 have c18:w.cell? ⟨d,18,none⟩=some (.int .i64 (s.st:Nat)):=cell_of_row w d 18 _ _ _ h.dev
 have z18:=h.fz 18
 have c19:w.cell? ⟨d,19,none⟩=some (.int .u32 (s.ss:Nat)):=cell_of_row w d 19 _ _ _ h.dev
 have z19:=h.fz 19
 have c20:w.cell? ⟨d,20,none⟩=some (.int .u32 (s.nm:Nat)):=cell_of_row w d 20 _ _ _ h.dev
 have z20:=h.fz 20
 have c21:w.cell? ⟨d,21,none⟩=some (.int .u32 (s.sn:Nat)):=cell_of_row w d 21 _ _ _ h.dev
 have z21:=h.fz 21
 have c22:w.cell? ⟨d,22,none⟩=some (.int .i64 (s.od:Nat)):=cell_of_row w d 22 _ _ _ h.dev
 have z22:=h.fz 22
 have hi8:=h.pok.i8
 have l14:=life14 (k:=k) h.dev
 have H:Hid (_):=And.intro h l14
 clear h l14
 go_enter Tryz.func77,Tryz.ntmps77
 go_upto_region 7 with fail
 generalize ((((((((((((((w.setCell ⟨d,9,none⟩ (.int .i64 (P.t:Nat))).setCell ⟨d,10,none⟩ (.int .i64 0)).setCell ⟨d,11,none⟩ (.int .i64 (P.o:Nat))).setCell ⟨d,12,none⟩ (.bool false)).setCell ⟨d,13,none⟩ (.bool false)).setCell ⟨d,14,none⟩ (.bool false)).setCell ⟨d,15,none⟩ (.int .i64 0)).setCell ⟨d,16,none⟩ (.slice none 0 0)).setCell ⟨d,17,none⟩ (.bool false)).setCell ⟨d,18,none⟩ (.int .i64 (k:Nat))).setCell ⟨d,19,none⟩ (.int .u32 0)).setCell ⟨d,20,none⟩ (.int .u32 0)).setCell ⟨d,21,none⟩ (.int .u32 0)).setCell ⟨d,22,none⟩ (.int .i64 0))=w1 at *
 have e1:=H.out.2.1
 have hd1:d<w1.heap.size:=Nat.lt_of_lt_of_le H.out.1.dlt H.out.2.2.size
 have d2:w1.cell? ⟨d,2,none⟩=some (.int .i64 (P.i:Nat)):=cell_of_row w1 d 2 _ _ _ e1
 have H1:Hid (_):=And.intro e1 hd1
 clear e1 hd1 c1 c2 c3 c9 z9 c10 z10 c11 z11 c12 z12 c13 z13 c14 z14 c15 z15 c16 z16 c17 z17 c18 z18 c19 z19 c20 z20 c21 z21 c22 z22
 go_wp2_with (at_make;refine wpList_make8 _ rfl (.tmp 43) (.tmp 43) 50 rfl w1.heap.size 5 i0 Tryz.underlying50 hi hz0 hz1 hz2 _ _ _ _ P.i P.i rfl rfl rfl rfl (Nat.le_refl _) (by omega) (Nat.le_refl _) ?_)
 intro w2 hown2 hbel2
 have e2:=(hbel2.block d H1.out.2).trans H1.out.1
 have c23:w2.cell? ⟨d,23,none⟩=some B.av:=cell_of_row w2 d 23 _ _ _ e2
 have c24:w2.cell? ⟨d,24,none⟩=some (.bool s.hd):=cell_of_row w2 d 24 _ _ _ e2
 have z23:=frozen_of_row w2 d 23 _ _ e2
 have z24:=frozen_of_row w2 d 24 _ _ e2
 have H2:Hid (_):=And.intro hown2 (And.intro hbel2 e2)
 clear hown2 hbel2 e2 d2 H1
 go_wp2_with fail
 go_end0
 obtain⟨hown2,hbel2,e2⟩:=H2.out
 have e3:(w2.setCell ⟨d,23,none⟩ (.slice (some ⟨w1.heap.size,0,none⟩) P.i P.i)).heap[d]?=some (.cells (RDC P m mx B.cp B.lv (.slice none 0 0) { dlife s k with ap:=s.ap,hd:=s.hd,v:={ s.v with run:=false,held:=false,fr:=false,lat:=0,sm:=false } } (.slice (some ⟨w1.heap.size,0,none⟩) P.i P.i)) 54 (0,0)):=heap_setCell_same _ _ _ _ _ _ e2
 have e4:((w2.setCell ⟨d,23,none⟩ (.slice (some ⟨w1.heap.size,0,none⟩) P.i P.i)).setCell ⟨d,24,none⟩ (.bool false)).heap[d]?=some (.cells (RDC P m mx B.cp B.lv (.slice none 0 0) (dlife s k) (.slice (some ⟨w1.heap.size,0,none⟩) P.i P.i)) 54 (0,0)):=heap_setCell_same _ _ _ _ _ _ e3
 obtain⟨U',B',g',x'⟩:=H.out.1.lived (A':=A) (k:=k) H.out.2.2 hbel2 hown2 ((Off.setCell d 23 w2 _).trans (Off.setCell d 24 _ (.bool false))) e4 id
 exact⟨rfl,U',B',g',x'⟩
set_option maxHeartbeats 1600000 in
theorem rnone_any (d m g n mx:Nat) (P:Pm) (U:List Nat) (s:Sd) (w:World) (h:RW w d m g n mx P U s) (hss:s.ss<4294967296) :
  Calls Tryz.prog 96 #[.pointer (some ⟨d,0,none⟩)] w fun e w'=>∃ v,e=.returned v∧Hid (Fr w' w.heap.size v (dnone P s)∧Below w.heap.size w w'):=by
 have hS:=ranswer_any d m g n mx P U s 22 0 0 none 0 0 (fun _=>0) w h (row_nilX _ _) hss (by omega)
 clear h hss
 go_enter Tryz.func96,Tryz.ntmps96
 go_wp2_with fail
 refine hS.mono ?_
 rintro e w2 ⟨v,rfl,h2⟩
 clear hS
 go_wp2_with fail
 go_ret
 exact⟨v,rfl,h2⟩
set_option maxHeartbeats 1600000 in
theorem roffer_any (d m g n mx:Nat) (P:Pm) (U:List Nat) (s:Sd) (w:World) (h:RW w d m g n mx P U s) (hss:s.ss<4294967296) :
  Calls Tryz.prog 155 #[.pointer (some ⟨d,0,none⟩)] w fun e w'=>∃ v,e=.returned v∧Hid (Fr w' w.heap.size v (doffer P s)∧Below w.heap.size w w'):=by
 obtain⟨B,h0⟩:=id h
 have c0:w.cell? ⟨d,0,none⟩=some (.int .u32 (P.c:Nat)):=cell_of_row w d 0 _ _ _ h0.dev
 have c1:w.cell? ⟨d,1,none⟩=some (.int .i64 (P.o:Nat)):=cell_of_row w d 1 _ _ _ h0.dev
 have c2:w.cell? ⟨d,2,none⟩=some (.int .i64 (P.i:Nat)):=cell_of_row w d 2 _ _ _ h0.dev
 have c3:w.cell? ⟨d,3,none⟩=some (.int .i64 (P.t:Nat)):=cell_of_row w d 3 _ _ _ h0.dev
 have c4:w.cell? ⟨d,4,none⟩=some (.int .u32 (P.n:Nat)):=cell_of_row w d 4 _ _ _ h0.dev
 have hG:=rsign_good P.c P.o P.i P.t P.n w h0.pok.c h0.pok.n h0.pok.ok
 have H:Hid (_):=And.intro h hss
 clear h h0 hss
 go_enter Tryz.func155,Tryz.ntmps155
 go_wp2_with fail
 refine hG.mono ?_
 rintro e w2 ⟨gs,rfl,h2⟩
 have hS:=ranswer_any d m g n mx P U s 17 0 0 (some ⟨gs,0,none⟩) 4 4 (dsg P) w2 (RW.below H.out.1 h2.out.2) h2.out.1 H.out.2 (by omega)
 have HB:Hid (_):=h2.out.2
 clear hG c0 c1 c2 c3 c4 H h2
 go_wp2_with fail
 refine hS.mono ?_
 rintro e w4 ⟨v,rfl,h4⟩
 have H4:Hid (Fr w4 w.heap.size v (doffer P s)∧Below w.heap.size w w4):=⟨own_base h4.out.1 HB.out.size,HB.out.trans (h4.out.2.mono HB.out.size)⟩
 clear hS h4 HB
 go_wp2_with fail
 go_ret
 exact⟨v,rfl,H4⟩
theorem build0D (w:World):(Instr.buildSlice 50 0 #[]).run Tryz.prog w=.ok (.slice (some ⟨w.heap.size,0,none⟩) 0 0) (w.alloc (.cells #[] 5)):=by kernel_rfl
theorem own0D (B:Nat) (bs:Nat→Nat) (w:World) (h:B≤w.heap.size):(w.alloc (.cells #[] 5)).ownsRow B 5 1 (.slice (some ⟨w.heap.size,0,none⟩) 0 0) 0 (CB bs 0):=World.ownsRow_made w #[] 0 h (Nat.zero_le _) rfl
set_option maxHeartbeats 6400000 in
theorem same13_any (st ss nm sn dc lat:Int) (rq on:Bool) (a a':Option Addr) (n n' cap cap':Nat) (bs bs':Nat→Nat) (w:World) (R:Row8 w a n cap bs) (R':Row8 w a' n' cap' bs') (hX:BA bs n=BA bs' n') :
  Calls Tryz.prog 15 #[.agg #[.int .i64 st,.int .u32 ss,.int .u32 nm,.int .u32 sn,.int .i64 dc,.int .i64 lat,.bool rq,.bool on,.slice a n cap],.agg #[.int .i64 st,.int .u32 ss,.int .u32 nm,.int .u32 sn,.int .i64 dc,.int .i64 lat,.bool rq,.bool on,.slice a' n' cap']] w fun e w'=>e=.returned (.bool true)∧Below w.heap.size w w':=by
 have b0:Below w.heap.size w ((w.alloc (.cells #[.int .i64 st,.int .u32 ss,.int .u32 nm,.int .u32 sn,.int .i64 dc,.int .i64 lat,.bool rq,.bool on,.slice a n cap] 74)).alloc (.cells #[.int .i64 st,.int .u32 ss,.int .u32 nm,.int .u32 sn,.int .i64 dc,.int .i64 lat,.bool rq,.bool on,.slice a' n' cap'] 74)):=((Below.refl _ _).alloc (Nat.le_refl _) _).alloc (by simp) _
 obtain⟨X,hX1⟩:∃ X,BA bs n=X:=⟨_,rfl⟩
 have hX2:BA bs' n'=X:=hX ▸ hX1
 have q1:=conv_any a n cap bs _ (R.below b0)
 have q2:=conv_any a' n' cap' bs' _ (R'.below b0)
 rw[hX1]at q1
 rw[hX2]at q2
 have HB:Hid (_):=b0
 clear R R' hX hX1 hX2 b0
 go_enter Tryz.func15,Tryz.ntmps15
 go_wp2_with fail
 go_ret
 exact⟨by simp,HB.out⟩
theorem RB.vald {w w1 w2 w3:World} {d m g n mx:Nat} {P:Pm} {U:List Nat} {s:Sd} {B:Bk2} {A:Prop} (h:RB w d m g n mx P U s B A) {v:Value} {bs:Nat→Nat} (q1:Off [d] w w1) (b2:Below w1.heap.size w1 w2) (ho:w2.ownsRow w1.heap.size 5 1 v P.o (CB bs P.o)) (hy:∀ i,i<P.o→bs i<256) (q3:Off [d] w2 w3)
  (e:w3.heap[d]?=some (.cells (RDC P m mx B.cp B.lv v { s with v:={ s.v with sm:=true,bs:=bs } } B.av) 54 (0,0))) (hl:s.v.lat=0) :
  ∃ U' B',Gr U w U' w3∧RB w3 d m g n mx P U' { s with v:={ s.v with sm:=true,bs:=bs } } B' A:=by
 have s1:=q1.size
 have s2:=b2.size
 have s3:=q3.size
 have hge:∀ k,v.ownBlock=some k→w.heap.size≤k:=fun k hk=>Nat.le_trans s1 (Fr.ge (f:=(P.o,bs)) ho k hk)
 have hlt:∀ k,v.ownBlock=some k→k<w3.heap.size:=fun k hk=>Nat.lt_of_lt_of_le (Fr.lt (f:=(P.o,bs)) ho k hk) s3
 have hd:=h.dlt
 have Q:Off [d] w w3:=(q1.trans (Off.of_below b2)).trans q3
 have hn:∀ k,B.col k≠0→k ∉ [d]:=fun k hk hm=>by simp at hm;rw[hm,h.kd.1]at hk;exact hk rfl
 have hq:∀ k x,B.col k=x∧k ∈ U→(if k<w.heap.size then B.col k else 4)=x∧k ∈ v.ownBlock.toList ++ U:=fun k x hk=>⟨by rw[if_pos (h.ltU k hk.2)];exact hk.1,List.mem_append.2 (.inr hk.2)⟩
 refine⟨v.ownBlock.toList ++ U,{ B with vv:=v,M:=v.ownBlock.toList,col:=fun k=>if k<w.heap.size then B.col k else 4 },⟨Q.more (by simp[h.kd.2]),fun k hk=>?_⟩,?_⟩
 ·rcases List.mem_append.1 hk with hk | hk
  ·exact .inr (hge k (by simpa using hk))
  ·exact .inl hk
 ·refine⟨e,h.mem.off Q (hn _ (by rw[h.km.1];omega)) (hn _ (by rw[h.kg.1];omega)),fun hA=>?_,.inr ⟨rfl,⟨own_offk (own_base ho (Nat.zero_le _)) q3 (fun k hk=>by have:=hge k hk;simp;omega),fun k hk=>by simpa using hk⟩,hy⟩,own_offk h.log Q (fun k hk=>hn _ (by rw[(h.kl k hk).1];omega)),own_offk h.app Q (fun k hk=>hn _ (by rw[(h.ka k hk).1];omega)),h.apb,⟨h.vok.fr,fun _=>hl⟩,h.dcl,?_,hq _ _ h.kd,hq _ _ h.km,hq _ _ h.kg,hq _ _ h.kc,?_,fun k hk=>hq _ _ (h.kl k hk),fun k hk=>hq _ _ (h.ka k hk),h.pok,h.n10,h.mx0,h.mxl,h.nl⟩
  ·obtain⟨c1,c2,c3⟩:=h.cel hA
   exact⟨c1,c2.off Q (hn _ (by rw[h.kc.1];omega)),c3⟩
  ·intro k hk
   rcases List.mem_append.1 hk with hk | hk
   ·exact hlt k (by simpa using hk)
   ·exact Nat.lt_of_lt_of_le (h.ltU k hk) Q.size
  ·intro k hk
   have:=hge k (by simpa using hk)
   exact⟨by show (if k<w.heap.size then _ else 4)=4;rw[if_neg (by omega)],List.mem_append.2 (.inl hk)⟩
set_option maxHeartbeats 3200000 in
theorem rtakev_any (d m g n mx:Nat) (P:Pm) (U:List Nat) (s:Sd) (B:Bk2) (A:Prop) (a:Option Addr) (cap:Nat) (bs:Nat→Nat) (w:World) (h:RB w d m g n mx P U s B A) (hr:Row8 w a P.o cap bs) (ha:∀ x,a=some x→x.block≠d) :
  Calls Tryz.prog 101 #[.pointer (some ⟨d,11,none⟩),.slice a P.o cap] w fun e w'=>e=.returned (.tuple #[])∧Hid (∃ U' B',Gr U w U' w'∧RB w' d m g n mx P U' { s with v:=vtake s.v bs } B' A):=by
 have c12:w.cell? ⟨d,12,none⟩=some (.bool s.v.run):=cell_of_row w d 12 _ _ _ h.dev
 have c15:w.cell? ⟨d,15,none⟩=some (.int .i64 s.v.lat):=cell_of_row w d 15 _ _ _ h.dev
 have c17:w.cell? ⟨d,17,none⟩=some (.bool s.v.sm):=cell_of_row w d 17 _ _ _ h.dev
 have z17:=h.fz 17
 unfold vtake
 by_cases hk:s.v.run=true∧s.v.lat=0
 ·rw[if_pos hk]
  rw[hk.1]at c12
  rw[hk.2]at c15
  obtain⟨i0,hi,hz0,hz1,hz2⟩:=info_parts info_u8
  have hbd:=build0D
  have e1:(w.setCell ⟨d,17,none⟩ (.bool true)).heap[d]?=some (.cells (RDC P m mx B.cp B.lv B.vv { s with v:={ s.v with sm:=true } } B.av) 54 (0,0)):=heap_setCell_same _ _ _ _ _ _ h.dev
  have o1:=Off.setCell d 17 w (.bool true)
  have r1:Row8 (w.setCell ⟨d,17,none⟩ (.bool true)) a P.o cap bs:=hr.off o1 (fun x hx=>by simpa using ha x hx)
  have ho8:=h.pok.o8
  have H:Hid (_):=And.intro h (And.intro hk.2 (And.intro hr.byte (And.intro e1 o1)))
  have H1:Hid (_):=r1
  clear h hr ha hk e1 o1 r1
  go_enter Tryz.func101,Tryz.ntmps101
  go_upto_region 2 with fail
  generalize w.setCell ⟨d,17,none⟩ (.bool true)=w1 at *
  have hbelA:Below w1.heap.size w1 (w1.alloc (.cells #[] 5)):=(Below.refl _ _).alloc (Nat.le_refl _) _
  have R0:=H1.out.below hbelA
  have O0:=own0D w1.heap.size bs w1 (Nat.le_refl _)
  have hszA:=hbelA.size
  clear H1 c12 c15 c17 z17
  go_wp2_with (at_builtin;refine wpList_append_row8 rfl (.tmp 19) (.tmp 20) 50 rfl w1.heap.size 5 i0 (.int .u8 0) Tryz.underlying50 hi hz0 hz1 hz2 rfl _ 0 _ rfl O0 a P.o cap bs rfl R0 (by unfold maxLen;omega) (by omega) hszA ?_)
  intro v2 w2 hown2 hgrow2
  have hbel2:Below w1.heap.size w1 w2:=hbelA.grown hgrow2 hszA (fun k hk=>(O0.lt k hk).1)
  rw[show CB bs 0=[] from rfl,List.nil_append]at hown2
  obtain⟨a2,k2,rfl,R2⟩:=own_row8 (by simpa using hown2) H.out.2.2.1
  have hd1:d<w1.heap.size:=Nat.lt_of_lt_of_le H.out.1.dlt H.out.2.2.2.2.size
  have e2:=(hbel2.block d hd1).trans H.out.2.2.2.1
  have c16:w2.cell? ⟨d,16,none⟩=some B.vv:=cell_of_row w2 d 16 _ _ _ e2
  have z16:=frozen_of_row w2 d 16 _ _ e2
  have hown3:w2.ownsRow w1.heap.size 5 1 (.slice a2 P.o k2) P.o (CB bs P.o):=by simpa using hown2
  have H2:Hid (_):=And.intro hown3 (And.intro hbel2 e2)
  clear hown2 hown3 hgrow2 hbel2 O0 R0 hbelA R2 hd1 e2 hszA
  go_wp2_with fail
  go_end0
  obtain⟨hown2,hbel2,e2⟩:=H2.out
  obtain⟨h,hl,hby,e1,o1⟩:=H.out
  have e3:(w2.setCell ⟨d,16,none⟩ (.slice a2 P.o k2)).heap[d]?=some (.cells (RDC P m mx B.cp B.lv (.slice a2 P.o k2) { s with v:={ s.v with sm:=true,bs:=bs } } B.av) 54 (0,0)):=heap_setCell_same _ _ _ _ _ _ e2
  obtain⟨U',B',g',x'⟩:=h.vald o1 hbel2 hown2 hby (Off.setCell d 16 w2 _) e3 hl
  exact⟨rfl,U',B',g',x'⟩
 ·rw[if_neg hk]
  have H:Hid (_):=h
  cases hrun:s.v.run
  ·rw[hrun]at c12
   clear h hr ha hk
   go_enter Tryz.func101,Tryz.ntmps101
   go_wp2_with fail
   go_end0
   exact⟨rfl,U,B,Gr.refl _ _,H.out⟩
  ·rw[hrun]at c12
   have hl:(s.v.lat == 0)=false:=by simp;intro e;exact hk ⟨hrun,e⟩
   clear h hr ha hk
   go_enter Tryz.func101,Tryz.ntmps101
   go_wp2_with fail
   go_end0
   exact⟨rfl,U,B,Gr.refl _ _,H.out⟩
set_option maxHeartbeats 3200000 in
theorem routv_any (d m g n mx:Nat) (P:Pm) (U:List Nat) (s:Sd) (B:Bk2) (A:Prop) (w:World) (h:RB w d m g n mx P U s B A) :
  Calls Tryz.prog 159 #[.pointer (some ⟨d,11,none⟩)] w fun e w'=>∃ a cap,e=.returned (.tuple #[.slice a P.o cap,.bool (von s.v)])∧Hid (Fr w' w.heap.size (.slice a P.o cap) (P.o,vout s.v)∧Row8 w' a P.o cap (vout s.v)∧Below w.heap.size w w'):=by
 obtain⟨i0,hi,hz0,hz1,hz2⟩:=info_parts info_u8
 have c11:w.cell? ⟨d,11,none⟩=some (.int .i64 (P.o:Nat)):=cell_of_row w d 11 _ _ _ h.dev
 have c12:w.cell? ⟨d,12,none⟩=some (.bool s.v.run):=cell_of_row w d 12 _ _ _ h.dev
 have c13:w.cell? ⟨d,13,none⟩=some (.bool s.v.held):=cell_of_row w d 13 _ _ _ h.dev
 have c16:w.cell? ⟨d,16,none⟩=some B.vv:=cell_of_row w d 16 _ _ _ h.dev
 have c17:w.cell? ⟨d,17,none⟩=some (.bool s.v.sm):=cell_of_row w d 17 _ _ _ h.dev
 have ho8:=h.pok.o8
 have hdl:=h.dlt
 unfold vout
 by_cases hon:von s.v=true
 ·rw[if_pos hon,hon]
  simp only[von,Bool.and_eq_true,Bool.not_eq_true']at hon
  obtain⟨o1,o2,o3⟩:=hon
  rcases h.val with ⟨e,_⟩ | ⟨_,⟨V,_⟩,hby⟩
  ·rw[o3]at e;cases e
  obtain⟨av,kv,hvv,R⟩:=own_row8 V hby
  rw[hvv]at c16
  rw[o1]at c12
  rw[o2]at c13
  rw[o3]at c17
  have hbd:=build0D
  have hbelA:Below w.heap.size w (w.alloc (.cells #[] 5)):=(Below.refl _ _).alloc (Nat.le_refl _) _
  have R0:=R.below hbelA
  have O0:=own0D w.heap.size s.v.bs w (Nat.le_refl _)
  have hszA:=hbelA.size
  have d16:(w.alloc (.cells #[] 5)).cell? ⟨d,16,none⟩=some (.slice av P.o kv):=(hbelA.cell hdl).trans c16
  have HB:Hid (_):=hby
  clear h V R hvv o1 o2 o3 hby
  go_enter Tryz.func159,Tryz.ntmps159
  go_wp2_with (at_builtin;refine wpList_append_row8 rfl (.tmp 21) (.tmp 25) 50 rfl w.heap.size 5 i0 (.int .u8 0) Tryz.underlying50 hi hz0 hz1 hz2 rfl _ 0 _ rfl O0 av P.o kv s.v.bs rfl R0 (by unfold maxLen;omega) (by omega) hszA ?_)
  intro v2 w2 hown2 hgrow2
  have hbel2:Below w.heap.size w w2:=hbelA.grown hgrow2 hszA (fun k hk=>(O0.lt k hk).1)
  rw[show CB s.v.bs 0=[] from rfl,List.nil_append]at hown2
  have hown3:w2.ownsRow w.heap.size 5 1 v2 P.o (CB s.v.bs P.o):=by simpa using hown2
  obtain⟨a2,k2,rfl,R2⟩:=own_row8 hown3 HB.out
  have H2:Hid (_):=And.intro hown3 (And.intro R2 hbel2)
  clear hown2 hown3 hgrow2 hbel2 O0 R0 hbelA R2 hszA d16
  go_wp2_with fail
  go_ret2
  exact⟨a2,k2,rfl,H2.out⟩
 ·rw[if_neg hon]
  have hon':von s.v=false:=by simpa using hon
  have fin:∀ b1 b2 b3:Bool,(b1 && (!b2 && b3))=false→w.cell? ⟨d,12,none⟩=some (.bool b1)→w.cell? ⟨d,13,none⟩=some (.bool b2)→w.cell? ⟨d,17,none⟩=some (.bool b3)→Calls Tryz.prog 159 #[.pointer (some ⟨d,11,none⟩)] w fun e w'=>∃ a cap,e=.returned (.tuple #[.slice a P.o cap,.bool false])∧Hid (Fr w' w.heap.size (.slice a P.o cap) (P.o,fun _=>0)∧Row8 w' a P.o cap (fun _=>0)∧Below w.heap.size w w'):=by
   clear h c12 c13 c16 c17 hon hon'
   intro b1 b2 b3 hb c12 c13 c17
   have hzb:∀ i,i<P.o→(fun _:Nat=>(0:Nat)) i<256:=fun _ _=>by show 0<256;omega
   cases b1 <;> cases b2 <;> cases b3 <;> first | (simp at hb;done) | skip
   all_goals
    clear hb
    go_enter Tryz.func159,Tryz.ntmps159
    go_wp2_with (at_make;refine wpList_make8 _ rfl (.tmp 30) (.tmp 30) 50 rfl w.heap.size 5 i0 Tryz.underlying50 hi hz0 hz1 hz2 _ _ _ _ P.o P.o rfl rfl rfl rfl (Nat.le_refl _) (by omega) (Nat.le_refl _) ?_)
    intro w2 hown2 hbel2
    obtain⟨a2,k2,ha2,R2⟩:=own_row8 hown2 hzb
    have H2:Hid (_):=And.intro hown2 (And.intro R2 (And.intro hbel2 ha2))
    clear hown2 hbel2 R2 ha2
    go_wp2_with fail
    go_ret2
    obtain⟨h1,h2,h3,h4⟩:=H2.out
    cases h4
    exact⟨_,_,rfl,h1,h2,h3⟩
  rw[hon']
  exact fin _ _ _ hon' c12 c13 c17
set_option maxHeartbeats 3200000 in
theorem rflags_any (d m g n mx:Nat) (P:Pm) (U:List Nat) (s:Sd) (B:Bk2) (A:Prop) (w:World) (h:RB w d m g n mx P U s B A) :
  Calls Tryz.prog 102 #[.pointer (some ⟨d,11,none⟩),.bool s.hd] w fun e w'=>e=.returned (.int .i64 (dflags s:Nat))∧Below w.heap.size w w':=by
 have hO:=routv_any d m g n mx P U s B A w h
 have H:Hid (_):=h
 clear h
 unfold dflags
 cases h1:von s.v <;> cases h2:vreq s.v <;> by_cases h3:s.v.lat=0 <;> cases h4:s.hd
 all_goals
  rw[h1]at hO
  go_enter Tryz.func102,Tryz.ntmps102
  go_wp2_with fail
  refine hO.mono ?_
  rintro e w2 ⟨a2,k2,rfl,h5⟩
  have hb:=h5.out.2.2
  have x2:=H.out.newd (Off.of_below hb)
  have c15:w2.cell? ⟨d,15,none⟩=some (.int .i64 s.v.lat):=cell_of_row w2 d 15 _ _ _ x2.dev
  have q1:=rqv_any _ _ _ _ _ _ _ _ _ _ _ x2
  rw[h2]at q1
  first
   | rw[h3]at c15
   | (have h3':(s.v.lat != 0)=true:=by simpa using h3)
  have HB:Hid (_):=hb
  clear H h5 hb x2 hO
  go_wp2_with (go_at_call 160;refine q1.mono ?_;rintro e w' ⟨rfl,hw⟩;have hw:=hw.symm;subst hw)
  go_ret
  exact⟨by first | rfl | (simp[h3];done) | (simp[h3];rfl),HB.out⟩
theorem nx_vz {mx n:Nat} {s:Ms} (hn:10≤n) (ho:s.off=false) (hl:0≤s.l) (hmx:mx<4294967296) :
  ((nx mx n s.bs false s).e=0→(nx mx n s.bs false s).v=vz s.bs+1∧vz (nx mx n s.bs false s).s.bs=vz s.bs+1∧vz s.bs<mx)∧((nx mx n s.bs false s).e≠0→vz (nx mx n s.bs false s).s.bs=vz s.bs):=by
 unfold nx
 rw[if_neg (by simp[ho])]
 by_cases hm:mx≤vz s.bs
 ·rw[if_pos hm]
  exact⟨fun e=>(by cases e),fun _=>rfl⟩
 ·rw[if_neg hm]
  rcases sq_all n (six (tg s.bs) (vz s.bs+1)) s (fun x hx=>(six_in _ _ n (tg_lt _) hn x hx).1) ho hl with ⟨h1,h2,_⟩ | ⟨h1,h2,_,h4⟩
  ·rw[if_pos h1]
   refine⟨fun _=>⟨rfl,?_,by omega⟩,fun e=>absurd rfl e⟩
   show vz (sqS n (six (tg s.bs) (vz s.bs+1)) s).bs=_
   rw[h2]
   exact vz_next _ _ (by omega) (by omega)
  ·rw[if_neg (by omega)]
   refine⟨fun e=>(by cases e),fun _=>?_⟩
   show vz (sqS n (six (tg s.bs) (vz s.bs+1)) s).bs=_
   rw[h2]
   refine vz_cut _ _ _ ?_
   have:(six (tg s.bs) (vz s.bs+1)).length=6:=rfl
   omega
theorem opS_vz {mx n:Nat} {s:Ms} (hl:0≤s.l) (hz:Bz s.bs):vz (opS mx n s).bs=vz s.bs:=by
 unfold opS
 by_cases h1:mx=0∨n<10
 ·rw[if_pos h1]
 ·rw[if_neg h1]
  by_cases h2:s.off=true
  ·rw[if_pos h2]
  ·rw[if_neg h2]
   rcases sq_all n (mend s.bs) s (fun x hx=>(mend_in s.bs n (by omega) x hx).1) (by simpa using h2) hl with ⟨_,e,_⟩ | ⟨_,e,_⟩
   ·rw[e]
    have:=vz_mend s.bs (mend s.bs).length hz
    rwa [List.take_length]at this
   ·rw[e]
    exact vz_mend s.bs _ hz
theorem DV.facts {w:World} {d m g n mx:Nat} {P:Pm} {U:List Nat} {s:Sd} (h:DV w d m g n mx P U s):Bz s.ms.bs∧0≤s.ms.l∧10≤n∧mx≠0∧mx<4294967296∧(s.st≠6→s.ms.off=false):=by
 obtain⟨B,x⟩:=h
 exact⟨fun i hi=>x.mem.byte i (by have:=x.n10;omega),x.mem.l0,x.n10,x.mx0,x.mxl,fun hs=>(x.cel hs).2.2⟩
def OutR (U:List Nat) (w w':World) (d m g n mx:Nat) (P:Pm) (s:Sd) (f:Fm) (v:Value):Prop:=
 ∃ U',Gr U w U' w'∧RW w' d m g n mx P U' s∧Fr w' w.heap.size v f∧∀ k,v.ownBlock=some k→k ∉ U'
theorem OutR.mk {U U1:List Nat} {w w1 w2:World} {d m g n mx:Nat} {P:Pm} {s:Sd} {f:Fm} {v:Value} (h:Gr U w U1 w1) (x:RW w1 d m g n mx P U1 s) (hf:Fr w2 w1.heap.size v f) (hb:Below w1.heap.size w1 w2):OutR U w w2 d m g n mx P s f v:=
 ⟨U1,h.trans (Gr.below hb),x.below hb,own_base hf h.off.size,fun k hk hm=>by have:=x.ult k hm;have:=hf.ge k hk;omega⟩
theorem OutR.none_ {U U1:List Nat} {w w1:World} {d m g n mx:Nat} {P:Pm} {s:Sd} (h:Gr U w U1 w1) (x:RW w1 d m g n mx P U1 s):OutR U w w1 d m g n mx P s fm0 (.slice none 0 0):=
 ⟨U1,h,x,own_nil _ _ _,fun k hk=>by cases hk⟩
theorem RB.memd {w w':World} {d m g n mx:Nat} {P:Pm} {U:List Nat} {s:Sd} {B:Bk2} {A A':Prop} (h:RB w d m g n mx P U s B A) (q:Off [m,g,B.c] w w') {ms:Ms} (e:RR w' m g n ms) (hc:A'→B.cp=.pointer (some ⟨B.c,0,none⟩)∧RX w' B.c m mx (vz ms.bs) false∧ms.off=false) :
  RB w' d m g n mx P U { s with ms:=ms } B A':=by
 have hn:∀ k,B.col k≠1→B.col k≠2→k ∉ [m,g,B.c]:=fun k hk h2 hm=>by
  simp at hm
  rcases hm with hm | hm | hm
  ·rw[hm]at hk;exact hk h.km.1
  ·rw[hm]at hk;exact hk h.kg.1
  ·rw[hm]at h2;exact h2 h.kc.1
 refine⟨(q.block d h.dlt (hn _ (by rw[h.kd.1];omega) (by rw[h.kd.1];omega))).trans h.dev,e,hc,?_,?_,?_,h.apb,h.vok,h.dcl,fun k hk=>Nat.lt_of_lt_of_le (h.ltU k hk) q.size,h.kd,h.km,h.kg,h.kc,h.kM,h.kl,h.ka,h.pok,h.n10,h.mx0,h.mxl,h.nl⟩
 ·exact h.val.off q (fun k hk hM=>hn k (by rw[(h.kM k hM).1];omega) (by rw[(h.kM k hM).1];omega) hk)
 ·exact own_offk h.log q (fun k hk=>hn _ (by rw[(h.kl k hk).1];omega) (by rw[(h.kl k hk).1];omega))
 ·exact own_offk h.app q (fun k hk=>hn _ (by rw[(h.ka k hk).1];omega) (by rw[(h.ka k hk).1];omega))
theorem RB.memU {w:World} {d m g n mx:Nat} {P:Pm} {U:List Nat} {s:Sd} {B:Bk2} {A:Prop} (h:RB w d m g n mx P U s B A):∀ k,k ∈ [m,g,B.c]→k ∈ U:=fun k hk=>by
 simp at hk
 rcases hk with hk | hk | hk
 ·rw[hk];exact h.km.2
 ·rw[hk];exact h.kg.2
 ·rw[hk];exact h.kc.2
theorem dodd_ss {s:Sd} (h:s.ss<4294967296):(dodd s).ss<4294967296:=by
 unfold dodd
 split
 ·split
  ·exact h
  ·show (0:Nat)<_;omega
 ·exact h
set_option maxHeartbeats 6400000 in
theorem rwish_any (d m g n mx:Nat) (P:Pm) (U:List Nat) (s:Sd) (w:World) (h:RW w d m g n mx P U s) (hs:s.st≠6) (ho:s.od<4) (hL:s.L.length<800000) (ht:s.ms.t<9223372036854774000) (hss:s.ss<4294967296) :
  Calls Tryz.prog 94 #[.pointer (some ⟨d,0,none⟩)] w fun e w'=>∃ v,e=.returned (.tuple #[v,.int .i64 (dwish P mx n s).e])∧Hid (OutR U w w' d m g n mx P (dwish P mx n s).s (dwish P mx n s).f v):=by
 obtain⟨B,h0⟩:=id h
 have c18:w.cell? ⟨d,18,none⟩=some (.int .i64 (s.st:Nat)):=cell_of_row w d 18 _ _ _ h0.dev
 have hI:=rbusy_any d s.st w c18
 have hS:=rstrange_any d m g n mx P U s w h hs ho (by omega)
 have HH:Hid (_):=And.intro h (And.intro hs (And.intro hL (And.intro ht hss)))
 clear h h0 hs hL ht hss c18
 by_cases hb:dbusy s=true
 ·rw[show decide (s.st=2∨s.st=3∨s.st=4)=true from hb]at hI
  have hst:s.st=2∨s.st=3∨s.st=4:=by unfold dbusy at hb;simpa using hb
  by_cases h4:s.od+1<4
  ·have hov:dover s=false:=by unfold dover;rw[hb];simp;omega
   have hdd:(dodd s).st=s.st:=by unfold dodd;rw[if_pos hb,if_pos h4]
   rw[hov]at hS
   rcases hst with h2 | h3
   ·have hw:dwish P mx n s=⟨dodd s,doffer P (dodd s),130⟩:=by unfold dwish;rw[if_pos (by rw[hdd];exact h2)]
    rw[hw]
    have H1:Hid (_):=And.intro hdd h2
    clear hb h4 hov hdd h2 hw ho
    go_enter Tryz.func94,Tryz.ntmps94
    go_wp2_with (first | (go_at_call 154;refine hI.mono ?_;rintro e w' ⟨rfl,hw⟩;have hw:=hw.symm;subst hw) | (go_at_call 95;refine hS.mono ?_;rintro e w2 ⟨rfl,h2⟩;obtain⟨U2,g2,B2,x2⟩:=h2.out;have c18:w2.cell? ⟨d,18,none⟩=some (.int .i64 ((dodd s).st:Nat)):=cell_of_row w2 d 18 _ _ _ x2.dev;rw[H1.out.1,H1.out.2]at c18;have H2:Hid (_):=And.intro g2 x2;clear h2 g2 x2))
    have hN:=roffer_any d m g n mx P U2 (dodd s) w2 ⟨B2,H2.out.2⟩ (dodd_ss HH.out.2.2.2.2)
    clear c18 hI hS
    go_wp2_with (go_at_call 155;refine hN.mono ?_;rintro e w5 ⟨v,rfl,h5⟩)
    go_ret2
    exact⟨v,rfl,OutR.mk H2.out.1 ⟨B2,H2.out.2⟩ h5.out.1 h5.out.2⟩
   ·have hw:dwish P mx n s=⟨dodd s,dnone P (dodd s),130⟩:=by unfold dwish;rw[if_neg (by rw[hdd];omega),if_pos (by rw[hdd];exact h3)]
    rw[hw]
    have e2:((s.st:Int) == 2)=false:=by simp;omega
    have H1:Hid (_):=hdd
    clear hb h4 hov hdd h3 hw ho
    go_enter Tryz.func94,Tryz.ntmps94
    go_wp2_with (first | (go_at_call 154;refine hI.mono ?_;rintro e w' ⟨rfl,hw⟩;have hw:=hw.symm;subst hw) | (go_at_call 95;refine hS.mono ?_;rintro e w2 ⟨rfl,h2⟩;obtain⟨U2,g2,B2,x2⟩:=h2.out;have c18:w2.cell? ⟨d,18,none⟩=some (.int .i64 ((dodd s).st:Nat)):=cell_of_row w2 d 18 _ _ _ x2.dev;rw[H1.out]at c18;have H2:Hid (_):=And.intro g2 x2;clear h2 g2 x2))
    have hN:=rnone_any d m g n mx P U2 (dodd s) w2 ⟨B2,H2.out.2⟩ (dodd_ss HH.out.2.2.2.2)
    clear c18 hI hS
    go_wp2_with (go_at_call 96;refine hN.mono ?_;rintro e w5 ⟨v,rfl,h5⟩)
    go_ret2
    exact⟨v,rfl,OutR.mk H2.out.1 ⟨B2,H2.out.2⟩ h5.out.1 h5.out.2⟩
  ·have hov:dover s=true:=by unfold dover;rw[hb];simp;omega
   have hdd:(dodd s).st=1:=by unfold dodd;rw[if_pos hb,if_neg h4];rfl
   rw[hov]at hS
   have hw:dwish P mx n s=dbegin P mx n (dodd s):=by unfold dwish;rw[if_neg (by rw[hdd];omega),if_neg (by rw[hdd];omega)]
   rw[hw]
   obtain⟨B0,y0⟩:=HH.out.1
   have F0:10≤n∧s.ms.off=false∧0≤s.ms.l∧mx<4294967296:=⟨y0.n10,(y0.cel HH.out.2.1).2.2,y0.mem.l0,y0.mxl⟩
   clear y0
   have hms:=dodd_ms s
   have hv:=nx_live (mx:=mx) (n:=n) (s:=(dodd s).ms) F0.1 (by rw[hms];exact F0.2.1) (by rw[hms];exact F0.2.2.1)
   have ht1:(dodd s).ms.t<9223372036854774000:=by rw[hms];exact HH.out.2.2.2.1
   have hL1:(dodd s).L.length<900000:=by have:=dodd_len s;have:=HH.out.2.2.1;omega
   have hup:=dodd_up HH.out.2.1
   have hvz:=nx_vz (mx:=mx) (n:=n) (s:=(dodd s).ms) F0.1 (by rw[hms];exact F0.2.1) (by rw[hms];exact F0.2.2.1) F0.2.2.2
   unfold dbegin
   obtain⟨X,hX0⟩:∃ X,nx mx n (dodd s).ms.bs false (dodd s).ms=X:=⟨_,rfl⟩
   rw[hX0]at hv hvz ⊢
   have HP:Hid (_):=And.intro hX0 (And.intro ht1 (And.intro hL1 (And.intro hup hvz)))
   clear hX0 ht1 hL1 hup hvz hms hw F0
   clear hst hb h4 hov ho hdd
   rcases hv with he | ⟨he,hc,hz,hoff⟩
   ·rw[he,if_neg (by omega),if_pos (by omega)]
    go_enter Tryz.func94,Tryz.ntmps94
    go_wp2_with (first | (go_at_call 154;refine hI.mono ?_;rintro e w' ⟨rfl,hw⟩;have hw:=hw.symm;subst hw) | (go_at_call 95;refine hS.mono ?_;rintro e w2 ⟨rfl,h2⟩;obtain⟨U2,g2,B2,x2⟩:=h2.out;have c7:w2.cell? ⟨d,7,none⟩=some B2.cp:=cell_of_row w2 d 7 _ _ _ x2.dev;rw[(x2.cel HP.out.2.2.2.1).1]at c7;have H2:Hid (_):=And.intro g2 x2;clear h2 g2 x2))
    clear hI hS
    have hX:=rnext B2.c m g n mx (dodd s).ms.bs false (dodd s).ms w2 H2.out.2.mem (H2.out.2.cel HP.out.2.2.2.1).2.1 (fun _=>rfl) (fun e=>by have:=H2.out.2.kc.1;rw[e,H2.out.2.km.1]at this;omega) (fun e=>by have:=H2.out.2.kc.1;rw[e,H2.out.2.kg.1]at this;omega) H2.out.2.n10 H2.out.2.mxl HP.out.2.1
    rw[HP.out.1,he]at hX
    go_wp2_with fail
    refine hX.mono ?_
    rintro e w3 ⟨rfl,o3,m3,k3⟩
    have g3:=H2.out.1.trans (Gr.same o3 H2.out.2.memU)
    have x3:=H2.out.2.memd o3 m3 (A':=False) (fun h=>h.elim)
    have hD:=rlife_any d m g n mx P U2 _ B2 False 6 w3 x3
    have H3:Hid (_):=g3
    clear hX o3 m3 k3 x3 g3 H2 c7
    go_wp2_with (go_at_call 77;refine hD.mono ?_;rintro e w4 ⟨rfl,h4⟩)
    go_ret2
    obtain⟨U4,B4,g4,x4⟩:=h4.out
    exact⟨_,rfl,OutR.none_ (H3.out.trans g4) ⟨B4,{ x4 with cel:=fun hs=>absurd rfl hs }⟩⟩
   ·rcases he with he | he
    ·rw[he,if_pos rfl]
     go_enter Tryz.func94,Tryz.ntmps94
     go_wp2_with (first | (go_at_call 154;refine hI.mono ?_;rintro e w' ⟨rfl,hw⟩;have hw:=hw.symm;subst hw) | (go_at_call 95;refine hS.mono ?_;rintro e w2 ⟨rfl,h2⟩;obtain⟨U2,g2,B2,x2⟩:=h2.out;have c7:w2.cell? ⟨d,7,none⟩=some B2.cp:=cell_of_row w2 d 7 _ _ _ x2.dev;rw[(x2.cel HP.out.2.2.2.1).1]at c7;have H2:Hid (_):=And.intro g2 x2;clear h2 g2 x2))
     clear hI hS
     have hX:=rnext B2.c m g n mx (dodd s).ms.bs false (dodd s).ms w2 H2.out.2.mem (H2.out.2.cel HP.out.2.2.2.1).2.1 (fun _=>rfl) (fun e=>by have:=H2.out.2.kc.1;rw[e,H2.out.2.km.1]at this;omega) (fun e=>by have:=H2.out.2.kc.1;rw[e,H2.out.2.kg.1]at this;omega) H2.out.2.n10 H2.out.2.mxl HP.out.2.1
     rw[HP.out.1,he]at hX
     go_wp2_with fail
     refine hX.mono ?_
     rintro e w3 ⟨rfl,o3,m3,k3⟩
     have g3:=H2.out.1.trans (Gr.same o3 H2.out.2.memU)
     rw[hc,hz]at k3
     have x3:=H2.out.2.memd o3 m3 (A':=(dodd s).st≠6) (fun h=>⟨(H2.out.2.cel h).1,k3,hoff⟩)
     have hT:=rvlatch_any d m g n mx P U2 { dodd s with ms:=X.s } 80 w3 ⟨B2,x3⟩ (by omega) HP.out.2.2.1
     have H3:Hid (_):=g3
     clear hX o3 m3 k3 x3 g3 H2 c7
     go_wp2_with (go_at_call 44;refine hT.mono ?_;rintro e w4 ⟨rfl,h4⟩)
     obtain⟨U4,g4,x4⟩:=h4.out
     have hV:=rvleave_any d m g n mx P U4 _ 5 w4 x4 (by rw[dlatch_st];exact HP.out.2.2.2.1)
     have H4:Hid (_):=H3.out.trans g4
     clear hT h4 g4 x4 H3
     go_wp2_with (go_at_call 157;refine hV.mono ?_;rintro e w5 ⟨rfl,h5⟩)
     obtain⟨U5,g5,x5⟩:=h5.out
     have hN:=rnone_any d m g n mx P U5 _ w5 x5 (by show (0:Nat)<_;omega)
     have H5:Hid (_):=And.intro (H4.out.trans g5) x5
     clear hV h5 g5 x5 H4
     go_wp2_with (go_at_call 96;refine hN.mono ?_;rintro e w6 ⟨v,rfl,h6⟩)
     go_ret2
     exact⟨v,rfl,OutR.mk H5.out.1 H5.out.2 h6.out.1 h6.out.2⟩
    ·rw[he,if_neg (by omega),if_neg (by omega)]
     go_enter Tryz.func94,Tryz.ntmps94
     go_wp2_with (first | (go_at_call 154;refine hI.mono ?_;rintro e w' ⟨rfl,hw⟩;have hw:=hw.symm;subst hw) | (go_at_call 95;refine hS.mono ?_;rintro e w2 ⟨rfl,h2⟩;obtain⟨U2,g2,B2,x2⟩:=h2.out;have c7:w2.cell? ⟨d,7,none⟩=some B2.cp:=cell_of_row w2 d 7 _ _ _ x2.dev;rw[(x2.cel HP.out.2.2.2.1).1]at c7;have H2:Hid (_):=And.intro g2 x2;clear h2 g2 x2))
     clear hI hS
     have hX:=rnext B2.c m g n mx (dodd s).ms.bs false (dodd s).ms w2 H2.out.2.mem (H2.out.2.cel HP.out.2.2.2.1).2.1 (fun _=>rfl) (fun e=>by have:=H2.out.2.kc.1;rw[e,H2.out.2.km.1]at this;omega) (fun e=>by have:=H2.out.2.kc.1;rw[e,H2.out.2.kg.1]at this;omega) H2.out.2.n10 H2.out.2.mxl HP.out.2.1
     rw[HP.out.1,he]at hX
     go_wp2_with fail
     refine hX.mono ?_
     rintro e w3 ⟨rfl,o3,m3,k3⟩
     have g3:=H2.out.1.trans (Gr.same o3 H2.out.2.memU)
     rw[hc,hz]at k3
     have x3:=H2.out.2.memd o3 m3 (A':=(dodd s).st≠6) (fun h=>⟨(H2.out.2.cel h).1,k3,hoff⟩)
     have hV:=rvleave_any d m g n mx P U2 { dodd s with ms:=X.s } 2 w3 ⟨B2,x3⟩ HP.out.2.2.2.1
     have H3:Hid (_):=And.intro g3 H2.out.2.mxl
     clear hX o3 m3 k3 x3 g3 H2 c7
     go_wp2_with (go_at_call 157;refine hV.mono ?_;rintro e w4 ⟨rfl,h4⟩;obtain⟨U4,g4,B4,x4⟩:=h4.out;have y19:w4.cell? ⟨d,19,none⟩=some (.int .u32 (0:Nat)):=cell_of_row w4 d 19 _ _ _ x4.dev;have f19:=x4.fz 19;have H4:Hid (_):=And.intro g4 x4;clear hV h4 g4 x4)
     have x4:=H4.out.2
     have e5:(w4.setCell ⟨d,19,none⟩ (.int .u32 (X.v:Nat))).heap[d]?=some (.cells (RDC P m mx B4.cp B4.lv B4.vv { dleave { dodd s with ms:=X.s } 2 with ss:=X.v } B4.av) 54 (0,0)):=heap_setCell_same _ _ _ _ _ _ x4.dev
     have o5:=Off.setCell d 19 w4 (.int .u32 (X.v:Nat))
     have x5:=x4.own (A':=({ dleave { dodd s with ms:=X.s } 2 with ss:=X.v }:Sd).st≠6) (s':={ dleave { dodd s with ms:=X.s } 2 with ss:=X.v }) o5 e5 rfl ⟨rfl,rfl⟩ rfl rfl x4.vok x4.dcl id
     have hN:=roffer_any d m g n mx P U4 _ _ ⟨B4,x5⟩ (by show X.v<_;have:=(HP.out.2.2.2.2.1 he);have:=H3.out.2;omega)
     have H5:Hid (_):=And.intro ((H3.out.1.trans H4.out.1).trans (Gr.same o5 (by simp[x4.kd.2]))) x5
     clear x4 H3 H4 o5 x5 e5
     go_wp2_with (go_at_call 155;refine hN.mono ?_;rintro e w6 ⟨v,rfl,h6⟩)
     go_ret2
     exact⟨v,rfl,OutR.mk H5.out.1 ⟨B4,H5.out.2⟩ h6.out.1 h6.out.2⟩
 ·have hb':dbusy s=false:=by simpa using hb
  rw[show decide (s.st=2∨s.st=3∨s.st=4)=false from hb']at hI
  have hds:dodd s=s:=by unfold dodd;rw[if_neg hb]
  have hn2:¬ (s.st=2∨s.st=3∨s.st=4):=by unfold dbusy at hb;simpa using hb
  have hw:dwish P mx n s=dbegin P mx n (dodd s):=by unfold dwish;rw[if_neg (by rw[hds];omega),if_neg (by rw[hds];omega)]
  rw[hw]
  obtain⟨B0,y0⟩:=HH.out.1
  have F0:10≤n∧s.ms.off=false∧0≤s.ms.l∧mx<4294967296:=⟨y0.n10,(y0.cel HH.out.2.1).2.2,y0.mem.l0,y0.mxl⟩
  clear y0
  have hms:=dodd_ms s
  have hv:=nx_live (mx:=mx) (n:=n) (s:=(dodd s).ms) F0.1 (by rw[hms];exact F0.2.1) (by rw[hms];exact F0.2.2.1)
  have ht1:(dodd s).ms.t<9223372036854774000:=by rw[hms];exact HH.out.2.2.2.1
  have hL1:(dodd s).L.length<900000:=by have:=dodd_len s;have:=HH.out.2.2.1;omega
  have hup:=dodd_up HH.out.2.1
  have hvz:=nx_vz (mx:=mx) (n:=n) (s:=(dodd s).ms) F0.1 (by rw[hms];exact F0.2.1) (by rw[hms];exact F0.2.2.1) F0.2.2.2
  unfold dbegin
  obtain⟨X,hX0⟩:∃ X,nx mx n (dodd s).ms.bs false (dodd s).ms=X:=⟨_,rfl⟩
  rw[hX0]at hv hvz ⊢
  have HP:Hid (_):=And.intro hX0 (And.intro ht1 (And.intro hL1 (And.intro hup hvz)))
  clear hX0 ht1 hL1 hup hvz hms hw F0
  clear hb hb' hn2 ho hS
  rcases hv with he | ⟨he,hc,hz,hoff⟩
  ·rw[he,if_neg (by omega),if_pos (by omega)]
   obtain⟨B2,y2⟩:=HH.out.1
   have x2:RB w d m g n mx P U (dodd s) B2 ((dodd s).st≠6):=by rw[hds];exact y2
   have c7:w.cell? ⟨d,7,none⟩=some B2.cp:=cell_of_row w d 7 _ _ _ x2.dev
   rw[(x2.cel HP.out.2.2.2.1).1]at c7
   have H2:Hid (_):=And.intro (Gr.refl U w) x2
   clear x2 y2
   go_enter Tryz.func94,Tryz.ntmps94
   go_wp2_with (go_at_call 154;refine hI.mono ?_;rintro e w' ⟨rfl,hw⟩;have hw:=hw.symm;subst hw)
   have hX:=rnext B2.c m g n mx (dodd s).ms.bs false (dodd s).ms w H2.out.2.mem (H2.out.2.cel HP.out.2.2.2.1).2.1 (fun _=>rfl) (fun e=>by have:=H2.out.2.kc.1;rw[e,H2.out.2.km.1]at this;omega) (fun e=>by have:=H2.out.2.kc.1;rw[e,H2.out.2.kg.1]at this;omega) H2.out.2.n10 H2.out.2.mxl HP.out.2.1
   rw[HP.out.1,he]at hX
   go_wp2_with fail
   refine hX.mono ?_
   rintro e w3 ⟨rfl,o3,m3,k3⟩
   have g3:=H2.out.1.trans (Gr.same o3 H2.out.2.memU)
   have x3:=H2.out.2.memd o3 m3 (A':=False) (fun h=>h.elim)
   have hD:=rlife_any d m g n mx P U _ B2 False 6 w3 x3
   have H3:Hid (_):=g3
   clear hX o3 m3 k3 x3 g3 H2 c7
   go_wp2_with (go_at_call 77;refine hD.mono ?_;rintro e w4 ⟨rfl,h4⟩)
   go_ret2
   obtain⟨U4,B4,g4,x4⟩:=h4.out
   exact⟨_,rfl,OutR.none_ (H3.out.trans g4) ⟨B4,{ x4 with cel:=fun hs=>absurd rfl hs }⟩⟩
  ·rcases he with he | he
   ·rw[he,if_pos rfl]
    obtain⟨B2,y2⟩:=HH.out.1
    have x2:RB w d m g n mx P U (dodd s) B2 ((dodd s).st≠6):=by rw[hds];exact y2
    have c7:w.cell? ⟨d,7,none⟩=some B2.cp:=cell_of_row w d 7 _ _ _ x2.dev
    rw[(x2.cel HP.out.2.2.2.1).1]at c7
    have H2:Hid (_):=And.intro (Gr.refl U w) x2
    clear x2 y2
    go_enter Tryz.func94,Tryz.ntmps94
    go_wp2_with (go_at_call 154;refine hI.mono ?_;rintro e w' ⟨rfl,hw⟩;have hw:=hw.symm;subst hw)
    have hX:=rnext B2.c m g n mx (dodd s).ms.bs false (dodd s).ms w H2.out.2.mem (H2.out.2.cel HP.out.2.2.2.1).2.1 (fun _=>rfl) (fun e=>by have:=H2.out.2.kc.1;rw[e,H2.out.2.km.1]at this;omega) (fun e=>by have:=H2.out.2.kc.1;rw[e,H2.out.2.kg.1]at this;omega) H2.out.2.n10 H2.out.2.mxl HP.out.2.1
    rw[HP.out.1,he]at hX
    go_wp2_with fail
    refine hX.mono ?_
    rintro e w3 ⟨rfl,o3,m3,k3⟩
    have g3:=H2.out.1.trans (Gr.same o3 H2.out.2.memU)
    rw[hc,hz]at k3
    have x3:=H2.out.2.memd o3 m3 (A':=(dodd s).st≠6) (fun h=>⟨(H2.out.2.cel h).1,k3,hoff⟩)
    have hT:=rvlatch_any d m g n mx P U { dodd s with ms:=X.s } 80 w3 ⟨B2,x3⟩ (by omega) HP.out.2.2.1
    have H3:Hid (_):=g3
    clear hX o3 m3 k3 x3 g3 H2 c7
    go_wp2_with (go_at_call 44;refine hT.mono ?_;rintro e w4 ⟨rfl,h4⟩)
    obtain⟨U4,g4,x4⟩:=h4.out
    have hV:=rvleave_any d m g n mx P U4 _ 5 w4 x4 (by rw[dlatch_st];exact HP.out.2.2.2.1)
    have H4:Hid (_):=H3.out.trans g4
    clear hT h4 g4 x4 H3
    go_wp2_with (go_at_call 157;refine hV.mono ?_;rintro e w5 ⟨rfl,h5⟩)
    obtain⟨U5,g5,x5⟩:=h5.out
    have hN:=rnone_any d m g n mx P U5 _ w5 x5 (by show (0:Nat)<_;omega)
    have H5:Hid (_):=And.intro (H4.out.trans g5) x5
    clear hV h5 g5 x5 H4
    go_wp2_with (go_at_call 96;refine hN.mono ?_;rintro e w6 ⟨v,rfl,h6⟩)
    go_ret2
    exact⟨v,rfl,OutR.mk H5.out.1 H5.out.2 h6.out.1 h6.out.2⟩
   ·rw[he,if_neg (by omega),if_neg (by omega)]
    obtain⟨B2,y2⟩:=HH.out.1
    have x2:RB w d m g n mx P U (dodd s) B2 ((dodd s).st≠6):=by rw[hds];exact y2
    have c7:w.cell? ⟨d,7,none⟩=some B2.cp:=cell_of_row w d 7 _ _ _ x2.dev
    rw[(x2.cel HP.out.2.2.2.1).1]at c7
    have H2:Hid (_):=And.intro (Gr.refl U w) x2
    clear x2 y2
    go_enter Tryz.func94,Tryz.ntmps94
    go_wp2_with (go_at_call 154;refine hI.mono ?_;rintro e w' ⟨rfl,hw⟩;have hw:=hw.symm;subst hw)
    have hX:=rnext B2.c m g n mx (dodd s).ms.bs false (dodd s).ms w H2.out.2.mem (H2.out.2.cel HP.out.2.2.2.1).2.1 (fun _=>rfl) (fun e=>by have:=H2.out.2.kc.1;rw[e,H2.out.2.km.1]at this;omega) (fun e=>by have:=H2.out.2.kc.1;rw[e,H2.out.2.kg.1]at this;omega) H2.out.2.n10 H2.out.2.mxl HP.out.2.1
    rw[HP.out.1,he]at hX
    go_wp2_with fail
    refine hX.mono ?_
    rintro e w3 ⟨rfl,o3,m3,k3⟩
    have g3:=H2.out.1.trans (Gr.same o3 H2.out.2.memU)
    rw[hc,hz]at k3
    have x3:=H2.out.2.memd o3 m3 (A':=(dodd s).st≠6) (fun h=>⟨(H2.out.2.cel h).1,k3,hoff⟩)
    have hV:=rvleave_any d m g n mx P U { dodd s with ms:=X.s } 2 w3 ⟨B2,x3⟩ HP.out.2.2.2.1
    have H3:Hid (_):=And.intro g3 H2.out.2.mxl
    clear hX o3 m3 k3 x3 g3 H2 c7
    go_wp2_with (go_at_call 157;refine hV.mono ?_;rintro e w4 ⟨rfl,h4⟩;obtain⟨U4,g4,B4,x4⟩:=h4.out;have y19:w4.cell? ⟨d,19,none⟩=some (.int .u32 (0:Nat)):=cell_of_row w4 d 19 _ _ _ x4.dev;have f19:=x4.fz 19;have H4:Hid (_):=And.intro g4 x4;clear hV h4 g4 x4)
    have x4:=H4.out.2
    have e5:(w4.setCell ⟨d,19,none⟩ (.int .u32 (X.v:Nat))).heap[d]?=some (.cells (RDC P m mx B4.cp B4.lv B4.vv { dleave { dodd s with ms:=X.s } 2 with ss:=X.v } B4.av) 54 (0,0)):=heap_setCell_same _ _ _ _ _ _ x4.dev
    have o5:=Off.setCell d 19 w4 (.int .u32 (X.v:Nat))
    have x5:=x4.own (A':=({ dleave { dodd s with ms:=X.s } 2 with ss:=X.v }:Sd).st≠6) (s':={ dleave { dodd s with ms:=X.s } 2 with ss:=X.v }) o5 e5 rfl ⟨rfl,rfl⟩ rfl rfl x4.vok x4.dcl id
    have hN:=roffer_any d m g n mx P U4 _ _ ⟨B4,x5⟩ (by show X.v<_;have:=(HP.out.2.2.2.2.1 he);have:=H3.out.2;omega)
    have H5:Hid (_):=And.intro ((H3.out.1.trans H4.out.1).trans (Gr.same o5 (by simp[x4.kd.2]))) x5
    clear x4 H3 H4 o5 x5 e5
    go_wp2_with (go_at_call 155;refine hN.mono ?_;rintro e w6 ⟨v,rfl,h6⟩)
    go_ret2
    exact⟨v,rfl,OutR.mk H5.out.1 ⟨B4,H5.out.2⟩ h6.out.1 h6.out.2⟩
theorem OutR.pre {U U1:List Nat} {w w1 w2:World} {d m g n mx:Nat} {P:Pm} {s:Sd} {f:Fm} {v:Value} (h:Gr U w U1 w1) (x:OutR U1 w1 w2 d m g n mx P s f v):OutR U w w2 d m g n mx P s f v:=by
 obtain⟨U',g2,x2,f2,k2⟩:=x
 exact⟨U',h.trans g2,x2,own_base f2 h.off.size,k2⟩
theorem OutR.next {U U1 U2:List Nat} {w w1 w2:World} {d m g n mx:Nat} {P:Pm} {s:Sd} {f:Fm} {v:Value} (g1:Gr U w U1 w1) (hf:Fr w1 w.heap.size v f) (hk:∀ k,v.ownBlock=some k→k ∉ U1) (g2:Gr U1 w1 U2 w2) (x2:RW w2 d m g n mx P U2 s):OutR U w w2 d m g n mx P s f v:=
 ⟨U2,g1.trans g2,x2,own_offk hf g2.off hk,fun k e=>g2.out (hf.lt k e) (hk k e)⟩
set_option maxHeartbeats 3200000 in
theorem rvtick_any (d m g n mx:Nat) (P:Pm) (U:List Nat) (s:Sd) (k:Int) (w:World) (h:RW w d m g n mx P U s) (hk:k≤9223372036854775807) (hL:s.L.length<800000) :
  Calls Tryz.prog 11 #[.pointer (some ⟨d,0,none⟩),.int .i64 k] w fun e w'=>e=.returned (.int .i64 (dtickE s k))∧Hid (∃ U',Gr U w U' w'∧RW w' d m g n mx P U' (dtickS P s k)):=by
 obtain⟨B,x⟩:=id h
 have c18:w.cell? ⟨d,18,none⟩=some (.int .i64 (s.st:Nat)):=cell_of_row w d 18 _ _ _ x.dev
 unfold dtickE dtickS
 by_cases h6:s.st=6
 ·rw[if_pos h6,if_pos h6]
  rw[h6]at c18
  have H:Hid (_):=h
  clear h x h6
  go_enter Tryz.func11,Tryz.ntmps11
  go_wp2_with fail
  go_ret
  exact⟨rfl,U,Gr.refl _ _,H.out⟩
 ·rw[if_neg h6,if_neg h6]
  have e6:((s.st:Int) == 6)=false:=by simp;omega
  by_cases hn:k<0
  ·rw[if_pos hn,if_pos hn]
   have H:Hid (_):=h
   clear h x h6
   go_enter Tryz.func11,Tryz.ntmps11
   go_wp2_with fail
   go_ret
   exact⟨rfl,U,Gr.refl _ _,H.out⟩
  ·rw[if_neg hn,if_neg hn]
   obtain⟨j,rfl⟩:∃ j:Nat,k=(j:Int):=⟨k.toNat,by omega⟩
   rw[show (j:Int).toNat=j from rfl]
   have qT:=rticksv_any d m g n mx P U s B _ j w x (by omega)
   have HL:Hid (_):=hL
   clear h x h6 hn hk hL
   cases ht:told P.t s.dc j
   ·rw[if_neg (by simp)]
    rw[ht]at qT
    go_enter Tryz.func11,Tryz.ntmps11
    go_wp2_with (go_at_call 43;refine qT.mono ?_;rintro e w2 ⟨rfl,h2⟩)
    go_ret
    obtain⟨g2,B2,x2⟩:=h2.out
    exact⟨rfl,U,g2,B2,x2⟩
   ·rw[if_pos rfl]
    rw[ht]at qT
    go_enter Tryz.func11,Tryz.ntmps11
    go_wp2_with (go_at_call 43;refine qT.mono ?_;rintro e w2 ⟨rfl,h2⟩)
    obtain⟨g2,B2,x2⟩:=h2.out
    have H2:Hid (_):=g2
    have hT:=rvlatch_any d m g n mx P U { s with dc:=tk P.t s.dc j } 100 w2 ⟨B2,x2⟩ (by omega) (by have:=HL.out;show s.L.length<900000;omega)
    clear qT h2 g2 x2
    go_wp2_with (go_at_call 44;refine hT.mono ?_;rintro e w3 ⟨rfl,h3⟩)
    go_ret
    obtain⟨U3,g3,x3⟩:=h3.out
    exact⟨rfl,U3,H2.out.trans g3,x3⟩
theorem lifeZ {w:World} {d m mx:Nat} {P:Pm} {cp:Value} (h:w.heap[d]?=some (.cells #[.int .u32 (P.c:Nat),.int .i64 (P.o:Nat),.int .i64 (P.i:Nat),.int .i64 (P.t:Nat),.int .u32 (P.n:Nat),.pointer (some ⟨m,0,none⟩),.int .u32 (mx:Nat),cp,.slice none 0 0,.int .i64 0,.int .i64 0,.int .i64 0,.bool false,.bool false,.bool false,.int .i64 0,.slice none 0 0,.bool false,.int .i64 0,.int .u32 0,.int .u32 0,.int .u32 0,.int .i64 0,.slice none 0 0,.bool false] 54 (0,0))) :
  ((((((((((((((w.setCell ⟨d,9,none⟩ (.int .i64 (P.t:Nat))).setCell ⟨d,10,none⟩ (.int .i64 0)).setCell ⟨d,11,none⟩ (.int .i64 (P.o:Nat))).setCell ⟨d,12,none⟩ (.bool false)).setCell ⟨d,13,none⟩ (.bool false)).setCell ⟨d,14,none⟩ (.bool false)).setCell ⟨d,15,none⟩ (.int .i64 0)).setCell ⟨d,16,none⟩ (.slice none 0 0)).setCell ⟨d,17,none⟩ (.bool false)).setCell ⟨d,18,none⟩ (.int .i64 1)).setCell ⟨d,19,none⟩ (.int .u32 0)).setCell ⟨d,20,none⟩ (.int .u32 0)).setCell ⟨d,21,none⟩ (.int .u32 0)).setCell ⟨d,22,none⟩ (.int .i64 0)).heap[d]?=some (.cells #[.int .u32 (P.c:Nat),.int .i64 (P.o:Nat),.int .i64 (P.i:Nat),.int .i64 (P.t:Nat),.int .u32 (P.n:Nat),.pointer (some ⟨m,0,none⟩),.int .u32 (mx:Nat),cp,.slice none 0 0,.int .i64 (P.t:Nat),.int .i64 0,.int .i64 (P.o:Nat),.bool false,.bool false,.bool false,.int .i64 0,.slice none 0 0,.bool false,.int .i64 1,.int .u32 0,.int .u32 0,.int .u32 0,.int .i64 0,.slice none 0 0,.bool false] 54 (0,0))∧Off [d] w ((((((((((((((w.setCell ⟨d,9,none⟩ (.int .i64 (P.t:Nat))).setCell ⟨d,10,none⟩ (.int .i64 0)).setCell ⟨d,11,none⟩ (.int .i64 (P.o:Nat))).setCell ⟨d,12,none⟩ (.bool false)).setCell ⟨d,13,none⟩ (.bool false)).setCell ⟨d,14,none⟩ (.bool false)).setCell ⟨d,15,none⟩ (.int .i64 0)).setCell ⟨d,16,none⟩ (.slice none 0 0)).setCell ⟨d,17,none⟩ (.bool false)).setCell ⟨d,18,none⟩ (.int .i64 1)).setCell ⟨d,19,none⟩ (.int .u32 0)).setCell ⟨d,20,none⟩ (.int .u32 0)).setCell ⟨d,21,none⟩ (.int .u32 0)).setCell ⟨d,22,none⟩ (.int .i64 0)):=by
 have e0:(w.setCell ⟨d,9,none⟩ (.int .i64 (P.t:Nat))).heap[d]?=some (.cells #[.int .u32 (P.c:Nat),.int .i64 (P.o:Nat),.int .i64 (P.i:Nat),.int .i64 (P.t:Nat),.int .u32 (P.n:Nat),.pointer (some ⟨m,0,none⟩),.int .u32 (mx:Nat),cp,.slice none 0 0,.int .i64 (P.t:Nat),.int .i64 0,.int .i64 0,.bool false,.bool false,.bool false,.int .i64 0,.slice none 0 0,.bool false,.int .i64 0,.int .u32 0,.int .u32 0,.int .u32 0,.int .i64 0,.slice none 0 0,.bool false] 54 (0,0)):=heap_setCell_same _ _ _ _ _ _ h
 have e1:((w.setCell ⟨d,9,none⟩ (.int .i64 (P.t:Nat))).setCell ⟨d,10,none⟩ (.int .i64 0)).heap[d]?=some (.cells #[.int .u32 (P.c:Nat),.int .i64 (P.o:Nat),.int .i64 (P.i:Nat),.int .i64 (P.t:Nat),.int .u32 (P.n:Nat),.pointer (some ⟨m,0,none⟩),.int .u32 (mx:Nat),cp,.slice none 0 0,.int .i64 (P.t:Nat),.int .i64 0,.int .i64 0,.bool false,.bool false,.bool false,.int .i64 0,.slice none 0 0,.bool false,.int .i64 0,.int .u32 0,.int .u32 0,.int .u32 0,.int .i64 0,.slice none 0 0,.bool false] 54 (0,0)):=heap_setCell_same _ _ _ _ _ _ e0
 have e2:(((w.setCell ⟨d,9,none⟩ (.int .i64 (P.t:Nat))).setCell ⟨d,10,none⟩ (.int .i64 0)).setCell ⟨d,11,none⟩ (.int .i64 (P.o:Nat))).heap[d]?=some (.cells #[.int .u32 (P.c:Nat),.int .i64 (P.o:Nat),.int .i64 (P.i:Nat),.int .i64 (P.t:Nat),.int .u32 (P.n:Nat),.pointer (some ⟨m,0,none⟩),.int .u32 (mx:Nat),cp,.slice none 0 0,.int .i64 (P.t:Nat),.int .i64 0,.int .i64 (P.o:Nat),.bool false,.bool false,.bool false,.int .i64 0,.slice none 0 0,.bool false,.int .i64 0,.int .u32 0,.int .u32 0,.int .u32 0,.int .i64 0,.slice none 0 0,.bool false] 54 (0,0)):=heap_setCell_same _ _ _ _ _ _ e1
 have e3:((((w.setCell ⟨d,9,none⟩ (.int .i64 (P.t:Nat))).setCell ⟨d,10,none⟩ (.int .i64 0)).setCell ⟨d,11,none⟩ (.int .i64 (P.o:Nat))).setCell ⟨d,12,none⟩ (.bool false)).heap[d]?=some (.cells #[.int .u32 (P.c:Nat),.int .i64 (P.o:Nat),.int .i64 (P.i:Nat),.int .i64 (P.t:Nat),.int .u32 (P.n:Nat),.pointer (some ⟨m,0,none⟩),.int .u32 (mx:Nat),cp,.slice none 0 0,.int .i64 (P.t:Nat),.int .i64 0,.int .i64 (P.o:Nat),.bool false,.bool false,.bool false,.int .i64 0,.slice none 0 0,.bool false,.int .i64 0,.int .u32 0,.int .u32 0,.int .u32 0,.int .i64 0,.slice none 0 0,.bool false] 54 (0,0)):=heap_setCell_same _ _ _ _ _ _ e2
 have e4:(((((w.setCell ⟨d,9,none⟩ (.int .i64 (P.t:Nat))).setCell ⟨d,10,none⟩ (.int .i64 0)).setCell ⟨d,11,none⟩ (.int .i64 (P.o:Nat))).setCell ⟨d,12,none⟩ (.bool false)).setCell ⟨d,13,none⟩ (.bool false)).heap[d]?=some (.cells #[.int .u32 (P.c:Nat),.int .i64 (P.o:Nat),.int .i64 (P.i:Nat),.int .i64 (P.t:Nat),.int .u32 (P.n:Nat),.pointer (some ⟨m,0,none⟩),.int .u32 (mx:Nat),cp,.slice none 0 0,.int .i64 (P.t:Nat),.int .i64 0,.int .i64 (P.o:Nat),.bool false,.bool false,.bool false,.int .i64 0,.slice none 0 0,.bool false,.int .i64 0,.int .u32 0,.int .u32 0,.int .u32 0,.int .i64 0,.slice none 0 0,.bool false] 54 (0,0)):=heap_setCell_same _ _ _ _ _ _ e3
 have e5:((((((w.setCell ⟨d,9,none⟩ (.int .i64 (P.t:Nat))).setCell ⟨d,10,none⟩ (.int .i64 0)).setCell ⟨d,11,none⟩ (.int .i64 (P.o:Nat))).setCell ⟨d,12,none⟩ (.bool false)).setCell ⟨d,13,none⟩ (.bool false)).setCell ⟨d,14,none⟩ (.bool false)).heap[d]?=some (.cells #[.int .u32 (P.c:Nat),.int .i64 (P.o:Nat),.int .i64 (P.i:Nat),.int .i64 (P.t:Nat),.int .u32 (P.n:Nat),.pointer (some ⟨m,0,none⟩),.int .u32 (mx:Nat),cp,.slice none 0 0,.int .i64 (P.t:Nat),.int .i64 0,.int .i64 (P.o:Nat),.bool false,.bool false,.bool false,.int .i64 0,.slice none 0 0,.bool false,.int .i64 0,.int .u32 0,.int .u32 0,.int .u32 0,.int .i64 0,.slice none 0 0,.bool false] 54 (0,0)):=heap_setCell_same _ _ _ _ _ _ e4
 have e6:(((((((w.setCell ⟨d,9,none⟩ (.int .i64 (P.t:Nat))).setCell ⟨d,10,none⟩ (.int .i64 0)).setCell ⟨d,11,none⟩ (.int .i64 (P.o:Nat))).setCell ⟨d,12,none⟩ (.bool false)).setCell ⟨d,13,none⟩ (.bool false)).setCell ⟨d,14,none⟩ (.bool false)).setCell ⟨d,15,none⟩ (.int .i64 0)).heap[d]?=some (.cells #[.int .u32 (P.c:Nat),.int .i64 (P.o:Nat),.int .i64 (P.i:Nat),.int .i64 (P.t:Nat),.int .u32 (P.n:Nat),.pointer (some ⟨m,0,none⟩),.int .u32 (mx:Nat),cp,.slice none 0 0,.int .i64 (P.t:Nat),.int .i64 0,.int .i64 (P.o:Nat),.bool false,.bool false,.bool false,.int .i64 0,.slice none 0 0,.bool false,.int .i64 0,.int .u32 0,.int .u32 0,.int .u32 0,.int .i64 0,.slice none 0 0,.bool false] 54 (0,0)):=heap_setCell_same _ _ _ _ _ _ e5
 have e7:((((((((w.setCell ⟨d,9,none⟩ (.int .i64 (P.t:Nat))).setCell ⟨d,10,none⟩ (.int .i64 0)).setCell ⟨d,11,none⟩ (.int .i64 (P.o:Nat))).setCell ⟨d,12,none⟩ (.bool false)).setCell ⟨d,13,none⟩ (.bool false)).setCell ⟨d,14,none⟩ (.bool false)).setCell ⟨d,15,none⟩ (.int .i64 0)).setCell ⟨d,16,none⟩ (.slice none 0 0)).heap[d]?=some (.cells #[.int .u32 (P.c:Nat),.int .i64 (P.o:Nat),.int .i64 (P.i:Nat),.int .i64 (P.t:Nat),.int .u32 (P.n:Nat),.pointer (some ⟨m,0,none⟩),.int .u32 (mx:Nat),cp,.slice none 0 0,.int .i64 (P.t:Nat),.int .i64 0,.int .i64 (P.o:Nat),.bool false,.bool false,.bool false,.int .i64 0,.slice none 0 0,.bool false,.int .i64 0,.int .u32 0,.int .u32 0,.int .u32 0,.int .i64 0,.slice none 0 0,.bool false] 54 (0,0)):=heap_setCell_same _ _ _ _ _ _ e6
 have e8:(((((((((w.setCell ⟨d,9,none⟩ (.int .i64 (P.t:Nat))).setCell ⟨d,10,none⟩ (.int .i64 0)).setCell ⟨d,11,none⟩ (.int .i64 (P.o:Nat))).setCell ⟨d,12,none⟩ (.bool false)).setCell ⟨d,13,none⟩ (.bool false)).setCell ⟨d,14,none⟩ (.bool false)).setCell ⟨d,15,none⟩ (.int .i64 0)).setCell ⟨d,16,none⟩ (.slice none 0 0)).setCell ⟨d,17,none⟩ (.bool false)).heap[d]?=some (.cells #[.int .u32 (P.c:Nat),.int .i64 (P.o:Nat),.int .i64 (P.i:Nat),.int .i64 (P.t:Nat),.int .u32 (P.n:Nat),.pointer (some ⟨m,0,none⟩),.int .u32 (mx:Nat),cp,.slice none 0 0,.int .i64 (P.t:Nat),.int .i64 0,.int .i64 (P.o:Nat),.bool false,.bool false,.bool false,.int .i64 0,.slice none 0 0,.bool false,.int .i64 0,.int .u32 0,.int .u32 0,.int .u32 0,.int .i64 0,.slice none 0 0,.bool false] 54 (0,0)):=heap_setCell_same _ _ _ _ _ _ e7
 have e9:((((((((((w.setCell ⟨d,9,none⟩ (.int .i64 (P.t:Nat))).setCell ⟨d,10,none⟩ (.int .i64 0)).setCell ⟨d,11,none⟩ (.int .i64 (P.o:Nat))).setCell ⟨d,12,none⟩ (.bool false)).setCell ⟨d,13,none⟩ (.bool false)).setCell ⟨d,14,none⟩ (.bool false)).setCell ⟨d,15,none⟩ (.int .i64 0)).setCell ⟨d,16,none⟩ (.slice none 0 0)).setCell ⟨d,17,none⟩ (.bool false)).setCell ⟨d,18,none⟩ (.int .i64 1)).heap[d]?=some (.cells #[.int .u32 (P.c:Nat),.int .i64 (P.o:Nat),.int .i64 (P.i:Nat),.int .i64 (P.t:Nat),.int .u32 (P.n:Nat),.pointer (some ⟨m,0,none⟩),.int .u32 (mx:Nat),cp,.slice none 0 0,.int .i64 (P.t:Nat),.int .i64 0,.int .i64 (P.o:Nat),.bool false,.bool false,.bool false,.int .i64 0,.slice none 0 0,.bool false,.int .i64 1,.int .u32 0,.int .u32 0,.int .u32 0,.int .i64 0,.slice none 0 0,.bool false] 54 (0,0)):=heap_setCell_same _ _ _ _ _ _ e8
 have e10:(((((((((((w.setCell ⟨d,9,none⟩ (.int .i64 (P.t:Nat))).setCell ⟨d,10,none⟩ (.int .i64 0)).setCell ⟨d,11,none⟩ (.int .i64 (P.o:Nat))).setCell ⟨d,12,none⟩ (.bool false)).setCell ⟨d,13,none⟩ (.bool false)).setCell ⟨d,14,none⟩ (.bool false)).setCell ⟨d,15,none⟩ (.int .i64 0)).setCell ⟨d,16,none⟩ (.slice none 0 0)).setCell ⟨d,17,none⟩ (.bool false)).setCell ⟨d,18,none⟩ (.int .i64 1)).setCell ⟨d,19,none⟩ (.int .u32 0)).heap[d]?=some (.cells #[.int .u32 (P.c:Nat),.int .i64 (P.o:Nat),.int .i64 (P.i:Nat),.int .i64 (P.t:Nat),.int .u32 (P.n:Nat),.pointer (some ⟨m,0,none⟩),.int .u32 (mx:Nat),cp,.slice none 0 0,.int .i64 (P.t:Nat),.int .i64 0,.int .i64 (P.o:Nat),.bool false,.bool false,.bool false,.int .i64 0,.slice none 0 0,.bool false,.int .i64 1,.int .u32 0,.int .u32 0,.int .u32 0,.int .i64 0,.slice none 0 0,.bool false] 54 (0,0)):=heap_setCell_same _ _ _ _ _ _ e9
 have e11:((((((((((((w.setCell ⟨d,9,none⟩ (.int .i64 (P.t:Nat))).setCell ⟨d,10,none⟩ (.int .i64 0)).setCell ⟨d,11,none⟩ (.int .i64 (P.o:Nat))).setCell ⟨d,12,none⟩ (.bool false)).setCell ⟨d,13,none⟩ (.bool false)).setCell ⟨d,14,none⟩ (.bool false)).setCell ⟨d,15,none⟩ (.int .i64 0)).setCell ⟨d,16,none⟩ (.slice none 0 0)).setCell ⟨d,17,none⟩ (.bool false)).setCell ⟨d,18,none⟩ (.int .i64 1)).setCell ⟨d,19,none⟩ (.int .u32 0)).setCell ⟨d,20,none⟩ (.int .u32 0)).heap[d]?=some (.cells #[.int .u32 (P.c:Nat),.int .i64 (P.o:Nat),.int .i64 (P.i:Nat),.int .i64 (P.t:Nat),.int .u32 (P.n:Nat),.pointer (some ⟨m,0,none⟩),.int .u32 (mx:Nat),cp,.slice none 0 0,.int .i64 (P.t:Nat),.int .i64 0,.int .i64 (P.o:Nat),.bool false,.bool false,.bool false,.int .i64 0,.slice none 0 0,.bool false,.int .i64 1,.int .u32 0,.int .u32 0,.int .u32 0,.int .i64 0,.slice none 0 0,.bool false] 54 (0,0)):=heap_setCell_same _ _ _ _ _ _ e10
 have e12:(((((((((((((w.setCell ⟨d,9,none⟩ (.int .i64 (P.t:Nat))).setCell ⟨d,10,none⟩ (.int .i64 0)).setCell ⟨d,11,none⟩ (.int .i64 (P.o:Nat))).setCell ⟨d,12,none⟩ (.bool false)).setCell ⟨d,13,none⟩ (.bool false)).setCell ⟨d,14,none⟩ (.bool false)).setCell ⟨d,15,none⟩ (.int .i64 0)).setCell ⟨d,16,none⟩ (.slice none 0 0)).setCell ⟨d,17,none⟩ (.bool false)).setCell ⟨d,18,none⟩ (.int .i64 1)).setCell ⟨d,19,none⟩ (.int .u32 0)).setCell ⟨d,20,none⟩ (.int .u32 0)).setCell ⟨d,21,none⟩ (.int .u32 0)).heap[d]?=some (.cells #[.int .u32 (P.c:Nat),.int .i64 (P.o:Nat),.int .i64 (P.i:Nat),.int .i64 (P.t:Nat),.int .u32 (P.n:Nat),.pointer (some ⟨m,0,none⟩),.int .u32 (mx:Nat),cp,.slice none 0 0,.int .i64 (P.t:Nat),.int .i64 0,.int .i64 (P.o:Nat),.bool false,.bool false,.bool false,.int .i64 0,.slice none 0 0,.bool false,.int .i64 1,.int .u32 0,.int .u32 0,.int .u32 0,.int .i64 0,.slice none 0 0,.bool false] 54 (0,0)):=heap_setCell_same _ _ _ _ _ _ e11
 have e13:((((((((((((((w.setCell ⟨d,9,none⟩ (.int .i64 (P.t:Nat))).setCell ⟨d,10,none⟩ (.int .i64 0)).setCell ⟨d,11,none⟩ (.int .i64 (P.o:Nat))).setCell ⟨d,12,none⟩ (.bool false)).setCell ⟨d,13,none⟩ (.bool false)).setCell ⟨d,14,none⟩ (.bool false)).setCell ⟨d,15,none⟩ (.int .i64 0)).setCell ⟨d,16,none⟩ (.slice none 0 0)).setCell ⟨d,17,none⟩ (.bool false)).setCell ⟨d,18,none⟩ (.int .i64 1)).setCell ⟨d,19,none⟩ (.int .u32 0)).setCell ⟨d,20,none⟩ (.int .u32 0)).setCell ⟨d,21,none⟩ (.int .u32 0)).setCell ⟨d,22,none⟩ (.int .i64 0)).heap[d]?=some (.cells #[.int .u32 (P.c:Nat),.int .i64 (P.o:Nat),.int .i64 (P.i:Nat),.int .i64 (P.t:Nat),.int .u32 (P.n:Nat),.pointer (some ⟨m,0,none⟩),.int .u32 (mx:Nat),cp,.slice none 0 0,.int .i64 (P.t:Nat),.int .i64 0,.int .i64 (P.o:Nat),.bool false,.bool false,.bool false,.int .i64 0,.slice none 0 0,.bool false,.int .i64 1,.int .u32 0,.int .u32 0,.int .u32 0,.int .i64 0,.slice none 0 0,.bool false] 54 (0,0)):=heap_setCell_same _ _ _ _ _ _ e12
 exact⟨e13,((((((((((((((Off.setCell d 9 w (.int .i64 (P.t:Nat))).trans (Off.setCell d 10 _ (.int .i64 0))).trans (Off.setCell d 11 _ (.int .i64 (P.o:Nat)))).trans (Off.setCell d 12 _ (.bool false))).trans (Off.setCell d 13 _ (.bool false))).trans (Off.setCell d 14 _ (.bool false))).trans (Off.setCell d 15 _ (.int .i64 0))).trans (Off.setCell d 16 _ (.slice none 0 0))).trans (Off.setCell d 17 _ (.bool false))).trans (Off.setCell d 18 _ (.int .i64 1))).trans (Off.setCell d 19 _ (.int .u32 0))).trans (Off.setCell d 20 _ (.int .u32 0))).trans (Off.setCell d 21 _ (.int .u32 0))).trans (Off.setCell d 22 _ (.int .i64 0)))⟩
set_option maxHeartbeats 6400000 in
theorem rlife_first (d m mx:Nat) (P:Pm) (cp:Value) (ms:Ms) (w:World) (h:w.heap[d]?=some (.cells #[.int .u32 (P.c:Nat),.int .i64 (P.o:Nat),.int .i64 (P.i:Nat),.int .i64 (P.t:Nat),.int .u32 (P.n:Nat),.pointer (some ⟨m,0,none⟩),.int .u32 (mx:Nat),cp,.slice none 0 0,.int .i64 0,.int .i64 0,.int .i64 0,.bool false,.bool false,.bool false,.int .i64 0,.slice none 0 0,.bool false,.int .i64 0,.int .u32 0,.int .u32 0,.int .u32 0,.int .i64 0,.slice none 0 0,.bool false] 54 (0,0))) (hi8:P.i≤8) :
  Calls Tryz.prog 77 #[.pointer (some ⟨d,0,none⟩),.int .i64 1] w fun e w'=>e=.returned (.tuple #[])∧Hid (Off [d] w w'∧∃ ga,w.heap.size≤ga∧ga<w'.heap.size∧w'.heap[d]?=some (.cells (RDC P m mx cp (.slice none 0 0) (.slice none 0 0) (dnew ms) (.slice (some ⟨ga,0,none⟩) P.i P.i)) 54 (0,0))∧w'.ownsRow 0 5 1 (.slice (some ⟨ga,0,none⟩) P.i P.i) P.i (CB (fun _=>0) P.i)):=by
 obtain⟨i0,hi,hz0,hz1,hz2⟩:=info_parts info_u8
 have hdl:d<w.heap.size:=(Array.getElem?_eq_some_iff.1 h).1
 have c1:w.cell? ⟨d,1,none⟩=some (.int .i64 (P.o:Nat)):=cell_of_row w d 1 _ _ _ h
 have c2:w.cell? ⟨d,2,none⟩=some (.int .i64 (P.i:Nat)):=cell_of_row w d 2 _ _ _ h
 have c3:w.cell? ⟨d,3,none⟩=some (.int .i64 (P.t:Nat)):=cell_of_row w d 3 _ _ _ h
 have c9:w.cell? ⟨d,9,none⟩=some (.int .i64 0):=cell_of_row w d 9 _ _ _ h
 have z9:=frozen_of_row w d 9 _ _ h
 have c10:w.cell? ⟨d,10,none⟩=some (.int .i64 0):=cell_of_row w d 10 _ _ _ h
 have z10:=frozen_of_row w d 10 _ _ h
 have c11:w.cell? ⟨d,11,none⟩=some (.int .i64 0):=cell_of_row w d 11 _ _ _ h
 have z11:=frozen_of_row w d 11 _ _ h
 have c12:w.cell? ⟨d,12,none⟩=some (.bool false):=cell_of_row w d 12 _ _ _ h
 have z12:=frozen_of_row w d 12 _ _ h
 have c13:w.cell? ⟨d,13,none⟩=some (.bool false):=cell_of_row w d 13 _ _ _ h
 have z13:=frozen_of_row w d 13 _ _ h
 have c14:w.cell? ⟨d,14,none⟩=some (.bool false):=cell_of_row w d 14 _ _ _ h
 have z14:=frozen_of_row w d 14 _ _ h
 have c15:w.cell? ⟨d,15,none⟩=some (.int .i64 0):=cell_of_row w d 15 _ _ _ h
 have z15:=frozen_of_row w d 15 _ _ h
 have c16:w.cell? ⟨d,16,none⟩=some (.slice none 0 0):=cell_of_row w d 16 _ _ _ h
 have z16:=frozen_of_row w d 16 _ _ h
 have c17:w.cell? ⟨d,17,none⟩=some (.bool false):=cell_of_row w d 17 _ _ _ h
 have z17:=frozen_of_row w d 17 _ _ h
 have c18:w.cell? ⟨d,18,none⟩=some (.int .i64 0):=cell_of_row w d 18 _ _ _ h
 have z18:=frozen_of_row w d 18 _ _ h
 have c19:w.cell? ⟨d,19,none⟩=some (.int .u32 0):=cell_of_row w d 19 _ _ _ h
 have z19:=frozen_of_row w d 19 _ _ h
 have c20:w.cell? ⟨d,20,none⟩=some (.int .u32 0):=cell_of_row w d 20 _ _ _ h
 have z20:=frozen_of_row w d 20 _ _ h
 have c21:w.cell? ⟨d,21,none⟩=some (.int .u32 0):=cell_of_row w d 21 _ _ _ h
 have z21:=frozen_of_row w d 21 _ _ h
 have c22:w.cell? ⟨d,22,none⟩=some (.int .i64 0):=cell_of_row w d 22 _ _ _ h
 have z22:=frozen_of_row w d 22 _ _ h
 have l14:=lifeZ h
 have H:Hid (_):=And.intro hdl l14
 clear h l14 hdl
 go_enter Tryz.func77,Tryz.ntmps77
 go_upto_region 7 with fail
 generalize ((((((((((((((w.setCell ⟨d,9,none⟩ (.int .i64 (P.t:Nat))).setCell ⟨d,10,none⟩ (.int .i64 0)).setCell ⟨d,11,none⟩ (.int .i64 (P.o:Nat))).setCell ⟨d,12,none⟩ (.bool false)).setCell ⟨d,13,none⟩ (.bool false)).setCell ⟨d,14,none⟩ (.bool false)).setCell ⟨d,15,none⟩ (.int .i64 0)).setCell ⟨d,16,none⟩ (.slice none 0 0)).setCell ⟨d,17,none⟩ (.bool false)).setCell ⟨d,18,none⟩ (.int .i64 1)).setCell ⟨d,19,none⟩ (.int .u32 0)).setCell ⟨d,20,none⟩ (.int .u32 0)).setCell ⟨d,21,none⟩ (.int .u32 0)).setCell ⟨d,22,none⟩ (.int .i64 0))=w1 at *
 have e1:=H.out.2.1
 have hd1:d<w1.heap.size:=Nat.lt_of_lt_of_le H.out.1 H.out.2.2.size
 have d2:w1.cell? ⟨d,2,none⟩=some (.int .i64 (P.i:Nat)):=cell_of_row w1 d 2 _ _ _ e1
 have H1:Hid (_):=And.intro e1 hd1
 clear e1 hd1 c1 c2 c3 c9 z9 c10 z10 c11 z11 c12 z12 c13 z13 c14 z14 c15 z15 c16 z16 c17 z17 c18 z18 c19 z19 c20 z20 c21 z21 c22 z22
 go_wp2_with (at_make;refine wpList_make8 _ rfl (.tmp 43) (.tmp 43) 50 rfl w1.heap.size 5 i0 Tryz.underlying50 hi hz0 hz1 hz2 _ _ _ _ P.i P.i rfl rfl rfl rfl (Nat.le_refl _) (by omega) (Nat.le_refl _) ?_)
 intro w2 hown2 hbel2
 have e2:=(hbel2.block d H1.out.2).trans H1.out.1
 have c23:w2.cell? ⟨d,23,none⟩=some (.slice none 0 0):=cell_of_row w2 d 23 _ _ _ e2
 have c24:w2.cell? ⟨d,24,none⟩=some (.bool false):=cell_of_row w2 d 24 _ _ _ e2
 have z23:=frozen_of_row w2 d 23 _ _ e2
 have z24:=frozen_of_row w2 d 24 _ _ e2
 have H2:Hid (_):=And.intro hown2 (And.intro hbel2 e2)
 clear hown2 hbel2 e2 d2 H1
 go_wp2_with fail
 go_end0
 obtain⟨hown2,hbel2,e2⟩:=H2.out
 have e3:(w2.setCell ⟨d,23,none⟩ (.slice (some ⟨w1.heap.size,0,none⟩) P.i P.i)).heap[d]?=some (.cells #[.int .u32 (P.c:Nat),.int .i64 (P.o:Nat),.int .i64 (P.i:Nat),.int .i64 (P.t:Nat),.int .u32 (P.n:Nat),.pointer (some ⟨m,0,none⟩),.int .u32 (mx:Nat),cp,.slice none 0 0,.int .i64 (P.t:Nat),.int .i64 0,.int .i64 (P.o:Nat),.bool false,.bool false,.bool false,.int .i64 0,.slice none 0 0,.bool false,.int .i64 1,.int .u32 0,.int .u32 0,.int .u32 0,.int .i64 0,.slice (some ⟨w1.heap.size,0,none⟩) P.i P.i,.bool false] 54 (0,0)):=heap_setCell_same _ _ _ _ _ _ e2
 have e4:((w2.setCell ⟨d,23,none⟩ (.slice (some ⟨w1.heap.size,0,none⟩) P.i P.i)).setCell ⟨d,24,none⟩ (.bool false)).heap[d]?=some (.cells #[.int .u32 (P.c:Nat),.int .i64 (P.o:Nat),.int .i64 (P.i:Nat),.int .i64 (P.t:Nat),.int .u32 (P.n:Nat),.pointer (some ⟨m,0,none⟩),.int .u32 (mx:Nat),cp,.slice none 0 0,.int .i64 (P.t:Nat),.int .i64 0,.int .i64 (P.o:Nat),.bool false,.bool false,.bool false,.int .i64 0,.slice none 0 0,.bool false,.int .i64 1,.int .u32 0,.int .u32 0,.int .u32 0,.int .i64 0,.slice (some ⟨w1.heap.size,0,none⟩) P.i P.i,.bool false] 54 (0,0)):=heap_setCell_same _ _ _ _ _ _ e3
 have o4:Off [d] w2 ((w2.setCell ⟨d,23,none⟩ (.slice (some ⟨w1.heap.size,0,none⟩) P.i P.i)).setCell ⟨d,24,none⟩ (.bool false)):=(Off.setCell d 23 w2 _).trans (Off.setCell d 24 _ (.bool false))
 have hga:=own_far hown2 ⟨w1.heap.size,0,none⟩ rfl
 have hs1:=H.out.2.2.size
 have hs4:=o4.size
 refine⟨rfl,(H.out.2.2.trans (Off.of_below hbel2)).trans o4,w1.heap.size,hs1,by have:=hga.2;simp only at this;omega,e4,own_offk (own_base hown2 (Nat.zero_le _)) o4 (fun k hk=>?_)⟩
 cases hk
 have:=H.out.1
 simp;omega
set_option maxHeartbeats 1600000 in
theorem rnew_bad (c:Nat) (o i t:Int) (n:Nat) (p:Option Addr) (x:Int) (w:World) (hE:¬ okP c o i t n) :
  Calls Tryz.prog 35 #[.agg #[.int .u32 c,.int .i64 o,.int .i64 i,.int .i64 t,.int .u32 n],.pointer p,.int .u32 x] w fun e w'=>e=.returned (.tuple #[.pointer none,.int .i64 90])∧Below w.heap.size w w':=by
 have hb:Below w.heap.size w (w.alloc (.cells #[.int .u32 c,.int .i64 o,.int .i64 i,.int .i64 t,.int .u32 n] 42)):=(Below.refl _ _).alloc (Nat.le_refl _) _
 have hC:=rlaw_any c o i t n (w.alloc (.cells #[.int .u32 c,.int .i64 o,.int .i64 i,.int .i64 t,.int .u32 n] 42)) false (decide_eq_false hE)
 have HB:Hid (_):=hb
 clear hE hb
 go_enter Tryz.func35,Tryz.ntmps35
 go_wp2_with (go_at_call 75;refine hC.mono ?_;rintro e w2 ⟨rfl,b2⟩)
 go_ret2
 exact⟨rfl,HB.out.trans (b2.mono HB.out.size)⟩
theorem ropened (mx n:Nat) (ms:Ms) (h:opE mx n ms=0):mx≠0∧10≤n:=by
 unfold opE at h
 by_cases h1:mx=0∨n<10
 ·rw[if_pos h1]at h;omega
 ·omega
theorem RB.made {w:World} {d m g n mx c ga:Nat} {P:Pm} {ms:Ms} (hP:Pok P) (hn:10≤n) (hx0:mx≠0) (hx:mx<4294967296) (hM:RR w m g n ms) (hC:RX w c m mx (vz ms.bs) false) (hoff:ms.off=false) (hm:m<c) (hg:g<c) (hc:c<d) (hd:d<ga) (hga:ga<w.heap.size)
  (hdev:w.heap[d]?=some (.cells (RDC P m mx (.pointer (some ⟨c,0,none⟩)) (.slice none 0 0) (.slice none 0 0) (dnew ms) (.slice (some ⟨ga,0,none⟩) P.i P.i)) 54 (0,0))) (hown:w.ownsRow 0 5 1 (.slice (some ⟨ga,0,none⟩) P.i P.i) P.i (CB (fun _=>0) P.i)) :
  RW w d m g n mx P [d,m,g,c,ga] (dnew ms):=by
 refine⟨⟨c,[],.pointer (some ⟨c,0,none⟩),.slice none 0 0,.slice none 0 0,.slice (some ⟨ga,0,none⟩) P.i P.i,fun k=>if k=d then 0 else if k=m∨k=g then 1 else if k=c then 2 else 6⟩,hdev,hM,fun _=>⟨rfl,hC,hoff⟩,.inl ⟨rfl,rfl⟩,World.ownsRow_nil w _ _ _,hown,fun i _=>(by show 0<256;omega),Vok.new,Nat.zero_le _,?_,?_,?_,?_,?_,fun k hk=>(by simp at hk),fun k hk=>(by cases hk),?_,hP,hn,hx0,hx,fun _=>rfl⟩
 ·intro k hk
  simp at hk
  omega
 ·exact⟨if_pos rfl,by simp⟩
 ·exact⟨by dsimp only;rw[if_neg (by omega),if_pos (.inl rfl)],by simp⟩
 ·exact⟨by dsimp only;rw[if_neg (by omega),if_pos (.inr rfl)],by simp⟩
 ·exact⟨by dsimp only;rw[if_neg (by omega),if_neg (by omega),if_pos rfl],by simp⟩
 ·intro k hk
  cases hk
  exact⟨by dsimp only;rw[if_neg (by omega),if_neg (by omega),if_neg (by omega)],by simp⟩
set_option maxHeartbeats 6400000 in
theorem rnew_any (m g n mx:Nat) (P:Pm) (hP:Pok P) (ms:Ms) (w:World) (hM:RR w m g n ms) (hx:mx<4294967296) (ht:ms.t<9223372036854774000) :
  Calls Tryz.prog 35 #[.agg #[.int .u32 (P.c:Nat),.int .i64 (P.o:Nat),.int .i64 (P.i:Nat),.int .i64 (P.t:Nat),.int .u32 (P.n:Nat)],.pointer (some ⟨m,0,none⟩),.int .u32 (mx:Nat)] w fun e w'=>∃ p,e=.returned (.tuple #[.pointer p,.int .i64 (opE mx n ms)])∧Hid (Off [m,g] w w'∧RR w' m g n (opS mx n ms)∧(opE mx n ms=0→∃ d U,p=some ⟨d,0,none⟩∧RW w' d m g n mx P U (dnew (opS mx n ms))∧∀ k,k ∈ U→k=m∨k=g∨w.heap.size≤k)∧(¬ opE mx n ms=0→p=none)):=by
 obtain⟨E,hE⟩:∃ x,opE mx n ms=x:=⟨_,rfl⟩
 rw[hE]
 have hb:Below w.heap.size w (w.alloc (.cells #[.int .u32 (P.c:Nat),.int .i64 (P.o:Nat),.int .i64 (P.i:Nat),.int .i64 (P.t:Nat),.int .u32 (P.n:Nat)] 42)):=(Below.refl _ _).alloc (Nat.le_refl _) _
 have hx0:=heap_alloc_new w (.cells #[.int .u32 (P.c:Nat),.int .i64 (P.o:Nat),.int .i64 (P.i:Nat),.int .i64 (P.t:Nat),.int .u32 (P.n:Nat)] 42)
 have hs:w.heap.size < (w.alloc (.cells #[.int .u32 (P.c:Nat),.int .i64 (P.o:Nat),.int .i64 (P.i:Nat),.int .i64 (P.t:Nat),.int .u32 (P.n:Nat)] 42)).heap.size:=by simp
 have hC:=rlaw_any P.c P.o P.i P.t P.n (w.alloc (.cells #[.int .u32 (P.c:Nat),.int .i64 (P.o:Nat),.int .i64 (P.i:Nat),.int .i64 (P.t:Nat),.int .u32 (P.n:Nat)] 42)) true (decide_eq_true hP.ok)
 have hO:∀ wx,RR wx m g n ms→Calls Tryz.prog 76 #[.pointer (some ⟨m,0,none⟩),.int .u32 (mx:Nat)] wx fun e w'=>∃ p,e=.returned (.tuple #[.pointer p,.int .i64 E])∧Hid (Off [m,g] wx w'∧RR w' m g n (opS mx n ms)∧(E=0→∃ d,p=some ⟨d,0,none⟩∧wx.heap.size≤d∧RX w' d m mx (vz ms.bs) false)∧(¬ E=0→p=none)):=by
  intro wx hMx
  subst hE
  exact ropen m g n mx ms wx hMx ht
 have HO:Hid (_):=hO
 have HH:Hid (_):=And.intro hb (And.intro hs (And.intro hx0 (And.intro hM (And.intro hE (And.intro hP hx)))))
 clear hO hb hs hx0 hM hE hP hx ht
 go_enter Tryz.func35,Tryz.ntmps35
 go_wp2_with (go_at_call 75;refine hC.mono ?_;rintro e w1 ⟨rfl,b1⟩)
 obtain⟨hb,hs,hx0,hM,_⟩:=HH.out
 have bb:=hb.trans (b1.mono hb.size)
 refine (HO.out w1 (hM.off (Off.of_below (l:=[]) bb) (by simp) (by simp))).mono ?_
 rintro e w2 ⟨p,rfl,h2⟩
 have l1:=hM.lt
 have l2:=hM.lg
 have l3:=b1.size
 have e2:w2.heap[w.heap.size]?=some (.cells #[.int .u32 (P.c:Nat),.int .i64 (P.o:Nat),.int .i64 (P.i:Nat),.int .i64 (P.t:Nat),.int .u32 (P.n:Nat)] 42 (0,0)):=by
  rw[h2.out.1.block w.heap.size (by omega) (by simp;omega),b1.block _ (by omega)]
  exact hx0
 have H2:Hid (_):=And.intro bb (And.intro h2.out (And.intro HH.out (And.intro (by omega:w.heap.size<w1.heap.size) (And.intro l1 l2))))
 by_cases he:E=0
 ·have e0:(E != 0)=false:=by simp[he]
  obtain⟨c,rfl,hc,hC2⟩:=h2.out.2.2.1 he
  have HE:Hid (_):=And.intro he (And.intro hc hC2)
  have p0:w2.cell? ⟨w.heap.size,0,none⟩=some (.int .u32 (P.c:Nat)):=cell_of_row w2 _ 0 _ _ _ e2
  have p1:w2.cell? ⟨w.heap.size,1,none⟩=some (.int .i64 (P.o:Nat)):=cell_of_row w2 _ 1 _ _ _ e2
  have p2:w2.cell? ⟨w.heap.size,2,none⟩=some (.int .i64 (P.i:Nat)):=cell_of_row w2 _ 2 _ _ _ e2
  have p3:w2.cell? ⟨w.heap.size,3,none⟩=some (.int .i64 (P.t:Nat)):=cell_of_row w2 _ 3 _ _ _ e2
  have p4:w2.cell? ⟨w.heap.size,4,none⟩=some (.int .u32 (P.n:Nat)):=cell_of_row w2 _ 4 _ _ _ e2
  have hF:=rlife_first w2.heap.size m mx P (.pointer (some ⟨c,0,none⟩)) (opS mx n ms) (w2.alloc (.cells #[.int .u32 (P.c:Nat),.int .i64 (P.o:Nat),.int .i64 (P.i:Nat),.int .i64 (P.t:Nat),.int .u32 (P.n:Nat),.pointer (some ⟨m,0,none⟩),.int .u32 (mx:Nat),.pointer (some ⟨c,0,none⟩),.slice none 0 0,.int .i64 0,.int .i64 0,.int .i64 0,.bool false,.bool false,.bool false,.int .i64 0,.slice none 0 0,.bool false,.int .i64 0,.int .u32 0,.int .u32 0,.int .u32 0,.int .i64 0,.slice none 0 0,.bool false] 54)) (heap_alloc_new w2 _) HH.out.2.2.2.2.2.1.i8
  clear hC b1 hb hs hx0 hM bb h2 e2 he hc hC2 HO l1 l2 l3
  go_wp2_with fail
  refine hF.mono ?_
  rintro e w3 ⟨rfl,h3⟩
  clear hF p0 p1 p2 p3 p4
  go_wp2_with fail
  go_ret2
  obtain⟨bb,⟨o2,m2,_,_⟩,⟨_,_,_,hM,hE,hP,hx⟩,hw1,l1,l2⟩:=H2.out
  obtain⟨he,hc,hC2⟩:=HE.out
  obtain⟨o3,ga,hga,hgl,hdev,hown⟩:=h3.out
  subst he
  obtain⟨mx0,n10⟩:=ropened mx n ms hE
  have hoff:=opS_off hM.l0 hE
  have oA:Off [] w2 (w2.alloc (.cells #[.int .u32 (P.c:Nat),.int .i64 (P.o:Nat),.int .i64 (P.i:Nat),.int .i64 (P.t:Nat),.int .u32 (P.n:Nat),.pointer (some ⟨m,0,none⟩),.int .u32 (mx:Nat),.pointer (some ⟨c,0,none⟩),.slice none 0 0,.int .i64 0,.int .i64 0,.int .i64 0,.bool false,.bool false,.bool false,.int .i64 0,.slice none 0 0,.bool false,.int .i64 0,.int .u32 0,.int .u32 0,.int .u32 0,.int .i64 0,.slice none 0 0,.bool false] 54)):=Off.alloc _ _ _
  have o23:Off [w2.heap.size] w2 w3:=(oA.more (by simp)).trans o3
  have hcl:=hC2.lt
  have k7:=o2.size
  rw[World.size_alloc]at hga
  have hm2:m<w2.heap.size:=m2.lt
  have hg2:g<w2.heap.size:=m2.lg
  have M3:=m2.off o23 (by simp;omega) (by simp;omega)
  have C3:=hC2.off o23 (by simp;omega)
  rw[← opS_vz hM.l0 (fun i hi=>hM.byte i (by omega)) (mx:=mx) (n:=n)]at C3
  refine⟨_,rfl,?_,M3,fun _=>⟨w2.heap.size,[w2.heap.size,m,g,c,ga],rfl,RB.made hP n10 mx0 hx M3 C3 hoff (by omega) (by omega) (by omega) (by omega) hgl hdev hown,?_⟩,fun h=>absurd rfl h⟩
  ·have q:=(Off.of_below (l:=[m,g]) bb).trans o2
   exact⟨o23.os.trans q.os,o23.tape.trans q.tape,o23.output.trans q.output,Nat.le_trans q.size o23.size,fun i hi hn=>(o23.block i (by have:=q.size;omega) (by simp;have:=q.size;have:=bb.size;omega)).trans (q.block i hi hn)⟩
  ·intro k hk
   simp at hk
   have:=bb.size
   omega
 ·have e0:(E != 0)=true:=by simp[he]
  obtain rfl:=h2.out.2.2.2 he
  have HE:Hid (_):=he
  clear he hC b1 hb hs hx0 hM bb h2 e2 l1 l2 l3
  go_wp2_with fail
  go_ret2
  obtain⟨bb,⟨o2,m2,_,_⟩,hh,_⟩:=H2.out
  exact⟨none,rfl,(Off.of_below bb).trans o2,m2,fun h=>absurd h HE.out,fun _=>rfl⟩
structure Iv (P:Pm) (s:Sd):Prop where
 st1:1≤s.st
 st6:s.st≤6
 ss:s.ss<4294967296
 nm:s.nm<4294967296
 sn:s.sn<4294967296
 hs:s.st=2∨s.st=3→s.sn=0∧s.nm=0∧s.ss≠0
 run:s.st=4→s.sn≤s.nm∧s.nm<P.n∧s.ss≠0
 od:s.od<4
 vr:s.v.run=decide (s.st=4)
 vok:Vok s.v
 s0:s.ss=0→s.nm=0
 z:s.ss=0∨s.ss=vz s.ms.bs
 d6:s.st=6→s.ap=(fun _=>0)∧s.hd=false
structure Mo (mx n:Nat) (s:Sd):Prop where
 n10:10≤n
 mx0:mx≠0
 mxl:mx<4294967296
 l0:0≤s.ms.l
 bz:Bz s.ms.bs
 off:s.st≠6→s.ms.off=false
theorem Mo.of {w:World} {d m g n mx:Nat} {P:Pm} {U:List Nat} {s:Sd} (h:DV w d m g n mx P U s):Mo mx n s:=by
 obtain⟨a,b,c,e,f,g⟩:=h.facts
 exact⟨c,e,f,b,a,g⟩
section
variable {P:Pm} {mx n:Nat} {s:Sd}
theorem vtrip_run (v:Vs) (x:Int):(vtrip v x).run=v.run:=by unfold vtrip;split <;> rfl
theorem vrun_run (v:Vs) (o:Bool):(vrun v o).run=o:=by
 unfold vrun
 split
 ·assumption
 ·rfl
theorem vtake_run (v:Vs) (bs:Nat→Nat):(vtake v bs).run=v.run:=by unfold vtake;split <;> rfl
theorem dlatch_v (s:Sd) (x:Int):(dlatch s x).v=vtrip s.v x:=by unfold dlatch dnote;split <;> rfl
theorem dlatch_flds (s:Sd) (x:Int):(dlatch s x).st=s.st∧(dlatch s x).ss=s.ss∧(dlatch s x).nm=s.nm∧(dlatch s x).sn=s.sn∧(dlatch s x).od=s.od∧(dlatch s x).ms=s.ms∧(dlatch s x).ap=s.ap∧(dlatch s x).hd=s.hd:=by unfold dlatch dnote;split <;> exact⟨rfl,rfl,rfl,rfl,rfl,rfl,rfl,rfl⟩
theorem Iv.latch (h:Iv P s) (x:Int):Iv P (dlatch s x):=by
 unfold dlatch dnote
 split
 ·exact⟨h.st1,h.st6,h.ss,h.nm,h.sn,h.hs,h.run,h.od,(vtrip_run _ _).trans h.vr,h.vok.trip x,h.s0,h.z,h.d6⟩
 ·exact⟨h.st1,h.st6,h.ss,h.nm,h.sn,h.hs,h.run,h.od,(vtrip_run _ _).trans h.vr,h.vok.trip x,h.s0,h.z,h.d6⟩
theorem Iv.note (h:Iv P s) (x:Int):Iv P (dnote s x):=⟨h.st1,h.st6,h.ss,h.nm,h.sn,h.hs,h.run,h.od,h.vr,h.vok,h.s0,h.z,h.d6⟩
theorem Iv.leave (hv:Vok s.v) {k:Nat} (h1:1≤k) (h5:k≤5) (h4:k≠4) (h2:k≠2) (h3:k≠3):Iv P (dleave s k):=
 ⟨h1,Nat.le_succ_of_le h5,by show (0:Nat)<_;omega,by show (0:Nat)<_;omega,by show (0:Nat)<_;omega,fun e=>by have e:k=2∨k=3:=e;omega,fun e=>absurd e h4,by show (0:Nat)<4;omega,by
  show (vrun s.v false).run=decide (k=4)
  rw[vrun_run,decide_eq_false h4],hv.run false,fun _=>rfl,.inl rfl,fun e=>by have e:k=6:=e;omega⟩
theorem Iv.life {k:Nat} (h1:1≤k) (h6:k≤6) (h4:k≠4) (h2:k≠2) (h3:k≠3):Iv P (dlife s k):=
 ⟨h1,h6,by show (0:Nat)<_;omega,by show (0:Nat)<_;omega,by show (0:Nat)<_;omega,fun e=>by have e:k=2∨k=3:=e;omega,fun e=>absurd e h4,by show (0:Nat)<4;omega,(decide_eq_false h4).symm,Vok.new,fun _=>rfl,.inl rfl,fun _=>⟨rfl,rfl⟩⟩
theorem Iv.odd (h:Iv P s):Iv P (dodd s):=by
 unfold dodd
 split
 ·split
  ·rename_i h4
   exact⟨h.st1,h.st6,h.ss,h.nm,h.sn,h.hs,h.run,h4,h.vr,h.vok,h.s0,h.z,h.d6⟩
  ·refine Iv.leave ?_ (by omega) (by omega) (by omega) (by omega) (by omega)
   split
   ·rw[dlatch_v];exact h.vok.trip _
   ·exact h.vok
 ·exact h
theorem Iv.begin_ (h:Iv P s) (M:Mo mx n s) (hu:s.st≠6):Iv P (dbegin P mx n s).s:=by
 have hv:=nx_vz (mx:=mx) (n:=n) (s:=s.ms) M.n10 (M.off hu) M.l0 M.mxl
 unfold dbegin
 generalize nx mx n s.ms.bs false s.ms=X at *
 have hm:=M.mxl
 split
 ·refine Iv.leave ?_ (by omega) (by omega) (by omega) (by omega) (by omega)
  rw[dlatch_v];exact h.vok.trip _
 ·split
  ·exact Iv.life (by omega) (by omega) (by omega) (by omega) (by omega)
  ·rename_i e0
   have e0:X.e=0:=by simpa using e0
   obtain⟨v1,v2,v3⟩:=hv.1 e0
   refine⟨by show 1≤2;omega,by show 2≤6;omega,by show X.v<_;omega,by show (0:Nat)<_;omega,by show (0:Nat)<_;omega,fun _=>⟨rfl,rfl,by show X.v≠0;omega⟩,fun e=>by have e:(2:Nat)=4:=e;omega,by show (0:Nat)<4;omega,?_,h.vok.run false,fun _=>rfl,.inr ?_,fun e=>by have e:(2:Nat)=6:=e;omega⟩
   ·show (vrun s.v false).run=decide ((2:Nat)=4)
    rw[vrun_run];rfl
   ·show X.v=vz X.s.bs
    omega
theorem Mo.odd (M:Mo mx n s):Mo mx n (dodd s):=by
 refine⟨M.n10,M.mx0,M.mxl,by rw[dodd_ms];exact M.l0,by rw[dodd_ms];exact M.bz,fun _=>?_⟩
 rw[dodd_ms]
 by_cases h6:s.st=6
 ·exfalso
  have:dodd s=s:=by unfold dodd dbusy;rw[h6];rfl
  rename_i hh
  rw[this]at hh
  exact hh h6
 ·exact M.off h6
theorem Iv.wish (h:Iv P s) (M:Mo mx n s) (hu:s.st≠6):Iv P (dwish P mx n s).s:=by
 unfold dwish
 split
 ·exact h.odd
 ·split
  ·exact h.odd
  ·exact h.odd.begin_ M.odd (dodd_up hu)
theorem Iv.echo (h:Iv P s):Iv P (dechoS s):=by
 unfold dechoS
 split
 ·rename_i h2
  have hq:=h.hs (.inl h2)
  refine⟨by show 1≤3;omega,by show 3≤6;omega,h.ss,h.nm,h.sn,fun _=>hq,fun e=>by have e:(3:Nat)=4:=e;omega,by show (0:Nat)<4;omega,?_,h.vok.fresh,h.s0,h.z,fun e=>by have e:(3:Nat)=6:=e;omega⟩
  show s.v.run=decide ((3:Nat)=4)
  rw[h.vr,h2];rfl
 ·exact h
theorem Iv.start (h:Iv P s) (hP:Pok P):Iv P (dstartS s):=by
 unfold dstartS
 split
 ·rename_i h3
  have hq:=h.hs (.inr h3)
  have:=hP.n2
  refine⟨by show 1≤4;omega,by show 4≤6;omega,h.ss,h.nm,h.sn,fun e=>by have e:(4:Nat)=2∨(4:Nat)=3:=e;omega,fun _=>⟨by show s.sn≤s.nm;omega,by show s.nm<_;omega,hq.2.2⟩,by show (0:Nat)<4;omega,?_,(h.vok.run true).fresh,h.s0,h.z,fun e=>by have e:(4:Nat)=6:=e;omega⟩
  show (vrun s.v true).run=decide ((4:Nat)=4)
  rw[vrun_run];rfl
 ·exact h
theorem Iv.data (h:Iv P s) (hP:Pok P) {num fl:Nat} {bs:Nat→Nat} (h4:s.st=4) (hn:s.nm<num) (hc:num<P.n):Iv P (ddataS s num fl bs):=by
 have hq:=h.run h4
 have hp:=hP.n
 refine⟨h.st1,h.st6,h.ss,by show num<_;omega,by show s.sn+1<_;omega,fun e=>by have e:s.st=2∨s.st=3:=e;omega,fun _=>⟨by show s.sn+1≤num;omega,hc,hq.2.2⟩,by show (0:Nat)<4;omega,?_,(h.vok.fresh.hold _).take _,fun e=>absurd e hq.2.2,h.z,fun e=>by have e:s.st=6:=e;omega⟩
 show (vtake (vhold (vfresh s.v) (decide (8≤fl))) bs).run=decide (s.st=4)
 rw[vtake_run];exact h.vr
theorem Iv.last (h:Iv P s) (hP:Pok P) (h4:s.st=4):Iv P (dendS (dlastS P s)):=by
 have hq:=h.run h4
 have hp:=hP.n
 obtain⟨l1,l2,l3,l4,l5,l6,l7,l8⟩:=dlatch_flds (don { s with nm:=P.n }) 80
 refine⟨by show 1≤5;omega,by show 5≤6;omega,?_,?_,hp,fun e=>by have e:(5:Nat)=2∨(5:Nat)=3:=e;omega,fun e=>by have e:(5:Nat)=4:=e;omega,?_,?_,?_,?_,?_,fun e=>by have e:(5:Nat)=6:=e;omega⟩
 ·show (dlatch (don { s with nm:=P.n }) 80).ss<_
  rw[l2];exact h.ss
 ·show (dlatch (don { s with nm:=P.n }) 80).nm<_
  rw[l3];exact hp
 ·show (dlatch (don { s with nm:=P.n }) 80).od<4
  rw[l5];show (0:Nat)<4;omega
 ·show (vrun (dlatch (don { s with nm:=P.n }) 80).v false).run=decide ((5:Nat)=4)
  rw[vrun_run];rfl
 ·show Vok (vrun (dlatch (don { s with nm:=P.n }) 80).v false)
  rw[dlatch_v]
  exact (h.vok.fresh.trip _).run _
 ·intro e
  have e:(dlatch (don { s with nm:=P.n }) 80).ss=0:=e
  rw[l2]at e
  exact absurd e hq.2.2
 ·show (dlatch (don { s with nm:=P.n }) 80).ss=0∨(dlatch (don { s with nm:=P.n }) 80).ss=vz (dlatch (don { s with nm:=P.n }) 80).ms.bs
  rw[l2,l6];exact h.z
theorem Iv.take (h:Iv P s) (hP:Pok P) (M:Mo mx n s) (hu:s.st≠6) (k ss num fl len:Nat) (bs:Nat→Nat):Iv P (dtake P mx n s k ss num fl len bs).s:=by
 unfold dtake
 split
 ·split
  ·exact h.wish M hu
  ·exact h.odd
 ·split
  ·split
   ·exact h.echo
   ·exact h.odd
  ·split
   ·exact h.start hP
   ·split
    ·rename_i hh
     exact h.data hP hh.2.1.2.1 hh.2.1.2.2 hh.2.2.1
    ·split
     ·rename_i hh
      exact h.last hP hh.2.1.2.1
     ·exact h.odd
theorem Iv.hear (h:Iv P s) (hP:Pok P) (M:Mo mx n s) (hu:s.st≠6) (len:Nat) (bs:Nat→Nat):Iv P (dhear P mx n s len bs).s:=by
 unfold dhear
 split
 ·exact h
 ·split
  ·exact h
  ·split
   ·exact h
   ·exact h.take hP M hu _ _ _ _ _ _
theorem Iv.recv (h:Iv P s) (hP:Pok P) (M:Mo mx n s) (len:Nat) (bs:Nat→Nat):Iv P (drecv P mx n s len bs).s:=by
 unfold drecv
 split
 ·exact h
 ·rename_i hu
  split
  ·exact (h.hear hP M hu len bs).note _
  ·exact h.hear hP M hu len bs
theorem Iv.tick (h:Iv P s) (k:Int):Iv P (dtickS P s k):=by
 unfold dtickS
 split
 ·exact h
 ·split
  ·exact h
  ·have h':Iv P { s with dc:=tk P.t s.dc k.toNat }:=⟨h.st1,h.st6,h.ss,h.nm,h.sn,h.hs,h.run,h.od,h.vr,h.vok,h.s0,h.z,h.d6⟩
   split
   ·exact h'.latch _
   ·exact h'
theorem Iv.new_ (ms:Ms):Iv P (dnew ms):=
 ⟨by show 1≤1;omega,by show 1≤6;omega,by show (0:Nat)<_;omega,by show (0:Nat)<_;omega,by show (0:Nat)<_;omega,fun e=>by have e:(1:Nat)=2∨(1:Nat)=3:=e;omega,fun e=>by have e:(1:Nat)=4:=e;omega,by show (0:Nat)<4;omega,rfl,Vok.new,fun _=>rfl,.inl rfl,fun e=>by have e:(1:Nat)=6:=e;omega⟩
theorem Iv.sent (h:Iv P s) (hP:Pok P):s.st=4→s.sn+1<4294967296:=fun e=>by
 have:=h.run e
 have:=hP.n
 omega
def Gw (a b:Sd):Prop:=b.L.length≤a.L.length+3∧b.ms.t≤a.ms.t+6
theorem dbegin_t (M:Mo mx n s):(dbegin P mx n s).s.ms.t≤s.ms.t+6:=by
 have ht:=nx_t mx n s.ms.bs false s.ms M.n10 M.l0
 unfold dbegin
 generalize nx mx n s.ms.bs false s.ms=X at *
 split
 ·show (dlatch { s with ms:=X.s } 80).ms.t≤_
  rw[dlatch_ms];exact ht
 ·split
  ·exact ht
  ·exact ht
theorem dwish_t (M:Mo mx n s):(dwish P mx n s).s.ms.t≤s.ms.t+6:=by
 have e:=dodd_ms s
 unfold dwish
 split
 ·show (dodd s).ms.t≤_;rw[e];omega
 ·split
  ·show (dodd s).ms.t≤_;rw[e];omega
  ·have:=dbegin_t (P:=P) M.odd
   rw[e]at this;exact this
theorem dtake_t (M:Mo mx n s) (k ss num fl len:Nat) (bs:Nat→Nat):(dtake P mx n s k ss num fl len bs).s.ms.t≤s.ms.t+6:=by
 have e:=dodd_ms s
 have r:∀ x:Int,(drefuse P s x).s.ms.t≤s.ms.t+6:=fun x=>by show (dodd s).ms.t≤_;rw[e];omega
 unfold dtake
 split
 ·split
  ·exact dwish_t M
  ·exact r _
 ·split
  ·split
   ·show (dechoS s).ms.t≤_;unfold dechoS;split <;> (show s.ms.t≤_;omega)
   ·exact r _
  ·split
   ·show (dstartS s).ms.t≤_;unfold dstartS;split <;> (show s.ms.t≤_;omega)
   ·split
    ·show s.ms.t≤_;omega
    ·split
     ·show (dlatch (don { s with nm:=P.n }) 80).ms.t≤_
      rw[dlatch_ms];show s.ms.t≤_;omega
     ·exact r _
theorem gw_recv (M:Mo mx n s) (len:Nat) (bs:Nat→Nat):Gw s (drecv P mx n s len bs).s:=by
 have h1:=dhear_len P mx n s len bs
 have h2:(dhear P mx n s len bs).s.ms.t≤s.ms.t+6:=by
  unfold dhear
  split
  ·show s.ms.t≤_;omega
  ·split
   ·show s.ms.t≤_;omega
   ·split
    ·show s.ms.t≤_;omega
    ·exact dtake_t M _ _ _ _ _ _
 unfold drecv
 split
 ·exact⟨by show s.L.length≤_;omega,by show s.ms.t≤_;omega⟩
 ·split
  ·exact⟨by show ((dhear P mx n s len bs).s.L ++ [_]).length≤_;simp;omega,h2⟩
  ·exact⟨by omega,h2⟩
theorem gw_tick (k:Int):Gw s (dtickS P s k):=by
 unfold dtickS
 split
 ·exact⟨by omega,by omega⟩
 ·split
  ·exact⟨by omega,by omega⟩
  ·split
   ·refine⟨?_,?_⟩
    ·have:=dlatch_len { s with dc:=tk P.t s.dc k.toNat } 100
     have e:({ s with dc:=tk P.t s.dc k.toNat }:Sd).L.length=s.L.length:=rfl
     omega
    ·rw[dlatch_ms];show s.ms.t≤_;omega
   ·exact⟨by show s.L.length≤_;omega,by show s.ms.t≤_;omega⟩
end
end Go.Proofs.YthbogkaoidbpgaaGreat
namespace Go.Proofs.YthbogkaoidbpgaaGreat
set_option maxRecDepth 100000
open Go.RowKit
end Go.Proofs.YthbogkaoidbpgaaGreat
