/- Part 12 of the texts on which the proof rests: contracts of Go functions. -/
import Derived.Test.YtiopiheomoehbaaGreatPkF10
namespace Go.Proofs.YtiopiheomoehbaaGreat
set_option maxRecDepth 100000
open Go.RowKit
set_option maxRecDepth 100000 in
set_option maxHeartbeats 1600000 in
theorem bringOn_any (d m g n mx:Nat) (P:Pm) (U:List Nat) (s:Sd) (w:World) (h:DV w d m g n mx P U s) :
  Calls Tryz.prog 205 #[.pointer (some ⟨d,9,none⟩)] w fun e w'=>e=.returned (.tuple #[])∧Hid (∃ U',Gr U w U' w'∧DV w' d m g n mx P U' (don s)):=by
 obtain⟨B,h⟩:=h
 have o1:=Off.setCell d 15 w (.int .i64 0)
 have h1:=h.own o1 (s':={ s with od:=0 }) (heap_setCell_same _ _ _ _ _ _ h.dev) rfl rfl rfl rfl rfl id
 obtain⟨_,_,_,_,_,_,_,_,_,c9,_,_,_,_,_,c15,_⟩:=h.cells
 have z15:=h.fz 15
 have H:Hid (_):=And.intro h.kd.2 (And.intro o1 h1)
 clear h h1 o1
 go_enter Tryz.func205,Tryz.ntmps205
 go_wp2_with fail
 refine (wfeed_any _ _ _ _ H.out.2.2.dog).mono ?_
 rintro e w2 ⟨rfl,o2,d2⟩
 have h2:=H.out.2.2.dogd o2 d2
 have c10:=h2.cells.2.2.2.2.2.2.2.2.2.2.1
 have H2:Hid (_):=And.intro (H.out.2.1.more (m:=U) (by simp[H.out.1])) (And.intro (o2.more (m:=U) (by simp[H.out.2.2.kb.2])) h2)
 clear h2 o2 d2 H c9 c15 z15
 go_wp2_with fail
 refine (vfresh_any _ _ _ _ _ _ H2.out.2.2.val).mono ?_
 rintro e w3 ⟨rfl,h3⟩
 obtain⟨U',B',g3,x3⟩:=H2.out.2.2.vals h3.out.1 h3.out.2
 have H3:Hid (∃ U',Gr U w U' w3∧DV w3 d m g n mx P U' (don s)):=⟨U',(Gr.trans (Gr.trans ⟨H2.out.1,fun _ h=>.inl h⟩ ⟨H2.out.2.1,fun _ h=>.inl h⟩) g3),B',x3⟩
 clear H2 h3 g3 x3 c10
 go_wp2_with fail
 go_end0
 exact⟨rfl,H3⟩
set_option maxRecDepth 100000 in
set_option maxHeartbeats 1600000 in
theorem leave_any (d m g n mx:Nat) (P:Pm) (U:List Nat) (s:Sd) (k:Nat) (w:World) (h:DV w d m g n mx P U s) (hs:s.st≠6) :
  Calls Tryz.prog 212 #[.pointer (some ⟨d,9,none⟩),.int .i64 (k:Nat)] w fun e w'=>e=.returned (.tuple #[])∧Hid (∃ U',Gr U w U' w'∧DV w' d m g n mx P U' (dleave s k)):=by
 obtain⟨B,h⟩:=h
 have c10:=h.cells.2.2.2.2.2.2.2.2.2.2.1
 have H:Hid (_):=h
 clear h
 go_enter Tryz.func212,Tryz.ntmps212
 go_wp2_with fail
 refine (vrun_any _ _ _ _ _ _ _ H.out.val).mono ?_
 rintro e w2 ⟨rfl,h2⟩
 obtain⟨U',B',g2,x2⟩:=H.out.vals h2.out.1 h2.out.2
 have o3:=Off.setCell d 12 w2 (.int .u32 0)
 have o4:=o3.trans (Off.setCell d 13 _ (.int .u32 0))
 have o5:=o4.trans (Off.setCell d 14 _ (.int .u32 0))
 have o6:=o5.trans (Off.setCell d 15 _ (.int .i64 0))
 have o7:=o6.trans (Off.setCell d 11 _ (.int .i64 (k:Nat)))
 have x7:=x2.own o7 (A':=(dleave s k).st≠6) (s':=dleave s k) (heap_setCell_same _ _ _ _ _ _ (heap_setCell_same _ _ _ _ _ _ (heap_setCell_same _ _ _ _ _ _ (heap_setCell_same _ _ _ _ _ _ (heap_setCell_same _ _ _ _ _ _ x2.dev))))) rfl rfl rfl rfl rfl (fun _=>hs)
 have H7:Hid (_):=And.intro (Gr.trans g2 (Gr.same o7 (by simp[x2.kd.2]))) x7
 obtain⟨_,_,_,_,_,_,_,_,_,_,_,c11,c12,c13,c14,c15,_⟩:=x2.cells
 have z11:=x2.fz 11
 have z12:=x2.fz 12
 have z13:=x2.fz 13
 have z14:=x2.fz 14
 have z15:=x2.fz 15
 clear H h2 g2 x2 o3 o4 o5 o6 o7 x7 c10
 go_wp2_with fail
 go_end0
 exact⟨rfl,_,H7.out.1,_,H7.out.2⟩
set_option maxRecDepth 100000 in
theorem inSession_any (d k:Nat) (w:World) (c11:w.cell? ⟨d,11,none⟩=some (.int .i64 (k:Nat))) :
  Calls Tryz.prog 211 #[.pointer (some ⟨d,9,none⟩)] w fun e w'=>e=.returned (.bool (decide (k=2∨k=3∨k=4)))∧w'=w:=by
 go_enter Tryz.func211,Tryz.ntmps211
 go_wp2_with fail
 all_goals
  go_ret
  refine⟨congrArg (fun b=>Ending.returned (Value.bool b)) (?_:_=decide (k=2∨k=3∨k=4)),rfl⟩
  rw[Bool.eq_iff_iff]
  simp <;> omega
theorem silent_down (d:Nat) (w:World) (c11:w.cell? ⟨d,11,none⟩=some (.int .i64 (6:Nat))):Calls Tryz.prog 118 #[.pointer (some ⟨d,0,none⟩)] w fun e w'=>e=.returned (.int .i64 70)∧w'=w:=by
 go_enter Tryz.func118,Tryz.ntmps118
 go_wp2_with fail
 go_ret
 exact⟨rfl,rfl⟩
theorem silent_up (d k:Nat) (w:World) (c11:w.cell? ⟨d,11,none⟩=some (.int .i64 (k:Nat))) (h6:k≠6):Calls Tryz.prog 118 #[.pointer (some ⟨d,0,none⟩)] w fun e w'=>e=.returned (.int .i64 0)∧w'=w:=by
 have e6:((k:Int)=6)=False:=by simp;omega
 go_enter Tryz.func118,Tryz.ntmps118
 go_wp2_with fail
 go_ret
 exact⟨rfl,rfl⟩
set_option maxRecDepth 100000 in
set_option maxHeartbeats 1600000 in
theorem dvnote_any (d m g n mx:Nat) (P:Pm) (U:List Nat) (s:Sd) (x:Int) (w:World) (h:DV w d m g n mx P U s) (hx:x≠0) (hw:(Lit.int .i64 x).wf=true) (hL:s.L.length<900000) :
  Calls Tryz.prog 120 #[.pointer (some ⟨d,0,none⟩),.int .i64 x] w fun e w'=>e=.returned (.tuple #[])∧Hid (∃ U',Gr U w U' w'∧DV w' d m g n mx P U' (dnote s x)):=by
 obtain⟨B,h⟩:=h
 have hd:=h.newd (Off.drew [] w)
 have hC:=dnote_any B.lb B.Ul s.L x (s.ss:Nat) (s.nm:Nat) w.drew hd.log (by omega) hw hx
 obtain⟨_,_,_,_,_,_,_,_,c8,_,_,_,c12,c13,_⟩:=h.cells
 have H:Hid (_):=hd
 clear h hd
 go_enter Tryz.func120,Tryz.ntmps120
 go_wp2_with fail
 go_region_with (go_at_call 145;refine hC.mono ?_;rintro e w2 ⟨rfl,h2⟩)
 all_goals
  obtain⟨V,o2,L2,hV⟩:=h2.out
  obtain⟨U',B',g3,x3⟩:=H.out.logd o2 L2 hV
  have H3:Hid (∃ U',Gr U w U' w2∧DV w2 d m g n mx P U' (dnote s x)):=⟨U',Gr.trans (Gr.same (Off.drew [] w) (by simp)) g3,B',x3⟩
  clear hC H h2 o2 L2 hV g3 x3
  go_wp2_with fail
  go_end0
  exact⟨rfl,H3⟩
set_option maxRecDepth 100000 in
set_option maxHeartbeats 1600000 in
theorem dvlatch_any (d m g n mx:Nat) (P:Pm) (U:List Nat) (s:Sd) (x:Int) (w:World) (h:DV w d m g n mx P U s) (hx:x≠0) (hw:(Lit.int .i64 x).wf=true) (hL:s.L.length<900000) :
  Calls Tryz.prog 208 #[.pointer (some ⟨d,0,none⟩),.int .i64 x] w fun e w'=>e=.returned (.tuple #[])∧Hid (∃ U',Gr U w U' w'∧DV w' d m g n mx P U' (dlatch s x)):=by
 obtain⟨B,h⟩:=h
 have c10:=h.cells.2.2.2.2.2.2.2.2.2.2.1
 have H:Hid (_):=h
 clear h
 unfold dlatch
 by_cases ht:vtripB s.v x=true
 ·rw[if_pos ht]
  go_enter Tryz.func208,Tryz.ntmps208
  go_wp2_with fail
  refine (vtrip_any _ _ _ _ _ _ _ H.out.val).mono ?_
  rintro e w2 ⟨rfl,h2⟩
  rw[ht]
  obtain⟨U',B',g2,x2⟩:=H.out.vals h2.out.1 h2.out.2
  have hN:=dvnote_any d m g n mx P U' { s with v:=vtrip s.v x } x w2 ⟨B',x2⟩ hx hw hL
  have H2:Hid (_):=g2
  clear H h2 g2 x2 c10
  go_wp2_with (go_at_call 120;refine hN.mono ?_;rintro e w3 ⟨rfl,h3⟩)
  go_end0
  obtain⟨U3,g3,x3⟩:=h3.out
  exact⟨rfl,U3,H2.out.trans g3,x3⟩
 ·rw[if_neg ht]
  have ht':vtripB s.v x=false:=by simpa using ht
  go_enter Tryz.func208,Tryz.ntmps208
  go_wp2_with fail
  refine (vtrip_any _ _ _ _ _ _ _ H.out.val).mono ?_
  rintro e w2 ⟨rfl,h2⟩
  rw[ht']
  obtain⟨U',B',g2,x2⟩:=H.out.vals h2.out.1 h2.out.2
  have H2:Hid (_):=And.intro g2 x2
  clear H h2 g2 x2 c10
  go_wp2_with fail
  go_end0
  exact⟨rfl,U',H2.out.1,B',H2.out.2⟩
end Go.Proofs.YtiopiheomoehbaaGreat
