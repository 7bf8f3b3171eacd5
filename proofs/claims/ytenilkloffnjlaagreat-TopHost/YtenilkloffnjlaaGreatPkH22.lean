/- Part 23: contracts that the proof rests on. -/
import Derived.Test.YtenilkloffnjlaaGreatPkH21
set_option maxHeartbeats 64000000
set_option maxRecDepth 100000
namespace Go.Proofs.YtenilkloffnjlaaGreat
open Tryz
open Go.RowKit
theorem HV.below {w w':World} {d:Nat} {P:Pm} {U:List Nat} {s:Sh} (h:HV w d P U s) (hb:Below w.heap.size w w'):HV w' d P U s:=by
 obtain⟨B,h⟩:=h
 exact⟨B,h.newd (Off.of_below hb)⟩
theorem HV.ult {w:World} {d:Nat} {P:Pm} {U:List Nat} {s:Sh} (h:HV w d P U s) (k:Nat) (hk:k ∈ U):k<w.heap.size:=by
 obtain⟨B,h⟩:=h
 exact h.ltU k hk
theorem dh (d:Nat) (P:Pm) (U:List Nat) (s:Sh) (w:World) (h:HV w d P U s) :
  Calls prog 170 #[ac d 6] w fun e w'=>e=.returned (.tuple #[])∧Hid (∃ U',Gr U w U' w'∧HV w' d P U' (lM s)):=by
 obtain⟨B,h⟩:=h
 have e1:(w.setCell ⟨d,12,none⟩ (.bool false)).heap[d]?=some (.cells (jf P B.lb B.db B.vb { s with wt:=false } B.av) 141 (0,0)):=heap_setCell_same _ _ _ _ _ _ h.dev
 have e2:((w.setCell ⟨d,12,none⟩ (.bool false)).setCell ⟨d,13,none⟩ (.int .i64 0)).heap[d]?=some (.cells (jf P B.lb B.db B.vb { s with wt:=false,ms:=0 } B.av) 141 (0,0)):=heap_setCell_same _ _ _ _ _ _ e1
 have o1:=(Off.setCell d 12 w (.bool false)).trans (Off.setCell d 13 _ (.int .i64 0))
 have h1:=h.own o1 (s':={ s with wt:=false,ms:=0 }) e2 rfl rfl rfl rfl
 have c6:=h.c6
 have c12:=h.c12
 have c13:=h.c13
 have z12:=h.fz 12
 have z13:=h.fz 13
 have H:Hid (_):=And.intro h.kd.2 (And.intro o1 h1)
 clear h h1 o1 e1 e2
 go_enter func170,ntmps170
 go_wp2_with fail
 refine (mX _ _ _ _ H.out.2.2.dog).mono ?_
 rintro e w2 ⟨rfl,o2,d2⟩
 have h2:=H.out.2.2.dogd o2 d2
 have c7:=h2.c7
 have H2:Hid (_):=And.intro (H.out.2.1.more (m:=U) (by simp[H.out.1])) (And.intro (o2.more (m:=U) (by simp[H.out.2.2.kb.2])) h2)
 clear h2 o2 d2 H c6 c12 c13 z12 z13
 go_wp2_with fail
 refine (lD _ _ _ _ _ _ H2.out.2.2.val).mono ?_
 rintro e w3 ⟨rfl,h3⟩
 obtain⟨U',B',g3,x3⟩:=H2.out.2.2.vals h3.out.1 h3.out.2
 have H3:Hid (∃ U',Gr U w U' w3∧HV w3 d P U' (lM s)):=⟨U',(Gr.trans (Gr.trans ⟨H2.out.1,fun _ h=>.inl h⟩ ⟨H2.out.2.1,fun _ h=>.inl h⟩) g3),B',x3⟩
 clear H2 h3 g3 x3 c7
 go_wp2_with fail
 go_end0
 exact⟨rfl,H3⟩
theorem kP (d:Nat) (P:Pm) (U:List Nat) (s:Sh) (k:Nat) (w:World) (h:HV w d P U s) :
  Calls prog 151 #[ac d 6,.int .i64 (k:Nat)] w fun e w'=>e=.returned (.tuple #[])∧Hid (∃ U',Gr U w U' w'∧HV w' d P U' (gz s k)):=by
 obtain⟨B,h⟩:=h
 have c7:=h.c7
 have H:Hid (_):=h
 clear h
 go_enter func151,ntmps151
 go_wp2_with fail
 refine (gI _ _ _ _ _ _ _ H.out.val).mono ?_
 rintro e w2 ⟨rfl,h2⟩
 obtain⟨U',B',g2,x2⟩:=H.out.vals h2.out.1 h2.out.2
 have o7:=Off.setCell d 8 w2 (.int .i64 (k:Nat))
 have x7:=x2.own o7 (s':=gz s k) (heap_setCell_same _ _ _ _ _ _ x2.dev) rfl rfl rfl rfl
 have H7:Hid (_):=And.intro (Gr.trans g2 (Gr.same o7 (by simp[x2.kd.2]))) x7
 have c8:=x2.c8
 have z8:=x2.fz 8
 clear H h2 g2 x2 o7 x7 c7
 go_wp2_with fail
 go_end0
 exact⟨rfl,_,H7.out.1,_,H7.out.2⟩
theorem mi (d:Nat) (P:Pm) (U:List Nat) (s:Sh) (w:World) (h:HV w d P U s) :
  Calls prog 128 #[ac d 6] w fun e w'=>e=.returned (.tuple #[])∧Hid (∃ U',Gr U w U' w'∧HV w' d P U' (iO s)):=by
 have q:=kP d P U s 1 w h
 clear h
 go_enter func128,ntmps128
 go_wp2_with fail
 refine q.mono ?_
 rintro e w2 ⟨rfl,h2⟩
 obtain⟨U2,g2,B2,x2⟩:=h2.out
 have e1:(w2.setCell ⟨d,10,none⟩ (.int .u32 0)).heap[d]?=some (.cells (jf P B2.lb B2.db B2.vb { gz s 1 with nm:=0 } B2.av) 141 (0,0)):=heap_setCell_same _ _ _ _ _ _ x2.dev
 have e2:((w2.setCell ⟨d,10,none⟩ (.int .u32 0)).setCell ⟨d,11,none⟩ (.int .u32 0)).heap[d]?=some (.cells (jf P B2.lb B2.db B2.vb { gz s 1 with nm:=0,sn:=0 } B2.av) 141 (0,0)):=heap_setCell_same _ _ _ _ _ _ e1
 have e3:(((w2.setCell ⟨d,10,none⟩ (.int .u32 0)).setCell ⟨d,11,none⟩ (.int .u32 0)).setCell ⟨d,12,none⟩ (.bool false)).heap[d]?=some (.cells (jf P B2.lb B2.db B2.vb { gz s 1 with nm:=0,sn:=0,wt:=false } B2.av) 141 (0,0)):=heap_setCell_same _ _ _ _ _ _ e2
 have e4:((((w2.setCell ⟨d,10,none⟩ (.int .u32 0)).setCell ⟨d,11,none⟩ (.int .u32 0)).setCell ⟨d,12,none⟩ (.bool false)).setCell ⟨d,13,none⟩ (.int .i64 0)).heap[d]?=some (.cells (jf P B2.lb B2.db B2.vb (iO s) B2.av) 141 (0,0)):=heap_setCell_same _ _ _ _ _ _ e3
 have o4:=(((Off.setCell d 10 w2 (.int .u32 0)).trans (Off.setCell d 11 _ (.int .u32 0))).trans (Off.setCell d 12 _ (.bool false))).trans (Off.setCell d 13 _ (.int .i64 0))
 have x4:=x2.own o4 (s':=iO s) e4 rfl rfl rfl rfl
 have H4:Hid (_):=And.intro (Gr.trans g2 (Gr.same o4 (by simp[x2.kd.2]))) x4
 have c10:=x2.c10
 have c11:=x2.c11
 have c12:=x2.c12
 have c13:=x2.c13
 have z10:=x2.fz 10
 have z11:=x2.fz 11
 have z12:=x2.fz 12
 have z13:=x2.fz 13
 clear q h2 g2 x2 o4 x4 e1 e2 e3 e4
 go_wp2_with fail
 go_end0
 exact⟨rfl,_,H4.out.1,_,H4.out.2⟩
theorem ml (d:Nat) (P:Pm) (U:List Nat) (s:Sh) (x:Int) (w:World) (h:HV w d P U s) (hx:x≠0) (hw:(Lit.int .i64 x).wf=true) (hL:s.L.length<900000) :
  Calls prog 138 #[ac d 0,.int .i64 x] w fun e w'=>e=.returned (.tuple #[])∧Hid (∃ U',Gr U w U' w'∧HV w' d P U' (eX s x)):=by
 obtain⟨B,h⟩:=h
 have hd:=h.newd (Off.drew [] w)
 have hC:=me B.lb B.Ul s.L x (s.ss:Nat) (s.nm:Nat) w.drew hd.log (by omega) hw hx
 have c5:=h.c5
 have c9:=h.c9
 have c10:=h.c10
 have H:Hid (_):=hd
 clear h hd
 go_enter func138,ntmps138
 go_wp2_with fail
 go_region_with (go_at_call 168;refine hC.mono ?_;rintro e w2 ⟨rfl,h2⟩)
 all_goals
  obtain⟨V,o2,L2,hV⟩:=h2.out
  obtain⟨U',B',g3,x3⟩:=H.out.logd o2 L2 hV
  have H3:Hid (∃ U',Gr U w U' w2∧HV w2 d P U' (eX s x)):=⟨U',Gr.trans (Gr.same (Off.drew [] w) (by simp)) g3,B',x3⟩
  clear hC H h2 o2 L2 hV g3 x3
  go_wp2_with fail
  go_end0
  exact⟨rfl,H3⟩
theorem ix (d:Nat) (P:Pm) (U:List Nat) (s:Sh) (x:Int) (w:World) (h:HV w d P U s) (hx:x≠0) (hw:(Lit.int .i64 x).wf=true) (hL:s.L.length<900000) :
  Calls prog 127 #[ac d 0,.int .i64 x] w fun e w'=>e=.returned (.tuple #[])∧Hid (∃ U',Gr U w U' w'∧HV w' d P U' (be s x)):=by
 obtain⟨B,h⟩:=h
 have c7:=h.c7
 have H:Hid (_):=h
 clear h
 unfold be
 by_cases ht:gJ s.v x=true
 ·rw[if_pos ht]
  go_enter func127,ntmps127
  go_wp2_with fail
  refine (ic _ _ _ _ _ _ _ H.out.val).mono ?_
  rintro e w2 ⟨rfl,h2⟩
  rw[ht]
  obtain⟨U',B',g2,x2⟩:=H.out.vals h2.out.1 h2.out.2
  have hN:=ml d P U' { s with v:=du s.v x } x w2 ⟨B',x2⟩ hx hw hL
  have H2:Hid (_):=g2
  clear H h2 g2 x2 c7
  go_wp2_with (go_at_call 138;refine hN.mono ?_;rintro e w3 ⟨rfl,h3⟩)
  go_end0
  obtain⟨U3,g3,x3⟩:=h3.out
  exact⟨rfl,U3,H2.out.trans g3,x3⟩
 ·rw[if_neg ht]
  have ht':gJ s.v x=false:=by simpa using ht
  go_enter func127,ntmps127
  go_wp2_with fail
  refine (ic _ _ _ _ _ _ _ H.out.val).mono ?_
  rintro e w2 ⟨rfl,h2⟩
  rw[ht']
  obtain⟨U',B',g2,x2⟩:=H.out.vals h2.out.1 h2.out.2
  have H2:Hid (_):=And.intro g2 x2
  clear H h2 g2 x2 c7
  go_wp2_with fail
  go_end0
  exact⟨rfl,U',H2.out.1,B',H2.out.2⟩
theorem pi (d:Nat) (P:Pm) (U:List Nat) (s:Sh) (w:World) (h:HV w d P U s) (hL:s.L.length<900000) :
  Calls prog 154 #[ac d 0] w fun e w'=>e=.returned (.tuple #[])∧Hid (∃ U',Gr U w U' w'∧HV w' d P U' (fZ s)):=by
 have hT:=ix d P U s 80 w h (by omega) (by decide) hL
 clear h hL
 go_enter func154,ntmps154
 go_wp2_with fail
 refine hT.mono ?_
 rintro e w2 ⟨rfl,h2⟩
 obtain⟨U2,g2,x2⟩:=h2.out
 have hV:=kP d P U2 _ 5 w2 x2
 have H2:Hid (_):=g2
 clear hT h2 g2 x2
 go_wp2_with fail
 refine hV.mono ?_
 rintro e w3 ⟨rfl,h3⟩
 clear hV
 go_wp2_with fail
 go_end0
 obtain⟨U3,g3,x3⟩:=h3.out
 exact⟨rfl,U3,H2.out.trans g3,x3⟩
theorem rj (d:Nat) (P:Pm) (U:List Nat) (s:Sh) (w:World) (h:HV w d P U s) :
  Calls prog 155 #[ac d 6] w fun e w'=>e=.returned (.int .i64 (bK s:Nat))∧Below w.heap.size w w':=by
 obtain⟨B,h⟩:=h
 have c7:=h.c7
 have c15:=h.c15
 have H:Hid (_):=h
 clear h
 unfold bK
 cases h1:aE s.v <;> cases h2:au s.v <;> by_cases h3:s.v.lat=0 <;> cases h4:s.hd
 all_goals
  rw[h4]at c15
  go_enter func155,ntmps155
  go_wp2_with fail
  refine (jc _ _ _ _ _ _ H.out.val).mono ?_
  rintro e w2 ⟨v2,rfl,h5⟩
  rw[h1]
  have hb:=h5.out.2
  have x2:=H.out.newd (Off.of_below hb)
  have e7:=x2.c7
  have e15:=x2.c15
  have q1:=gH _ _ _ _ _ _ x2.val
  have q2:=jb _ _ _ _ _ _ x2.val
  rw[h2]at q1
  rw[h4]at e15
  first
   | rw[h3]at q2
   | skip
  have HB:Hid (_):=hb
  clear H h5 hb x2 c7 c15
  go_wp2_with (first | (go_at_call 63;refine q1.mono ?_;rintro e w' ⟨rfl,hw⟩;have hw:=hw.symm;subst hw) | (go_at_call 62;refine q2.mono ?_;rintro e w' ⟨rfl,hw⟩;have hw:=hw.symm;subst hw))
  go_ret
  exact⟨by first | rfl | (simp[h3];done) | (simp[h3];rfl),HB.out⟩
end Go.Proofs.YtenilkloffnjlaaGreat
