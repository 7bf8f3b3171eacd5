/- Part 38: contracts that the proof rests on. -/
import Derived.Test.YtdpahjfekoikiaaGreatPkX36
set_option maxHeartbeats 64000000
set_option maxRecDepth 100000
namespace Go.Proofs.YtdpahjfekoikiaaGreat
open Tryz
open Go.RowKit
theorem kD (d:Nat) (P:Pm) (U:List Nat) (s:Sh) (c ss num fl:Nat) (a:Option Addr) (len cap:Nat) (bs:Nat→Nat) (w:World) (h:HV w d P U s) :
  Calls prog 42 #[aa d 0,.agg #[.int .i64 17,.int .u32 (c:Nat),.int .u32 (ss:Nat),.int .u32 (num:Nat),.int .i64 (fl:Nat),.slice a len cap]] w fun e w'=>e=.returned (.tuple #[])∧Hid (∃ U',Gr U w U' w'∧HV w' d P U' (a4 s 17 ss num fl bs)):=by
 have hb0:Below w.heap.size w (w.alloc (.cells #[.int .i64 17,.int .u32 (c:Nat),.int .u32 (ss:Nat),.int .u32 (num:Nat),.int .i64 (fl:Nat),.slice a len cap] 103)):=(Below.refl _ _).alloc (Nat.le_refl _) _
 have hx0:=aB w (.cells #[.int .i64 17,.int .u32 (c:Nat),.int .u32 (ss:Nat),.int .u32 (num:Nat),.int .i64 (fl:Nat),.slice a len cap] 103)
 have hs0:w.heap.size < (w.alloc (.cells #[.int .i64 17,.int .u32 (c:Nat),.int .u32 (ss:Nat),.int .u32 (num:Nat),.int .i64 (fl:Nat),.slice a len cap] 103)).heap.size:=by rw[World.size_alloc];omega
 have hU:w.heap.size ∉ U:=fun hm=>by have:=HV.ult h _ hm;omega
 obtain⟨B,x0⟩:=HV.below h hb0
 have hdn:¬ d=w.heap.size:=fun e=>hU (by rw[← e];exact x0.kd.2)
 have hdn':¬ w.heap.size=d:=fun e=>hdn e.symm
 have xd:=x0.newd (Off.drew [] _)
 have o1:=(Off.setCell d 8 (w.alloc (.cells #[.int .i64 17,.int .u32 (c:Nat),.int .u32 (ss:Nat),.int .u32 (num:Nat),.int .i64 (fl:Nat),.slice a len cap] 103)).drew (.int .i64 2)).trans (Off.setCell d 9 _ (.int .u32 (ss:Nat)))
 have e1:((w.alloc (.cells #[.int .i64 17,.int .u32 (c:Nat),.int .u32 (ss:Nat),.int .u32 (num:Nat),.int .i64 (fl:Nat),.slice a len cap] 103)).drew.setCell ⟨d,8,none⟩ (.int .i64 2)).heap[d]?=some (.cells (lH P B.lb B.db B.vb { s with st:=2 } B.av) 95 (0,0)):=heap_setCell_same _ _ _ _ _ _ xd.dev
 have x1:=xd.own o1 (s':={ s with st:=2,ss:=ss }) (heap_setCell_same _ _ _ _ _ _ e1) rfl rfl rfl rfl
 have g1:=(Gr.same (U:=U) (Off.drew [] (w.alloc (.cells #[.int .i64 17,.int .u32 (c:Nat),.int .u32 (ss:Nat),.int .u32 (num:Nat),.int .i64 (fl:Nat),.slice a len cap] 103))) (by simp)).trans (Gr.same (U:=U) o1 (by simp[xd.kd.2]))
 have hO:=ce d P U _ _ ⟨B,x1⟩
 have c8:=x0.c8
 have c9:=x0.c9
 have z8:=x0.fz 8
 have z9:=x0.fz 9
 have H1:Hid (_):=And.intro ((Gr.below (U:=U) hb0).trans g1) (And.intro g1 (And.intro (And.intro hs0 hU) hx0))
 clear h hb0 hx0 hs0 hU x0 xd o1 e1 x1 g1
 go_enter func42,ntmps42
 go_wp2_with fail
 go_region_with fail
 all_goals
  go_wp2_with fail
  refine hO.mono ?_
  rintro e w3 ⟨rfl,h3⟩
  obtain⟨U3,g3,x3⟩:=h3.out
  obtain⟨g01,g1,far0,hx0⟩:=H1.out
  have e3:=((g1.trans g3).far far0).2.trans hx0
  have q0:w3.cell? ⟨w.heap.size,0,none⟩=some (.int .i64 17):=ab w3 _ 0 _ _ _ e3
  have H3:Hid (_):=And.intro (g01.trans g3) x3
  clear hO h3 g3 x3 g01 g1 far0 hx0 e3 H1 c8 c9 z8 z9
  go_wp2_with fail
  go_end0
  exact⟨rfl,U3,H3.out.1,H3.out.2⟩
theorem kF (d:Nat) (P:Pm) (U:List Nat) (s:Sh) (c ss num fl:Nat) (a:Option Addr) (len cap:Nat) (bs:Nat→Nat) (w:World) (h:HV w d P U s) :
  Calls prog 42 #[aa d 0,.agg #[.int .i64 18,.int .u32 (c:Nat),.int .u32 (ss:Nat),.int .u32 (num:Nat),.int .i64 (fl:Nat),.slice a len cap]] w fun e w'=>e=.returned (.tuple #[])∧Hid (∃ U',Gr U w U' w'∧HV w' d P U' (a4 s 18 ss num fl bs)):=by
 have hb0:Below w.heap.size w (w.alloc (.cells #[.int .i64 18,.int .u32 (c:Nat),.int .u32 (ss:Nat),.int .u32 (num:Nat),.int .i64 (fl:Nat),.slice a len cap] 103)):=(Below.refl _ _).alloc (Nat.le_refl _) _
 have hx0:=aB w (.cells #[.int .i64 18,.int .u32 (c:Nat),.int .u32 (ss:Nat),.int .u32 (num:Nat),.int .i64 (fl:Nat),.slice a len cap] 103)
 have hs0:w.heap.size < (w.alloc (.cells #[.int .i64 18,.int .u32 (c:Nat),.int .u32 (ss:Nat),.int .u32 (num:Nat),.int .i64 (fl:Nat),.slice a len cap] 103)).heap.size:=by rw[World.size_alloc];omega
 have hU:w.heap.size ∉ U:=fun hm=>by have:=HV.ult h _ hm;omega
 obtain⟨B,x0⟩:=HV.below h hb0
 have hdn:¬ d=w.heap.size:=fun e=>hU (by rw[← e];exact x0.kd.2)
 have hdn':¬ w.heap.size=d:=fun e=>hdn e.symm
 have o1:=Off.setCell d 8 (w.alloc (.cells #[.int .i64 18,.int .u32 (c:Nat),.int .u32 (ss:Nat),.int .u32 (num:Nat),.int .i64 (fl:Nat),.slice a len cap] 103)) (.int .i64 3)
 have x1:=x0.own o1 (s':={ s with st:=3 }) (heap_setCell_same _ _ _ _ _ _ x0.dev) rfl rfl rfl rfl
 have g1:=Gr.same (U:=U) o1 (by simp[x0.kd.2])
 have c8:=x0.c8
 have z8:=x0.fz 8
 have hO:=ce d P U _ _ ⟨B,x1⟩
 have H1:Hid (_):=And.intro ((Gr.below (U:=U) hb0).trans g1) (And.intro g1 (And.intro (And.intro hs0 hU) hx0))
 clear h hb0 hx0 hs0 hU x0 x1 g1 o1
 go_enter func42,ntmps42
 go_wp2_with fail
 refine hO.mono ?_
 rintro e w3 ⟨rfl,h3⟩
 obtain⟨U3,g3,x3⟩:=h3.out
 obtain⟨g01,g1,far0,hx0⟩:=H1.out
 have e3:=((g1.trans g3).far far0).2.trans hx0
 have q0:w3.cell? ⟨w.heap.size,0,none⟩=some (.int .i64 18):=ab w3 _ 0 _ _ _ e3
 have H3:Hid (_):=And.intro (g01.trans g3) x3
 clear hO h3 g3 x3 g01 g1 far0 hx0 e3 H1 c8 z8
 go_wp2_with fail
 go_end0
 exact⟨rfl,U3,H3.out.1,H3.out.2⟩
theorem kJ (d:Nat) (P:Pm) (U:List Nat) (s:Sh) (c ss num fl:Nat) (a:Option Addr) (len cap:Nat) (bs:Nat→Nat) (w:World) (h:HV w d P U s) :
  Calls prog 42 #[aa d 0,.agg #[.int .i64 22,.int .u32 (c:Nat),.int .u32 (ss:Nat),.int .u32 (num:Nat),.int .i64 (fl:Nat),.slice a len cap]] w fun e w'=>e=.returned (.tuple #[])∧Hid (∃ U',Gr U w U' w'∧HV w' d P U' (a4 s 22 ss num fl bs)):=by
 have hb0:Below w.heap.size w (w.alloc (.cells #[.int .i64 22,.int .u32 (c:Nat),.int .u32 (ss:Nat),.int .u32 (num:Nat),.int .i64 (fl:Nat),.slice a len cap] 103)):=(Below.refl _ _).alloc (Nat.le_refl _) _
 have hx0:=aB w (.cells #[.int .i64 22,.int .u32 (c:Nat),.int .u32 (ss:Nat),.int .u32 (num:Nat),.int .i64 (fl:Nat),.slice a len cap] 103)
 have hs0:w.heap.size < (w.alloc (.cells #[.int .i64 22,.int .u32 (c:Nat),.int .u32 (ss:Nat),.int .u32 (num:Nat),.int .i64 (fl:Nat),.slice a len cap] 103)).heap.size:=by rw[World.size_alloc];omega
 have hU:w.heap.size ∉ U:=fun hm=>by have:=HV.ult h _ hm;omega
 obtain⟨B,x0⟩:=HV.below h hb0
 have hdn:¬ d=w.heap.size:=fun e=>hU (by rw[← e];exact x0.kd.2)
 have hdn':¬ w.heap.size=d:=fun e=>hdn e.symm
 have x1:=x0
 have g1:=Gr.refl U (w.alloc (.cells #[.int .i64 22,.int .u32 (c:Nat),.int .u32 (ss:Nat),.int .u32 (num:Nat),.int .i64 (fl:Nat),.slice a len cap] 103))
 have hO:=ce d P U _ _ ⟨B,x1⟩
 have H1:Hid (_):=And.intro ((Gr.below (U:=U) hb0).trans g1) (And.intro g1 (And.intro (And.intro hs0 hU) hx0))
 clear h hb0 hx0 hs0 hU x0 x1 g1
 go_enter func42,ntmps42
 go_wp2_with fail
 refine hO.mono ?_
 rintro e w3 ⟨rfl,h3⟩
 obtain⟨U3,g3,x3⟩:=h3.out
 obtain⟨g01,g1,far0,hx0⟩:=H1.out
 have e3:=((g1.trans g3).far far0).2.trans hx0
 have q0:w3.cell? ⟨w.heap.size,0,none⟩=some (.int .i64 22):=ab w3 _ 0 _ _ _ e3
 have H3:Hid (_):=And.intro (g01.trans g3) x3
 clear hO h3 g3 x3 g01 g1 far0 hx0 e3 H1
 go_wp2_with fail
 go_end0
 exact⟨rfl,U3,H3.out.1,H3.out.2⟩
theorem kG (d:Nat) (P:Pm) (U:List Nat) (s:Sh) (c ss num fl:Nat) (a:Option Addr) (len cap:Nat) (bs:Nat→Nat) (w:World) (h:HV w d P U s) :
  Calls prog 42 #[aa d 0,.agg #[.int .i64 19,.int .u32 (c:Nat),.int .u32 (ss:Nat),.int .u32 (num:Nat),.int .i64 (fl:Nat),.slice a len cap]] w fun e w'=>e=.returned (.tuple #[])∧Hid (∃ U',Gr U w U' w'∧HV w' d P U' (a4 s 19 ss num fl bs)):=by
 have hb0:Below w.heap.size w (w.alloc (.cells #[.int .i64 19,.int .u32 (c:Nat),.int .u32 (ss:Nat),.int .u32 (num:Nat),.int .i64 (fl:Nat),.slice a len cap] 103)):=(Below.refl _ _).alloc (Nat.le_refl _) _
 have hx0:=aB w (.cells #[.int .i64 19,.int .u32 (c:Nat),.int .u32 (ss:Nat),.int .u32 (num:Nat),.int .i64 (fl:Nat),.slice a len cap] 103)
 have hs0:w.heap.size < (w.alloc (.cells #[.int .i64 19,.int .u32 (c:Nat),.int .u32 (ss:Nat),.int .u32 (num:Nat),.int .i64 (fl:Nat),.slice a len cap] 103)).heap.size:=by rw[World.size_alloc];omega
 have hU:w.heap.size ∉ U:=fun hm=>by have:=HV.ult h _ hm;omega
 obtain⟨B,x0⟩:=HV.below h hb0
 have hdn:¬ d=w.heap.size:=fun e=>hU (by rw[← e];exact x0.kd.2)
 have hdn':¬ w.heap.size=d:=fun e=>hdn e.symm
 have o1:=Off.setCell d 8 (w.alloc (.cells #[.int .i64 19,.int .u32 (c:Nat),.int .u32 (ss:Nat),.int .u32 (num:Nat),.int .i64 (fl:Nat),.slice a len cap] 103)) (.int .i64 4)
 have x1:=x0.own o1 (s':={ s with st:=4 }) (heap_setCell_same _ _ _ _ _ _ x0.dev) rfl rfl rfl rfl
 have g1:=Gr.same (U:=U) o1 (by simp[x0.kd.2])
 have c7:=x0.c7
 have c8:=x0.c8
 have z8:=x0.fz 8
 have hV:=eA _ _ _ _ _ true _ x1.val
 have H1:Hid (_):=And.intro ((Gr.below (U:=U) hb0).trans g1) (And.intro g1 (And.intro (And.intro hs0 hU) (And.intro hx0 x1)))
 clear h hb0 hx0 hs0 hU x0 x1 g1 o1
 go_enter func42,ntmps42
 go_wp2_with fail
 refine hV.mono ?_
 rintro e w2 ⟨rfl,h2⟩
 obtain⟨g01,g1,far0,hx0,x1⟩:=H1.out
 obtain⟨U2,B2,g2,x2⟩:=x1.vals h2.out.1 h2.out.2
 have hO:=ce d P U2 _ _ ⟨B2,x2⟩
 have H2:Hid (_):=And.intro (g01.trans g2) (And.intro (g1.trans g2) (And.intro far0 hx0))
 clear hV h2 g01 g1 far0 hx0 x1 g2 x2 H1 c7 c8 z8
 go_wp2_with fail
 refine hO.mono ?_
 rintro e w3 ⟨rfl,h3⟩
 obtain⟨U3,g3,x3⟩:=h3.out
 obtain⟨g01,g1,far0,hx0⟩:=H2.out
 have e3:=((g1.trans g3).far far0).2.trans hx0
 have q0:w3.cell? ⟨w.heap.size,0,none⟩=some (.int .i64 19):=ab w3 _ 0 _ _ _ e3
 have H3:Hid (_):=And.intro (g01.trans g3) x3
 clear hO h3 g3 x3 g01 g1 far0 hx0 e3 H2
 go_wp2_with fail
 go_end0
 exact⟨rfl,U3,H3.out.1,H3.out.2⟩
theorem kI (d:Nat) (P:Pm) (U:List Nat) (s:Sh) (c ss num fl:Nat) (a:Option Addr) (len cap:Nat) (bs:Nat→Nat) (w:World) (h:HV w d P U s) (hL:s.L.length<900000) :
  Calls prog 42 #[aa d 0,.agg #[.int .i64 21,.int .u32 (c:Nat),.int .u32 (ss:Nat),.int .u32 (num:Nat),.int .i64 (fl:Nat),.slice a len cap]] w fun e w'=>e=.returned (.tuple #[])∧Hid (∃ U',Gr U w U' w'∧HV w' d P U' (a4 s 21 ss num fl bs)):=by
 have hb0:Below w.heap.size w (w.alloc (.cells #[.int .i64 21,.int .u32 (c:Nat),.int .u32 (ss:Nat),.int .u32 (num:Nat),.int .i64 (fl:Nat),.slice a len cap] 103)):=(Below.refl _ _).alloc (Nat.le_refl _) _
 have hx0:=aB w (.cells #[.int .i64 21,.int .u32 (c:Nat),.int .u32 (ss:Nat),.int .u32 (num:Nat),.int .i64 (fl:Nat),.slice a len cap] 103)
 have hs0:w.heap.size < (w.alloc (.cells #[.int .i64 21,.int .u32 (c:Nat),.int .u32 (ss:Nat),.int .u32 (num:Nat),.int .i64 (fl:Nat),.slice a len cap] 103)).heap.size:=by rw[World.size_alloc];omega
 have hU:w.heap.size ∉ U:=fun hm=>by have:=HV.ult h _ hm;omega
 obtain⟨B,x0⟩:=HV.below h hb0
 have hdn:¬ d=w.heap.size:=fun e=>hU (by rw[← e];exact x0.kd.2)
 have hdn':¬ w.heap.size=d:=fun e=>hdn e.symm
 have o1:=Off.setCell d 10 (w.alloc (.cells #[.int .i64 21,.int .u32 (c:Nat),.int .u32 (ss:Nat),.int .u32 (num:Nat),.int .i64 (fl:Nat),.slice a len cap] 103)) (.int .u32 (num:Nat))
 have x1:=x0.own o1 (s':={ s with nm:=num }) (heap_setCell_same _ _ _ _ _ _ x0.dev) rfl rfl rfl rfl
 have g1:=Gr.same (U:=U) o1 (by simp[x0.kd.2])
 have c10:=x0.c10
 have z10:=x0.fz 10
 have hO:=ce d P U _ _ ⟨B,x1⟩
 have H1:Hid (_):=And.intro ((Gr.below (U:=U) hb0).trans g1) (And.intro g1 (And.intro (And.intro hs0 hU) (And.intro hx0 hL)))
 clear h hb0 hx0 hs0 hU x0 x1 g1 o1 hL
 go_enter func42,ntmps42
 go_wp2_with fail
 refine hO.mono ?_
 rintro e w3 ⟨rfl,h3⟩
 obtain⟨U3,g3,x3⟩:=h3.out
 obtain⟨g01,g1,far0,hx0,hL⟩:=H1.out
 have e3:=((g1.trans g3).far far0).2.trans hx0
 have q0:w3.cell? ⟨w.heap.size,0,none⟩=some (.int .i64 21):=ab w3 _ 0 _ _ _ e3
 have hE:=ks d P U3 _ w3 x3 (by show s.L.length<_;omega)
 have H3:Hid (_):=g01.trans g3
 clear hO h3 g3 x3 g01 g1 far0 hx0 e3 H1 c10 z10 hL
 go_wp2_with fail
 refine hE.mono ?_
 rintro e w4 ⟨rfl,h4⟩
 obtain⟨U4,g4,x4⟩:=h4.out
 have H4:Hid (_):=And.intro (H3.out.trans g4) x4
 clear hE h4 g4 x4 H3 q0
 go_wp2_with fail
 go_end0
 exact⟨rfl,U4,H4.out.1,H4.out.2⟩
theorem kH (d:Nat) (P:Pm) (U:List Nat) (s:Sh) (c ss num fl:Nat) (a:Option Addr) (len cap:Nat) (bs:Nat→Nat) (w:World) (h:HV w d P U s) (hr:Row8 w a len cap bs) (ha:∀ x,a=some x→x.block<w.heap.size∧x.block ∉ U) (hfl:fl<16) (hlen:len=P.i) :
  Calls prog 42 #[aa d 0,.agg #[.int .i64 20,.int .u32 (c:Nat),.int .u32 (ss:Nat),.int .u32 (num:Nat),.int .i64 (fl:Nat),.slice a len cap]] w fun e w'=>e=.returned (.tuple #[])∧Hid (∃ U',Gr U w U' w'∧HV w' d P U' (a4 s 20 ss num fl bs)):=by
 have hb0:Below w.heap.size w (w.alloc (.cells #[.int .i64 20,.int .u32 (c:Nat),.int .u32 (ss:Nat),.int .u32 (num:Nat),.int .i64 (fl:Nat),.slice a len cap] 103)):=(Below.refl _ _).alloc (Nat.le_refl _) _
 have hx0:=aB w (.cells #[.int .i64 20,.int .u32 (c:Nat),.int .u32 (ss:Nat),.int .u32 (num:Nat),.int .i64 (fl:Nat),.slice a len cap] 103)
 have hs0:w.heap.size < (w.alloc (.cells #[.int .i64 20,.int .u32 (c:Nat),.int .u32 (ss:Nat),.int .u32 (num:Nat),.int .i64 (fl:Nat),.slice a len cap] 103)).heap.size:=by rw[World.size_alloc];omega
 have hU:w.heap.size ∉ U:=fun hm=>by have:=HV.ult h _ hm;omega
 obtain⟨B,x0⟩:=HV.below h hb0
 have hdn:¬ d=w.heap.size:=fun e=>hU (by rw[← e];exact x0.kd.2)
 have hdn':¬ w.heap.size=d:=fun e=>hdn e.symm
 have o1:=Off.setCell d 10 (w.alloc (.cells #[.int .i64 20,.int .u32 (c:Nat),.int .u32 (ss:Nat),.int .u32 (num:Nat),.int .i64 (fl:Nat),.slice a len cap] 103)) (.int .u32 (num:Nat))
 have x1:=x0.own o1 (s':={ s with nm:=num }) (heap_setCell_same _ _ _ _ _ _ x0.dev) rfl rfl rfl rfl
 have g1:=Gr.same (U:=U) o1 (by simp[x0.kd.2])
 have c10:=x0.c10
 have z10:=x0.fz 10
 have hO:=ce d P U _ _ ⟨B,x1⟩
 have r0:=hr.below hb0
 have ra0:∀ x,a=some x→x.block < (w.alloc (.cells #[.int .i64 20,.int .u32 (c:Nat),.int .u32 (ss:Nat),.int .u32 (num:Nat),.int .i64 (fl:Nat),.slice a len cap] 103)).heap.size∧x.block ∉ U:=fun x hx=>⟨by have:=(ha x hx).1;omega,(ha x hx).2⟩
 have HB:=mT fl hfl
 have H1:Hid (_):=And.intro ((Gr.below (U:=U) hb0).trans g1) (And.intro g1 (And.intro (And.intro hs0 hU) (And.intro hx0 (And.intro r0 (And.intro ra0 (And.intro HB hlen))))))
 clear h hb0 hx0 hs0 hU x0 x1 g1 o1 hr ha hfl r0 ra0 HB hlen
 go_enter func42,ntmps42
 go_wp2_with fail
 refine hO.mono ?_
 rintro e w2 ⟨rfl,h2⟩
 obtain⟨U2,g2,B2,x2⟩:=h2.out
 obtain⟨g01,g1,far0,hx0,r0,ra0,HB,hlen⟩:=H1.out
 have G2:=g1.trans g2
 have far2:=G2.far far0
 have e2:=far2.2.trans hx0
 have q0:w2.cell? ⟨w.heap.size,0,none⟩=some (.int .i64 20):=ab w2 _ 0 _ _ _ e2
 have q4:w2.cell? ⟨w.heap.size,4,none⟩=some (.int .i64 (fl:Nat)):=ab w2 _ 4 _ _ _ e2
 have y7:=x2.c7
 have r2:Row8 w2 a len cap bs:=r0.off G2.off (fun x hx=>(ra0 x hx).2)
 have ra2:∀ x,a=some x→x.block<w2.heap.size∧x.block ∉ U2:=fun x hx=>(G2.far (ra0 x hx)).1
 have x2d:=x2.newd (Off.drew [] w2)
 have hV:=jg _ _ _ _ _ (bits .and .i64 (fl:Int) 8 != 0) _ x2d.val
 have H2:Hid (_):=And.intro (g01.trans g2) (And.intro x2d (And.intro far2.1 (And.intro e2 (And.intro r2 (And.intro ra2 (And.intro HB hlen))))))
 clear hO h2 g2 x2 g01 g1 far0 hx0 r0 ra0 G2 far2 e2 r2 ra2 x2d H1 c10 z10 HB hlen
 go_wp2_with fail
 go_region_with (go_at_call 83;refine hV.mono ?_;rintro e w3 ⟨rfl,h3⟩)
 all_goals
  obtain⟨g2,x2d,far2,e2,r2,ra2,HB,hlen⟩:=H2.out
  obtain⟨U3,B3,g3',x3⟩:=x2d.vals h3.out.1 h3.out.2
  have g3:Gr U2 w2 U3 w3:=Gr.trans (Gr.same (Off.drew [] w2) (by simp)) g3'
  have far3:=g3.far far2
  have e3:=far3.2.trans e2
  have q5:w3.cell? ⟨w.heap.size,5,none⟩=some (.slice a len cap):=ab w3 _ 5 _ _ _ e3
  have z7:=x3.c7
  have r3:Row8 w3 a len cap bs:=r2.off g3.off (fun x hx=>(ra2 x hx).2)
  have x3d:=x3.newd (Off.drew [] w3)
  have hT:=jh _ _ _ _ _ a len cap bs _ x3d.val (r3.below (Below.drew (Below.refl _ _)))
  have H3:Hid (_):=And.intro (g2.trans g3) (And.intro x3d (And.intro HB hlen))
  clear hV H2 h3 g2 x2d far2 e2 r2 ra2 g3' x3 g3 far3 e3 r3 x3d q4 q0 y7 HB hlen
  go_wp2_with fail
  go_region_with (go_at_call 84;refine hT.mono ?_;rintro e w4 ⟨rfl,h4⟩)
  all_goals
   obtain⟨M4,o4,v4,hM4⟩:=h4.out
   obtain⟨g3,x3d,HB,hlen⟩:=H3.out
   rw[if_pos hlen]at v4
   have hlt4:∀ k,k ∈ M4→k<w4.heap.size:=fun k hk=>by
    rcases hM4 k hk with h | h
    ·exact Nat.lt_of_lt_of_le (x3d.ltU k (x3d.kM k h).2) o4.size
    ·exact h.2
   obtain⟨U4,B4,g4',x4⟩:=x3d.vald o4 v4 (fun k hk=>(hM4 k hk).imp id And.left) hlt4
   have g4:Gr U w U4 w4:=g3.trans (Gr.trans (Gr.same (Off.drew [] w3) (by simp)) g4')
   have x5:HX w4 d P U4 (a4 s 20 ss num fl bs) B4:=by
    have hs:a4 s 20 ss num fl bs={ gP { s with nm:=num } with v:=bP (cF (bJ s.v) (bits .and .i64 (fl:Int) 8 != 0)) bs }:=by
     rw[HB];rfl
    rw[hs];exact x4
   have H4:Hid (_):=And.intro g4 x5
   clear hT H3 h4 o4 v4 hM4 hlt4 g3 x3d g4' x4 g4 x5 HB hlen q5 z7
   go_wp2_with fail
   go_end0
   exact⟨rfl,U4,H4.out.1,B4,H4.out.2⟩
theorem oC (d:Nat) (P:Pm) (U:List Nat) (s:Sh) (k c ss num fl:Nat) (a:Option Addr) (len cap:Nat) (bs:Nat→Nat) (w:World) (h:HV w d P U s) (hr:Row8 w a len cap bs) (ha:∀ x,a=some x→x.block<w.heap.size∧x.block ∉ U) (hk:17≤k∧k≤22) (hfl:fl<16) (hlen:k=20→len=P.i) (hL:s.L.length<900000) :
  Calls prog 42 #[aa d 0,.agg #[.int .i64 (k:Nat),.int .u32 (c:Nat),.int .u32 (ss:Nat),.int .u32 (num:Nat),.int .i64 (fl:Nat),.slice a len cap]] w fun e w'=>e=.returned (.tuple #[])∧Hid (∃ U',Gr U w U' w'∧HV w' d P U' (a4 s k ss num fl bs)):=by
 have:k=17∨k=18∨k=19∨k=20∨k=21∨k=22:=by omega
 rcases this with rfl | rfl | rfl | rfl | rfl | rfl
 ·exact kD d P U s c ss num fl a len cap bs w h
 ·exact kF d P U s c ss num fl a len cap bs w h
 ·exact kG d P U s c ss num fl a len cap bs w h
 ·exact kH d P U s c ss num fl a len cap bs w h hr ha hfl (hlen rfl)
 ·exact kI d P U s c ss num fl a len cap bs w h hL
 ·exact kJ d P U s c ss num fl a len cap bs w h
end Go.Proofs.YtdpahjfekoikiaaGreat
