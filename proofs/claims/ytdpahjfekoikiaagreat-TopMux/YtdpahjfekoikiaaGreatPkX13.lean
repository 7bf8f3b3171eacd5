/- Part 14: contracts that the proof rests on. -/
import Derived.Test.YtdpahjfekoikiaaGreatPkX12
set_option maxHeartbeats 64000000
set_option maxRecDepth 100000
namespace Go.Proofs.YtdpahjfekoikiaaGreat
open Tryz
open Go.RowKit
theorem Fr.lt {w:World} {M:Nat} {v:Value} {f:Fm} (h:Fr w M v f) (k:Nat) (hk:v.ownBlock=some k):k<w.heap.size:=by
 rcases h.2 with hn | ⟨g',cap',cur',rfl,hg',hh,_⟩
 ·rw[hn.1]at hk;cases hk
 ·cases hk;exact (Array.getElem?_eq_some_iff.1 hh).1
theorem Out.next {U U1 U2:List Nat} {w w1 w2:World} {d m g n mx:Nat} {P:Pm} {s:Sd} {f:Fm} {v:Value} (g1:Gr U w U1 w1) (hf:Fr w1 w.heap.size v f) (hk:∀ k,v.ownBlock=some k→k ∉ U1) (g2:Gr U1 w1 U2 w2) (x2:DV w2 d m g n mx P U2 s):Out U w w2 d m g n mx P s f v:=
 ⟨U2,g1.trans g2,x2,an hf g2.off hk,fun k e=>g2.out (hf.lt k e) (hk k e)⟩
theorem pP (d m g n mx:Nat) (P:Pm) (U:List Nat) (s:Sd) (a:Option Addr) (len cap:Nat) (bs:Nat→Nat) (w:World) (h:DV w d m g n mx P U s) (hr:Row8 w a len cap bs) (hs:s.st≠6) (ho:s.od<4) (hL:s.L.length<800000) :
  Calls prog 146 #[aa d 0,.slice a len cap] w fun e w'=>∃ v,e=.returned (.tuple #[v,.int .i64 (if au P len bs=true then (⟨aM s,bC P (aM s) 18 0 0 0 (fun _=>0),0⟩:Rs) else aA P s 91).e])∧Hid (Out U w w' d m g n mx P (if au P len bs=true then (⟨aM s,bC P (aM s) 18 0 0 0 (fun _=>0),0⟩:Rs) else aA P s 91).s (if au P len bs=true then (⟨aM s,bC P (aM s) 18 0 0 0 (fun _=>0),0⟩:Rs) else aA P s 91).f v):=by
 have hS:=ij d m g n mx P U s a len cap bs w h hr
 have H:Hid (_):=And.intro h (And.intro hs (And.intro ho hL))
 clear h hr hs ho hL
 by_cases hg:au P len bs=true
 ·rw[if_pos hg]
  rw[hg]at hS
  unfold aM
  by_cases h2:s.st=2
  ·rw[if_pos h2]
   go_enter func146,ntmps146
   go_wp2_with (go_at_call 176;refine hS.mono ?_;rintro e w2 ⟨rfl,b2⟩;obtain⟨B,h2'⟩:=DV.below H.out.1 b2;have c11:=h2'.cells.2.2.2.2.2.2.2.2.2.2.2.1;rw[h2]at c11;have f11:=h2'.fz 11;have H2:Hid (_):=And.intro (Gr.below (U:=U) b2) h2';clear h2' b2 hS)
   have x2:=H2.out.2
   have o3:=Off.setCell d 11 w2 (.int .i64 3)
   have x3:=x2.own o3 (A':=({ s with st:=3 }:Sd).st≠6) (s':={ s with st:=3 }) (heap_setCell_same _ _ _ _ _ _ x2.dev) rfl rfl rfl rfl rfl (fun _=>H.out.2.1)
   have hO:=dC d m g n mx P U _ _ ⟨B,x3⟩
   have H3:Hid (_):=H2.out.1.trans (Gr.same o3 (by simp[x2.kd.2]))
   clear x2 x3 o3 H2 c11 f11
   go_wp2_with (go_at_call 181;refine hO.mono ?_;rintro e w4 ⟨rfl,h4⟩)
   obtain⟨U4,g4,x4⟩:=h4.out
   have hY:=dF d m g n mx P U4 _ 18 0 0 none 0 0 (fun _=>0) w4 x4 (bY _ _)
   have H4:Hid (_):=And.intro (H3.out.trans g4) x4
   clear hO h4 g4 x4 H3
   go_wp2_with (go_at_call 182;refine hY.mono ?_;rintro e w5 ⟨v,rfl,h5⟩)
   go_ret2
   exact⟨v,rfl,Out.mk H4.out.1 H4.out.2 h5.out.1 h5.out.2⟩
  ·rw[if_neg h2]
   have e2:((s.st:Int) == 2)=false:=by simp;omega
   clear h2
   go_enter func146,ntmps146
   go_wp2_with (go_at_call 176;refine hS.mono ?_;rintro e w2 ⟨rfl,b2⟩;obtain⟨B,h2'⟩:=DV.below H.out.1 b2;have c11:=h2'.cells.2.2.2.2.2.2.2.2.2.2.2.1;have H2:Hid (_):=And.intro (Gr.below (U:=U) b2) h2';clear h2' b2 hS)
   have hY:=dF d m g n mx P U _ 18 0 0 none 0 0 (fun _=>0) w2 ⟨B,H2.out.2⟩ (bY _ _)
   clear c11
   go_wp2_with (go_at_call 182;refine hY.mono ?_;rintro e w5 ⟨v,rfl,h5⟩)
   go_ret2
   exact⟨v,rfl,Out.mk H2.out.1 ⟨B,H2.out.2⟩ h5.out.1 h5.out.2⟩
 ·have hg':au P len bs=false:=by simpa using hg
  rw[if_neg hg]
  rw[hg']at hS
  go_enter func146,ntmps146
  go_wp2_with (go_at_call 176;refine hS.mono ?_;rintro e w2 ⟨rfl,b2⟩)
  obtain⟨h,hs,ho,hL⟩:=H.out
  have h2:=DV.below h b2
  have hR:=cO d m g n mx P U s 91 w2 h2 hs ho (by omega)
  have H2:Hid (_):=Gr.below (U:=U) b2
  clear hS H b2 h hs ho hL h2
  go_wp2_with (go_at_call 150;refine hR.mono ?_;rintro e w3 ⟨v,rfl,h3⟩)
  go_ret2
  exact⟨v,rfl,Out.pre H2.out h3.out⟩
theorem oS (d m g n mx:Nat) (P:Pm) (U:List Nat) (s:Sd) (w:World) (h:DV w d m g n mx P U s) :
  Calls prog 147 #[aa d 0] w fun e w'=>∃ v,e=.returned v∧Hid (Out U w w' d m g n mx P (bv s) (bC P (bv s) 19 0 0 0 (fun _=>0)) v):=by
 obtain⟨B,h⟩:=h
 have c11:=h.cells.2.2.2.2.2.2.2.2.2.2.2.1
 have c10:=h.cells.2.2.2.2.2.2.2.2.2.2.1
 have f11:=h.fz 11
 unfold bv
 by_cases h3:s.st=3
 ·rw[if_pos h3]
  have o1:=Off.setCell d 11 w (.int .i64 4)
  have x1:=h.own o1 (A':=({ s with st:=4 }:Sd).st≠6) (s':={ s with st:=4 }) (heap_setCell_same _ _ _ _ _ _ h.dev) rfl rfl rfl rfl rfl (fun _=>by rw[h3];omega)
  have hV:=eA _ _ _ _ _ true _ x1.val
  have H1:Hid (_):=And.intro (Gr.same (U:=U) o1 (by simp[h.kd.2])) x1
  rw[h3]at c11
  clear h o1 x1 h3
  go_enter func147,ntmps147
  go_wp2_with (go_at_call 81;refine hV.mono ?_;rintro e w2 ⟨rfl,h2⟩)
  obtain⟨U2,B2,g2,x2⟩:=H1.out.2.vals h2.out.1 h2.out.2
  have hO:=dC d m g n mx P U2 _ _ ⟨B2,x2⟩
  have H2:Hid (_):=H1.out.1.trans g2
  clear hV H1 h2 g2 x2 c10 c11 f11
  go_wp2_with (go_at_call 181;refine hO.mono ?_;rintro e w4 ⟨rfl,h4⟩)
  obtain⟨U4,g4,x4⟩:=h4.out
  have hY:=dF d m g n mx P U4 _ 19 0 0 none 0 0 (fun _=>0) w4 x4 (bY _ _)
  have H4:Hid (_):=And.intro (H2.out.trans g4) x4
  clear hO h4 g4 x4 H2
  go_wp2_with (go_at_call 182;refine hY.mono ?_;rintro e w5 ⟨v,rfl,h5⟩)
  go_ret
  exact⟨v,rfl,Out.mk H4.out.1 H4.out.2 h5.out.1 h5.out.2⟩
 ·rw[if_neg h3]
  have e3:((s.st:Int) == 3)=false:=by simp;omega
  have hY:=dF d m g n mx P U _ 19 0 0 none 0 0 (fun _=>0) w ⟨B,h⟩ (bY _ _)
  have H:Hid (_):=h
  clear h h3 c10 f11
  go_enter func147,ntmps147
  go_wp2_with (go_at_call 182;refine hY.mono ?_;rintro e w5 ⟨v,rfl,h5⟩)
  go_ret
  exact⟨v,rfl,Out.mk (Gr.refl _ _) ⟨B,H.out⟩ h5.out.1 h5.out.2⟩
theorem qd (d m g n mx:Nat) (P:Pm) (U:List Nat) (s:Sd) (w:World) (h:DV w d m g n mx P U s) (hs:s.st≠6) (hL:s.L.length<800000) :
  Calls prog 149 #[aa d 0] w fun e w'=>∃ v,e=.returned v∧Hid (Out U w w' d m g n mx P (iJ (dJ P s)) (bC P (dJ P s) 21 P.n 0 0 (fun _=>0)) v):=by
 obtain⟨B,h⟩:=h
 have c4:=h.cells.2.2.2.2.1
 have c13:=h.cells.2.2.2.2.2.2.2.2.2.2.2.2.2.1
 have f13:=h.fz 13
 have o1:=Off.setCell d 13 w (.int .u32 (P.n:Nat))
 have x1:=h.own o1 (s':={ s with nm:=P.n }) (heap_setCell_same _ _ _ _ _ _ h.dev) rfl rfl rfl rfl rfl id
 have hO:=dC d m g n mx P U _ _ ⟨B,x1⟩
 have H1:Hid (_):=Gr.same (U:=U) o1 (by simp[h.kd.2])
 have HS:Hid (_):=And.intro hs hL
 clear h o1 x1 hs hL
 go_enter func149,ntmps149
 go_wp2_with (go_at_call 181;refine hO.mono ?_;rintro e w2 ⟨rfl,h2⟩)
 obtain⟨U2,g2,x2⟩:=h2.out
 have hT:=ek d m g n mx P U2 _ 80 w2 x2 (by omega) (by decide) (by show s.L.length<900000;have:=HS.out.2;omega)
 have H2:Hid (_):=H1.out.trans g2
 clear hO h2 g2 x2 H1 c4 c13 f13
 go_wp2_with (go_at_call 184;refine hT.mono ?_;rintro e w3 ⟨rfl,h3⟩;obtain⟨U3,g3,B3,x3⟩:=h3.out;have y4:=x3.cells.2.2.2.2.1;have y14:=x3.cells.2.2.2.2.2.2.2.2.2.2.2.2.2.2.1;have f14:=x3.fz 14;have H3:Hid (_):=And.intro (H2.out.trans g3) x3;clear hT h3 g3 x3 H2)
 have x3:=H3.out.2
 have o4:=Off.setCell d 14 w3 (.int .u32 (P.n:Nat))
 have x4:=x3.own o4 (s':=dJ P s) (heap_setCell_same _ _ _ _ _ _ x3.dev) rfl rfl rfl rfl rfl id
 have hY:=dF d m g n mx P U3 _ 21 P.n 0 none 0 0 (fun _=>0) _ ⟨B3,x4⟩ (bY _ _)
 have H4:Hid (_):=And.intro (H3.out.1.trans (Gr.same o4 (by simp[x3.kd.2]))) x4
 clear x3 x4 o4 H3
 go_wp2_with (go_at_call 182;refine hY.mono ?_;rintro e w5 ⟨v,rfl,h5⟩;obtain⟨U5,g5,⟨B5,x5⟩,f5,k5⟩:=Out.mk H4.out.1 ⟨B3,H4.out.2⟩ h5.out.1 h5.out.2;have y10:=x5.cells.2.2.2.2.2.2.2.2.2.2.1;have H5:Hid (_):=And.intro g5 (And.intro x5 (And.intro f5 k5));clear hY h5 x5 H4 y4 y14 f14 g5 f5 k5)
 have hV:=eA _ _ _ _ _ false _ H5.out.2.1.val
 go_wp2_with (go_at_call 81;refine hV.mono ?_;rintro e w6 ⟨rfl,h6⟩;obtain⟨U6,B6,g6,x6⟩:=H5.out.2.1.vals h6.out.1 h6.out.2;have y11:=x6.cells.2.2.2.2.2.2.2.2.2.2.2.1;have f11:=x6.fz 11;have H6:Hid (_):=And.intro g6 x6;clear hV h6 g6 x6 y10)
 go_ret
 have x6:=H6.out.2
 have o7:=Off.setCell d 11 w6 (.int .i64 5)
 have x7:=x6.own o7 (A':=(iJ (dJ P s)).st≠6) (s':=iJ (dJ P s)) (heap_setCell_same _ _ _ _ _ _ x6.dev) rfl rfl rfl rfl rfl (fun _=>by show (aq (eE { s with nm:=P.n }) 80).st≠6;rw[nW];exact HS.out.1)
 obtain⟨g5,x5,f5,k5⟩:=H5.out
 exact⟨v,rfl,Out.next g5 f5 k5 (H6.out.1.trans (Gr.same o7 (by simp[x6.kd.2]))) ⟨B6,x7⟩⟩
theorem Gr.far {U U':List Nat} {w w':World} (h:Gr U w U' w') {k:Nat} (hk:k<w.heap.size∧k ∉ U):(k<w'.heap.size∧k ∉ U')∧w'.heap[k]?=w.heap[k]?:=
 ⟨⟨Nat.lt_of_lt_of_le hk.1 h.off.size,h.out hk.1 hk.2⟩,h.off.block k hk.1 hk.2⟩
theorem mT (fl:Nat) (h:fl<16):(bits .and .i64 (fl:Int) 8 != 0)=decide (8≤fl):=by
 have:fl=0∨fl=1∨fl=2∨fl=3∨fl=4∨fl=5∨fl=6∨fl=7∨fl=8∨fl=9∨fl=10∨fl=11∨fl=12∨fl=13∨fl=14∨fl=15:=by omega
 rcases this with rfl | rfl | rfl | rfl | rfl | rfl | rfl | rfl | rfl | rfl | rfl | rfl | rfl | rfl | rfl | rfl <;> rfl
theorem pL (d m g n mx:Nat) (P:Pm) (U:List Nat) (s:Sd) (k c ss num fl:Nat) (a:Option Addr) (cap:Nat) (bs:Nat→Nat) (w:World) (h:DV w d m g n mx P U s) (hr:Row8 w a P.o cap bs) (ha:∀ x,a=some x→x.block<w.heap.size∧x.block ∉ U) (hfl:fl<16) (hsn:s.sn+1<4294967296) :
  Calls prog 148 #[aa d 0,.agg #[.int .i64 (k:Nat),.int .u32 (c:Nat),.int .u32 (ss:Nat),.int .u32 (num:Nat),.int .i64 (fl:Nat),.slice a P.o cap]] w fun e w'=>∃ v,e=.returned v∧Hid (Out U w w' d m g n mx P (bF s num fl bs) (bC P (bF s num fl bs) 20 (s.sn+1) (bG (bF s num fl bs)) P.i s.ap) v):=by
 have hb0:Below w.heap.size w (w.alloc (.cells #[.int .i64 (k:Nat),.int .u32 (c:Nat),.int .u32 (ss:Nat),.int .u32 (num:Nat),.int .i64 (fl:Nat),.slice a P.o cap] 103)):=(Below.refl _ _).alloc (Nat.le_refl _) _
 have hx0:(w.alloc (.cells #[.int .i64 (k:Nat),.int .u32 (c:Nat),.int .u32 (ss:Nat),.int .u32 (num:Nat),.int .i64 (fl:Nat),.slice a P.o cap] 103)).heap[w.heap.size]?=some (.cells #[.int .i64 (k:Nat),.int .u32 (c:Nat),.int .u32 (ss:Nat),.int .u32 (num:Nat),.int .i64 (fl:Nat),.slice a P.o cap] 103 (0,0)):=aB w _
 have hs0:w.heap.size < (w.alloc (.cells #[.int .i64 (k:Nat),.int .u32 (c:Nat),.int .u32 (ss:Nat),.int .u32 (num:Nat),.int .i64 (fl:Nat),.slice a P.o cap] 103)).heap.size:=by simp
 have hU:=fun k hk=>DV.ult h k hk
 obtain⟨B,h0⟩:=DV.below h hb0
 have far0:w.heap.size < (w.alloc (.cells #[.int .i64 (k:Nat),.int .u32 (c:Nat),.int .u32 (ss:Nat),.int .u32 (num:Nat),.int .i64 (fl:Nat),.slice a P.o cap] 103)).heap.size∧w.heap.size ∉ U:=⟨hs0,fun hm=>by have:=hU _ hm;omega⟩
 have r0:=hr.below hb0
 have ra0:∀ x,a=some x→x.block < (w.alloc (.cells #[.int .i64 (k:Nat),.int .u32 (c:Nat),.int .u32 (ss:Nat),.int .u32 (num:Nat),.int .i64 (fl:Nat),.slice a P.o cap] 103)).heap.size∧x.block ∉ U:=fun x hx=>⟨by have:=(ha x hx).1;omega,(ha x hx).2⟩
 have c13:=h0.cells.2.2.2.2.2.2.2.2.2.2.2.2.2.1
 have f13:=h0.fz 13
 have o1:=Off.setCell d 13 (w.alloc (.cells #[.int .i64 (k:Nat),.int .u32 (c:Nat),.int .u32 (ss:Nat),.int .u32 (num:Nat),.int .i64 (fl:Nat),.slice a P.o cap] 103)) (.int .u32 (num:Nat))
 have x1:=h0.own o1 (s':={ s with nm:=num }) (heap_setCell_same _ _ _ _ _ _ h0.dev) rfl rfl rfl rfl rfl id
 have g1:=Gr.same (U:=U) o1 (by simp[h0.kd.2])
 have hO:=dC d m g n mx P U _ _ ⟨B,x1⟩
 have H1:Hid (_):=And.intro ((Gr.below (U:=U) hb0).trans g1) (And.intro g1 (And.intro far0 (And.intro hx0 (And.intro r0 ra0))))
 have HB:=mT fl hfl
 have hdn:¬ d=w.heap.size:=fun e=>far0.2 (by rw[← e];exact h0.kd.2)
 have hdn':¬ w.heap.size=d:=fun e=>hdn e.symm
 clear h hb0 hx0 hs0 hU h0 far0 r0 ra0 o1 x1 g1 hr ha hfl
 go_enter func148,ntmps148
 go_wp2_with (go_at_call 181;refine hO.mono ?_;rintro e w2 ⟨rfl,h2⟩)
 obtain⟨U2,g2,B2,x2⟩:=h2.out
 obtain⟨g01,g1,far0,hx0,r0,ra0⟩:=H1.out
 have G2:=g1.trans g2
 have far2:=G2.far far0
 have e2:=far2.2.trans hx0
 have q4:w2.cell? ⟨w.heap.size,4,none⟩=some (.int .i64 (fl:Nat)):=ab w2 _ 4 _ _ _ e2
 have y10:=x2.cells.2.2.2.2.2.2.2.2.2.2.1
 have r2:Row8 w2 a P.o cap bs:=r0.off G2.off (fun x hx=>(ra0 x hx).2)
 have ra2:∀ x,a=some x→x.block<w2.heap.size∧x.block ∉ U2:=fun x hx=>(G2.far (ra0 x hx)).1
 have x2d:=x2.newd (Off.drew [] w2)
 have hV:=jg _ _ _ _ _ (bits .and .i64 (fl:Int) 8 != 0) _ x2d.val
 have H2:Hid (_):=And.intro (g01.trans g2) (And.intro x2d (And.intro far2.1 (And.intro e2 (And.intro r2 (And.intro ra2 HB)))))
 clear hO h2 g2 x2 g01 g1 far0 hx0 r0 ra0 G2 far2 e2 r2 ra2 x2d H1 c13 f13 HB
 go_region_with (go_at_call 83;refine hV.mono ?_;rintro e w3 ⟨rfl,h3⟩)
 all_goals
  obtain⟨g2,x2d,far2,e2,r2,ra2,HB⟩:=H2.out
  obtain⟨U3,B3,g3',x3⟩:=x2d.vals h3.out.1 h3.out.2
  have g3:Gr U2 w2 U3 w3:=Gr.trans (Gr.same (Off.drew [] w2) (by simp)) g3'
  have far3:=g3.far far2
  have e3:=far3.2.trans e2
  have q5:w3.cell? ⟨w.heap.size,5,none⟩=some (.slice a P.o cap):=ab w3 _ 5 _ _ _ e3
  have z10:=x3.cells.2.2.2.2.2.2.2.2.2.2.1
  have r3:Row8 w3 a P.o cap bs:=r2.off g3.off (fun x hx=>(ra2 x hx).2)
  have x3d:=x3.newd (Off.drew [] w3)
  have hT:=jh _ _ _ _ _ a P.o cap bs _ x3d.val (r3.below (Below.drew (Below.refl _ _)))
  have H3:Hid (_):=And.intro (g2.trans g3) (And.intro x3d HB)
  clear hV H2 h3 g2 x2d far2 e2 r2 ra2 g3' x3 g3 far3 e3 r3 x3d q4 y10 HB
  go_wp2_with fail
  go_region_with (go_at_call 84;refine hT.mono ?_;rintro e w4 ⟨rfl,h4⟩)
  all_goals
   obtain⟨M4,o4,v4,hM4⟩:=h4.out
   rw[if_pos trivial]at v4
   obtain⟨g3,x3d,HB⟩:=H3.out
   have hlt4:∀ k,k ∈ M4→k<w4.heap.size:=fun k hk=>by
    rcases hM4 k hk with h | h
    ·exact Nat.lt_of_lt_of_le (x3d.ltU k (x3d.kM k h).2) o4.size
    ·exact h.2
   obtain⟨U4,B4,g4',x4⟩:=x3d.vald o4 v4 (fun k hk=>(hM4 k hk).imp id And.left) hlt4
   have g4:Gr U w U4 w4:=g3.trans (Gr.trans (Gr.same (Off.drew [] w3) (by simp)) g4')
   obtain⟨sn1,hs1⟩:∃ k,s.sn+1=k:=⟨_,rfl⟩
   have y14:w4.cell? ⟨d,14,none⟩=some (.int .u32 (s.sn:Nat)):=x4.cells.2.2.2.2.2.2.2.2.2.2.2.2.2.2.1
   have f14:=x4.fz 14
   have o5:=Off.setCell d 14 w4 (.int .u32 (sn1:Nat))
   have x5:=x4.own o5 (s':=bF s num fl bs) (by rw[show (iw P m mx B4.cp B4.lb B4.db B4.vb (bF s num fl bs) B4.av)=iw P m mx B4.cp B4.lb B4.db B4.vb { eE { s with nm:=num } with sn:=sn1 } B4.av from by subst hs1;rfl];exact heap_setCell_same _ _ _ _ _ _ x4.dev) rfl rfl (congrArg (fun b=>bP (cF (eE { s with nm:=num }).v b) bs) HB.symm) rfl rfl id
   have g5:=g4.trans (Gr.same o5 (by simp[x4.kd.2]))
   have hw:IntKind.u32.wrap ((s.sn:Int)+1)=(sn1:Int):=by rw[IntKind.wrap_u32];omega
   have hm:((s.sn:Int)+1) % 4294967296=(sn1:Int):=by omega
   have H5:Hid (_):=And.intro g5 (And.intro x5 hs1)
   clear hT H3 h4 o4 v4 hM4 hlt4 g3 x3d g4' x4 g4 o5 x5 g5 HB q5 z10 hs1
   go_wp2_with fail
   obtain⟨g5,x5,hs1⟩:=H5.out
   obtain⟨a5,cap5,hav,r5⟩:=aO x5.app x5.apb
   have z14:=x5.cells.2.2.2.2.2.2.2.2.2.2.2.2.2.2.1
   have z16:=x5.cells.2.2.2.2.2.2.2.2.2.2.2.2.2.2.2.2.1
   rw[hav]at z16
   rw[show (bF s num fl bs).sn=sn1 from hs1]at z14
   have xd:=x5.newd (Off.drew [] _)
   have hF:=n7 d m g n mx P U4 (bF s num fl bs) _ ⟨B4,xd⟩
   generalize hw5:w4.setCell ⟨d,14,none⟩ (.int .u32 (sn1:Int))=w5 at *
   have H6:Hid (_):=And.intro g5 (And.intro xd (And.intro (r5.below (Below.drew (Below.refl _ _))) (And.intro hs1 hav)))
   clear g5 x5 hs1 r5 xd H5 y14 f14 hw hm hsn hw5 hav
   have HS:w5.drew.cell? ⟨d,14,none⟩=some (.int .u32 (sn1:Nat))∧w5.drew.cell? ⟨d,16,none⟩=some (.slice a5 P.i cap5):=⟨z14,z16⟩
   clear z14 z16
   go_region_held3 (fun w'=>w'.cell? ⟨d,14,none⟩=some (.int .u32 (sn1:Nat))∧w'.cell? ⟨d,16,none⟩=some (.slice a5 P.i cap5)) (assumption) (first
    | (go_at_call 183;refine hF.mono ?_;rintro e w6 ⟨rfl,b6⟩;have x6:=H6.out.2.1.newd (Off.of_below b6);have hY:=dF d m g n mx P U4 _ 20 sn1 (bG (bF s num fl bs)) a5 P.i cap5 s.ap w6 ⟨B4,x6⟩ (H6.out.2.2.1.below b6);have H7:Hid (_):=And.intro b6 x6;have HT:w6.cell? ⟨d,14,none⟩=some (.int .u32 (sn1:Nat))∧w6.cell? ⟨d,16,none⟩=some (.slice a5 P.i cap5):=⟨(b6.cell H6.out.2.1.dlt).trans HS.1,(b6.cell H6.out.2.1.dlt).trans HS.2⟩;clear hF b6 x6)
    | (go_at_call 182;refine hY.mono ?_;rintro e w7 ⟨v,rfl,h7⟩;have HV:w7.cell? ⟨d,14,none⟩=some (.int .u32 (sn1:Nat))∧w7.cell? ⟨d,16,none⟩=some (.slice a5 P.i cap5):=⟨(h7.out.2.cell H7.out.2.dlt).trans HT.1,(h7.out.2.cell H7.out.2.dlt).trans HT.2⟩;clear hY))
   all_goals
    go_wp2_with fail
    go_ret
    obtain⟨g5,x5,_,hs1,_⟩:=H6.out
    have:=Out.mk (g5.trans (Gr.trans (Gr.same (Off.drew [] w5) (by simp)) (Gr.below H7.out.1))) ⟨B4,H7.out.2⟩ h7.out.1 h7.out.2
    rw[← hs1]at this
    exact⟨v,rfl,this⟩
end Go.Proofs.YtdpahjfekoikiaaGreat
