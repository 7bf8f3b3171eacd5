/- Part 47 of the texts on which the proof rests: contracts of Go functions. -/
import Derived.Test.YtiopiheomoehbaaGreatPkF38
import Derived.Test.YtiopiheomoehbaaGreatPkF43
import Derived.Test.YtiopiheomoehbaaGreatPkF45
namespace Go.Proofs.YtiopiheomoehbaaGreat
set_option maxRecDepth 100000
open Go.RowKit Go.Maps
set_option linter.unusedVariables false
def s0 (P Q:Pm) (mx:Nat):Ws:=⟨1,fun _=>P,fun _=>Q,fun _=>hnew,fun _=>dnew M0,mx,[],0,[]⟩
def evT (L:Pw):Nat→Thing:=fun q=>if q % 2=0 then L.t (q / 2) else noT
def ev (j:Nat):Nat:=2*j
theorem evT_fre (L:Pw):Fre ev (evT L) 0:=fun q _=>⟨fun j=>by unfold ev;omega,by unfold evT;rw[if_neg (by omega)]⟩
theorem evT_wat (L:Pw):Wat ev (evT L) L:=⟨fun i j h=>by unfold ev at h;omega,fun j=>by unfold evT ev;rw[if_pos (by omega),show 2*j / 2=j by omega]⟩
def pw0 (P Q:Pm) (mx:Nat) (X b m:Nat) (a0:Option Addr) (c0:Nat) (a1:Option Addr) (c1:Nat) (h d dm g:Nat) (av:Option Addr) (cv:Nat) (hU dU:List Nat):Pw:=⟨X,.slice a0 1 c0,.slice a1 1 c1,.slice av 1 cv,.slice none 0 0,[],[],b,m,.slice none 0 0,[],none,fun _=>h,fun _=>hU,fun _=>d,fun _=>dm,fun _=>g,fun _=>dU,s0 P Q mx⟩
theorem NwF.mem {P Q:Pm} {mx X b m:Nat} {a0:Option Addr} {c0:Nat} {a1:Option Addr} {c1 h d dm g:Nat} {av:Option Addr} {cv:Nat} {hU dU:List Nat} (q k:Nat) (hk:k ∈ (evT (pw0 P Q mx X b m a0 c0 a1 c1 h d dm g av cv hU dU) q).U) :
  (q=0∧(k=X∨(Value.slice a0 1 c0).ownBlock=some k∨(Value.slice a1 1 c1).ownBlock=some k∨(Value.slice av 1 cv).ownBlock=some k))∨(q=2∧(k=b∨k=m))∨(q=4∧k ∈ hU)∨(q=6∧k ∈ dU):=by
 unfold evT at hk
 by_cases h2:q % 2=0
 ·rw[if_pos h2]at hk
  unfold Pw.t at hk
  by_cases z0:q / 2=0
  ·rw[if_pos z0]at hk
   have hk:k ∈ (pw0 P Q mx X b m a0 c0 a1 c1 h d dm g av cv hU dU).core.U:=hk
   simp only[Wc.U,Pw.core,pw0,List.mem_cons,List.mem_append,Option.mem_toList,List.not_mem_nil,or_false]at hk
   refine .inl ⟨by omega,?_⟩
   rcases hk with hk | hk | hk | hk | hk
   ·exact .inl hk
   ·exact .inr (.inl hk)
   ·exact .inr (.inr (.inl hk))
   ·exact .inr (.inr (.inr hk))
   ·cases hk
  rw[if_neg z0]at hk
  by_cases z1:q / 2=1
  ·rw[if_pos z1]at hk
   have hk:k ∈ bgU b m (.slice none 0 0) [] none:=hk
   simp[bgU,Value.ownBlock]at hk
   exact .inr (.inl ⟨by omega,hk⟩)
  rw[if_neg z1]at hk
  by_cases z2:q / 2-2<2 * (pw0 P Q mx X b m a0 c0 a1 c1 h d dm g av cv hU dU).S.n
  ·rw[if_pos z2]at hk
   have z2:q / 2-2<2*1:=z2
   by_cases z3:(q / 2-2) % 2=0
   ·rw[if_pos z3]at hk
    exact .inr (.inr (.inl ⟨by omega,hk⟩))
   ·rw[if_neg z3]at hk
    exact .inr (.inr (.inr ⟨by omega,hk⟩))
  ·rw[if_neg z2]at hk
   simp[noT]at hk
 ·rw[if_neg h2]at hk
  simp[noT]at hk
theorem NwF.pw {P Q:Pm} {mx:Nat} {w w':World} {X b m:Nat} {a0:Option Addr} {c0:Nat} {a1:Option Addr} {c1 h d dm g:Nat} {av:Option Addr} {cv:Nat} {hU dU:List Nat} (F:NwF P Q mx w w' X b m a0 c0 a1 c1 h d dm g av cv hU dU):PW ev w w' (evT (pw0 P Q mx X b m a0 c0 a1 c1 h d dm g av cv hU dU)) (pw0 P Q mx X b m a0 c0 a1 c1 h d dm g av cv hU dU):=by
 have wb:WB (pw0 P Q mx X b m a0 c0 a1 c1 h d dm g av cv hU dU).core w':=by
  refine⟨F.blk,?_,?_,?_,⟨rfl,.inl ⟨rfl,rfl⟩⟩,rfl,fun i f d hf=>by simp[pw0,Pw.core,s0]at hf,fun k hk=>by simp[pw0,Pw.core]at hk⟩
  ·have:=own_lowY F.r0 (Nat.zero_le _)
   show w'.ownsRow 0 68 5 (.slice a0 1 c0) 1 (flM 1 (fun _=>P))
   rw[show flM 1 (fun _=>P)=P.cs by simp[flM]]
   exact this
  ·have:=own_lowY F.r1 (Nat.zero_le _)
   show w'.ownsRow 0 68 5 (.slice a1 1 c1) 1 (flM 1 (fun _=>Q))
   rw[show flM 1 (fun _=>Q)=Q.cs by simp[flM]]
   exact this
  ·have:=own_lowY F.rc (Nat.zero_le _)
   show w'.ownsRow 0 65 3 (.slice av 1 cv) 1 (cnL 1 (fun _=>h) (fun _=>d) (fun _=>dm))
   rw[show cnL 1 (fun _=>h) (fun _=>d) (fun _=>dm)=[.pointer (some ⟨h,0,none⟩),.pointer (some ⟨d,0,none⟩),.pointer (some ⟨dm,0,none⟩)] by simp[cnL]]
   exact this
 refine⟨⟨F.bel,fun q=>?_,fun q k hk=>?_,fun p q hpq k hp hq=>?_⟩,evT_wat _⟩
 ·unfold evT
  by_cases h2:q % 2=0
  ·rw[if_pos h2]
   unfold Pw.t
   by_cases z0:q / 2=0
   ·rw[if_pos z0]
    exact wb
   rw[if_neg z0]
   by_cases z1:q / 2=1
   ·rw[if_pos z1]
    exact⟨F.bg,rfl⟩
   rw[if_neg z1]
   by_cases z2:q / 2-2<2 * (pw0 P Q mx X b m a0 c0 a1 c1 h d dm g av cv hU dU).S.n
   ·rw[if_pos z2]
    by_cases z3:(q / 2-2) % 2=0
    ·rw[if_pos z3]
     exact F.hv
    ·rw[if_neg z3]
     exact F.dv
   ·rw[if_neg z2]
    trivial
  ·rw[if_neg h2]
   trivial
 ·have lm:=F.lm
  have mb:=F.mb
  have bX:=F.bX
  have lX:=(Array.getElem?_eq_some_iff.1 F.blk).1
  rcases NwF.mem q k hk with ⟨_,hk | hk | hk | hk⟩ | ⟨_,hk | hk⟩ | ⟨_,hk⟩ | ⟨_,hk⟩
  ·omega
  ·exact F.r0.lt k hk
  ·exact F.r1.lt k hk
  ·exact F.rc.lt k hk
  ·omega
  ·omega
  ·have:=(F.lh k hk).1
   have:=HV.ult F.hv k hk
   omega
  ·have:=F.ld k hk
   have:=DV.ult F.dv k hk
   omega
 ·have mb:=F.mb
  have bX:=F.bX
  rcases NwF.mem p k hp with ⟨e1,hp | hp | hp | hp⟩ | ⟨e1,hp | hp⟩ | ⟨e1,hp⟩ | ⟨e1,hp⟩
  all_goals rcases NwF.mem q k hq with ⟨e2,hq | hq | hq | hq⟩ | ⟨e2,hq | hq⟩ | ⟨e2,hq⟩ | ⟨e2,hq⟩
  all_goals first
   | exact hpq (by omega)
   | omega
   | (have:=F.l0 k hp;omega)
   | (have:=F.l1 k hp;omega)
   | (have:=F.l0 k hq;omega)
   | (have:=F.l1 k hq;omega)
   | (have:=(F.lc k hp).1;omega)
   | (have:=(F.lc k hq).1;omega)
   | (have:=(F.lh k hp).1;omega)
   | (have:=(F.lh k hq).1;omega)
   | (have:=F.ld k hp;omega)
   | (have:=F.ld k hq;omega)
   | exact (F.lc k hp).2.1 hq
   | exact (F.lc k hq).2.1 hp
   | exact (F.lc k hp).2.2 hq
   | exact (F.lc k hq).2.2 hp
   | exact (F.lh k hp).2 hq
   | exact (F.lh k hq).2 hp
   | (have:=F.l0 k hp;have:=(F.lh k hq).1;omega)
   | (have:=F.l1 k hp;have:=(F.lh k hq).1;omega)
   | (have:=F.l0 k hq;have:=(F.lh k hp).1;omega)
   | (have:=F.l1 k hq;have:=(F.lh k hp).1;omega)
   | (have:=F.l0 k hp;have:=F.ld k hq;omega)
   | (have:=F.l1 k hp;have:=F.ld k hq;omega)
   | (have:=F.l0 k hq;have:=F.ld k hp;omega)
   | (have:=F.l1 k hq;have:=F.ld k hp;omega)
theorem pnewL (P Q:Pm) (hP:Pok P) (hQ:Pok Q) (q0 q1 mx:Nat) (hmx:mx<4294967296) (h0:mx≠0) (w:World) (k0:w.heap[q0]?=some (.cells #[.int .u32 (P.c:Nat),.int .i64 (P.o:Nat),.int .i64 (P.i:Nat),.int .i64 (P.t:Nat),.int .u32 (P.n:Nat)] 68 (0,0))) (k1:w.heap[q1]?=some (.cells #[.int .u32 (Q.c:Nat),.int .i64 (Q.o:Nat),.int .i64 (Q.i:Nat),.int .i64 (Q.t:Nat),.int .u32 (Q.n:Nat)] 68 (0,0))):Calls Tryz.prog 6 #[.agg #[.slice (some ⟨q0,0,none⟩) 1 1,.slice (some ⟨q1,0,none⟩) 1 1,.int .u32 (mx:Nat)]] w fun r w'=>∃ L:Pw,r=.returned (.tuple #[.pointer (some ⟨L.x,0,none⟩),.int .i64 0])∧Hid (PW ev w w' (evT L) L∧L.S=s0 P Q mx):=by
 refine (wnewL P Q hP hQ q0 q1 mx hmx h0 w k0 k1).mono ?_
 rintro r w' ⟨X,b,m,a0,c0,a1,c1,h,d,dm,g,av,cv,hU,dU,rfl,H⟩
 exact⟨pw0 P Q mx X b m a0 c0 a1 c1 h d dm g av cv hU dU,rfl,H.out.pw,rfl⟩
theorem psmall (w:World):Calls Tryz.prog 20 #[] w fun r w'=>r=.returned (.agg #[.int .u32 7,.int .i64 2,.int .i64 1,.int .i64 10,.int .u32 9])∧Below w.heap.size w w':=by
 go_enter Tryz.func20,Tryz.ntmps20
 go_wp2_with fail
 refine bodyPost_ret (v:=.agg #[.int .u32 7,.int .i64 2,.int .i64 1,.int .i64 10,.int .u32 9]) (by simp[results,Tryz.results20,go_sem]) rfl ⟨rfl,?_⟩
 exact belY (Below.refl _ _) _
set_option maxHeartbeats 2000000 in
theorem plone (w:World):Calls Tryz.prog 7 #[] w fun r w'=>∃ q0 q1,r=.returned (.agg #[.slice (some ⟨q0,0,none⟩) 1 1,.slice (some ⟨q1,0,none⟩) 1 1,.int .u32 50])∧Hid (w'.heap[q0]?=some (.cells #[.int .u32 7,.int .i64 2,.int .i64 1,.int .i64 10,.int .u32 9] 68 (0,0))∧w'.heap[q1]?=some (.cells #[.int .u32 7,.int .i64 2,.int .i64 1,.int .i64 10,.int .u32 9] 68 (0,0))∧Below w.heap.size w w'):=by
 have hS:=fun wx=>psmall wx
 have b1:Below w.heap.size w (w.alloc (.cells #[.slice none 0 0,.slice none 0 0,.int .u32 0] 35)):=belY (Below.refl _ _) _
 have hk:=heap_alloc_new w (.cells #[.slice none 0 0,.slice none 0 0,.int .u32 0] 35)
 have z1:=sz1 w (.cells #[.slice none 0 0,.slice none 0 0,.int .u32 0] 35)
 go_enter Tryz.func7,Tryz.ntmps7
 go_wp2_with fail
 refine (hS _).mono ?_
 rintro r w3 ⟨rfl,b3⟩
 have k3:=(b3.block w.heap.size (by rw[z1];omega)).trans hk
 have b5:Below w3.heap.size w3 (((w3.alloc (.cells #[.int .u32 7,.int .i64 2,.int .i64 1,.int .i64 10,.int .u32 9] 68)).alloc (.cells #[.int .u32 7,.int .i64 2,.int .i64 1,.int .i64 10,.int .u32 9] 68)).alloc (.cells #[.int .u32 7,.int .i64 2,.int .i64 1,.int .i64 10,.int .u32 9] 68)):=belY (belY (belY (Below.refl _ _) _) _) _
 have l3:w.heap.size<w3.heap.size:=by have:=b3.size;rw[z1]at this;omega
 have k5:=(b5.block w.heap.size l3).trans k3
 have y0:=cell_of_row (((w3.alloc (.cells #[.int .u32 7,.int .i64 2,.int .i64 1,.int .i64 10,.int .u32 9] 68)).alloc (.cells #[.int .u32 7,.int .i64 2,.int .i64 1,.int .i64 10,.int .u32 9] 68)).alloc (.cells #[.int .u32 7,.int .i64 2,.int .i64 1,.int .i64 10,.int .u32 9] 68)) _ 0 _ _ _ k5
 have y1:=cell_of_row (((w3.alloc (.cells #[.int .u32 7,.int .i64 2,.int .i64 1,.int .i64 10,.int .u32 9] 68)).alloc (.cells #[.int .u32 7,.int .i64 2,.int .i64 1,.int .i64 10,.int .u32 9] 68)).alloc (.cells #[.int .u32 7,.int .i64 2,.int .i64 1,.int .i64 10,.int .u32 9] 68)) _ 1 _ _ _ k5
 have y2:=cell_of_row (((w3.alloc (.cells #[.int .u32 7,.int .i64 2,.int .i64 1,.int .i64 10,.int .u32 9] 68)).alloc (.cells #[.int .u32 7,.int .i64 2,.int .i64 1,.int .i64 10,.int .u32 9] 68)).alloc (.cells #[.int .u32 7,.int .i64 2,.int .i64 1,.int .i64 10,.int .u32 9] 68)) _ 2 _ _ _ k5
 have yz:=fun k=>frozen_of_row (((w3.alloc (.cells #[.int .u32 7,.int .i64 2,.int .i64 1,.int .i64 10,.int .u32 9] 68)).alloc (.cells #[.int .u32 7,.int .i64 2,.int .i64 1,.int .i64 10,.int .u32 9] 68)).alloc (.cells #[.int .u32 7,.int .i64 2,.int .i64 1,.int .i64 10,.int .u32 9] 68)) _ k _ _ k5
 have u1:=sz1 w3 (.cells #[.int .u32 7,.int .i64 2,.int .i64 1,.int .i64 10,.int .u32 9] 68)
 have u2:=sz2 w3 (.cells #[.int .u32 7,.int .i64 2,.int .i64 1,.int .i64 10,.int .u32 9] 68) (.cells #[.int .u32 7,.int .i64 2,.int .i64 1,.int .i64 10,.int .u32 9] 68)
 have n1:(((w3.alloc (.cells #[.int .u32 7,.int .i64 2,.int .i64 1,.int .i64 10,.int .u32 9] 68)).alloc (.cells #[.int .u32 7,.int .i64 2,.int .i64 1,.int .i64 10,.int .u32 9] 68)).alloc (.cells #[.int .u32 7,.int .i64 2,.int .i64 1,.int .i64 10,.int .u32 9] 68)).heap[w3.heap.size+1]?=some (.cells #[.int .u32 7,.int .i64 2,.int .i64 1,.int .i64 10,.int .u32 9] 68 (0,0)):=(Below.heap_alloc _ _ _ (by rw[u2];omega)).trans (by rw[← u1];exact heap_alloc_new _ _)
 have n2:(((w3.alloc (.cells #[.int .u32 7,.int .i64 2,.int .i64 1,.int .i64 10,.int .u32 9] 68)).alloc (.cells #[.int .u32 7,.int .i64 2,.int .i64 1,.int .i64 10,.int .u32 9] 68)).alloc (.cells #[.int .u32 7,.int .i64 2,.int .i64 1,.int .i64 10,.int .u32 9] 68)).heap[w3.heap.size+1+1]?=some (.cells #[.int .u32 7,.int .i64 2,.int .i64 1,.int .i64 10,.int .u32 9] 68 (0,0)):=by rw[show w3.heap.size+1+1=w3.heap.size+2 by omega,← u2];exact heap_alloc_new _ _
 have HN:Hid (_):=And.intro n1 (And.intro n2 (And.intro b3 (And.intro b5 l3)))
 have HB1:Hid (_):=b1
 have HZ1:Hid (_):=z1
 clear n1 n2 b3 b5 k3 k5 hk b1 z1 u1 u2
 go_wp2_with fail
 refine bodyPost_ret (v:=.agg #[.slice (some ⟨w3.heap.size+1,0,none⟩) 1 1,.slice (some ⟨w3.heap.size+1+1,0,none⟩) 1 1,.int .u32 50]) (by simp[results,Tryz.results7,go_sem,y0,y1,y2]) rfl ?_
 obtain⟨n1,n2,b3,b5,l3⟩:=HN.out
 have o:Off [w.heap.size] (((w3.alloc (.cells #[.int .u32 7,.int .i64 2,.int .i64 1,.int .i64 10,.int .u32 9] 68)).alloc (.cells #[.int .u32 7,.int .i64 2,.int .i64 1,.int .i64 10,.int .u32 9] 68)).alloc (.cells #[.int .u32 7,.int .i64 2,.int .i64 1,.int .i64 10,.int .u32 9] 68)) ((((((w3.alloc (.cells #[.int .u32 7,.int .i64 2,.int .i64 1,.int .i64 10,.int .u32 9] 68)).alloc (.cells #[.int .u32 7,.int .i64 2,.int .i64 1,.int .i64 10,.int .u32 9] 68)).alloc (.cells #[.int .u32 7,.int .i64 2,.int .i64 1,.int .i64 10,.int .u32 9] 68)).setCell ⟨w.heap.size,0,none⟩ (.slice (some ⟨w3.heap.size+1,0,none⟩) 1 1)).setCell ⟨w.heap.size,1,none⟩ (.slice (some ⟨w3.heap.size+1+1,0,none⟩) 1 1)).setCell ⟨w.heap.size,2,none⟩ (.int .u32 50)):=((Off.setCell _ 0 _ _).trans (Off.setCell _ 1 _ _)).trans (Off.setCell _ 2 _ _)
 have s5:=sz3 w3 (.cells #[.int .u32 7,.int .i64 2,.int .i64 1,.int .i64 10,.int .u32 9] 68) (.cells #[.int .u32 7,.int .i64 2,.int .i64 1,.int .i64 10,.int .u32 9] 68) (.cells #[.int .u32 7,.int .i64 2,.int .i64 1,.int .i64 10,.int .u32 9] 68)
 have m1:=(o.block (w3.heap.size+1) (by omega) (by simp;omega)).trans n1
 have m2:=(o.block (w3.heap.size+1+1) (by omega) (by simp;omega)).trans n2
 have bw:Below w.heap.size w (((w3.alloc (.cells #[.int .u32 7,.int .i64 2,.int .i64 1,.int .i64 10,.int .u32 9] 68)).alloc (.cells #[.int .u32 7,.int .i64 2,.int .i64 1,.int .i64 10,.int .u32 9] 68)).alloc (.cells #[.int .u32 7,.int .i64 2,.int .i64 1,.int .i64 10,.int .u32 9] 68)):=(HB1.out.trans (b3.mono (by rw[HZ1.out];omega))).trans (b5.mono (by omega))
 exact⟨_,_,rfl,m1,m2,o.below bw (fun k hk=>by simp at hk;omega) bw.size⟩
open Go.RowKit
theorem build0D (w:World):(Instr.buildSlice 25 0 #[]).run Tryz.prog w=.ok (.slice (some ⟨w.heap.size,0,none⟩) 0 0) (w.alloc (.cells #[] 5)):=by kernel_rfl
set_option maxHeartbeats 6400000 in
theorem same13_any (st ss nm sn dc lat:Int) (rq on:Bool) (a a':Option Addr) (n n' cap cap':Nat) (bs bs':Nat→Nat) (w:World) (R:Row8 w a n cap bs) (R':Row8 w a' n' cap' bs') (hX:BA bs n=BA bs' n') :
  Calls Tryz.prog 29 #[.agg #[.int .i64 st,.int .u32 ss,.int .u32 nm,.int .u32 sn,.int .i64 dc,.int .i64 lat,.bool rq,.bool on,.slice a n cap],.agg #[.int .i64 st,.int .u32 ss,.int .u32 nm,.int .u32 sn,.int .i64 dc,.int .i64 lat,.bool rq,.bool on,.slice a' n' cap']] w fun e w'=>e=.returned (.bool true)∧Below w.heap.size w w':=by
 have b0:Below w.heap.size w ((w.alloc (.cells #[.int .i64 st,.int .u32 ss,.int .u32 nm,.int .u32 sn,.int .i64 dc,.int .i64 lat,.bool rq,.bool on,.slice a n cap] 39)).alloc (.cells #[.int .i64 st,.int .u32 ss,.int .u32 nm,.int .u32 sn,.int .i64 dc,.int .i64 lat,.bool rq,.bool on,.slice a' n' cap'] 39)):=((Below.refl _ _).alloc (Nat.le_refl _) _).alloc (by simp) _
 obtain⟨X,hX1⟩:∃ X,BA bs n=X:=⟨_,rfl⟩
 have hX2:BA bs' n'=X:=hX ▸ hX1
 have q1:=conv_any a n cap bs _ (R.below b0)
 have q2:=conv_any a' n' cap' bs' _ (R'.below b0)
 rw[hX1]at q1
 rw[hX2]at q2
 have HB:Hid (_):=b0
 clear R R' hX hX1 hX2 b0
 go_enter Tryz.func29,Tryz.ntmps29
 go_wp2_with fail
 go_ret
 exact⟨by simp,HB.out⟩
theorem wpList_load_midG {P:Program} {ops:Array Oper} {rest:List Oper} {op:Oper} {a:Act} {w:World} {Q:Exit→Act→World→Prop} (hw:Region.wanted op (yielded ops a.tmps)=true) (ty:TypeId) (x:Operand) (ho:op.op=.load ty x)
  (b o:Nat) (hx:a.eval x=.pointer (some ⟨b,o,none⟩)) (cs:List Value) (d:TypeDesc) (hc:w.rangeAt b o cs)
  (hu:P.underlying ty=some d) (hd:d.isRow=true) (hi:(P.info? ty).map (·.size)=some cs.length)
  (h:wpList P ops Q rest (a.put op.dst (.agg cs.toArray)) w):wpList P ops Q (op :: rest) a w:=by
 unfold wpList
 rw[if_pos hw]
 exact .inl (wp_load_mid ty x ho b o hx cs d hc hu hd hi h)
theorem wpList_valY {P:Program} {ops:Array Oper} {rest:List Oper} {op:Oper} {a:Act} {w:World} {Q:Exit→Act→World→Prop} (hgd:op.guard=none) (v:Value) (hrun:(execOp a.eval op).run P w=.ok (.value v) w) (h:wpList P ops Q rest (a.put op.dst v) w):wpList P ops Q (op :: rest) a w:=
 wpList_plain hgd fun _ hK=>by
  unfold Oper.wp
  rw[hrun]
  exact hK _ _ h
theorem storeY_run {P:Program} {w:World} {b o:Nat} {A:Array Value} (ht:w.there b o A.size) (h1:A.all (·.oneCell')=true):(storeCells ⟨b,o,none⟩ A.toList).run P w=.ok () (w.setCells b o A.toList):=by
 have:=run_storeCells_cells (P:=P) b o A.toList 0 w (fun j hj=>by simpa using (ht j (by simpa using hj)).1) (fun j hj=>by simpa using (ht j (by simpa using hj)).2)
  (fun v hv=>(Array.all_eq_true_iff_forall_mem.1 h1) v (by simpa using hv))
 simp only[Nat.add_zero]at this
 exact this
set_option maxHeartbeats 2000000 in
theorem rsameMZ (w:World):Calls Tryz.prog 28 #[.agg #[.int .i64 0,.int .i64 0,.int .i64 0,.int .i64 0,.int .i64 0,.int .u32 0,.int .i64 0,.bool false,.slice none 0 0],.agg #[.int .i64 0,.int .i64 0,.int .i64 0,.int .i64 0,.int .i64 0,.int .u32 0,.int .i64 0,.bool false,.slice none 0 0]] w fun r w'=>r=.returned (.bool true)∧Below w.heap.size w w':=by
 have s1:=sz1 w (.cells #[.int .i64 0,.int .i64 0,.int .i64 0,.int .i64 0,.int .i64 0,.int .u32 0,.int .i64 0,.bool false,.slice none 0 0] 27)
 have bW:Below w.heap.size w ((w.alloc (.cells #[.int .i64 0,.int .i64 0,.int .i64 0,.int .i64 0,.int .i64 0,.int .u32 0,.int .i64 0,.bool false,.slice none 0 0] 27)).alloc (.cells #[.int .i64 0,.int .i64 0,.int .i64 0,.int .i64 0,.int .i64 0,.int .u32 0,.int .i64 0,.bool false,.slice none 0 0] 27)):=belY (belY (Below.refl _ w) _) _
 have kp:((w.alloc (.cells #[.int .i64 0,.int .i64 0,.int .i64 0,.int .i64 0,.int .i64 0,.int .u32 0,.int .i64 0,.bool false,.slice none 0 0] 27)).alloc (.cells #[.int .i64 0,.int .i64 0,.int .i64 0,.int .i64 0,.int .i64 0,.int .u32 0,.int .i64 0,.bool false,.slice none 0 0] 27)).heap[w.heap.size]?=some (.cells #[.int .i64 0,.int .i64 0,.int .i64 0,.int .i64 0,.int .i64 0,.int .u32 0,.int .i64 0,.bool false,.slice none 0 0] 27 (0,0)):=(Below.heap_alloc _ _ _ (by omega)).trans (heap_alloc_new w _)
 have kq:=heap_alloc_new (w.alloc (.cells #[.int .i64 0,.int .i64 0,.int .i64 0,.int .i64 0,.int .i64 0,.int .u32 0,.int .i64 0,.bool false,.slice none 0 0] 27)) (.cells #[.int .i64 0,.int .i64 0,.int .i64 0,.int .i64 0,.int .i64 0,.int .u32 0,.int .i64 0,.bool false,.slice none 0 0] 27)
 rw[s1]at kq
 obtain⟨W,hW⟩:∃ z,(w.alloc (.cells #[.int .i64 0,.int .i64 0,.int .i64 0,.int .i64 0,.int .i64 0,.int .u32 0,.int .i64 0,.bool false,.slice none 0 0] 27)).alloc (.cells #[.int .i64 0,.int .i64 0,.int .i64 0,.int .i64 0,.int .i64 0,.int .u32 0,.int .i64 0,.bool false,.slice none 0 0] 27)=z:=⟨_,rfl⟩
 rw[hW]at bW kp kq
 obtain⟨x,hx⟩:∃ z,w.heap.size=z:=⟨_,rfl⟩
 have HB:Hid (Below w.heap.size w W):=bW
 rw[hx]at kp kq
 have p0:W.cell? ⟨x,0,none⟩=some (.int .i64 0):=cell_of_row W (x) 0 _ _ _ kp
 have p1:W.cell? ⟨x,1,none⟩=some (.int .i64 0):=cell_of_row W (x) 1 _ _ _ kp
 have p2:W.cell? ⟨x,2,none⟩=some (.int .i64 0):=cell_of_row W (x) 2 _ _ _ kp
 have p3:W.cell? ⟨x,3,none⟩=some (.int .i64 0):=cell_of_row W (x) 3 _ _ _ kp
 have p4:W.cell? ⟨x,4,none⟩=some (.int .i64 0):=cell_of_row W (x) 4 _ _ _ kp
 have p5:W.cell? ⟨x,5,none⟩=some (.int .u32 0):=cell_of_row W (x) 5 _ _ _ kp
 have p6:W.cell? ⟨x,6,none⟩=some (.int .i64 0):=cell_of_row W (x) 6 _ _ _ kp
 have p7:W.cell? ⟨x,7,none⟩=some (.bool false):=cell_of_row W (x) 7 _ _ _ kp
 have p8:W.cell? ⟨x,8,none⟩=some (.slice none 0 0):=cell_of_row W (x) 8 _ _ _ kp
 have q0:W.cell? ⟨x+1,0,none⟩=some (.int .i64 0):=cell_of_row W (x+1) 0 _ _ _ kq
 have q1:W.cell? ⟨x+1,1,none⟩=some (.int .i64 0):=cell_of_row W (x+1) 1 _ _ _ kq
 have q2:W.cell? ⟨x+1,2,none⟩=some (.int .i64 0):=cell_of_row W (x+1) 2 _ _ _ kq
 have q3:W.cell? ⟨x+1,3,none⟩=some (.int .i64 0):=cell_of_row W (x+1) 3 _ _ _ kq
 have q4:W.cell? ⟨x+1,4,none⟩=some (.int .i64 0):=cell_of_row W (x+1) 4 _ _ _ kq
 have q5:W.cell? ⟨x+1,5,none⟩=some (.int .u32 0):=cell_of_row W (x+1) 5 _ _ _ kq
 have q6:W.cell? ⟨x+1,6,none⟩=some (.int .i64 0):=cell_of_row W (x+1) 6 _ _ _ kq
 have q7:W.cell? ⟨x+1,7,none⟩=some (.bool false):=cell_of_row W (x+1) 7 _ _ _ kq
 have q8:W.cell? ⟨x+1,8,none⟩=some (.slice none 0 0):=cell_of_row W (x+1) 8 _ _ _ kq
 have HE:Hid (_=W):=hW
 have HS:Hid (w.heap.size=x):=hx
 have c1:=conv_any none 0 0 (fun _=>0) W ⟨fun i hi=>absurd hi (Nat.not_lt_zero i),fun _=>⟨rfl,rfl⟩,fun x hx=>(by cases hx),Nat.le_refl _⟩
 clear s1 bW kp kq hW hx
 go_enter Tryz.func28,Tryz.ntmps28
 go_upto_region 1 with fail
 rw[HE.out,HS.out]
 go_wp2_with fail
 go_ret
 exact⟨rfl,HB.out⟩
theorem rsameEZ (w:World):Calls Tryz.prog 29 #[.agg #[.int .i64 0,.int .u32 0,.int .u32 0,.int .u32 0,.int .i64 0,.int .i64 0,.bool false,.bool false,.slice none 0 0],.agg #[.int .i64 0,.int .u32 0,.int .u32 0,.int .u32 0,.int .i64 0,.int .i64 0,.bool false,.bool false,.slice none 0 0]] w fun r w'=>r=.returned (.bool true)∧Below w.heap.size w w':=by
 have R:Row8 w none 0 0 (fun _=>0):=⟨fun i hi=>absurd hi (Nat.not_lt_zero i),fun _=>⟨rfl,rfl⟩,fun x hx=>(by cases hx),Nat.le_refl _⟩
 exact same13_any 0 0 0 0 0 0 false false none none 0 0 0 0 _ _ w R R rfl
set_option maxHeartbeats 4000000 in
theorem rsameRZ (w:World):Calls Tryz.prog 11 #[.agg #[.int .i64 0,.int .i64 0,.int .i64 0,.int .i64 0,.int .i64 0,.int .u32 0,.int .i64 0,.bool false,.slice none 0 0,.int .i64 0,.int .i64 0,.int .i64 0,.int .u32 0,.int .u32 0,.int .u32 0,.int .i64 0,.int .i64 0,.bool false,.bool false,.slice none 0 0,.int .i64 0,.int .u32 0,.int .u32 0,.int .u32 0,.int .i64 0,.int .i64 0,.bool false,.bool false,.slice none 0 0],.agg #[.int .i64 0,.int .i64 0,.int .i64 0,.int .i64 0,.int .i64 0,.int .u32 0,.int .i64 0,.bool false,.slice none 0 0,.int .i64 0,.int .i64 0,.int .i64 0,.int .u32 0,.int .u32 0,.int .u32 0,.int .i64 0,.int .i64 0,.bool false,.bool false,.slice none 0 0,.int .i64 0,.int .u32 0,.int .u32 0,.int .u32 0,.int .i64 0,.int .i64 0,.bool false,.bool false,.slice none 0 0]] w fun r w'=>r=.returned (.bool true)∧Below w.heap.size w w':=by
 have s1:=sz1 w (.cells #[.int .i64 0,.int .i64 0,.int .i64 0,.int .i64 0,.int .i64 0,.int .u32 0,.int .i64 0,.bool false,.slice none 0 0,.int .i64 0,.int .i64 0,.int .i64 0,.int .u32 0,.int .u32 0,.int .u32 0,.int .i64 0,.int .i64 0,.bool false,.bool false,.slice none 0 0,.int .i64 0,.int .u32 0,.int .u32 0,.int .u32 0,.int .i64 0,.int .i64 0,.bool false,.bool false,.slice none 0 0] 41)
 have bW:Below w.heap.size w ((w.alloc (.cells #[.int .i64 0,.int .i64 0,.int .i64 0,.int .i64 0,.int .i64 0,.int .u32 0,.int .i64 0,.bool false,.slice none 0 0,.int .i64 0,.int .i64 0,.int .i64 0,.int .u32 0,.int .u32 0,.int .u32 0,.int .i64 0,.int .i64 0,.bool false,.bool false,.slice none 0 0,.int .i64 0,.int .u32 0,.int .u32 0,.int .u32 0,.int .i64 0,.int .i64 0,.bool false,.bool false,.slice none 0 0] 41)).alloc (.cells #[.int .i64 0,.int .i64 0,.int .i64 0,.int .i64 0,.int .i64 0,.int .u32 0,.int .i64 0,.bool false,.slice none 0 0,.int .i64 0,.int .i64 0,.int .i64 0,.int .u32 0,.int .u32 0,.int .u32 0,.int .i64 0,.int .i64 0,.bool false,.bool false,.slice none 0 0,.int .i64 0,.int .u32 0,.int .u32 0,.int .u32 0,.int .i64 0,.int .i64 0,.bool false,.bool false,.slice none 0 0] 41)):=belY (belY (Below.refl _ w) _) _
 have kp:((w.alloc (.cells #[.int .i64 0,.int .i64 0,.int .i64 0,.int .i64 0,.int .i64 0,.int .u32 0,.int .i64 0,.bool false,.slice none 0 0,.int .i64 0,.int .i64 0,.int .i64 0,.int .u32 0,.int .u32 0,.int .u32 0,.int .i64 0,.int .i64 0,.bool false,.bool false,.slice none 0 0,.int .i64 0,.int .u32 0,.int .u32 0,.int .u32 0,.int .i64 0,.int .i64 0,.bool false,.bool false,.slice none 0 0] 41)).alloc (.cells #[.int .i64 0,.int .i64 0,.int .i64 0,.int .i64 0,.int .i64 0,.int .u32 0,.int .i64 0,.bool false,.slice none 0 0,.int .i64 0,.int .i64 0,.int .i64 0,.int .u32 0,.int .u32 0,.int .u32 0,.int .i64 0,.int .i64 0,.bool false,.bool false,.slice none 0 0,.int .i64 0,.int .u32 0,.int .u32 0,.int .u32 0,.int .i64 0,.int .i64 0,.bool false,.bool false,.slice none 0 0] 41)).heap[w.heap.size]?=some (.cells #[.int .i64 0,.int .i64 0,.int .i64 0,.int .i64 0,.int .i64 0,.int .u32 0,.int .i64 0,.bool false,.slice none 0 0,.int .i64 0,.int .i64 0,.int .i64 0,.int .u32 0,.int .u32 0,.int .u32 0,.int .i64 0,.int .i64 0,.bool false,.bool false,.slice none 0 0,.int .i64 0,.int .u32 0,.int .u32 0,.int .u32 0,.int .i64 0,.int .i64 0,.bool false,.bool false,.slice none 0 0] 41 (0,0)):=(Below.heap_alloc _ _ _ (by omega)).trans (heap_alloc_new w _)
 have kq:=heap_alloc_new (w.alloc (.cells #[.int .i64 0,.int .i64 0,.int .i64 0,.int .i64 0,.int .i64 0,.int .u32 0,.int .i64 0,.bool false,.slice none 0 0,.int .i64 0,.int .i64 0,.int .i64 0,.int .u32 0,.int .u32 0,.int .u32 0,.int .i64 0,.int .i64 0,.bool false,.bool false,.slice none 0 0,.int .i64 0,.int .u32 0,.int .u32 0,.int .u32 0,.int .i64 0,.int .i64 0,.bool false,.bool false,.slice none 0 0] 41)) (.cells #[.int .i64 0,.int .i64 0,.int .i64 0,.int .i64 0,.int .i64 0,.int .u32 0,.int .i64 0,.bool false,.slice none 0 0,.int .i64 0,.int .i64 0,.int .i64 0,.int .u32 0,.int .u32 0,.int .u32 0,.int .i64 0,.int .i64 0,.bool false,.bool false,.slice none 0 0,.int .i64 0,.int .u32 0,.int .u32 0,.int .u32 0,.int .i64 0,.int .i64 0,.bool false,.bool false,.slice none 0 0] 41)
 rw[s1]at kq
 obtain⟨W,hW⟩:∃ z,(w.alloc (.cells #[.int .i64 0,.int .i64 0,.int .i64 0,.int .i64 0,.int .i64 0,.int .u32 0,.int .i64 0,.bool false,.slice none 0 0,.int .i64 0,.int .i64 0,.int .i64 0,.int .u32 0,.int .u32 0,.int .u32 0,.int .i64 0,.int .i64 0,.bool false,.bool false,.slice none 0 0,.int .i64 0,.int .u32 0,.int .u32 0,.int .u32 0,.int .i64 0,.int .i64 0,.bool false,.bool false,.slice none 0 0] 41)).alloc (.cells #[.int .i64 0,.int .i64 0,.int .i64 0,.int .i64 0,.int .i64 0,.int .u32 0,.int .i64 0,.bool false,.slice none 0 0,.int .i64 0,.int .i64 0,.int .i64 0,.int .u32 0,.int .u32 0,.int .u32 0,.int .i64 0,.int .i64 0,.bool false,.bool false,.slice none 0 0,.int .i64 0,.int .u32 0,.int .u32 0,.int .u32 0,.int .i64 0,.int .i64 0,.bool false,.bool false,.slice none 0 0] 41)=z:=⟨_,rfl⟩
 rw[hW]at bW kp kq
 obtain⟨x,hx⟩:∃ z,w.heap.size=z:=⟨_,rfl⟩
 have HB:Hid (Below w.heap.size w W):=bW
 rw[hx]at kp kq
 have p0:W.cell? ⟨x,0,none⟩=some (.int .i64 0):=cell_of_row W (x) 0 _ _ _ kp
 have p1:W.cell? ⟨x,1,none⟩=some (.int .i64 0):=cell_of_row W (x) 1 _ _ _ kp
 have p2:W.cell? ⟨x,2,none⟩=some (.int .i64 0):=cell_of_row W (x) 2 _ _ _ kp
 have p3:W.cell? ⟨x,3,none⟩=some (.int .i64 0):=cell_of_row W (x) 3 _ _ _ kp
 have p4:W.cell? ⟨x,4,none⟩=some (.int .i64 0):=cell_of_row W (x) 4 _ _ _ kp
 have p5:W.cell? ⟨x,5,none⟩=some (.int .u32 0):=cell_of_row W (x) 5 _ _ _ kp
 have p6:W.cell? ⟨x,6,none⟩=some (.int .i64 0):=cell_of_row W (x) 6 _ _ _ kp
 have p7:W.cell? ⟨x,7,none⟩=some (.bool false):=cell_of_row W (x) 7 _ _ _ kp
 have p8:W.cell? ⟨x,8,none⟩=some (.slice none 0 0):=cell_of_row W (x) 8 _ _ _ kp
 have p9:W.cell? ⟨x,9,none⟩=some (.int .i64 0):=cell_of_row W (x) 9 _ _ _ kp
 have p10:W.cell? ⟨x,10,none⟩=some (.int .i64 0):=cell_of_row W (x) 10 _ _ _ kp
 have p11:W.cell? ⟨x,11,none⟩=some (.int .i64 0):=cell_of_row W (x) 11 _ _ _ kp
 have p12:W.cell? ⟨x,12,none⟩=some (.int .u32 0):=cell_of_row W (x) 12 _ _ _ kp
 have p13:W.cell? ⟨x,13,none⟩=some (.int .u32 0):=cell_of_row W (x) 13 _ _ _ kp
 have p14:W.cell? ⟨x,14,none⟩=some (.int .u32 0):=cell_of_row W (x) 14 _ _ _ kp
 have p15:W.cell? ⟨x,15,none⟩=some (.int .i64 0):=cell_of_row W (x) 15 _ _ _ kp
 have p16:W.cell? ⟨x,16,none⟩=some (.int .i64 0):=cell_of_row W (x) 16 _ _ _ kp
 have p17:W.cell? ⟨x,17,none⟩=some (.bool false):=cell_of_row W (x) 17 _ _ _ kp
 have p18:W.cell? ⟨x,18,none⟩=some (.bool false):=cell_of_row W (x) 18 _ _ _ kp
 have p19:W.cell? ⟨x,19,none⟩=some (.slice none 0 0):=cell_of_row W (x) 19 _ _ _ kp
 have p20:W.cell? ⟨x,20,none⟩=some (.int .i64 0):=cell_of_row W (x) 20 _ _ _ kp
 have p21:W.cell? ⟨x,21,none⟩=some (.int .u32 0):=cell_of_row W (x) 21 _ _ _ kp
 have p22:W.cell? ⟨x,22,none⟩=some (.int .u32 0):=cell_of_row W (x) 22 _ _ _ kp
 have p23:W.cell? ⟨x,23,none⟩=some (.int .u32 0):=cell_of_row W (x) 23 _ _ _ kp
 have p24:W.cell? ⟨x,24,none⟩=some (.int .i64 0):=cell_of_row W (x) 24 _ _ _ kp
 have p25:W.cell? ⟨x,25,none⟩=some (.int .i64 0):=cell_of_row W (x) 25 _ _ _ kp
 have p26:W.cell? ⟨x,26,none⟩=some (.bool false):=cell_of_row W (x) 26 _ _ _ kp
 have p27:W.cell? ⟨x,27,none⟩=some (.bool false):=cell_of_row W (x) 27 _ _ _ kp
 have p28:W.cell? ⟨x,28,none⟩=some (.slice none 0 0):=cell_of_row W (x) 28 _ _ _ kp
 have q0:W.cell? ⟨x+1,0,none⟩=some (.int .i64 0):=cell_of_row W (x+1) 0 _ _ _ kq
 have q1:W.cell? ⟨x+1,1,none⟩=some (.int .i64 0):=cell_of_row W (x+1) 1 _ _ _ kq
 have q2:W.cell? ⟨x+1,2,none⟩=some (.int .i64 0):=cell_of_row W (x+1) 2 _ _ _ kq
 have q3:W.cell? ⟨x+1,3,none⟩=some (.int .i64 0):=cell_of_row W (x+1) 3 _ _ _ kq
 have q4:W.cell? ⟨x+1,4,none⟩=some (.int .i64 0):=cell_of_row W (x+1) 4 _ _ _ kq
 have q5:W.cell? ⟨x+1,5,none⟩=some (.int .u32 0):=cell_of_row W (x+1) 5 _ _ _ kq
 have q6:W.cell? ⟨x+1,6,none⟩=some (.int .i64 0):=cell_of_row W (x+1) 6 _ _ _ kq
 have q7:W.cell? ⟨x+1,7,none⟩=some (.bool false):=cell_of_row W (x+1) 7 _ _ _ kq
 have q8:W.cell? ⟨x+1,8,none⟩=some (.slice none 0 0):=cell_of_row W (x+1) 8 _ _ _ kq
 have q9:W.cell? ⟨x+1,9,none⟩=some (.int .i64 0):=cell_of_row W (x+1) 9 _ _ _ kq
 have q10:W.cell? ⟨x+1,10,none⟩=some (.int .i64 0):=cell_of_row W (x+1) 10 _ _ _ kq
 have q11:W.cell? ⟨x+1,11,none⟩=some (.int .i64 0):=cell_of_row W (x+1) 11 _ _ _ kq
 have q12:W.cell? ⟨x+1,12,none⟩=some (.int .u32 0):=cell_of_row W (x+1) 12 _ _ _ kq
 have q13:W.cell? ⟨x+1,13,none⟩=some (.int .u32 0):=cell_of_row W (x+1) 13 _ _ _ kq
 have q14:W.cell? ⟨x+1,14,none⟩=some (.int .u32 0):=cell_of_row W (x+1) 14 _ _ _ kq
 have q15:W.cell? ⟨x+1,15,none⟩=some (.int .i64 0):=cell_of_row W (x+1) 15 _ _ _ kq
 have q16:W.cell? ⟨x+1,16,none⟩=some (.int .i64 0):=cell_of_row W (x+1) 16 _ _ _ kq
 have q17:W.cell? ⟨x+1,17,none⟩=some (.bool false):=cell_of_row W (x+1) 17 _ _ _ kq
 have q18:W.cell? ⟨x+1,18,none⟩=some (.bool false):=cell_of_row W (x+1) 18 _ _ _ kq
 have q19:W.cell? ⟨x+1,19,none⟩=some (.slice none 0 0):=cell_of_row W (x+1) 19 _ _ _ kq
 have q20:W.cell? ⟨x+1,20,none⟩=some (.int .i64 0):=cell_of_row W (x+1) 20 _ _ _ kq
 have q21:W.cell? ⟨x+1,21,none⟩=some (.int .u32 0):=cell_of_row W (x+1) 21 _ _ _ kq
 have q22:W.cell? ⟨x+1,22,none⟩=some (.int .u32 0):=cell_of_row W (x+1) 22 _ _ _ kq
 have q23:W.cell? ⟨x+1,23,none⟩=some (.int .u32 0):=cell_of_row W (x+1) 23 _ _ _ kq
 have q24:W.cell? ⟨x+1,24,none⟩=some (.int .i64 0):=cell_of_row W (x+1) 24 _ _ _ kq
 have q25:W.cell? ⟨x+1,25,none⟩=some (.int .i64 0):=cell_of_row W (x+1) 25 _ _ _ kq
 have q26:W.cell? ⟨x+1,26,none⟩=some (.bool false):=cell_of_row W (x+1) 26 _ _ _ kq
 have q27:W.cell? ⟨x+1,27,none⟩=some (.bool false):=cell_of_row W (x+1) 27 _ _ _ kq
 have q28:W.cell? ⟨x+1,28,none⟩=some (.slice none 0 0):=cell_of_row W (x+1) 28 _ _ _ kq
 have HE:Hid (_=W):=hW
 have HS:Hid (w.heap.size=x):=hx
 have hM:=rsameMZ W
 have HP:Hid (_):=kp
 have HQ:Hid (_):=kq
 clear s1 bW kp kq hW hx
 go_enter Tryz.func11,Tryz.ntmps11
 go_upto_region 1 with fail
 rw[HE.out,HS.out]
 go_wp2_with fail
 refine hM.mono ?_
 rintro r w1 ⟨rfl,b1⟩
 clear hM p0 q0 p1 q1 p2 q2 p3 q3 p4 q4 p5 q5 p6 q6 p7 q7 p8 q8 p9 q9 p10 q10 p11 q11 p12 q12 p13 q13 p14 q14 p15 q15 p16 q16 p17 q17 p18 q18 p19 q19 p20 q20 p21 q21 p22 q22 p23 q23 p24 q24 p25 q25 p26 q26 p27 q27 p28 q28
 have kp:=(b1.block x (Array.getElem?_eq_some_iff.1 HP.out).1).trans HP.out
 have kq:=(b1.block (x+1) (Array.getElem?_eq_some_iff.1 HQ.out).1).trans HQ.out
 have p0:w1.cell? ⟨x,0,none⟩=some (.int .i64 0):=cell_of_row w1 (x) 0 _ _ _ kp
 have p1:w1.cell? ⟨x,1,none⟩=some (.int .i64 0):=cell_of_row w1 (x) 1 _ _ _ kp
 have p2:w1.cell? ⟨x,2,none⟩=some (.int .i64 0):=cell_of_row w1 (x) 2 _ _ _ kp
 have p3:w1.cell? ⟨x,3,none⟩=some (.int .i64 0):=cell_of_row w1 (x) 3 _ _ _ kp
 have p4:w1.cell? ⟨x,4,none⟩=some (.int .i64 0):=cell_of_row w1 (x) 4 _ _ _ kp
 have p5:w1.cell? ⟨x,5,none⟩=some (.int .u32 0):=cell_of_row w1 (x) 5 _ _ _ kp
 have p6:w1.cell? ⟨x,6,none⟩=some (.int .i64 0):=cell_of_row w1 (x) 6 _ _ _ kp
 have p7:w1.cell? ⟨x,7,none⟩=some (.bool false):=cell_of_row w1 (x) 7 _ _ _ kp
 have p8:w1.cell? ⟨x,8,none⟩=some (.slice none 0 0):=cell_of_row w1 (x) 8 _ _ _ kp
 have p9:w1.cell? ⟨x,9,none⟩=some (.int .i64 0):=cell_of_row w1 (x) 9 _ _ _ kp
 have p10:w1.cell? ⟨x,10,none⟩=some (.int .i64 0):=cell_of_row w1 (x) 10 _ _ _ kp
 have p11:w1.cell? ⟨x,11,none⟩=some (.int .i64 0):=cell_of_row w1 (x) 11 _ _ _ kp
 have p12:w1.cell? ⟨x,12,none⟩=some (.int .u32 0):=cell_of_row w1 (x) 12 _ _ _ kp
 have p13:w1.cell? ⟨x,13,none⟩=some (.int .u32 0):=cell_of_row w1 (x) 13 _ _ _ kp
 have p14:w1.cell? ⟨x,14,none⟩=some (.int .u32 0):=cell_of_row w1 (x) 14 _ _ _ kp
 have p15:w1.cell? ⟨x,15,none⟩=some (.int .i64 0):=cell_of_row w1 (x) 15 _ _ _ kp
 have p16:w1.cell? ⟨x,16,none⟩=some (.int .i64 0):=cell_of_row w1 (x) 16 _ _ _ kp
 have p17:w1.cell? ⟨x,17,none⟩=some (.bool false):=cell_of_row w1 (x) 17 _ _ _ kp
 have p18:w1.cell? ⟨x,18,none⟩=some (.bool false):=cell_of_row w1 (x) 18 _ _ _ kp
 have p19:w1.cell? ⟨x,19,none⟩=some (.slice none 0 0):=cell_of_row w1 (x) 19 _ _ _ kp
 have p20:w1.cell? ⟨x,20,none⟩=some (.int .i64 0):=cell_of_row w1 (x) 20 _ _ _ kp
 have p21:w1.cell? ⟨x,21,none⟩=some (.int .u32 0):=cell_of_row w1 (x) 21 _ _ _ kp
 have p22:w1.cell? ⟨x,22,none⟩=some (.int .u32 0):=cell_of_row w1 (x) 22 _ _ _ kp
 have p23:w1.cell? ⟨x,23,none⟩=some (.int .u32 0):=cell_of_row w1 (x) 23 _ _ _ kp
 have p24:w1.cell? ⟨x,24,none⟩=some (.int .i64 0):=cell_of_row w1 (x) 24 _ _ _ kp
 have p25:w1.cell? ⟨x,25,none⟩=some (.int .i64 0):=cell_of_row w1 (x) 25 _ _ _ kp
 have p26:w1.cell? ⟨x,26,none⟩=some (.bool false):=cell_of_row w1 (x) 26 _ _ _ kp
 have p27:w1.cell? ⟨x,27,none⟩=some (.bool false):=cell_of_row w1 (x) 27 _ _ _ kp
 have p28:w1.cell? ⟨x,28,none⟩=some (.slice none 0 0):=cell_of_row w1 (x) 28 _ _ _ kp
 have q0:w1.cell? ⟨x+1,0,none⟩=some (.int .i64 0):=cell_of_row w1 (x+1) 0 _ _ _ kq
 have q1:w1.cell? ⟨x+1,1,none⟩=some (.int .i64 0):=cell_of_row w1 (x+1) 1 _ _ _ kq
 have q2:w1.cell? ⟨x+1,2,none⟩=some (.int .i64 0):=cell_of_row w1 (x+1) 2 _ _ _ kq
 have q3:w1.cell? ⟨x+1,3,none⟩=some (.int .i64 0):=cell_of_row w1 (x+1) 3 _ _ _ kq
 have q4:w1.cell? ⟨x+1,4,none⟩=some (.int .i64 0):=cell_of_row w1 (x+1) 4 _ _ _ kq
 have q5:w1.cell? ⟨x+1,5,none⟩=some (.int .u32 0):=cell_of_row w1 (x+1) 5 _ _ _ kq
 have q6:w1.cell? ⟨x+1,6,none⟩=some (.int .i64 0):=cell_of_row w1 (x+1) 6 _ _ _ kq
 have q7:w1.cell? ⟨x+1,7,none⟩=some (.bool false):=cell_of_row w1 (x+1) 7 _ _ _ kq
 have q8:w1.cell? ⟨x+1,8,none⟩=some (.slice none 0 0):=cell_of_row w1 (x+1) 8 _ _ _ kq
 have q9:w1.cell? ⟨x+1,9,none⟩=some (.int .i64 0):=cell_of_row w1 (x+1) 9 _ _ _ kq
 have q10:w1.cell? ⟨x+1,10,none⟩=some (.int .i64 0):=cell_of_row w1 (x+1) 10 _ _ _ kq
 have q11:w1.cell? ⟨x+1,11,none⟩=some (.int .i64 0):=cell_of_row w1 (x+1) 11 _ _ _ kq
 have q12:w1.cell? ⟨x+1,12,none⟩=some (.int .u32 0):=cell_of_row w1 (x+1) 12 _ _ _ kq
 have q13:w1.cell? ⟨x+1,13,none⟩=some (.int .u32 0):=cell_of_row w1 (x+1) 13 _ _ _ kq
 have q14:w1.cell? ⟨x+1,14,none⟩=some (.int .u32 0):=cell_of_row w1 (x+1) 14 _ _ _ kq
 have q15:w1.cell? ⟨x+1,15,none⟩=some (.int .i64 0):=cell_of_row w1 (x+1) 15 _ _ _ kq
 have q16:w1.cell? ⟨x+1,16,none⟩=some (.int .i64 0):=cell_of_row w1 (x+1) 16 _ _ _ kq
 have q17:w1.cell? ⟨x+1,17,none⟩=some (.bool false):=cell_of_row w1 (x+1) 17 _ _ _ kq
 have q18:w1.cell? ⟨x+1,18,none⟩=some (.bool false):=cell_of_row w1 (x+1) 18 _ _ _ kq
 have q19:w1.cell? ⟨x+1,19,none⟩=some (.slice none 0 0):=cell_of_row w1 (x+1) 19 _ _ _ kq
 have q20:w1.cell? ⟨x+1,20,none⟩=some (.int .i64 0):=cell_of_row w1 (x+1) 20 _ _ _ kq
 have q21:w1.cell? ⟨x+1,21,none⟩=some (.int .u32 0):=cell_of_row w1 (x+1) 21 _ _ _ kq
 have q22:w1.cell? ⟨x+1,22,none⟩=some (.int .u32 0):=cell_of_row w1 (x+1) 22 _ _ _ kq
 have q23:w1.cell? ⟨x+1,23,none⟩=some (.int .u32 0):=cell_of_row w1 (x+1) 23 _ _ _ kq
 have q24:w1.cell? ⟨x+1,24,none⟩=some (.int .i64 0):=cell_of_row w1 (x+1) 24 _ _ _ kq
 have q25:w1.cell? ⟨x+1,25,none⟩=some (.int .i64 0):=cell_of_row w1 (x+1) 25 _ _ _ kq
 have q26:w1.cell? ⟨x+1,26,none⟩=some (.bool false):=cell_of_row w1 (x+1) 26 _ _ _ kq
 have q27:w1.cell? ⟨x+1,27,none⟩=some (.bool false):=cell_of_row w1 (x+1) 27 _ _ _ kq
 have q28:w1.cell? ⟨x+1,28,none⟩=some (.slice none 0 0):=cell_of_row w1 (x+1) 28 _ _ _ kq
 have hE:=rsameEZ w1
 have HB1:Hid (_):=b1
 clear b1 kp kq
 go_wp2_with fail
 refine hE.mono ?_
 rintro r w2 ⟨rfl,b2⟩
 clear hE p0 q0 p1 q1 p2 q2 p3 q3 p4 q4 p5 q5 p6 q6 p7 q7 p8 q8 p9 q9 p10 q10 p11 q11 p12 q12 p13 q13 p14 q14 p15 q15 p16 q16 p17 q17 p18 q18 p19 q19 p20 q20 p21 q21 p22 q22 p23 q23 p24 q24 p25 q25 p26 q26 p27 q27 p28 q28
 have b12:Below W.heap.size W w2:=HB1.out.trans (b2.mono HB1.out.size)
 have kp:=(b12.block x (Array.getElem?_eq_some_iff.1 HP.out).1).trans HP.out
 have kq:=(b12.block (x+1) (Array.getElem?_eq_some_iff.1 HQ.out).1).trans HQ.out
 have p0:w2.cell? ⟨x,0,none⟩=some (.int .i64 0):=cell_of_row w2 (x) 0 _ _ _ kp
 have p1:w2.cell? ⟨x,1,none⟩=some (.int .i64 0):=cell_of_row w2 (x) 1 _ _ _ kp
 have p2:w2.cell? ⟨x,2,none⟩=some (.int .i64 0):=cell_of_row w2 (x) 2 _ _ _ kp
 have p3:w2.cell? ⟨x,3,none⟩=some (.int .i64 0):=cell_of_row w2 (x) 3 _ _ _ kp
 have p4:w2.cell? ⟨x,4,none⟩=some (.int .i64 0):=cell_of_row w2 (x) 4 _ _ _ kp
 have p5:w2.cell? ⟨x,5,none⟩=some (.int .u32 0):=cell_of_row w2 (x) 5 _ _ _ kp
 have p6:w2.cell? ⟨x,6,none⟩=some (.int .i64 0):=cell_of_row w2 (x) 6 _ _ _ kp
 have p7:w2.cell? ⟨x,7,none⟩=some (.bool false):=cell_of_row w2 (x) 7 _ _ _ kp
 have p8:w2.cell? ⟨x,8,none⟩=some (.slice none 0 0):=cell_of_row w2 (x) 8 _ _ _ kp
 have p9:w2.cell? ⟨x,9,none⟩=some (.int .i64 0):=cell_of_row w2 (x) 9 _ _ _ kp
 have p10:w2.cell? ⟨x,10,none⟩=some (.int .i64 0):=cell_of_row w2 (x) 10 _ _ _ kp
 have p11:w2.cell? ⟨x,11,none⟩=some (.int .i64 0):=cell_of_row w2 (x) 11 _ _ _ kp
 have p12:w2.cell? ⟨x,12,none⟩=some (.int .u32 0):=cell_of_row w2 (x) 12 _ _ _ kp
 have p13:w2.cell? ⟨x,13,none⟩=some (.int .u32 0):=cell_of_row w2 (x) 13 _ _ _ kp
 have p14:w2.cell? ⟨x,14,none⟩=some (.int .u32 0):=cell_of_row w2 (x) 14 _ _ _ kp
 have p15:w2.cell? ⟨x,15,none⟩=some (.int .i64 0):=cell_of_row w2 (x) 15 _ _ _ kp
 have p16:w2.cell? ⟨x,16,none⟩=some (.int .i64 0):=cell_of_row w2 (x) 16 _ _ _ kp
 have p17:w2.cell? ⟨x,17,none⟩=some (.bool false):=cell_of_row w2 (x) 17 _ _ _ kp
 have p18:w2.cell? ⟨x,18,none⟩=some (.bool false):=cell_of_row w2 (x) 18 _ _ _ kp
 have p19:w2.cell? ⟨x,19,none⟩=some (.slice none 0 0):=cell_of_row w2 (x) 19 _ _ _ kp
 have p20:w2.cell? ⟨x,20,none⟩=some (.int .i64 0):=cell_of_row w2 (x) 20 _ _ _ kp
 have p21:w2.cell? ⟨x,21,none⟩=some (.int .u32 0):=cell_of_row w2 (x) 21 _ _ _ kp
 have p22:w2.cell? ⟨x,22,none⟩=some (.int .u32 0):=cell_of_row w2 (x) 22 _ _ _ kp
 have p23:w2.cell? ⟨x,23,none⟩=some (.int .u32 0):=cell_of_row w2 (x) 23 _ _ _ kp
 have p24:w2.cell? ⟨x,24,none⟩=some (.int .i64 0):=cell_of_row w2 (x) 24 _ _ _ kp
 have p25:w2.cell? ⟨x,25,none⟩=some (.int .i64 0):=cell_of_row w2 (x) 25 _ _ _ kp
 have p26:w2.cell? ⟨x,26,none⟩=some (.bool false):=cell_of_row w2 (x) 26 _ _ _ kp
 have p27:w2.cell? ⟨x,27,none⟩=some (.bool false):=cell_of_row w2 (x) 27 _ _ _ kp
 have p28:w2.cell? ⟨x,28,none⟩=some (.slice none 0 0):=cell_of_row w2 (x) 28 _ _ _ kp
 have q0:w2.cell? ⟨x+1,0,none⟩=some (.int .i64 0):=cell_of_row w2 (x+1) 0 _ _ _ kq
 have q1:w2.cell? ⟨x+1,1,none⟩=some (.int .i64 0):=cell_of_row w2 (x+1) 1 _ _ _ kq
 have q2:w2.cell? ⟨x+1,2,none⟩=some (.int .i64 0):=cell_of_row w2 (x+1) 2 _ _ _ kq
 have q3:w2.cell? ⟨x+1,3,none⟩=some (.int .i64 0):=cell_of_row w2 (x+1) 3 _ _ _ kq
 have q4:w2.cell? ⟨x+1,4,none⟩=some (.int .i64 0):=cell_of_row w2 (x+1) 4 _ _ _ kq
 have q5:w2.cell? ⟨x+1,5,none⟩=some (.int .u32 0):=cell_of_row w2 (x+1) 5 _ _ _ kq
 have q6:w2.cell? ⟨x+1,6,none⟩=some (.int .i64 0):=cell_of_row w2 (x+1) 6 _ _ _ kq
 have q7:w2.cell? ⟨x+1,7,none⟩=some (.bool false):=cell_of_row w2 (x+1) 7 _ _ _ kq
 have q8:w2.cell? ⟨x+1,8,none⟩=some (.slice none 0 0):=cell_of_row w2 (x+1) 8 _ _ _ kq
 have q9:w2.cell? ⟨x+1,9,none⟩=some (.int .i64 0):=cell_of_row w2 (x+1) 9 _ _ _ kq
 have q10:w2.cell? ⟨x+1,10,none⟩=some (.int .i64 0):=cell_of_row w2 (x+1) 10 _ _ _ kq
 have q11:w2.cell? ⟨x+1,11,none⟩=some (.int .i64 0):=cell_of_row w2 (x+1) 11 _ _ _ kq
 have q12:w2.cell? ⟨x+1,12,none⟩=some (.int .u32 0):=cell_of_row w2 (x+1) 12 _ _ _ kq
 have q13:w2.cell? ⟨x+1,13,none⟩=some (.int .u32 0):=cell_of_row w2 (x+1) 13 _ _ _ kq
 have q14:w2.cell? ⟨x+1,14,none⟩=some (.int .u32 0):=cell_of_row w2 (x+1) 14 _ _ _ kq
 have q15:w2.cell? ⟨x+1,15,none⟩=some (.int .i64 0):=cell_of_row w2 (x+1) 15 _ _ _ kq
 have q16:w2.cell? ⟨x+1,16,none⟩=some (.int .i64 0):=cell_of_row w2 (x+1) 16 _ _ _ kq
 have q17:w2.cell? ⟨x+1,17,none⟩=some (.bool false):=cell_of_row w2 (x+1) 17 _ _ _ kq
 have q18:w2.cell? ⟨x+1,18,none⟩=some (.bool false):=cell_of_row w2 (x+1) 18 _ _ _ kq
 have q19:w2.cell? ⟨x+1,19,none⟩=some (.slice none 0 0):=cell_of_row w2 (x+1) 19 _ _ _ kq
 have q20:w2.cell? ⟨x+1,20,none⟩=some (.int .i64 0):=cell_of_row w2 (x+1) 20 _ _ _ kq
 have q21:w2.cell? ⟨x+1,21,none⟩=some (.int .u32 0):=cell_of_row w2 (x+1) 21 _ _ _ kq
 have q22:w2.cell? ⟨x+1,22,none⟩=some (.int .u32 0):=cell_of_row w2 (x+1) 22 _ _ _ kq
 have q23:w2.cell? ⟨x+1,23,none⟩=some (.int .u32 0):=cell_of_row w2 (x+1) 23 _ _ _ kq
 have q24:w2.cell? ⟨x+1,24,none⟩=some (.int .i64 0):=cell_of_row w2 (x+1) 24 _ _ _ kq
 have q25:w2.cell? ⟨x+1,25,none⟩=some (.int .i64 0):=cell_of_row w2 (x+1) 25 _ _ _ kq
 have q26:w2.cell? ⟨x+1,26,none⟩=some (.bool false):=cell_of_row w2 (x+1) 26 _ _ _ kq
 have q27:w2.cell? ⟨x+1,27,none⟩=some (.bool false):=cell_of_row w2 (x+1) 27 _ _ _ kq
 have q28:w2.cell? ⟨x+1,28,none⟩=some (.slice none 0 0):=cell_of_row w2 (x+1) 28 _ _ _ kq
 have hE:=rsameEZ w2
 have HB2:Hid (_):=b12
 clear b2 b12 kp kq
 go_wp2_with fail
 refine hE.mono ?_
 rintro r w3 ⟨rfl,b3⟩
 clear hE p0 q0 p1 q1 p2 q2 p3 q3 p4 q4 p5 q5 p6 q6 p7 q7 p8 q8 p9 q9 p10 q10 p11 q11 p12 q12 p13 q13 p14 q14 p15 q15 p16 q16 p17 q17 p18 q18 p19 q19 p20 q20 p21 q21 p22 q22 p23 q23 p24 q24 p25 q25 p26 q26 p27 q27 p28 q28
 go_wp2_with fail
 go_ret
 exact⟨rfl,HB.out.trans ((HB2.out.trans (b3.mono HB2.out.size)).mono HB.out.size)⟩
end Go.Proofs.YtiopiheomoehbaaGreat
