/- Part 30: contracts that the proof rests on. -/
import Derived.Test.YtfgnmadnmjdbiaaGreatPkN28
set_option maxHeartbeats 64000000
set_option maxRecDepth 100000
namespace Go.Proofs.YtfgnmadnmjdbiaaGreat
open Tryz
open Go.RowKit Go.Maps
set_option linter.unusedVariables false
theorem iP:(prog.info? 79).map (fun i=>(i.zero,i.size,i.bytes))=some (some (.agg aK),3,24):=by kernel_rfl
theorem nP {P:Program} {md:Region.Mode} {ops:Array Oper} {Q:Exit→Act→World→Prop} {S:World→Prop} {fuel:Nat} {l:Array Bool} {a:Act} {w:World} {i j:Nat} (hr:Region.ready md ops l=[i,j])
  (h1:wpOp P ops Q i (fun a' w'=>S w'∧wpAnyH P md ops Q S fuel (l.setIfInBounds i true) a' w') a w) (h2:wpOp P ops Q j (fun a' w'=>S w'∧wpAnyH P md ops Q S fuel (l.setIfInBounds j true) a' w') a w):wpAnyH P md ops Q S (fuel+1) l a w:=
 wpAnyH_all hr (by simp) (fun k hk=>by
  rcases List.mem_cons.1 hk with rfl | hk
  ·exact h1
  ·obtain rfl:=List.mem_singleton.1 hk
   exact h2)
theorem jU {o:Oper} {a:Act} {w w':World} {v v' u:Value} {s x:Operand} (hop:o.op=Op.call { callee:=Callee.builtin Builtin.append,args:=#[s,x],argTypes:=#[71,71] }) (hty:o.type=71) (hs:a.eval s=v) (hx:a.eval x=u) (hr:(Builtin.append_ #[71,71] 71 #[v,u]).run prog w=.ok v' w'):(execOp a.eval o).run prog w=.ok (.value v') w':=by
 unfold execOp
 simp only[hop,hty,resolve,invoke,builtin,Sem.run_bind,Sem.run_pure,Result.andThen_ok,List.map_toArray,List.map_cons,List.map_nil,hs,hx,hr]
structure NwF (P Q:Pm) (mx:Nat) (w w':World) (X b m:Nat) (a0:Option Addr) (c0:Nat) (a1:Option Addr) (c1:Nat) (h d dm g:Nat) (av:Option Addr) (cv:Nat) (hU dU:List Nat):Prop where
 bel:Below w.heap.size w w'
 blk:w'.heap[X]?=some (.cells #[.slice a0 1 c0,.slice a1 1 c1,.int .u32 (mx:Nat),.slice av 1 cv,ac b 0,.int .i64 0,.slice none 0 0] 74 (0,0))
 r0:w'.ownsRow w.heap.size 42 5 (.slice a0 1 c0) 1 P.cs
 r1:w'.ownsRow w.heap.size 42 5 (.slice a1 1 c1) 1 Q.cs
 rc:w'.ownsRow w.heap.size 79 3 (.slice av 1 cv) 1 [ac h 0,ac d 0,ac dm 0]
 bg:Bg 0 w' b m (.slice none 0 0) [] none []
 hv:HV w' h P hU bN
 dv:DV w' d dm g 16 mx Q dU (dJ M0)
 lm:w.heap.size≤m
 mb:b=m+1
 bX:X=m+2
 l0:∀ k,(Value.slice a0 1 c0).ownBlock=some k→k<m
 l1:∀ k,(Value.slice a1 1 c1).ownBlock=some k→k<m
 l01:∀ k,(Value.slice a0 1 c0).ownBlock=some k→(Value.slice a1 1 c1).ownBlock≠some k
 lc:∀ k,(Value.slice av 1 cv).ownBlock=some k→X<k∧k ∉ hU∧k ∉ dU
 lh:∀ k,k ∈ hU→X<k∧k ∉ dU
 ld:∀ k,k ∈ dU→X<k
theorem nwf (P Q:Pm) (mx:Nat) (w w1 w2 w3 wx w5 w7 w8:World) (X b:Nat) (a0:Option Addr) (c0:Nat) (a1:Option Addr) (c1:Nat) (h d dm g:Nat) (av:Option Addr) (cv:Nat) {wa:World} (bA:Below w.heap.size w wa) (b1:Below wa.heap.size wa w1)
  (H2:w2.ownsRow w1.heap.size 42 5 (.slice a0 1 c0) 1 P.cs∧w2.ownsRow w1.heap.size 42 5 (.slice a1 1 c1) 1 Q.cs∧Below w1.heap.size w1 w2∧∀ k,(Value.slice a0 1 c0).ownBlock=some k→(Value.slice a1 1 c1).ownBlock≠some k)
  (H3:Below w2.heap.size w2 w3∧Bg w2.heap.size w3 (w2.heap.size+1) w2.heap.size (.slice none 0 0) [] none []∧w3.heap.size=w2.heap.size+2) (hb:w2.heap.size+1=b) (hX:w3.heap.size=X)
  (kW:wx.heap[X]?=some (.cells #[.slice a0 1 c0,.slice a1 1 c1,.int .u32 (mx:Nat),.slice none 0 0,ac b 0,.int .i64 0,.slice none 0 0] 74 (0,0))) (bW:Below w3.heap.size w3 wx)
  (H5:Below wx.drew.heap.size wx.drew w5∧∃ hU dU,HV w5 h P hU bN∧DV w5 d dm g 16 mx Q dU (dJ M0)∧(∀ k,k ∈ hU→wx.drew.heap.size≤k)∧(∀ k,k ∈ dU→wx.drew.heap.size≤k)∧∀ k,k ∈ hU→k ∉ dU) (b5:Below wx.heap.size wx w5)
  (o7:w7.ownsRow wx.heap.size 79 3 (.slice av 1 cv) 1 [ac h 0,ac d 0,ac dm 0]) (g7:(w5.alloc (.cells (aA h d dm) 79)).grownBy w7 (Value.slice none 0 0).ownBlock) (p7:(Value.slice av 1 cv).ownBlock=(Value.slice none 0 0).ownBlock∨(Value.slice av 1 cv).ownBlock=some (w5.alloc (.cells (aA h d dm) 79)).heap.size) (s6:(w5.alloc (.cells (aA h d dm) 79)).heap.size=w5.heap.size+1)
  (o8:Off [X] w7 w8) (k8:w8.heap[X]?=some (.cells #[.slice a0 1 c0,.slice a1 1 c1,.int .u32 (mx:Nat),.slice av 1 cv,ac b 0,.int .i64 0,.slice none 0 0] 74 (0,0))):∃ hU dU,NwF P Q mx w w8 X b w2.heap.size a0 c0 a1 c1 h d dm g av cv hU dU:=by
 obtain⟨r0,r1,b2,d01⟩:=H2
 obtain⟨b3,hg,s3⟩:=H3
 obtain⟨bd5,hU,dU,hv,dv,hUg,dUg,dis⟩:=H5
 have hd:wx.drew.heap.size=wx.heap.size:=rfl
 have lX:=(Array.getElem?_eq_some_iff.1 kW).1
 have b57:Below w5.heap.size w5 w7:=(aM (Below.refl _ w5) (.cells (aA h d dm) 79)).grown g7 (by rw[s6];omega) (fun k hk=>by cases hk)
 have b27:Below w2.heap.size w2 w7:=(b3.trans (bW.mono b3.size)).trans ((b5.trans (b57.mono b5.size)).mono (Nat.le_trans b3.size bW.size))
 have b07:Below w.heap.size w w7:=(bA.trans (b1.mono bA.size)).trans ((b2.trans (b27.mono b2.size)).mono (Nat.le_trans bA.size b1.size))
 have s1:=b1.size
 have sA:=bA.size
 have s2:=b2.size
 have s5:=b5.size
 have s35:=bW.size
 have l0:=r0.lt
 have l1:=r1.lt
 have q0:w8.ownsRow w1.heap.size 42 5 (.slice a0 1 c0) 1 P.cs:=a8 (a8 (l:=[]) r0 (Off.of_below b27) (by simp)) o8 (fun k hk hm=>by have:=(l0 k hk).2;simp at hm;omega)
 have q1:w8.ownsRow w1.heap.size 42 5 (.slice a1 1 c1) 1 Q.cs:=a8 (a8 (l:=[]) r1 (Off.of_below b27) (by simp)) o8 (fun k hk hm=>by have:=(l1 k hk).2;simp at hm;omega)
 have lc:=o7.lt
 have qc:w8.ownsRow wx.heap.size 79 3 (.slice av 1 cv) 1 [ac h 0,ac d 0,ac dm 0]:=a8 o7 o8 (fun k hk hm=>by have:=(lc k hk).1;simp at hm;omega)
 have hw:∀ k,(Value.slice av 1 cv).ownBlock=some k→k=w5.heap.size+1:=fun k hk=>by
  rcases p7 with p | p
  ·rw[hk]at p;cases p
  ·rw[hk,s6]at p;injection p
 have bg8:Bg 0 w8 b w2.heap.size (.slice none 0 0) [] none []:=by
  subst hb
  have hh:Bg 0 w3 (w2.heap.size+1) w2.heap.size (.slice none 0 0) [] none []:=⟨hg.at_,⟨⟨rfl,.inl ⟨rfl,rfl⟩⟩,fun i f hi=>by simp at hi,fun f hf=>by simp at hf,by simp⟩,hg.met,hg.pk,Nat.zero_le _,Nat.zero_le _⟩
  have h4:=hh.below (bW.trans ((b5.trans (b57.mono b5.size)).mono bW.size))
  refine h4.offU o8 (fun k hk hm=>?_)
  simp[kD,Value.ownBlock]at hk hm
  omega
 have hv8:HV w8 h P hU bN:=HV.off (HV.off (l:=[]) hv (Off.of_below b57) (by simp)) o8 (fun k hk hm=>by have:=hUg k hk;simp at hm;omega)
 have dv8:DV w8 d dm g 16 mx Q dU (dJ M0):=DV.offY (DV.offY (l:=[]) dv (Off.of_below b57) (by simp)) o8 (fun k hk hm=>by have:=dUg k hk;simp at hm;omega)
 refine⟨hU,dU,o8.below b07 (by simp;omega) b07.size,k8,ei q0 (by omega),ei q1 (by omega),ei qc (by omega),bg8,hv8,dv8,by omega,hb.symm,by omega,fun k hk=>(l0 k hk).2,fun k hk=>(l1 k hk).2,d01,fun k hk=>?_,fun k hk=>⟨by have:=hUg k hk;omega,dis k hk⟩,fun k hk=>by have:=dUg k hk;omega⟩
 have e1:=hw k hk
 refine⟨by omega,fun hm=>?_,fun hm=>?_⟩
 ·have:=HV.ult hv k hm
  omega
 ·have:=DV.ult dv k hm
  omega
theorem ze (P Q:Pm) (hP:Pok P) (hQ:Pok Q) (q0 q1 mx:Nat) (hmx:mx<4294967296) (h0:mx≠0) (w:World) (k0:w.heap[q0]?=some (.cells #[.int .u32 (P.c:Nat),.int .i64 (P.o:Nat),.int .i64 (P.i:Nat),.int .i64 (P.t:Nat),.int .u32 (P.n:Nat)] 42 (0,0))) (k1:w.heap[q1]?=some (.cells #[.int .u32 (Q.c:Nat),.int .i64 (Q.o:Nat),.int .i64 (Q.i:Nat),.int .i64 (Q.t:Nat),.int .u32 (Q.n:Nat)] 42 (0,0))):Calls prog 11 #[.agg #[.slice (af q0 0) 1 1,.slice (af q1 0) 1 1,.int .u32 (mx:Nat)]] w fun r w'=>∃ X b m a0 c0 a1 c1 h d dm g av cv hU dU,r=.returned (.tuple #[ac X 0,.int .i64 0])∧Hid (NwF P Q mx w w' X b m a0 c0 a1 c1 h d dm g av cv hU dU):=by
 have kA:=aE w (.cells #[.slice (af q0 0) 1 1,.slice (af q1 0) 1 1,.int .u32 (mx:Nat)] 37)
 have bA:=aM (Below.refl _ w) (.cells #[.slice (af q0 0) 1 1,.slice (af q1 0) 1 1,.int .u32 (mx:Nat)] 37)
 obtain⟨wa,hwa⟩:∃ y,w.alloc (.cells #[.slice (af q0 0) 1 1,.slice (af q1 0) 1 1,.int .u32 (mx:Nat)] 37)=y:=⟨_,rfl⟩
 rw[hwa]at kA bA
 have l0:=(Array.getElem?_eq_some_iff.1 k0).1
 have l1:=(Array.getElem?_eq_some_iff.1 k1).1
 obtain⟨x,hx⟩:∃ y,w.heap.size=y:=⟨_,rfl⟩
 rw[hx]at kA
 have n0:wa.cell? ⟨x,0,none⟩=some (.slice (af q0 0) 1 1):=ae wa x 0 _ _ _ kA
 have n1:wa.cell? ⟨x,1,none⟩=some (.slice (af q1 0) 1 1):=ae wa x 1 _ _ _ kA
 have n2:wa.cell? ⟨x,2,none⟩=some (.int .u32 (mx:Nat)):=ae wa x 2 _ _ _ kA
 have lxa:=(Array.getElem?_eq_some_iff.1 kA).1
 have lqa0:q0<wa.heap.size:=Nat.lt_of_lt_of_le l0 bA.size
 have lqa1:q1<wa.heap.size:=Nat.lt_of_lt_of_le l1 bA.size
 have ka0:=(bA.block q0 l0).trans k0
 have ka1:=(bA.block q1 l1).trans k1
 have hCk:=wB P Q hP hQ q0 q1 mx h0 wa ka0 ka1
 have HH:Hid (_):=And.intro bA (And.intro kA (And.intro ka0 (And.intro ka1 (And.intro lxa (And.intro lqa0 lqa1)))))
 have HE:Hid (_=wa):=hwa
 have HS:Hid (w.heap.size=x):=hx
 clear bA kA ka0 ka1 k0 k1 l0 l1 lxa lqa0 lqa1 hwa hx
 go_enter func11,ntmps11
 go_upto_region 1 with fail
 rw[HE.out,HS.out]
 go_wp2_with fail
 refine hCk.mono ?_
 rintro r w1 ⟨rfl,H1⟩
 clear hCk n0 n1 n2
 obtain⟨bA,kA,ka0,ka1,lxa,lqa0,lqa1⟩:=HH.out
 have b1:=H1.out
 have kx:=(b1.block x lxa).trans kA
 have n0:w1.cell? ⟨x,0,none⟩=some (.slice (af q0 0) 1 1):=ae w1 x 0 _ _ _ kx
 have n1:w1.cell? ⟨x,1,none⟩=some (.slice (af q1 0) 1 1):=ae w1 x 1 _ _ _ kx
 have n2:w1.cell? ⟨x,2,none⟩=some (.int .u32 (mx:Nat)):=ae w1 x 2 _ _ _ kx
 have hCo:=tB P Q q0 q1 mx w1 ((b1.block q0 lqa0).trans ka0) ((b1.block q1 lqa1).trans ka1)
 clear bA kA ka0 ka1 lxa lqa0 lqa1 b1 kx
 go_wp2_with fail
 refine hCo.mono ?_
 rintro r w2 ⟨a0,c0,a1,c1,rfl,H2⟩
 clear hCo n0 n1 n2
 have hBn:=uw w2
 go_wp2_with fail
 refine hBn.mono ?_
 rintro r w3 ⟨rfl,H3⟩
 clear hBn
 obtain⟨b,hb⟩:∃ y,w2.heap.size+1=y:=⟨_,rfl⟩
 rw[hb]
 have kW:=aE w3 (.cells #[.slice a0 1 c0,.slice a1 1 c1,.int .u32 (mx:Nat),.slice none 0 0,ac b 0,.int .i64 0,.slice none 0 0] 74)
 have bW:=aM (Below.refl _ w3) (.cells #[.slice a0 1 c0,.slice a1 1 c1,.int .u32 (mx:Nat),.slice none 0 0,ac b 0,.int .i64 0,.slice none 0 0] 74)
 have sW:=iK w3 (.cells #[.slice a0 1 c0,.slice a1 1 c1,.int .u32 (mx:Nat),.slice none 0 0,ac b 0,.int .i64 0,.slice none 0 0] 74)
 obtain⟨wx,hwx⟩:∃ y,w3.alloc (.cells #[.slice a0 1 c0,.slice a1 1 c1,.int .u32 (mx:Nat),.slice none 0 0,ac b 0,.int .i64 0,.slice none 0 0] 74)=y:=⟨_,rfl⟩
 obtain⟨X,hX⟩:∃ y,w3.heap.size=y:=⟨_,rfl⟩
 rw[hwx]at kW bW sW
 rw[hX]at kW sW
 obtain⟨bA,kA,ka0,ka1,lxa,lqa0,lqa1⟩:=HH.out
 have b1:=H1.out
 have b2:=H2.out.2.2.1
 have b3:=H3.out.1
 have b13:Below wa.heap.size wa wx:=((b1.trans (b2.mono b1.size)).trans (b3.mono (Nat.le_trans b1.size b2.size))).trans (bW.mono (Nat.le_trans (Nat.le_trans b1.size b2.size) b3.size))
 have kx:=(b13.block x lxa).trans kA
 have kq0:=(b13.block q0 lqa0).trans ka0
 have kq1:=(b13.block q1 lqa1).trans ka1
 have n0:wx.cell? ⟨x,0,none⟩=some (.slice (af q0 0) 1 1):=ae wx x 0 _ _ _ kx
 have n1:wx.cell? ⟨x,1,none⟩=some (.slice (af q1 0) 1 1):=ae wx x 1 _ _ _ kx
 have n2:wx.cell? ⟨x,2,none⟩=some (.int .u32 (mx:Nat)):=ae wx x 2 _ _ _ kx
 have hS:∀ w',Below wx.heap.size wx w'→w'.cell? ⟨x,0,none⟩=some (Value.slice (af q0 0) 1 1)∧w'.cell? ⟨x,1,none⟩=some (Value.slice (af q1 0) 1 1)∧w'.cell? ⟨x,2,none⟩=some (Value.int .u32 (mx:Nat))∧w'.cell? ⟨q0,0,none⟩=some (Value.int .u32 (P.c:Nat))∧w'.cell? ⟨q0,1,none⟩=some (Value.int .i64 (P.o:Nat))∧w'.cell? ⟨q0,2,none⟩=some (Value.int .i64 (P.i:Nat))∧w'.cell? ⟨q0,3,none⟩=some (Value.int .i64 (P.t:Nat))∧w'.cell? ⟨q0,4,none⟩=some (Value.int .u32 (P.n:Nat))∧w'.cell? ⟨q1,0,none⟩=some (Value.int .u32 (Q.c:Nat))∧w'.cell? ⟨q1,1,none⟩=some (Value.int .i64 (Q.o:Nat))∧w'.cell? ⟨q1,2,none⟩=some (Value.int .i64 (Q.i:Nat))∧w'.cell? ⟨q1,3,none⟩=some (Value.int .i64 (Q.t:Nat))∧w'.cell? ⟨q1,4,none⟩=some (Value.int .u32 (Q.n:Nat)):=fun w' bb=>⟨ag n0 bb,ag n1 bb,ag n2 bb,ag (ae wx q0 0 _ _ _ kq0) bb,ag (ae wx q0 1 _ _ _ kq0) bb,ag (ae wx q0 2 _ _ _ kq0) bb,ag (ae wx q0 3 _ _ _ kq0) bb,ag (ae wx q0 4 _ _ _ kq0) bb,ag (ae wx q1 0 _ _ _ kq1) bb,ag (ae wx q1 1 _ _ _ kq1) bb,ag (ae wx q1 2 _ _ _ kq1) bb,ag (ae wx q1 3 _ _ _ kq1) bb,ag (ae wx q1 4 _ _ _ kq1) bb⟩
 have HS0:=hS wx.drew (Below.drew (Below.refl _ _))
 have HSS:Hid (_):=hS
 have HX0:Hid (∀ w',Below wx.heap.size wx w'→w'.cell? ⟨X,3,none⟩=some (Value.slice none 0 0)):=fun w' bb=>ag (ae wx X 3 _ _ _ kW) bb
 have HW:Hid (_):=And.intro kW (And.intro bW (And.intro sW (And.intro b13 bA)))
 have HE3:Hid (_=wx):=hwx
 have HXX:Hid (x<X∧q0<X∧q1<X):=by have:=b1.size;have:=b2.size;have:=b3.size;exact⟨by omega,by omega,by omega⟩
 have HX3:Hid (w3.heap.size=X):=hX
 have Hb:Hid (w2.heap.size+1=b):=hb
 clear bA kA ka0 ka1 lxa lqa0 lqa1 b1 b2 b3 b13 kx kq0 kq1 kW bW sW hS hwx hX hb
 go_upto_region 5 with fail
 rw[HE3.out,HX3.out]
 go_wp2_with fail
 refine wp_loop_rounds 2 ?_
 rw[rounds_succ]
 go_wp2_with fail
 refine wp_region_held_drew (S:=fun w'=>w'.cell? ⟨x,0,none⟩=some (Value.slice (af q0 0) 1 1)∧w'.cell? ⟨x,1,none⟩=some (Value.slice (af q1 0) 1 1)∧w'.cell? ⟨x,2,none⟩=some (Value.int .u32 (mx:Nat))∧w'.cell? ⟨q0,0,none⟩=some (Value.int .u32 (P.c:Nat))∧w'.cell? ⟨q0,1,none⟩=some (Value.int .i64 (P.o:Nat))∧w'.cell? ⟨q0,2,none⟩=some (Value.int .i64 (P.i:Nat))∧w'.cell? ⟨q0,3,none⟩=some (Value.int .i64 (P.t:Nat))∧w'.cell? ⟨q0,4,none⟩=some (Value.int .u32 (P.n:Nat))∧w'.cell? ⟨q1,0,none⟩=some (Value.int .u32 (Q.c:Nat))∧w'.cell? ⟨q1,1,none⟩=some (Value.int .i64 (Q.o:Nat))∧w'.cell? ⟨q1,2,none⟩=some (Value.int .i64 (Q.i:Nat))∧w'.cell? ⟨q1,3,none⟩=some (Value.int .i64 (Q.t:Nat))∧w'.cell? ⟨q1,4,none⟩=some (Value.int .u32 (Q.n:Nat))) (by kernel_rfl) HS0 (fun _=>?_)
 refine al (i:=0) (v:=ac X 0) ?_
 refine al (i:=1) (v:=ac X 0) ?_
 refine al (i:=2) (v:=ac X 0) ?_
 refine al (i:=3) (v:=ac X 3) ?_
 refine al (i:=5) (v:=ac x 0) ?_
 refine al (i:=6) (v:=Value.slice (af q0 0) 1 1) ?_
 refine al (i:=7) (v:=Value.int .i64 0) ?_
 refine al (i:=8) (v:=ac q0 0) ?_
 refine al (i:=9) (v:=Value.agg #[Value.int .u32 (P.c:Nat),Value.int .i64 (P.o:Nat),Value.int .i64 (P.i:Nat),Value.int .i64 (P.t:Nat),Value.int .u32 (P.n:Nat)]) ?_
 refine al (i:=10) (v:=ac x 1) ?_
 refine al (i:=11) (v:=Value.slice (af q1 0) 1 1) ?_
 refine al (i:=12) (v:=Value.int .i64 0) ?_
 refine al (i:=13) (v:=ac q1 0) ?_
 refine al (i:=14) (v:=Value.agg #[Value.int .u32 (Q.c:Nat),Value.int .i64 (Q.o:Nat),Value.int .i64 (Q.i:Nat),Value.int .i64 (Q.t:Nat),Value.int .u32 (Q.n:Nat)]) ?_
 refine al (i:=15) (v:=ac x 2) ?_
 refine al (i:=16) (v:=Value.int .u32 (mx:Nat)) ?_
 refine nP (i:=4) (j:=17) (by kernel_rfl) ?_ ?_
 ·have x3:(wx.drew).cell? ⟨X,3,none⟩=some (Value.slice none 0 0):=HX0.out _ (Below.drew (Below.refl wx.heap.size wx))
  refine ir (Value.slice none 0 0) (wx.drew) rfl (by kernel_rfl) (by go_simp) ⟨HSS.out _ (Below.drew (Below.refl wx.heap.size wx)),?_⟩
  have HS0':=HSS.out _ (Below.drew (Below.refl wx.heap.size wx))
  refine aF (i:=17) 27 #[Value.agg #[Value.int .u32 (P.c:Nat),Value.int .i64 (P.o:Nat),Value.int .i64 (P.i:Nat),Value.int .i64 (P.t:Nat),Value.int .u32 (P.n:Nat)],Value.agg #[Value.int .u32 (Q.c:Nat),Value.int .i64 (Q.o:Nat),Value.int .i64 (Q.i:Nat),Value.int .i64 (Q.t:Nat),Value.int .u32 (Q.n:Nat)],Value.int .u32 (mx:Nat)] (by kernel_rfl) rfl (by kernel_rfl) (by go_simp) ?_
  refine (oq P Q hP hQ mx hmx h0 wx.drew).mono ?_
  rintro r w5 ⟨h,d,dm,g,rfl,H5⟩
  have b5:Below wx.heap.size wx w5:=(Below.drew (Below.refl wx.heap.size wx)).trans H5.out.1
  refine⟨_,rfl,HSS.out w5 b5,?_⟩
  have HS5:=HSS.out w5 b5
  have b6:=aM b5 (.cells (aA h d dm) 79)
  have k6:=aE w5 (.cells (aA h d dm) 79)
  have s6:=iK w5 (.cells (aA h d dm) 79)
  refine bZ (i:=18) (Value.slice (af w5.heap.size 0) 1 1) (w5.alloc (.cells (aA h d dm) 79)) (by kernel_rfl) rfl (by kernel_rfl) (by go_simp) (HSS.out _ b6) ?_
  have HS6:=HSS.out _ b6
  obtain⟨i0,hI,hz0,hz1,hz2⟩:=info_parts iP
  have hcs:∀ j u,([ac h 0,ac d 0,ac dm 0]:List Value)[j]?=some u→(w5.alloc (.cells (aA h d dm) 79)).cell? ((⟨w5.heap.size,0,none⟩:Addr).add j)=some u:=fun j u hu=>by
   have e:(Addr.add ⟨w5.heap.size,0,none⟩ j)=⟨w5.heap.size,j,none⟩:=by unfold Addr.add;simp;omega
   rw[e,ae _ _ j _ _ _ k6]
   simpa using hu
  obtain⟨v7,w7,hr7,o7,g7,_,p7⟩:=run_append_own_at (P:=prog) (w5.alloc (.cells (aA h d dm) 79)) wx.heap.size 71 71 79 i0 (.agg aK) 3 24 underlying71 hI hz0 hz1 hz2 rfl (by decide) (.slice none 0 0) 0 [] (World.ownsRow_nil _ _ _ _) ⟨w5.heap.size,0,none⟩ 1 1 [ac h 0,ac d 0,ac dm 0] rfl hcs (by intro u hu;simp at hu;rcases hu with rfl | rfl | rfl <;> rfl) (by unfold maxLen;omega) (by omega) (Nat.le_trans b5.size (by rw[s6];omega))
  obtain⟨av,cv,rfl⟩:=cN o7
  have b7:Below wx.heap.size wx w7:=b6.grown g7 b6.size (fun k hk=>by cases hk)
  refine bZ (i:=19) (Value.slice av 1 cv) w7 (by kernel_rfl) rfl (by kernel_rfl) (jU (s:=.tmp 27) (x:=.tmp 41) rfl rfl (by kernel_rfl) (by kernel_rfl) hr7) (HSS.out w7 b7) ?_
  have HS7:=HSS.out w7 b7
  refine al (i:=20) (v:=ac X 0) ?_
  refine al (i:=21) (v:=ac X 3) ?_
  obtain⟨kW,bW,sW,b13,bA⟩:=HW.out
  have lX:X<wx.heap.size:=by omega
  have kX7:=(b7.block X lX).trans kW
  have y3:=ae w7 X 3 _ _ _ kX7
  have yz:=frozen_of_row w7 X 3 _ _ kX7
  have o8:Off [X] w7 (w7.setCell ⟨X,3,none⟩ (.slice av 1 cv)):=Off.setCell X 3 w7 _
  have k8:(w7.setCell ⟨X,3,none⟩ (.slice av 1 cv)).heap[X]?=some (.cells #[.slice a0 1 c0,.slice a1 1 c1,.int .u32 (mx:Nat),.slice av 1 cv,ac b 0,.int .i64 0,.slice none 0 0] 74 (0,0)):=Joins.block_setCell kX7 _
  obtain⟨w8,hw8⟩:∃ z,w7.setCell ⟨X,3,none⟩ (.slice av 1 cv)=z:=⟨_,rfl⟩
  rw[hw8]at o8 k8
  have hS8:w8.cell? ⟨x,0,none⟩=some (Value.slice (af q0 0) 1 1)∧w8.cell? ⟨x,1,none⟩=some (Value.slice (af q1 0) 1 1)∧w8.cell? ⟨x,2,none⟩=some (Value.int .u32 (mx:Nat))∧w8.cell? ⟨q0,0,none⟩=some (Value.int .u32 (P.c:Nat))∧w8.cell? ⟨q0,1,none⟩=some (Value.int .i64 (P.o:Nat))∧w8.cell? ⟨q0,2,none⟩=some (Value.int .i64 (P.i:Nat))∧w8.cell? ⟨q0,3,none⟩=some (Value.int .i64 (P.t:Nat))∧w8.cell? ⟨q0,4,none⟩=some (Value.int .u32 (P.n:Nat))∧w8.cell? ⟨q1,0,none⟩=some (Value.int .u32 (Q.c:Nat))∧w8.cell? ⟨q1,1,none⟩=some (Value.int .i64 (Q.o:Nat))∧w8.cell? ⟨q1,2,none⟩=some (Value.int .i64 (Q.i:Nat))∧w8.cell? ⟨q1,3,none⟩=some (Value.int .i64 (Q.t:Nat))∧w8.cell? ⟨q1,4,none⟩=some (Value.int .u32 (Q.n:Nat)):=by
   obtain⟨u0,u1,u2,u3,u4,u5,u6,u7,u8,u9,u10,u11,u12⟩:=HS7
   have nx:x ∉ [X]:=by have:=HXX.out;simp;omega
   have n0':q0 ∉ [X]:=by have:=HXX.out;simp;omega
   have n1':q1 ∉ [X]:=by have:=HXX.out;simp;omega
   have ff:∀ q i v,q ∉ [X]→w7.cell? ⟨q,i,none⟩=some v→w8.cell? ⟨q,i,none⟩=some v:=fun q i v hq hc=>(World.cell?_of_block (w:=w7) (a:=⟨q,i,none⟩) (o8.block q (World.block_lt_of_cell? w7 ⟨q,i,none⟩ hc) hq)).trans hc
   exact⟨ff _ _ _ nx u0,ff _ _ _ nx u1,ff _ _ _ nx u2,ff _ _ _ n0' u3,ff _ _ _ n0' u4,ff _ _ _ n0' u5,ff _ _ _ n0' u6,ff _ _ _ n0' u7,ff _ _ _ n1' u8,ff _ _ _ n1' u9,ff _ _ _ n1' u10,ff _ _ _ n1' u11,ff _ _ _ n1' u12⟩
  refine cV (i:=22) w8 (by kernel_rfl) rfl (by kernel_rfl) (by rw[← hw8];go_simp) hS8 ?_
  refine wpAnyH_done (by kernel_rfl) ?_ _
  have hFin:=nwf P Q mx w w1 w2 w3 wx w5 w7 w8 X b a0 c0 a1 c1 h d dm g av cv bA H1.out H2.out H3.out Hb.out HX3.out kW bW H5.out b5 o7 g7 p7 s6 o8 k8
  have HF:Hid (_):=hFin
  have m0:w8.cell? ⟨x,0,none⟩=_:=hS8.1
  clear o8 k8 b5 b6 b7 o7 g7 p7 s6 sW kW bW b13 bA lX kX7 y3 yz hw8 HS7 HS6 HS5 HS0 k6 hcs hr7 n0 n1 n2 hS8 hFin H5
  go_wp2_with fail
  rw[rounds_succ]
  go_wp2_with fail
  go_ret2
  obtain⟨hU,dU,hF⟩:=HF.out
  exact⟨X,b,w2.heap.size,a0,c0,a1,c1,h,d,dm,g,av,cv,hU,dU,rfl,hF⟩
 ·refine nv 27 #[Value.agg #[Value.int .u32 (P.c:Nat),Value.int .i64 (P.o:Nat),Value.int .i64 (P.i:Nat),Value.int .i64 (P.t:Nat),Value.int .u32 (P.n:Nat)],Value.agg #[Value.int .u32 (Q.c:Nat),Value.int .i64 (Q.o:Nat),Value.int .i64 (Q.i:Nat),Value.int .i64 (Q.t:Nat),Value.int .u32 (Q.n:Nat)],Value.int .u32 (mx:Nat)] rfl (by kernel_rfl) (by go_simp) ?_
  refine (oq P Q hP hQ mx hmx h0 wx.drew).mono ?_
  rintro r w5 ⟨h,d,dm,g,rfl,H5⟩
  have b5:Below wx.heap.size wx w5:=(Below.drew (Below.refl wx.heap.size wx)).trans H5.out.1
  refine⟨_,rfl,HSS.out w5 b5,?_⟩
  have HS5:=HSS.out w5 b5
  refine nP (i:=4) (j:=18) (by kernel_rfl) ?_ ?_
  ·have x3:(w5).cell? ⟨X,3,none⟩=some (Value.slice none 0 0):=HX0.out _ (b5)
   refine ir (Value.slice none 0 0) (w5) rfl (by kernel_rfl) (by go_simp) ⟨HSS.out _ (b5),?_⟩
   have b6:=aM b5 (.cells (aA h d dm) 79)
   have k6:=aE w5 (.cells (aA h d dm) 79)
   have s6:=iK w5 (.cells (aA h d dm) 79)
   refine bZ (i:=18) (Value.slice (af w5.heap.size 0) 1 1) (w5.alloc (.cells (aA h d dm) 79)) (by kernel_rfl) rfl (by kernel_rfl) (by go_simp) (HSS.out _ b6) ?_
   have HS6:=HSS.out _ b6
   obtain⟨i0,hI,hz0,hz1,hz2⟩:=info_parts iP
   have hcs:∀ j u,([ac h 0,ac d 0,ac dm 0]:List Value)[j]?=some u→(w5.alloc (.cells (aA h d dm) 79)).cell? ((⟨w5.heap.size,0,none⟩:Addr).add j)=some u:=fun j u hu=>by
    have e:(Addr.add ⟨w5.heap.size,0,none⟩ j)=⟨w5.heap.size,j,none⟩:=by unfold Addr.add;simp;omega
    rw[e,ae _ _ j _ _ _ k6]
    simpa using hu
   obtain⟨v7,w7,hr7,o7,g7,_,p7⟩:=run_append_own_at (P:=prog) (w5.alloc (.cells (aA h d dm) 79)) wx.heap.size 71 71 79 i0 (.agg aK) 3 24 underlying71 hI hz0 hz1 hz2 rfl (by decide) (.slice none 0 0) 0 [] (World.ownsRow_nil _ _ _ _) ⟨w5.heap.size,0,none⟩ 1 1 [ac h 0,ac d 0,ac dm 0] rfl hcs (by intro u hu;simp at hu;rcases hu with rfl | rfl | rfl <;> rfl) (by unfold maxLen;omega) (by omega) (Nat.le_trans b5.size (by rw[s6];omega))
   obtain⟨av,cv,rfl⟩:=cN o7
   have b7:Below wx.heap.size wx w7:=b6.grown g7 b6.size (fun k hk=>by cases hk)
   refine bZ (i:=19) (Value.slice av 1 cv) w7 (by kernel_rfl) rfl (by kernel_rfl) (jU (s:=.tmp 27) (x:=.tmp 41) rfl rfl (by kernel_rfl) (by kernel_rfl) hr7) (HSS.out w7 b7) ?_
   have HS7:=HSS.out w7 b7
   refine al (i:=20) (v:=ac X 0) ?_
   refine al (i:=21) (v:=ac X 3) ?_
   obtain⟨kW,bW,sW,b13,bA⟩:=HW.out
   have lX:X<wx.heap.size:=by omega
   have kX7:=(b7.block X lX).trans kW
   have y3:=ae w7 X 3 _ _ _ kX7
   have yz:=frozen_of_row w7 X 3 _ _ kX7
   have o8:Off [X] w7 (w7.setCell ⟨X,3,none⟩ (.slice av 1 cv)):=Off.setCell X 3 w7 _
   have k8:(w7.setCell ⟨X,3,none⟩ (.slice av 1 cv)).heap[X]?=some (.cells #[.slice a0 1 c0,.slice a1 1 c1,.int .u32 (mx:Nat),.slice av 1 cv,ac b 0,.int .i64 0,.slice none 0 0] 74 (0,0)):=Joins.block_setCell kX7 _
   obtain⟨w8,hw8⟩:∃ z,w7.setCell ⟨X,3,none⟩ (.slice av 1 cv)=z:=⟨_,rfl⟩
   rw[hw8]at o8 k8
   have hS8:w8.cell? ⟨x,0,none⟩=some (Value.slice (af q0 0) 1 1)∧w8.cell? ⟨x,1,none⟩=some (Value.slice (af q1 0) 1 1)∧w8.cell? ⟨x,2,none⟩=some (Value.int .u32 (mx:Nat))∧w8.cell? ⟨q0,0,none⟩=some (Value.int .u32 (P.c:Nat))∧w8.cell? ⟨q0,1,none⟩=some (Value.int .i64 (P.o:Nat))∧w8.cell? ⟨q0,2,none⟩=some (Value.int .i64 (P.i:Nat))∧w8.cell? ⟨q0,3,none⟩=some (Value.int .i64 (P.t:Nat))∧w8.cell? ⟨q0,4,none⟩=some (Value.int .u32 (P.n:Nat))∧w8.cell? ⟨q1,0,none⟩=some (Value.int .u32 (Q.c:Nat))∧w8.cell? ⟨q1,1,none⟩=some (Value.int .i64 (Q.o:Nat))∧w8.cell? ⟨q1,2,none⟩=some (Value.int .i64 (Q.i:Nat))∧w8.cell? ⟨q1,3,none⟩=some (Value.int .i64 (Q.t:Nat))∧w8.cell? ⟨q1,4,none⟩=some (Value.int .u32 (Q.n:Nat)):=by
    obtain⟨u0,u1,u2,u3,u4,u5,u6,u7,u8,u9,u10,u11,u12⟩:=HS7
    have nx:x ∉ [X]:=by have:=HXX.out;simp;omega
    have n0':q0 ∉ [X]:=by have:=HXX.out;simp;omega
    have n1':q1 ∉ [X]:=by have:=HXX.out;simp;omega
    have ff:∀ q i v,q ∉ [X]→w7.cell? ⟨q,i,none⟩=some v→w8.cell? ⟨q,i,none⟩=some v:=fun q i v hq hc=>(World.cell?_of_block (w:=w7) (a:=⟨q,i,none⟩) (o8.block q (World.block_lt_of_cell? w7 ⟨q,i,none⟩ hc) hq)).trans hc
    exact⟨ff _ _ _ nx u0,ff _ _ _ nx u1,ff _ _ _ nx u2,ff _ _ _ n0' u3,ff _ _ _ n0' u4,ff _ _ _ n0' u5,ff _ _ _ n0' u6,ff _ _ _ n0' u7,ff _ _ _ n1' u8,ff _ _ _ n1' u9,ff _ _ _ n1' u10,ff _ _ _ n1' u11,ff _ _ _ n1' u12⟩
   refine cV (i:=22) w8 (by kernel_rfl) rfl (by kernel_rfl) (by rw[← hw8];go_simp) hS8 ?_
   refine wpAnyH_done (by kernel_rfl) ?_ _
   have hFin:=nwf P Q mx w w1 w2 w3 wx w5 w7 w8 X b a0 c0 a1 c1 h d dm g av cv bA H1.out H2.out H3.out Hb.out HX3.out kW bW H5.out b5 o7 g7 p7 s6 o8 k8
   have HF:Hid (_):=hFin
   have m0:w8.cell? ⟨x,0,none⟩=_:=hS8.1
   clear o8 k8 b5 b6 b7 o7 g7 p7 s6 sW kW bW b13 bA lX kX7 y3 yz hw8 HS7 HS6 HS5 HS0 k6 hcs hr7 n0 n1 n2 hS8 hFin H5
   go_wp2_with fail
   rw[rounds_succ]
   go_wp2_with fail
   go_ret2
   obtain⟨hU,dU,hF⟩:=HF.out
   exact⟨X,b,w2.heap.size,a0,c0,a1,c1,h,d,dm,g,av,cv,hU,dU,rfl,hF⟩
  ·have b6:=aM b5 (.cells (aA h d dm) 79)
   have k6:=aE w5 (.cells (aA h d dm) 79)
   have s6:=iK w5 (.cells (aA h d dm) 79)
   refine ir (Value.slice (af w5.heap.size 0) 1 1) (w5.alloc (.cells (aA h d dm) 79)) rfl (by kernel_rfl) (by go_simp) ⟨HSS.out _ b6,?_⟩
   have x3:((w5.alloc (.cells (aA h d dm) 79))).cell? ⟨X,3,none⟩=some (Value.slice none 0 0):=HX0.out _ (b6)
   refine tK (i:=4) (Value.slice none 0 0) (by kernel_rfl) rfl (by kernel_rfl) (by go_simp) (HSS.out _ (b6)) ?_
   have HS6:=HSS.out _ b6
   obtain⟨i0,hI,hz0,hz1,hz2⟩:=info_parts iP
   have hcs:∀ j u,([ac h 0,ac d 0,ac dm 0]:List Value)[j]?=some u→(w5.alloc (.cells (aA h d dm) 79)).cell? ((⟨w5.heap.size,0,none⟩:Addr).add j)=some u:=fun j u hu=>by
    have e:(Addr.add ⟨w5.heap.size,0,none⟩ j)=⟨w5.heap.size,j,none⟩:=by unfold Addr.add;simp;omega
    rw[e,ae _ _ j _ _ _ k6]
    simpa using hu
   obtain⟨v7,w7,hr7,o7,g7,_,p7⟩:=run_append_own_at (P:=prog) (w5.alloc (.cells (aA h d dm) 79)) wx.heap.size 71 71 79 i0 (.agg aK) 3 24 underlying71 hI hz0 hz1 hz2 rfl (by decide) (.slice none 0 0) 0 [] (World.ownsRow_nil _ _ _ _) ⟨w5.heap.size,0,none⟩ 1 1 [ac h 0,ac d 0,ac dm 0] rfl hcs (by intro u hu;simp at hu;rcases hu with rfl | rfl | rfl <;> rfl) (by unfold maxLen;omega) (by omega) (Nat.le_trans b5.size (by rw[s6];omega))
   obtain⟨av,cv,rfl⟩:=cN o7
   have b7:Below wx.heap.size wx w7:=b6.grown g7 b6.size (fun k hk=>by cases hk)
   refine bZ (i:=19) (Value.slice av 1 cv) w7 (by kernel_rfl) rfl (by kernel_rfl) (jU (s:=.tmp 27) (x:=.tmp 41) rfl rfl (by kernel_rfl) (by kernel_rfl) hr7) (HSS.out w7 b7) ?_
   have HS7:=HSS.out w7 b7
   refine al (i:=20) (v:=ac X 0) ?_
   refine al (i:=21) (v:=ac X 3) ?_
   obtain⟨kW,bW,sW,b13,bA⟩:=HW.out
   have lX:X<wx.heap.size:=by omega
   have kX7:=(b7.block X lX).trans kW
   have y3:=ae w7 X 3 _ _ _ kX7
   have yz:=frozen_of_row w7 X 3 _ _ kX7
   have o8:Off [X] w7 (w7.setCell ⟨X,3,none⟩ (.slice av 1 cv)):=Off.setCell X 3 w7 _
   have k8:(w7.setCell ⟨X,3,none⟩ (.slice av 1 cv)).heap[X]?=some (.cells #[.slice a0 1 c0,.slice a1 1 c1,.int .u32 (mx:Nat),.slice av 1 cv,ac b 0,.int .i64 0,.slice none 0 0] 74 (0,0)):=Joins.block_setCell kX7 _
   obtain⟨w8,hw8⟩:∃ z,w7.setCell ⟨X,3,none⟩ (.slice av 1 cv)=z:=⟨_,rfl⟩
   rw[hw8]at o8 k8
   have hS8:w8.cell? ⟨x,0,none⟩=some (Value.slice (af q0 0) 1 1)∧w8.cell? ⟨x,1,none⟩=some (Value.slice (af q1 0) 1 1)∧w8.cell? ⟨x,2,none⟩=some (Value.int .u32 (mx:Nat))∧w8.cell? ⟨q0,0,none⟩=some (Value.int .u32 (P.c:Nat))∧w8.cell? ⟨q0,1,none⟩=some (Value.int .i64 (P.o:Nat))∧w8.cell? ⟨q0,2,none⟩=some (Value.int .i64 (P.i:Nat))∧w8.cell? ⟨q0,3,none⟩=some (Value.int .i64 (P.t:Nat))∧w8.cell? ⟨q0,4,none⟩=some (Value.int .u32 (P.n:Nat))∧w8.cell? ⟨q1,0,none⟩=some (Value.int .u32 (Q.c:Nat))∧w8.cell? ⟨q1,1,none⟩=some (Value.int .i64 (Q.o:Nat))∧w8.cell? ⟨q1,2,none⟩=some (Value.int .i64 (Q.i:Nat))∧w8.cell? ⟨q1,3,none⟩=some (Value.int .i64 (Q.t:Nat))∧w8.cell? ⟨q1,4,none⟩=some (Value.int .u32 (Q.n:Nat)):=by
    obtain⟨u0,u1,u2,u3,u4,u5,u6,u7,u8,u9,u10,u11,u12⟩:=HS7
    have nx:x ∉ [X]:=by have:=HXX.out;simp;omega
    have n0':q0 ∉ [X]:=by have:=HXX.out;simp;omega
    have n1':q1 ∉ [X]:=by have:=HXX.out;simp;omega
    have ff:∀ q i v,q ∉ [X]→w7.cell? ⟨q,i,none⟩=some v→w8.cell? ⟨q,i,none⟩=some v:=fun q i v hq hc=>(World.cell?_of_block (w:=w7) (a:=⟨q,i,none⟩) (o8.block q (World.block_lt_of_cell? w7 ⟨q,i,none⟩ hc) hq)).trans hc
    exact⟨ff _ _ _ nx u0,ff _ _ _ nx u1,ff _ _ _ nx u2,ff _ _ _ n0' u3,ff _ _ _ n0' u4,ff _ _ _ n0' u5,ff _ _ _ n0' u6,ff _ _ _ n0' u7,ff _ _ _ n1' u8,ff _ _ _ n1' u9,ff _ _ _ n1' u10,ff _ _ _ n1' u11,ff _ _ _ n1' u12⟩
   refine cV (i:=22) w8 (by kernel_rfl) rfl (by kernel_rfl) (by rw[← hw8];go_simp) hS8 ?_
   refine wpAnyH_done (by kernel_rfl) ?_ _
   have hFin:=nwf P Q mx w w1 w2 w3 wx w5 w7 w8 X b a0 c0 a1 c1 h d dm g av cv bA H1.out H2.out H3.out Hb.out HX3.out kW bW H5.out b5 o7 g7 p7 s6 o8 k8
   have HF:Hid (_):=hFin
   have m0:w8.cell? ⟨x,0,none⟩=_:=hS8.1
   clear o8 k8 b5 b6 b7 o7 g7 p7 s6 sW kW bW b13 bA lX kX7 y3 yz hw8 HS7 HS6 HS5 HS0 k6 hcs hr7 n0 n1 n2 hS8 hFin H5
   go_wp2_with fail
   rw[rounds_succ]
   go_wp2_with fail
   go_ret2
   obtain⟨hU,dU,hF⟩:=HF.out
   exact⟨X,b,w2.heap.size,a0,c0,a1,c1,h,d,dm,g,av,cv,hU,dU,rfl,hF⟩
end Go.Proofs.YtfgnmadnmjdbiaaGreat
