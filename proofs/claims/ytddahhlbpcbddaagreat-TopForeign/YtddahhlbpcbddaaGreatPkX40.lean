/- Part 41: contracts that the proof rests on. -/
import Derived.Test.YtddahhlbpcbddaaGreatPkX39
set_option maxHeartbeats 64000000
set_option maxRecDepth 100000
namespace Go.Proofs.YtddahhlbpcbddaaGreat
open Tryz
open Go.RowKit Go.Maps
set_option linter.unusedVariables false
def NgI (w wr:World) (X b x n mx:Nat) (PH PD:Nat→Pm) (v0 v1:Value) (ob:Obj) (i:Nat):Prop:=∃ G:Ng,G.i=i∧G.X=X∧G.b=b∧G.x=x∧G.n=n∧G.mx=mx∧G.PH=PH∧G.PD=PD∧G.v0=v0∧G.v1=v1∧G.ob=ob∧Al w wr G.t
theorem kO {w wr w5 w6 w7 w8:World} {X b x n mx i:Nat} {PH PD:Nat→Pm} {v0 v1:Value} {ob:Obj} {G:Ng} {P Q:Pm} (A:Al w wr G.t) (hG:G.i=i∧G.X=X∧G.b=b∧G.x=x∧G.n=n∧G.mx=mx∧G.PH=PH∧G.PD=PD∧G.v0=v0∧G.v1=v1∧G.ob=ob) (b5:Below wr.heap.size wr w5) {h d dm g:Nat}
  (H5:Below wr.drew.heap.size wr.drew w5∧∃ hU dU,HV w5 h P hU bY∧DV w5 d dm g 16 mx Q dU (dD M0)∧(∀ k,k ∈ hU→wr.drew.heap.size≤k)∧(∀ k,k ∈ dU→wr.drew.heap.size≤k)∧∀ k,k ∈ hU→k ∉ dU) (hP:PH i=P) (hQ:PD i=Q) (b6:Below w5.heap.size w5 w6) {vc:Value}
  (o7:w7.ownsRow 0 87 3 vc (i+1) (io i G.h G.d G.dm ++ nS h d dm)) (g7:w6.grownBy w7 G.vc.ownBlock) (p7:vc.ownBlock=G.vc.ownBlock∨vc.ownBlock=some w6.heap.size) (o8:Off [X] w7 w8) (k8:w8.heap[X]?=some (.cells #[v0,v1,.int .u32 (mx:Nat),vc,ac b 0,.int .i64 0,.slice none 0 0] 82 (0,0))):NgI w w8 X b x n mx PH PD v0 v1 ob (i+1):=by
 obtain⟨_,hU,dU,hv,dv,hUg,dUg,dis⟩:=H5
 obtain⟨rfl,rfl,rfl,rfl,rfl,rfl,rfl,rfl,rfl,rfl,rfl⟩:=hG
 subst hP hQ
 exact⟨G.more vc h d dm g hU dU,rfl,rfl,rfl,rfl,rfl,rfl,rfl,rfl,rfl,rfl,rfl,Ng.step A b5 hv dv hUg dUg dis b6 o7 g7 p7 o8 k8⟩
theorem wC (PH PD:Nat→Pm) (q0 o0 v0 q1 o1 v1 n mx:Nat) (hH:∀ k,k<n→Pok (PH k)) (hD:∀ k,k<n→Pok (PD k)) (hmx:mx<4294967296) (h0:mx≠0) (hn0:0<n) (hn8:n≤1000) (hu0:n≤v0) (hu1:n≤v1) (w:World) (k0:PqRow w (af q0 o0) n (fun i=>(PH i).q)) (k1:PqRow w (af q1 o1) n (fun i=>(PD i).q)) (hck:ckE n n mx (fun i=>(PH i).q) (fun i=>(PD i).q)=0):Calls prog 8 #[.agg #[.slice (af q0 o0) n v0,.slice (af q1 o1) n v1,.int .u32 (mx:Nat)]] w fun r w'=>∃ L:Pw,r=.returned (.tuple #[ac L.x 0,.int .i64 0])∧Hid (PW ev w w' (iB L) L∧L.S=sN n mx PH PD):=by
 have kA:=ay w (.cells #[.slice (af q0 o0) n v0,.slice (af q1 o1) n v1,.int .u32 (mx:Nat)] 30)
 have bA:=az (Below.refl _ w) (.cells #[.slice (af q0 o0) n v0,.slice (af q1 o1) n v1,.int .u32 (mx:Nat)] 30)
 have sA:=iy w (.cells #[.slice (af q0 o0) n v0,.slice (af q1 o1) n v1,.int .u32 (mx:Nat)] 30)
 obtain⟨wa,hwa⟩:∃ y,w.alloc (.cells #[.slice (af q0 o0) n v0,.slice (af q1 o1) n v1,.int .u32 (mx:Nat)] 30)=y:=⟨_,rfl⟩
 rw[hwa]at kA bA sA
 obtain⟨x,hx⟩:∃ y,w.heap.size=y:=⟨_,rfl⟩
 rw[hx]at kA sA
 have y0:wa.cell? ⟨x,0,none⟩=some (.slice (af q0 o0) n v0):=ae wa x 0 _ _ _ kA
 have y1:wa.cell? ⟨x,1,none⟩=some (.slice (af q1 o1) n v1):=ae wa x 1 _ _ _ kA
 have y2:wa.cell? ⟨x,2,none⟩=some (.int .u32 (mx:Nat)):=ae wa x 2 _ _ _ kA
 have hCk:=xi (fun i=>(PH i).q) (fun i=>(PD i).q) (af q0 o0) (af q1 o1) n v0 n v1 mx wa (k0.below bA) (k1.below bA) hu0 hu1 (by omega) (by omega)
 rw[hck]at hCk
 have HH:Hid (_):=And.intro bA (And.intro kA (And.intro k0 (And.intro k1 sA)))
 have HE:Hid (_=wa):=hwa
 have HS:Hid (w.heap.size=x):=hx
 have HPk:Hid (_):=And.intro hH hD
 clear bA kA k0 k1 hwa hx sA hck hH hD
 go_enter func8,ntmps8
 go_upto_region 1 with fail
 rw[HE.out,HS.out]
 go_wp2_with fail
 refine hCk.mono ?_
 rintro r w1 ⟨rfl,H1⟩
 clear hCk y0 y1 y2
 obtain⟨bA,kA,k0,k1,sA⟩:=HH.out
 have b1:=H1.out
 have hb01:=bA.trans (b1.mono bA.size)
 have kx:=(b1.block x (Array.getElem?_eq_some_iff.1 kA).1).trans kA
 have y0:w1.cell? ⟨x,0,none⟩=some (.slice (af q0 o0) n v0):=ae w1 x 0 _ _ _ kx
 have y1:w1.cell? ⟨x,1,none⟩=some (.slice (af q1 o1) n v1):=ae w1 x 1 _ _ _ kx
 have y2:w1.cell? ⟨x,2,none⟩=some (.int .u32 (mx:Nat)):=ae w1 x 2 _ _ _ kx
 have hCo:=uM (fun i=>(PH i).q) (fun i=>(PD i).q) q0 o0 v0 q1 o1 v1 n mx w1 (PqRow.below k0 hb01) (PqRow.below k1 hb01) (by omega)
 clear bA kA k0 k1 sA b1 hb01 kx
 go_wp2_with fail
 refine hCo.mono ?_
 rintro r w2 ⟨a0,c0,a1,c1,rfl,H2⟩
 clear hCo y0 y1 y2
 have hBn:=vE w2
 go_wp2_with fail
 refine hBn.mono ?_
 rintro r w3 ⟨rfl,H3⟩
 clear hBn
 obtain⟨b,hb⟩:∃ y,w2.heap.size+1=y:=⟨_,rfl⟩
 rw[hb]
 have kW:=ay w3 (.cells #[.slice a0 n c0,.slice a1 n c1,.int .u32 (mx:Nat),.slice none 0 0,ac b 0,.int .i64 0,.slice none 0 0] 82)
 have bW:=az (Below.refl _ w3) (.cells #[.slice a0 n c0,.slice a1 n c1,.int .u32 (mx:Nat),.slice none 0 0,ac b 0,.int .i64 0,.slice none 0 0] 82)
 obtain⟨wx,hwx⟩:∃ y,w3.alloc (.cells #[.slice a0 n c0,.slice a1 n c1,.int .u32 (mx:Nat),.slice none 0 0,ac b 0,.int .i64 0,.slice none 0 0] 82)=y:=⟨_,rfl⟩
 obtain⟨X,hX⟩:∃ y,w3.heap.size=y:=⟨_,rfl⟩
 rw[hwx]at kW bW
 rw[hX]at kW
 obtain⟨bA,kA,k0,k1,sA⟩:=HH.out
 have b1:=H1.out
 obtain⟨r0,r1,b2,d01⟩:=H2.out
 obtain⟨b3,hg,s3⟩:=H3.out
 have b13:Below wa.heap.size wa wx:=((b1.trans (b2.mono b1.size)).trans (b3.mono (Nat.le_trans b1.size b2.size))).trans (bW.mono (Nat.le_trans (Nat.le_trans b1.size b2.size) b3.size))
 have kx:=(b13.block x (Array.getElem?_eq_some_iff.1 kA).1).trans kA
 have b2x:Below w2.heap.size w2 wx:=b3.trans (bW.mono b3.size)
 have s1:=b1.size
 have hsx:=HS.out
 have A0:NgI w wx X b x n mx PH PD (.slice a0 n c0) (.slice a1 n c1) (.cells #[.slice (af q0 o0) n v0,.slice (af q1 o1) n v1,.int .u32 (mx:Nat)] 30 (0,0)) 0:=by
  refine⟨⟨X,b,w2.heap.size,x,.slice a0 n c0,.slice a1 n c1,.slice none 0 0,n,0,mx,PH,PD,fun _=>0,fun _=>0,fun _=>0,fun _=>0,fun _=>[],fun _=>[],.cells #[.slice (af q0 o0) n v0,.slice (af q1 o1) n v1,.int .u32 (mx:Nat)] 30 (0,0)⟩,rfl,rfl,rfl,rfl,rfl,rfl,rfl,rfl,rfl,rfl,rfl,Ng.start rfl rfl (bA.trans (b13.mono bA.size)) kW (iL (bG (l:=[]) r0 (Off.of_below b2x) (by simp)) (Nat.zero_le _)) (iL (bG (l:=[]) r1 (Off.of_below b2x) (by simp)) (Nat.zero_le _)) ?_ kx hsx.symm (fun k hk=>?_) (fun k hk=>?_) d01 hb.symm ?_ ?_⟩
  ·have hh:Bg 0 w3 (w2.heap.size+1) w2.heap.size (.slice none 0 0) [] none []:=⟨hg.at_,⟨⟨rfl,.inl ⟨rfl,rfl⟩⟩,fun i f hi=>by simp at hi,fun f hf=>by simp at hf,by simp⟩,hg.met,hg.pk,Nat.zero_le _,Nat.zero_le _⟩
   rw[hb]at hh
   exact hh.below bW
  ·have:=r0.lt k hk
   show w.heap.size<k∧k<w2.heap.size
   omega
  ·have:=r1.lt k hk
   show w.heap.size<k∧k<w2.heap.size
   omega
  ·show X=w2.heap.size+2
   omega
  ·show w.heap.size<w2.heap.size
   have:=b2.size
   omega
 have y0:wx.cell? ⟨x,0,none⟩=some (.slice (af q0 o0) n v0):=ae wx x 0 _ _ _ kx
 have HA0:Hid (_):=A0
 have HE3:Hid (_=wx):=hwx
 have HX3:Hid (w3.heap.size=X):=hX
 have HK0:Hid (_):=And.intro k0 (And.intro k1 (And.intro (show w.heap.size<X by have:=b2.size;omega) hsx))
 clear bA kA k0 k1 sA b1 r0 r1 b2 d01 b3 hg s3 b13 kx b2x s1 A0 kW bW hwx hX hb hsx
 go_upto_region 5 with fail
 rw[HE3.out,HX3.out]
 go_wp2_with fail
 go_loopw [6,20,21,22,23,24,25,26,27,28,29,30,31,32,33,34,35,36,37,38,39,40,41,42,43,44,45] (fun _ ctr _ _ _ _ _ _ _ _ _ _ _ _ _ _ _ _ _ _ _ _ _ _ _ _ _ wr=>∃ i:Nat,i≤n∧ctr=.int .i64 ((i:Nat):Int)∧Hid (NgI w wr X b x n mx PH PD (.slice a0 n c0) (.slice a1 n c1) (.cells #[.slice (af q0 o0) n v0,.slice (af q1 o1) n v1,.int .u32 (mx:Nat)] 30 (0,0)) i)) (fun _ ctr _ _ _ _ _ _ _ _ _ _ _ _ _ _ _ _ _ _ _ _ _ _ _ _ _ _=>n-il ctr)
 case atStart=>exact⟨0,by omega,rfl,HA0.out⟩
 case round=>
  obtain⟨i,hi,rfl,HI⟩:=hrel
  obtain⟨G,g1,g2,g3,g4,g5,g6,g7,g8,g9,g10,g11,A⟩:=HI.out
  by_cases hlt:i<n
  rotate_left
  ·obtain rfl:i=n:=by omega
   have hlt':¬ ((i:Nat):Int) < ((i:Nat):Int):=by omega
   have HW:Hid (_):=Ng.world A (by rw[g1,g5])
   have HSn:Hid (G.pw.S=sN i mx PH PD):=by show sN G.n G.mx G.PH G.PD=_;rw[g5,g6,g7,g8]
   have HXx:Hid (G.pw.x=X):=g2
   clear A g1 g2 g3 g4 g5 g6 g7 g8 g9 g10 g11
   go_wp2_with fail
   go_ret2
   exact⟨G.pw,by rw[HXx.out] <;> rfl,HW.out,HSn.out⟩
  have hlt':((i:Nat):Int) < ((n:Nat):Int):=by omega
  obtain⟨P,hP⟩:∃ z,PH i=z:=⟨_,rfl⟩
  obtain⟨Q,hQ⟩:∃ z,PD i=z:=⟨_,rfl⟩
  have hPo:Pok P:=by rw[← hP];exact HPk.out.1 i hlt
  have hQo:Pok Q:=by rw[← hQ];exact HPk.out.2 i hlt
  obtain⟨k0,k1,lwX,hsx⟩:=HK0.out
  obtain⟨z0,p0,ez0,cc0⟩:=(PqRow.below k0 A.bel) i hlt
  obtain⟨z1,p1,ez1,cc1⟩:=(PqRow.below k1 A.bel) i hlt
  obtain⟨_,_,ew0,dd0⟩:=k0 i hlt
  obtain⟨_,_,ew1,dd1⟩:=k1 i hlt
  have lq0:q0<w.heap.size:=by
   injection ew0 with ew0
   injection ew0 with e1 e2
   subst e1 e2
   exact World.block_lt_of_cell? w _ (dd0 0 _ rfl)
  have lq1:q1<w.heap.size:=by
   injection ew1 with ew1
   injection ew1 with e1 e2
   subst e1 e2
   exact World.block_lt_of_cell? w _ (dd1 0 _ rfl)
  injection ez0 with ez0
  injection ez0 with e1 e2
  subst e1 e2
  injection ez1 with ez1
  injection ez1 with e1 e2
  subst e1 e2
  dsimp only at cc0 cc1
  rw[hP]at cc0
  rw[hQ]at cc1
  have bx:wr.heap[x]?=some (.cells #[.slice (af q0 o0) n v0,.slice (af q1 o1) n v1,.int .u32 (mx:Nat)] 30 (0,0)):=by
   have:=A.get (i:=5) (x:=fI [(G.x,G.ob)]) rfl _ (List.mem_cons_self ..)
   rw[g4,g11]at this
   exact this
  have rc:=A.get (i:=3) (x:=lP 87 3 G.vc G.i (io G.i G.h G.d G.dm)) rfl
  have rc':wr.ownsRow 0 87 3 G.vc G.i (io G.i G.h G.d G.dm):=rc
  obtain⟨av,cv,ev⟩:=cr rc'
  rw[g1]at rc' ev
  have bX:wr.heap[X]?=some (.cells #[.slice a0 n c0,.slice a1 n c1,.int .u32 (mx:Nat),.slice av i cv,ac b 0,.int .i64 0,.slice none 0 0] 82 (0,0)):=by
   have:=A.get (i:=0) (x:=fI [(G.X,G.blk)]) rfl _ (List.mem_cons_self ..)
   unfold Ng.blk at this
   rw[g2,g9,g10,g6,ev,g3]at this
   exact this
  have hne:∀ k j,k ∈ (G.t j).U→j≠3→(Value.slice av i cv).ownBlock≠some k:=fun k j hk hj e=>A.dis 3 j (fun q=>hj q.symm) k (by show k ∈ G.vc.ownBlock.toList;rw[ev,e];simp) hk
  have hne2:∀ k,k<w.heap.size→(Value.slice av i cv).ownBlock≠some k:=fun k hk e=>by
   have:=(A.lt 3 k (by show k ∈ G.vc.ownBlock.toList;rw[ev,e];simp)).1
   omega
  have HNE:Hid ((Value.slice av i cv).ownBlock≠some x∧(Value.slice av i cv).ownBlock≠some q0∧(Value.slice av i cv).ownBlock≠some q1∧(Value.slice av i cv).ownBlock≠some X):=⟨hne x 5 (by show x ∈ [G.x];simp[g4]) (by omega),hne2 q0 lq0,hne2 q1 lq1,hne X 0 (by show X ∈ [G.X];simp[g2]) (by omega)⟩
  have HXX:Hid (x≠X∧q0≠X∧q1≠X):=⟨by omega,by omega,by omega⟩
  have hS:∀ w',Below wr.heap.size wr w'→w'.cell? ⟨x,0,none⟩=some (Value.slice (af q0 o0) n v0)∧w'.cell? ⟨x,1,none⟩=some (Value.slice (af q1 o1) n v1)∧w'.cell? ⟨x,2,none⟩=some (Value.int .u32 (mx:Nat))∧w'.cell? ⟨q0,o0+i*5,none⟩=some (Value.int .u32 (P.c:Nat))∧w'.cell? ⟨q0,o0+i*5+1,none⟩=some (Value.int .i64 (P.o:Nat))∧w'.cell? ⟨q0,o0+i*5+2,none⟩=some (Value.int .i64 (P.i:Nat))∧w'.cell? ⟨q0,o0+i*5+3,none⟩=some (Value.int .i64 (P.t:Nat))∧w'.cell? ⟨q0,o0+i*5+4,none⟩=some (Value.int .u32 (P.n:Nat))∧w'.cell? ⟨q1,o1+i*5,none⟩=some (Value.int .u32 (Q.c:Nat))∧w'.cell? ⟨q1,o1+i*5+1,none⟩=some (Value.int .i64 (Q.o:Nat))∧w'.cell? ⟨q1,o1+i*5+2,none⟩=some (Value.int .i64 (Q.i:Nat))∧w'.cell? ⟨q1,o1+i*5+3,none⟩=some (Value.int .i64 (Q.t:Nat))∧w'.cell? ⟨q1,o1+i*5+4,none⟩=some (Value.int .u32 (Q.n:Nat)):=fun w' bb=>⟨ag (ae wr x 0 _ _ _ bx) bb,ag (ae wr x 1 _ _ _ bx) bb,ag (ae wr x 2 _ _ _ bx) bb,ag (cc0 0 _ rfl) bb,ag (cc0 1 _ rfl) bb,ag (cc0 2 _ rfl) bb,ag (cc0 3 _ rfl) bb,ag (cc0 4 _ rfl) bb,ag (cc1 0 _ rfl) bb,ag (cc1 1 _ rfl) bb,ag (cc1 2 _ rfl) bb,ag (cc1 3 _ rfl) bb,ag (cc1 4 _ rfl) bb⟩
  have HT0:=hS wr.drew (Below.drew (Below.refl _ _))
  have HSS:Hid (_):=hS
  have HX0:Hid (∀ w',Below wr.heap.size wr w'→w'.cell? ⟨X,3,none⟩=some (Value.slice av i cv)):=fun w' bb=>ag (ae wr X 3 _ _ _ bX) bb
  have HXb:Hid (_):=bX
  have HRC:Hid (wr.ownsRow 0 87 3 (.slice av i cv) i (io i G.h G.d G.dm)):=by rw[← ev];exact rc'
  have HNG:Hid (Al w wr G.t):=A
  have HGi:Hid (_):=And.intro g1 (And.intro g2 (And.intro g3 (And.intro g4 (And.intro g5 (And.intro g6 (And.intro g7 (And.intro g8 (And.intro g9 (And.intro g10 g11)))))))))
  have HEv:Hid (G.vc=_):=ev
  have HPQ:Hid (_):=And.intro hP hQ
  clear cc0 cc1 bx rc rc' ev bX hne hne2 hS A g1 g2 g3 g4 g5 g6 g7 g8 g9 g10 g11 hP hQ lq0 lq1 k0 k1 lwX hsx dd0 dd1 ew0 ew1
  go_upto_region 8 with fail
  refine wp_region_held_drew (S:=fun w'=>w'.cell? ⟨x,0,none⟩=some (Value.slice (af q0 o0) n v0)∧w'.cell? ⟨x,1,none⟩=some (Value.slice (af q1 o1) n v1)∧w'.cell? ⟨x,2,none⟩=some (Value.int .u32 (mx:Nat))∧w'.cell? ⟨q0,o0+i*5,none⟩=some (Value.int .u32 (P.c:Nat))∧w'.cell? ⟨q0,o0+i*5+1,none⟩=some (Value.int .i64 (P.o:Nat))∧w'.cell? ⟨q0,o0+i*5+2,none⟩=some (Value.int .i64 (P.i:Nat))∧w'.cell? ⟨q0,o0+i*5+3,none⟩=some (Value.int .i64 (P.t:Nat))∧w'.cell? ⟨q0,o0+i*5+4,none⟩=some (Value.int .u32 (P.n:Nat))∧w'.cell? ⟨q1,o1+i*5,none⟩=some (Value.int .u32 (Q.c:Nat))∧w'.cell? ⟨q1,o1+i*5+1,none⟩=some (Value.int .i64 (Q.o:Nat))∧w'.cell? ⟨q1,o1+i*5+2,none⟩=some (Value.int .i64 (Q.i:Nat))∧w'.cell? ⟨q1,o1+i*5+3,none⟩=some (Value.int .i64 (Q.t:Nat))∧w'.cell? ⟨q1,o1+i*5+4,none⟩=some (Value.int .u32 (Q.n:Nat))) (by kernel_rfl) HT0 (fun _=>?_)
  refine an (i:=0) (v:=ac X 0) ?_
  refine an (i:=1) (v:=ac X 0) ?_
  refine an (i:=2) (v:=ac X 0) ?_
  refine an (i:=3) (v:=ac X 3) ?_
  refine an (i:=5) (v:=ac x 0) ?_
  refine an (i:=6) (v:=Value.slice (af q0 o0) n v0) ?_
  refine an (i:=7) (v:=Value.int .i64 (i:Nat)) ?_
  refine an (i:=8) (v:=ac q0 (o0+i*5)) ?_
  refine an (i:=9) (v:=Value.agg #[Value.int .u32 (P.c:Nat),Value.int .i64 (P.o:Nat),Value.int .i64 (P.i:Nat),Value.int .i64 (P.t:Nat),Value.int .u32 (P.n:Nat)]) ?_
  refine an (i:=10) (v:=ac x 1) ?_
  refine an (i:=11) (v:=Value.slice (af q1 o1) n v1) ?_
  refine an (i:=12) (v:=Value.int .i64 (i:Nat)) ?_
  refine an (i:=13) (v:=ac q1 (o1+i*5)) ?_
  refine an (i:=14) (v:=Value.agg #[Value.int .u32 (Q.c:Nat),Value.int .i64 (Q.o:Nat),Value.int .i64 (Q.i:Nat),Value.int .i64 (Q.t:Nat),Value.int .u32 (Q.n:Nat)]) ?_
  refine an (i:=15) (v:=ac x 2) ?_
  refine an (i:=16) (v:=Value.int .u32 (mx:Nat)) ?_
  refine pz (i:=4) (j:=17) (by kernel_rfl) ?_ ?_
  ·have x3:(wr.drew).cell? ⟨X,3,none⟩=some (Value.slice av i cv):=HX0.out _ (Below.drew (Below.refl wr.heap.size wr))
   refine dk (Value.slice av i cv) (wr.drew) rfl (by kernel_rfl) (by go_simp) ⟨HSS.out _ (Below.drew (Below.refl wr.heap.size wr)),?_⟩
   have HS0':=HSS.out _ (Below.drew (Below.refl wr.heap.size wr))
   refine aF (i:=17) 25 #[Value.agg #[Value.int .u32 (P.c:Nat),Value.int .i64 (P.o:Nat),Value.int .i64 (P.i:Nat),Value.int .i64 (P.t:Nat),Value.int .u32 (P.n:Nat)],Value.agg #[Value.int .u32 (Q.c:Nat),Value.int .i64 (Q.o:Nat),Value.int .i64 (Q.i:Nat),Value.int .i64 (Q.t:Nat),Value.int .u32 (Q.n:Nat)],Value.int .u32 (mx:Nat)] (by kernel_rfl) rfl (by kernel_rfl) (by go_simp) ?_
   refine (pZ P Q hPo hQo mx hmx h0 wr.drew).mono ?_
   rintro r w5 ⟨h,d,dm,g,rfl,H5⟩
   have b5:Below wr.heap.size wr w5:=(Below.drew (Below.refl wr.heap.size wr)).trans H5.out.1
   refine⟨_,rfl,HSS.out w5 b5,?_⟩
   have HS5:=HSS.out w5 b5
   have b6:=az b5 (.cells (aB h d dm) 87)
   have k6:=ay w5 (.cells (aB h d dm) 87)
   have s6:=iy w5 (.cells (aB h d dm) 87)
   refine cF (i:=18) (Value.slice (af w5.heap.size 0) 1 1) (w5.alloc (.cells (aB h d dm) 87)) (by kernel_rfl) rfl (by kernel_rfl) (by go_simp) (HSS.out _ b6) ?_
   have HS6:=HSS.out _ b6
   obtain⟨i0,hI,hz0,hz1,hz2⟩:=info_parts jD
   have hcs:∀ j u,(nS h d dm)[j]?=some u→(w5.alloc (.cells (aB h d dm) 87)).cell? ((⟨w5.heap.size,0,none⟩:Addr).add j)=some u:=fun j u hu=>by
    have e:(Addr.add ⟨w5.heap.size,0,none⟩ j)=⟨w5.heap.size,j,none⟩:=by unfold Addr.add;simp;omega
    rw[e,ae _ _ j _ _ _ k6]
    simpa [nS] using hu
   have oV:(w5.alloc (.cells (aB h d dm) 87)).ownsRow 0 87 3 (.slice av i cv) i (io i G.h G.d G.dm):=bG (l:=[]) HRC.out (Off.of_below b6) (by simp)
   obtain⟨v7,w7,hr7,o7,g7,_,p7⟩:=run_append_own_at (P:=prog) (w5.alloc (.cells (aB h d dm) 87)) 0 79 79 87 i0 (.agg aO) 3 24 underlying79 hI hz0 hz1 hz2 rfl (by decide) (.slice av i cv) i (io i G.h G.d G.dm) oV ⟨w5.heap.size,0,none⟩ 1 1 (nS h d dm) rfl hcs (by intro u hu;simp[nS]at hu;rcases hu with rfl | rfl | rfl <;> rfl) (by unfold maxLen;omega) (by omega) (Nat.zero_le _)
   obtain⟨aw,cw,rfl⟩:=cr o7
   have ff:∀ q j v,(Value.slice av i cv).ownBlock≠some q→(w5.alloc (.cells (aB h d dm) 87)).cell? ⟨q,j,none⟩=some v→w7.cell? ⟨q,j,none⟩=some v:=fun q j v hq hc=>(World.cell?_of_block (w:=(w5.alloc (.cells (aB h d dm) 87))) (a:=⟨q,j,none⟩) (g7.block q (World.block_lt_of_cell? (w5.alloc (.cells (aB h d dm) 87)) ⟨q,j,none⟩ hc) (fun e=>hq e.symm))).trans hc
   obtain⟨nx,m0,m1,nX⟩:=HNE.out
   have HS7:w7.cell? ⟨x,0,none⟩=some (Value.slice (af q0 o0) n v0)∧w7.cell? ⟨x,1,none⟩=some (Value.slice (af q1 o1) n v1)∧w7.cell? ⟨x,2,none⟩=some (Value.int .u32 (mx:Nat))∧w7.cell? ⟨q0,o0+i*5,none⟩=some (Value.int .u32 (P.c:Nat))∧w7.cell? ⟨q0,o0+i*5+1,none⟩=some (Value.int .i64 (P.o:Nat))∧w7.cell? ⟨q0,o0+i*5+2,none⟩=some (Value.int .i64 (P.i:Nat))∧w7.cell? ⟨q0,o0+i*5+3,none⟩=some (Value.int .i64 (P.t:Nat))∧w7.cell? ⟨q0,o0+i*5+4,none⟩=some (Value.int .u32 (P.n:Nat))∧w7.cell? ⟨q1,o1+i*5,none⟩=some (Value.int .u32 (Q.c:Nat))∧w7.cell? ⟨q1,o1+i*5+1,none⟩=some (Value.int .i64 (Q.o:Nat))∧w7.cell? ⟨q1,o1+i*5+2,none⟩=some (Value.int .i64 (Q.i:Nat))∧w7.cell? ⟨q1,o1+i*5+3,none⟩=some (Value.int .i64 (Q.t:Nat))∧w7.cell? ⟨q1,o1+i*5+4,none⟩=some (Value.int .u32 (Q.n:Nat)):=by
    obtain⟨u0,u1,u2,u3,u4,u5,u6,u7,u8,u9,u10,u11,u12⟩:=HS6
    exact⟨ff _ _ _ nx u0,ff _ _ _ nx u1,ff _ _ _ nx u2,ff _ _ _ m0 u3,ff _ _ _ m0 u4,ff _ _ _ m0 u5,ff _ _ _ m0 u6,ff _ _ _ m0 u7,ff _ _ _ m1 u8,ff _ _ _ m1 u9,ff _ _ _ m1 u10,ff _ _ _ m1 u11,ff _ _ _ m1 u12⟩
   refine cF (i:=19) (Value.slice aw (i+1) cw) w7 (by kernel_rfl) rfl (by kernel_rfl) (ki (s:=.tmp 27) (x:=.tmp 41) rfl rfl (by kernel_rfl) (by kernel_rfl) hr7) HS7 ?_
   refine an (i:=20) (v:=ac X 0) ?_
   refine an (i:=21) (v:=ac X 3) ?_
   have kX6:=(b6.block X (Array.getElem?_eq_some_iff.1 HXb.out).1).trans HXb.out
   have kX7:=(g7.block X (Array.getElem?_eq_some_iff.1 kX6).1 (fun e=>nX e.symm)).trans kX6
   have y3:=ae w7 X 3 _ _ _ kX7
   have yz:=frozen_of_row w7 X 3 _ _ kX7
   have o8:Off [X] w7 (w7.setCell ⟨X,3,none⟩ (.slice aw (i+1) cw)):=Off.setCell X 3 w7 _
   have k8:(w7.setCell ⟨X,3,none⟩ (.slice aw (i+1) cw)).heap[X]?=some (.cells #[.slice a0 n c0,.slice a1 n c1,.int .u32 (mx:Nat),.slice aw (i+1) cw,ac b 0,.int .i64 0,.slice none 0 0] 82 (0,0)):=Joins.block_setCell kX7 _
   obtain⟨w8,hw8⟩:∃ z,w7.setCell ⟨X,3,none⟩ (.slice aw (i+1) cw)=z:=⟨_,rfl⟩
   rw[hw8]at o8 k8
   have hS8:w8.cell? ⟨x,0,none⟩=some (Value.slice (af q0 o0) n v0)∧w8.cell? ⟨x,1,none⟩=some (Value.slice (af q1 o1) n v1)∧w8.cell? ⟨x,2,none⟩=some (Value.int .u32 (mx:Nat))∧w8.cell? ⟨q0,o0+i*5,none⟩=some (Value.int .u32 (P.c:Nat))∧w8.cell? ⟨q0,o0+i*5+1,none⟩=some (Value.int .i64 (P.o:Nat))∧w8.cell? ⟨q0,o0+i*5+2,none⟩=some (Value.int .i64 (P.i:Nat))∧w8.cell? ⟨q0,o0+i*5+3,none⟩=some (Value.int .i64 (P.t:Nat))∧w8.cell? ⟨q0,o0+i*5+4,none⟩=some (Value.int .u32 (P.n:Nat))∧w8.cell? ⟨q1,o1+i*5,none⟩=some (Value.int .u32 (Q.c:Nat))∧w8.cell? ⟨q1,o1+i*5+1,none⟩=some (Value.int .i64 (Q.o:Nat))∧w8.cell? ⟨q1,o1+i*5+2,none⟩=some (Value.int .i64 (Q.i:Nat))∧w8.cell? ⟨q1,o1+i*5+3,none⟩=some (Value.int .i64 (Q.t:Nat))∧w8.cell? ⟨q1,o1+i*5+4,none⟩=some (Value.int .u32 (Q.n:Nat)):=by
    obtain⟨u0,u1,u2,u3,u4,u5,u6,u7,u8,u9,u10,u11,u12⟩:=HS7
    obtain⟨z1,z2,z3⟩:=HXX.out
    have gg:∀ q j v,q≠X→w7.cell? ⟨q,j,none⟩=some v→w8.cell? ⟨q,j,none⟩=some v:=fun q j v hq hc=>(World.cell?_of_block (w:=w7) (a:=⟨q,j,none⟩) (o8.block q (World.block_lt_of_cell? w7 ⟨q,j,none⟩ hc) (by simpa using hq))).trans hc
    exact⟨gg _ _ _ z1 u0,gg _ _ _ z1 u1,gg _ _ _ z1 u2,gg _ _ _ z2 u3,gg _ _ _ z2 u4,gg _ _ _ z2 u5,gg _ _ _ z2 u6,gg _ _ _ z2 u7,gg _ _ _ z3 u8,gg _ _ _ z3 u9,gg _ _ _ z3 u10,gg _ _ _ z3 u11,gg _ _ _ z3 u12⟩
   refine dh (i:=22) w8 (by kernel_rfl) rfl (by kernel_rfl) (by rw[← hw8];go_simp) hS8 ?_
   refine wpAnyH_done (by kernel_rfl) ?_ _
   have HF:Hid (NgI w w8 X b x n mx PH PD (.slice a0 n c0) (.slice a1 n c1) (.cells #[.slice (af q0 o0) n v0,.slice (af q1 o1) n v1,.int .u32 (mx:Nat)] 30 (0,0)) (i+1)):=kO HNG.out HGi.out b5 H5.out HPQ.out.1 HPQ.out.2 (az (Below.refl _ w5) _) o7 (by rw[HEv.out];exact g7) (by rw[HEv.out];exact p7) o8 k8
   clear o8 k8 b5 b6 o7 g7 p7 s6 kX6 kX7 y3 yz hw8 HS7 HS6 HS5 HT0 k6 hcs hr7 hS8 H5 ff oV nx m0 m1 nX
   go_wp2_with fail
   go_roundw
   case rel=>exact⟨i+1,by omega,by first | rfl | go_num,HF⟩
   case measure=>simp only[il];omega
  ·refine fe 25 #[Value.agg #[Value.int .u32 (P.c:Nat),Value.int .i64 (P.o:Nat),Value.int .i64 (P.i:Nat),Value.int .i64 (P.t:Nat),Value.int .u32 (P.n:Nat)],Value.agg #[Value.int .u32 (Q.c:Nat),Value.int .i64 (Q.o:Nat),Value.int .i64 (Q.i:Nat),Value.int .i64 (Q.t:Nat),Value.int .u32 (Q.n:Nat)],Value.int .u32 (mx:Nat)] rfl (by kernel_rfl) (by go_simp) ?_
   refine (pZ P Q hPo hQo mx hmx h0 wr.drew).mono ?_
   rintro r w5 ⟨h,d,dm,g,rfl,H5⟩
   have b5:Below wr.heap.size wr w5:=(Below.drew (Below.refl wr.heap.size wr)).trans H5.out.1
   refine⟨_,rfl,HSS.out w5 b5,?_⟩
   have HS5:=HSS.out w5 b5
   refine pz (i:=4) (j:=18) (by kernel_rfl) ?_ ?_
   ·have x3:(w5).cell? ⟨X,3,none⟩=some (Value.slice av i cv):=HX0.out _ (b5)
    refine dk (Value.slice av i cv) (w5) rfl (by kernel_rfl) (by go_simp) ⟨HSS.out _ (b5),?_⟩
    have b6:=az b5 (.cells (aB h d dm) 87)
    have k6:=ay w5 (.cells (aB h d dm) 87)
    have s6:=iy w5 (.cells (aB h d dm) 87)
    refine cF (i:=18) (Value.slice (af w5.heap.size 0) 1 1) (w5.alloc (.cells (aB h d dm) 87)) (by kernel_rfl) rfl (by kernel_rfl) (by go_simp) (HSS.out _ b6) ?_
    have HS6:=HSS.out _ b6
    obtain⟨i0,hI,hz0,hz1,hz2⟩:=info_parts jD
    have hcs:∀ j u,(nS h d dm)[j]?=some u→(w5.alloc (.cells (aB h d dm) 87)).cell? ((⟨w5.heap.size,0,none⟩:Addr).add j)=some u:=fun j u hu=>by
     have e:(Addr.add ⟨w5.heap.size,0,none⟩ j)=⟨w5.heap.size,j,none⟩:=by unfold Addr.add;simp;omega
     rw[e,ae _ _ j _ _ _ k6]
     simpa [nS] using hu
    have oV:(w5.alloc (.cells (aB h d dm) 87)).ownsRow 0 87 3 (.slice av i cv) i (io i G.h G.d G.dm):=bG (l:=[]) HRC.out (Off.of_below b6) (by simp)
    obtain⟨v7,w7,hr7,o7,g7,_,p7⟩:=run_append_own_at (P:=prog) (w5.alloc (.cells (aB h d dm) 87)) 0 79 79 87 i0 (.agg aO) 3 24 underlying79 hI hz0 hz1 hz2 rfl (by decide) (.slice av i cv) i (io i G.h G.d G.dm) oV ⟨w5.heap.size,0,none⟩ 1 1 (nS h d dm) rfl hcs (by intro u hu;simp[nS]at hu;rcases hu with rfl | rfl | rfl <;> rfl) (by unfold maxLen;omega) (by omega) (Nat.zero_le _)
    obtain⟨aw,cw,rfl⟩:=cr o7
    have ff:∀ q j v,(Value.slice av i cv).ownBlock≠some q→(w5.alloc (.cells (aB h d dm) 87)).cell? ⟨q,j,none⟩=some v→w7.cell? ⟨q,j,none⟩=some v:=fun q j v hq hc=>(World.cell?_of_block (w:=(w5.alloc (.cells (aB h d dm) 87))) (a:=⟨q,j,none⟩) (g7.block q (World.block_lt_of_cell? (w5.alloc (.cells (aB h d dm) 87)) ⟨q,j,none⟩ hc) (fun e=>hq e.symm))).trans hc
    obtain⟨nx,m0,m1,nX⟩:=HNE.out
    have HS7:w7.cell? ⟨x,0,none⟩=some (Value.slice (af q0 o0) n v0)∧w7.cell? ⟨x,1,none⟩=some (Value.slice (af q1 o1) n v1)∧w7.cell? ⟨x,2,none⟩=some (Value.int .u32 (mx:Nat))∧w7.cell? ⟨q0,o0+i*5,none⟩=some (Value.int .u32 (P.c:Nat))∧w7.cell? ⟨q0,o0+i*5+1,none⟩=some (Value.int .i64 (P.o:Nat))∧w7.cell? ⟨q0,o0+i*5+2,none⟩=some (Value.int .i64 (P.i:Nat))∧w7.cell? ⟨q0,o0+i*5+3,none⟩=some (Value.int .i64 (P.t:Nat))∧w7.cell? ⟨q0,o0+i*5+4,none⟩=some (Value.int .u32 (P.n:Nat))∧w7.cell? ⟨q1,o1+i*5,none⟩=some (Value.int .u32 (Q.c:Nat))∧w7.cell? ⟨q1,o1+i*5+1,none⟩=some (Value.int .i64 (Q.o:Nat))∧w7.cell? ⟨q1,o1+i*5+2,none⟩=some (Value.int .i64 (Q.i:Nat))∧w7.cell? ⟨q1,o1+i*5+3,none⟩=some (Value.int .i64 (Q.t:Nat))∧w7.cell? ⟨q1,o1+i*5+4,none⟩=some (Value.int .u32 (Q.n:Nat)):=by
     obtain⟨u0,u1,u2,u3,u4,u5,u6,u7,u8,u9,u10,u11,u12⟩:=HS6
     exact⟨ff _ _ _ nx u0,ff _ _ _ nx u1,ff _ _ _ nx u2,ff _ _ _ m0 u3,ff _ _ _ m0 u4,ff _ _ _ m0 u5,ff _ _ _ m0 u6,ff _ _ _ m0 u7,ff _ _ _ m1 u8,ff _ _ _ m1 u9,ff _ _ _ m1 u10,ff _ _ _ m1 u11,ff _ _ _ m1 u12⟩
    refine cF (i:=19) (Value.slice aw (i+1) cw) w7 (by kernel_rfl) rfl (by kernel_rfl) (ki (s:=.tmp 27) (x:=.tmp 41) rfl rfl (by kernel_rfl) (by kernel_rfl) hr7) HS7 ?_
    refine an (i:=20) (v:=ac X 0) ?_
    refine an (i:=21) (v:=ac X 3) ?_
    have kX6:=(b6.block X (Array.getElem?_eq_some_iff.1 HXb.out).1).trans HXb.out
    have kX7:=(g7.block X (Array.getElem?_eq_some_iff.1 kX6).1 (fun e=>nX e.symm)).trans kX6
    have y3:=ae w7 X 3 _ _ _ kX7
    have yz:=frozen_of_row w7 X 3 _ _ kX7
    have o8:Off [X] w7 (w7.setCell ⟨X,3,none⟩ (.slice aw (i+1) cw)):=Off.setCell X 3 w7 _
    have k8:(w7.setCell ⟨X,3,none⟩ (.slice aw (i+1) cw)).heap[X]?=some (.cells #[.slice a0 n c0,.slice a1 n c1,.int .u32 (mx:Nat),.slice aw (i+1) cw,ac b 0,.int .i64 0,.slice none 0 0] 82 (0,0)):=Joins.block_setCell kX7 _
    obtain⟨w8,hw8⟩:∃ z,w7.setCell ⟨X,3,none⟩ (.slice aw (i+1) cw)=z:=⟨_,rfl⟩
    rw[hw8]at o8 k8
    have hS8:w8.cell? ⟨x,0,none⟩=some (Value.slice (af q0 o0) n v0)∧w8.cell? ⟨x,1,none⟩=some (Value.slice (af q1 o1) n v1)∧w8.cell? ⟨x,2,none⟩=some (Value.int .u32 (mx:Nat))∧w8.cell? ⟨q0,o0+i*5,none⟩=some (Value.int .u32 (P.c:Nat))∧w8.cell? ⟨q0,o0+i*5+1,none⟩=some (Value.int .i64 (P.o:Nat))∧w8.cell? ⟨q0,o0+i*5+2,none⟩=some (Value.int .i64 (P.i:Nat))∧w8.cell? ⟨q0,o0+i*5+3,none⟩=some (Value.int .i64 (P.t:Nat))∧w8.cell? ⟨q0,o0+i*5+4,none⟩=some (Value.int .u32 (P.n:Nat))∧w8.cell? ⟨q1,o1+i*5,none⟩=some (Value.int .u32 (Q.c:Nat))∧w8.cell? ⟨q1,o1+i*5+1,none⟩=some (Value.int .i64 (Q.o:Nat))∧w8.cell? ⟨q1,o1+i*5+2,none⟩=some (Value.int .i64 (Q.i:Nat))∧w8.cell? ⟨q1,o1+i*5+3,none⟩=some (Value.int .i64 (Q.t:Nat))∧w8.cell? ⟨q1,o1+i*5+4,none⟩=some (Value.int .u32 (Q.n:Nat)):=by
     obtain⟨u0,u1,u2,u3,u4,u5,u6,u7,u8,u9,u10,u11,u12⟩:=HS7
     obtain⟨z1,z2,z3⟩:=HXX.out
     have gg:∀ q j v,q≠X→w7.cell? ⟨q,j,none⟩=some v→w8.cell? ⟨q,j,none⟩=some v:=fun q j v hq hc=>(World.cell?_of_block (w:=w7) (a:=⟨q,j,none⟩) (o8.block q (World.block_lt_of_cell? w7 ⟨q,j,none⟩ hc) (by simpa using hq))).trans hc
     exact⟨gg _ _ _ z1 u0,gg _ _ _ z1 u1,gg _ _ _ z1 u2,gg _ _ _ z2 u3,gg _ _ _ z2 u4,gg _ _ _ z2 u5,gg _ _ _ z2 u6,gg _ _ _ z2 u7,gg _ _ _ z3 u8,gg _ _ _ z3 u9,gg _ _ _ z3 u10,gg _ _ _ z3 u11,gg _ _ _ z3 u12⟩
    refine dh (i:=22) w8 (by kernel_rfl) rfl (by kernel_rfl) (by rw[← hw8];go_simp) hS8 ?_
    refine wpAnyH_done (by kernel_rfl) ?_ _
    have HF:Hid (NgI w w8 X b x n mx PH PD (.slice a0 n c0) (.slice a1 n c1) (.cells #[.slice (af q0 o0) n v0,.slice (af q1 o1) n v1,.int .u32 (mx:Nat)] 30 (0,0)) (i+1)):=kO HNG.out HGi.out b5 H5.out HPQ.out.1 HPQ.out.2 (az (Below.refl _ w5) _) o7 (by rw[HEv.out];exact g7) (by rw[HEv.out];exact p7) o8 k8
    clear o8 k8 b5 b6 o7 g7 p7 s6 kX6 kX7 y3 yz hw8 HS7 HS6 HS5 HT0 k6 hcs hr7 hS8 H5 ff oV nx m0 m1 nX
    go_wp2_with fail
    go_roundw
    case rel=>exact⟨i+1,by omega,by first | rfl | go_num,HF⟩
    case measure=>simp only[il];omega
   ·have b6:=az b5 (.cells (aB h d dm) 87)
    have k6:=ay w5 (.cells (aB h d dm) 87)
    have s6:=iy w5 (.cells (aB h d dm) 87)
    refine dk (Value.slice (af w5.heap.size 0) 1 1) (w5.alloc (.cells (aB h d dm) 87)) rfl (by kernel_rfl) (by go_simp) ⟨HSS.out _ b6,?_⟩
    have x3:((w5.alloc (.cells (aB h d dm) 87))).cell? ⟨X,3,none⟩=some (Value.slice av i cv):=HX0.out _ (b6)
    refine uG (i:=4) (Value.slice av i cv) (by kernel_rfl) rfl (by kernel_rfl) (by go_simp) (HSS.out _ (b6)) ?_
    have HS6:=HSS.out _ b6
    obtain⟨i0,hI,hz0,hz1,hz2⟩:=info_parts jD
    have hcs:∀ j u,(nS h d dm)[j]?=some u→(w5.alloc (.cells (aB h d dm) 87)).cell? ((⟨w5.heap.size,0,none⟩:Addr).add j)=some u:=fun j u hu=>by
     have e:(Addr.add ⟨w5.heap.size,0,none⟩ j)=⟨w5.heap.size,j,none⟩:=by unfold Addr.add;simp;omega
     rw[e,ae _ _ j _ _ _ k6]
     simpa [nS] using hu
    have oV:(w5.alloc (.cells (aB h d dm) 87)).ownsRow 0 87 3 (.slice av i cv) i (io i G.h G.d G.dm):=bG (l:=[]) HRC.out (Off.of_below b6) (by simp)
    obtain⟨v7,w7,hr7,o7,g7,_,p7⟩:=run_append_own_at (P:=prog) (w5.alloc (.cells (aB h d dm) 87)) 0 79 79 87 i0 (.agg aO) 3 24 underlying79 hI hz0 hz1 hz2 rfl (by decide) (.slice av i cv) i (io i G.h G.d G.dm) oV ⟨w5.heap.size,0,none⟩ 1 1 (nS h d dm) rfl hcs (by intro u hu;simp[nS]at hu;rcases hu with rfl | rfl | rfl <;> rfl) (by unfold maxLen;omega) (by omega) (Nat.zero_le _)
    obtain⟨aw,cw,rfl⟩:=cr o7
    have ff:∀ q j v,(Value.slice av i cv).ownBlock≠some q→(w5.alloc (.cells (aB h d dm) 87)).cell? ⟨q,j,none⟩=some v→w7.cell? ⟨q,j,none⟩=some v:=fun q j v hq hc=>(World.cell?_of_block (w:=(w5.alloc (.cells (aB h d dm) 87))) (a:=⟨q,j,none⟩) (g7.block q (World.block_lt_of_cell? (w5.alloc (.cells (aB h d dm) 87)) ⟨q,j,none⟩ hc) (fun e=>hq e.symm))).trans hc
    obtain⟨nx,m0,m1,nX⟩:=HNE.out
    have HS7:w7.cell? ⟨x,0,none⟩=some (Value.slice (af q0 o0) n v0)∧w7.cell? ⟨x,1,none⟩=some (Value.slice (af q1 o1) n v1)∧w7.cell? ⟨x,2,none⟩=some (Value.int .u32 (mx:Nat))∧w7.cell? ⟨q0,o0+i*5,none⟩=some (Value.int .u32 (P.c:Nat))∧w7.cell? ⟨q0,o0+i*5+1,none⟩=some (Value.int .i64 (P.o:Nat))∧w7.cell? ⟨q0,o0+i*5+2,none⟩=some (Value.int .i64 (P.i:Nat))∧w7.cell? ⟨q0,o0+i*5+3,none⟩=some (Value.int .i64 (P.t:Nat))∧w7.cell? ⟨q0,o0+i*5+4,none⟩=some (Value.int .u32 (P.n:Nat))∧w7.cell? ⟨q1,o1+i*5,none⟩=some (Value.int .u32 (Q.c:Nat))∧w7.cell? ⟨q1,o1+i*5+1,none⟩=some (Value.int .i64 (Q.o:Nat))∧w7.cell? ⟨q1,o1+i*5+2,none⟩=some (Value.int .i64 (Q.i:Nat))∧w7.cell? ⟨q1,o1+i*5+3,none⟩=some (Value.int .i64 (Q.t:Nat))∧w7.cell? ⟨q1,o1+i*5+4,none⟩=some (Value.int .u32 (Q.n:Nat)):=by
     obtain⟨u0,u1,u2,u3,u4,u5,u6,u7,u8,u9,u10,u11,u12⟩:=HS6
     exact⟨ff _ _ _ nx u0,ff _ _ _ nx u1,ff _ _ _ nx u2,ff _ _ _ m0 u3,ff _ _ _ m0 u4,ff _ _ _ m0 u5,ff _ _ _ m0 u6,ff _ _ _ m0 u7,ff _ _ _ m1 u8,ff _ _ _ m1 u9,ff _ _ _ m1 u10,ff _ _ _ m1 u11,ff _ _ _ m1 u12⟩
    refine cF (i:=19) (Value.slice aw (i+1) cw) w7 (by kernel_rfl) rfl (by kernel_rfl) (ki (s:=.tmp 27) (x:=.tmp 41) rfl rfl (by kernel_rfl) (by kernel_rfl) hr7) HS7 ?_
    refine an (i:=20) (v:=ac X 0) ?_
    refine an (i:=21) (v:=ac X 3) ?_
    have kX6:=(b6.block X (Array.getElem?_eq_some_iff.1 HXb.out).1).trans HXb.out
    have kX7:=(g7.block X (Array.getElem?_eq_some_iff.1 kX6).1 (fun e=>nX e.symm)).trans kX6
    have y3:=ae w7 X 3 _ _ _ kX7
    have yz:=frozen_of_row w7 X 3 _ _ kX7
    have o8:Off [X] w7 (w7.setCell ⟨X,3,none⟩ (.slice aw (i+1) cw)):=Off.setCell X 3 w7 _
    have k8:(w7.setCell ⟨X,3,none⟩ (.slice aw (i+1) cw)).heap[X]?=some (.cells #[.slice a0 n c0,.slice a1 n c1,.int .u32 (mx:Nat),.slice aw (i+1) cw,ac b 0,.int .i64 0,.slice none 0 0] 82 (0,0)):=Joins.block_setCell kX7 _
    obtain⟨w8,hw8⟩:∃ z,w7.setCell ⟨X,3,none⟩ (.slice aw (i+1) cw)=z:=⟨_,rfl⟩
    rw[hw8]at o8 k8
    have hS8:w8.cell? ⟨x,0,none⟩=some (Value.slice (af q0 o0) n v0)∧w8.cell? ⟨x,1,none⟩=some (Value.slice (af q1 o1) n v1)∧w8.cell? ⟨x,2,none⟩=some (Value.int .u32 (mx:Nat))∧w8.cell? ⟨q0,o0+i*5,none⟩=some (Value.int .u32 (P.c:Nat))∧w8.cell? ⟨q0,o0+i*5+1,none⟩=some (Value.int .i64 (P.o:Nat))∧w8.cell? ⟨q0,o0+i*5+2,none⟩=some (Value.int .i64 (P.i:Nat))∧w8.cell? ⟨q0,o0+i*5+3,none⟩=some (Value.int .i64 (P.t:Nat))∧w8.cell? ⟨q0,o0+i*5+4,none⟩=some (Value.int .u32 (P.n:Nat))∧w8.cell? ⟨q1,o1+i*5,none⟩=some (Value.int .u32 (Q.c:Nat))∧w8.cell? ⟨q1,o1+i*5+1,none⟩=some (Value.int .i64 (Q.o:Nat))∧w8.cell? ⟨q1,o1+i*5+2,none⟩=some (Value.int .i64 (Q.i:Nat))∧w8.cell? ⟨q1,o1+i*5+3,none⟩=some (Value.int .i64 (Q.t:Nat))∧w8.cell? ⟨q1,o1+i*5+4,none⟩=some (Value.int .u32 (Q.n:Nat)):=by
     obtain⟨u0,u1,u2,u3,u4,u5,u6,u7,u8,u9,u10,u11,u12⟩:=HS7
     obtain⟨z1,z2,z3⟩:=HXX.out
     have gg:∀ q j v,q≠X→w7.cell? ⟨q,j,none⟩=some v→w8.cell? ⟨q,j,none⟩=some v:=fun q j v hq hc=>(World.cell?_of_block (w:=w7) (a:=⟨q,j,none⟩) (o8.block q (World.block_lt_of_cell? w7 ⟨q,j,none⟩ hc) (by simpa using hq))).trans hc
     exact⟨gg _ _ _ z1 u0,gg _ _ _ z1 u1,gg _ _ _ z1 u2,gg _ _ _ z2 u3,gg _ _ _ z2 u4,gg _ _ _ z2 u5,gg _ _ _ z2 u6,gg _ _ _ z2 u7,gg _ _ _ z3 u8,gg _ _ _ z3 u9,gg _ _ _ z3 u10,gg _ _ _ z3 u11,gg _ _ _ z3 u12⟩
    refine dh (i:=22) w8 (by kernel_rfl) rfl (by kernel_rfl) (by rw[← hw8];go_simp) hS8 ?_
    refine wpAnyH_done (by kernel_rfl) ?_ _
    have HF:Hid (NgI w w8 X b x n mx PH PD (.slice a0 n c0) (.slice a1 n c1) (.cells #[.slice (af q0 o0) n v0,.slice (af q1 o1) n v1,.int .u32 (mx:Nat)] 30 (0,0)) (i+1)):=kO HNG.out HGi.out b5 H5.out HPQ.out.1 HPQ.out.2 (az (Below.refl _ w5) _) o7 (by rw[HEv.out];exact g7) (by rw[HEv.out];exact p7) o8 k8
    clear o8 k8 b5 b6 o7 g7 p7 s6 kX6 kX7 y3 yz hw8 HS7 HS6 HS5 HT0 k6 hcs hr7 hS8 H5 ff oV nx m0 m1 nX
    go_wp2_with fail
    go_roundw
    case rel=>exact⟨i+1,by omega,by first | rfl | go_num,HF⟩
    case measure=>simp only[il];omega
open Go.RowKit Go.Maps Go.Sort
def sW (i:Nat):Pm:=⟨7+i,2,1,10+i,9⟩
def fo (i:Nat):Pq:=(sW i).q
theorem iO {w:World} {B e sz n c:Nat} {a:Option Addr} {xs:List Value} (h:w.ownsRow B e sz (.slice a n c) n xs) (h0:n≠0):n≤c:=by
 rcases h.2 with ⟨_,hn⟩ | ⟨g,cap,cur,e1,hg,hgg,h1,rest⟩
 ·exact absurd hn h0
 ·simp only[Value.slice.injEq]at e1
  obtain⟨_,_,rfl⟩:=e1
  exact h1
theorem fq (p:Pq):∀ u ∈ p.cs,u.oneCell'=true:=by
 intro u hu
 simp[Pq.cs]at hu
 rcases hu with rfl | rfl | rfl | rfl | rfl <;> rfl
theorem ep {W:World} {g:Nat} {p:Pq} (h:W.heap[g]?=some (.cells p.cs.toArray 90 (0,0))):∀ j u,p.cs[j]?=some u→W.cell? ((⟨g,0,none⟩:Addr).add j)=some u:=fun j u hu=>by
 have e:(Addr.add ⟨g,0,none⟩ j)=⟨g,j,none⟩:=by unfold Addr.add;simp;omega
 rw[e,ae W g j _ _ _ h]
 simpa using hu
theorem em {w:World} {B e size n:Nat} {v:Value} {xs:List Value} (h:w.ownsRow B e size v (n+1) xs):∃ g cap,v=.slice (af g 0) (n+1) cap∧B≤g:=by
 rcases h.2 with ⟨_,hn⟩ | ⟨g,cap,cur,rfl,hg,hgg,rest⟩
 ·omega
 ·exact⟨g,cap,rfl,hg⟩
theorem bk {w w':World} {B e sz n:Nat} {v:Value} {xs:List Value} (h:w.ownsRow B e sz v n xs) (b:Below w.heap.size w w'):w'.ownsRow B e sz v n xs:=by
 refine⟨h.1,?_⟩
 rcases h.2 with hn | ⟨g,cap,cur,rfl,hg,hgg,rest⟩
 ·exact .inl hn
 ·exact .inr ⟨g,cap,cur,rfl,hg,(b.block g (Array.getElem?_eq_some_iff.1 hgg).1).trans hgg,rest⟩
theorem aQ {w w':World} {B e s n:Nat} {v:Value} {xs:List Value} (h:w.ownsRow B e s v n xs) (hk:∀ g,v.ownBlock=some g→w'.heap[g]?=w.heap[g]?):w'.ownsRow B e s v n xs:=by
 obtain⟨h0,h1 | ⟨g,cap,cur,rfl,hg,hgg,rest⟩⟩:=h
 ·exact⟨h0,.inl h1⟩
 ·exact⟨h0,.inr ⟨g,cap,cur,rfl,hg,(hk g rfl).trans hgg,rest⟩⟩
structure Sp (w wr:World) (i:Nat) (va:Option Addr) (vc:Nat) (ua:Option Addr) (uc:Nat):Prop where
 bel:Below w.heap.size w wr
 rb:wr.heap[w.heap.size]?=some (.cells #[.slice none 0 0,.slice none 0 0,.int .u32 0] 30 (0,0))
 xb:wr.heap[w.heap.size+1]?=some (.cells #[.slice va i vc,.slice ua i uc,.int .u32 50] 30 (0,0))
 ov:wr.ownsRow (w.heap.size+2) 90 5 (.slice va i vc) i (ei i fo)
 ou:wr.ownsRow (w.heap.size+2) 90 5 (.slice ua i uc) i (ei i fo)
 dis:∀ g,(Value.slice va i vc).ownBlock=some g→(Value.slice ua i uc).ownBlock≠some g
theorem yG (w:World):Calls prog 26 #[.int .i64 0] w fun r w'=>∃ a0 c0 a1 c1,r=.returned (.agg #[.slice a0 1 c0,.slice a1 1 c1,.int .u32 50])∧Hid (w'.ownsRow (w.heap.size+2) 90 5 (.slice a0 1 c0) 1 (ei 1 fo)∧w'.ownsRow (w.heap.size+2) 90 5 (.slice a1 1 c1) 1 (ei 1 fo)∧(∀ g,(Value.slice a0 1 c0).ownBlock=some g→(Value.slice a1 1 c1).ownBlock≠some g)∧Below w.heap.size w w'):=by
 have hS:=fun wx=>qC wx
 go_enter func26,ntmps26
 go_wp2_with fail
 have HS:Hid (Sp w ((w.alloc (.cells #[.slice none 0 0,.slice none 0 0,.int .u32 0] 30)).alloc (.cells #[.slice none 0 0,.slice none 0 0,.int .u32 50] 30)) 0 none 0 none 0):=by
  have a1':=ay w (.cells #[.slice none 0 0,.slice none 0 0,.int .u32 0] 30)
  have a2':=ay (w.alloc (.cells #[.slice none 0 0,.slice none 0 0,.int .u32 0] 30)) (.cells #[.slice none 0 0,.slice none 0 0,.int .u32 50] 30)
  simp only[World.size_alloc]at a1' a2'
  refine⟨az (az (Below.refl _ _) _) _,?_,a2',⟨by simp[ei],.inl ⟨rfl,rfl⟩⟩,⟨by simp[ei],.inl ⟨rfl,rfl⟩⟩,fun g hg=>by cases hg⟩
  exact ((az (Below.refl _ _) _).block _ (by simp)).trans a1'
 go_loopw [4,5,7,8,9,10,11,12,13,14,15,16,17,18,19,20,21,22,23,24,25,26,27,28,29,30,31,32,33,34] (fun c _ _ _ _ _ _ _ _ _ _ _ _ _ _ _ _ _ _ _ _ _ _ _ _ _ _ _ _ _ wr=>∃ (i:Nat) (va:Option Addr) (vc:Nat) (ua:Option Addr) (uc:Nat),i≤1∧c=.int .i64 ((i:Nat):Int)∧Hid (Sp w wr i va vc ua uc)) (fun c _ _ _ _ _ _ _ _ _ _ _ _ _ _ _ _ _ _ _ _ _ _ _ _ _ _ _ _ _ _=>1-il c)
 case atStart=>exact⟨0,none,0,none,0,by omega,rfl,HS⟩
 case round=>
  obtain⟨i,va,vc,ua,uc,hi,rfl,HI⟩:=hrel
  clear HS
  have hi3:i=0∨i=1:=by omega
  rcases hi3 with rfl | rfl
  ·obtain⟨i0,hI,hz0,hz1,hz2⟩:=info_parts dX
   go_wp2_with fail
   refine (hS _).mono ?_
   rintro r w3 ⟨rfl,b3⟩
   have q0:=ag (ae wr _ 0 _ _ _ HI.out.xb) (az b3 (.cells aT 90))
   have q1:=ag (ae wr _ 1 _ _ _ HI.out.xb) (az b3 (.cells aT 90))
   have b4:=az (az b3 (.cells aT 90)) (.cells aT 90)
   have hrow:=bk HI.out.ov b4
   have lx:=(Array.getElem?_eq_some_iff.1 HI.out.xb).1
   have s3:=b3.size
   have nk:=ay (w3.alloc (.cells aT 90)) (.cells aT 90)
   simp only[World.size_alloc]at nk
   have hcl:∀ j u,(fo 0).cs[j]?=some u→((w3.alloc (.cells aT 90)).alloc (.cells aT 90)).cell? ((⟨w3.heap.size+1,0,none⟩:Addr).add j)=some u:=ep nk
   have hbs:w.heap.size+2 ≤ ((w3.alloc (.cells aT 90)).alloc (.cells aT 90)).heap.size:=by simp;omega
   go_wp2_with (at_builtin;refine wpList_append_own_at _ rfl (.tmp 24) (.tmp 26) 27 rfl (w.heap.size+2) 90 i0 (.agg #[.int .u32 0,.int .i64 0,.int .i64 0,.int .i64 0,.int .u32 0]) 5 40 underlying27 hI hz0 hz1 hz2 rfl (by decide) (.slice va 0 vc) 0 (ei 0 fo) rfl hrow ⟨w3.heap.size+1,0,none⟩ 1 1 (fo 0).cs rfl rfl hcl (fq _) (by unfold maxLen;omega) (by omega) hbs ?_)
   intro v5 w5 o5 g5 _ s5
   obtain⟨x5,y5,rfl,hx5⟩:=em (n:=0) o5
   have nb:=fun g (hg:(Value.slice va 0 vc).ownBlock=some g)=>HI.out.ov.lt g hg
   have nu:=fun g (hg:(Value.slice ua 0 uc).ownBlock=some g)=>HI.out.ou.lt g hg
   have k5:w5.heap[w.heap.size+1]?=some (.cells #[.slice va 0 vc,.slice ua 0 uc,.int .u32 50] 30 (0,0)):=(g5.block _ (by simp;omega) (fun e=>by have:=(nb _ e.symm).1;omega)).trans ((b4.block _ lx).trans HI.out.xb)
   have p5:w5.heap[w3.heap.size]?=some (.cells aT 90 (0,0)):=(g5.block _ (by simp;omega) (fun e=>by have:=(nb _ e.symm).2;omega)).trans (((az (Below.refl _ _) _).block w3.heap.size (by simp)).trans (ay w3 (.cells aT 90)))
   have u5:w5.ownsRow (w.heap.size+2) 90 5 (.slice ua 0 uc) 0 (ei 0 fo):=aQ (bk HI.out.ou b4) (fun g hg=>g5.block g (by have:=(nu g hg).2;simp;omega) (fun e=>HI.out.dis g e.symm hg))
   have r0:=ae w5 _ 0 _ _ _ k5
   have r1:=ae w5 _ 1 _ _ _ k5
   have rz:=fun k=>frozen_of_row w5 _ k _ _ k5
   have t0:=ae w5 _ 0 _ _ _ p5
   have t1:=ae w5 _ 1 _ _ _ p5
   have t2:=ae w5 _ 2 _ _ _ p5
   have t3:=ae w5 _ 3 _ _ _ p5
   have t4:=ae w5 _ 4 _ _ _ p5
   have s5s:=g5.size
   simp only[World.size_alloc]at s5s
   have o6:Off [w.heap.size+1] w5 (w5.setCell ⟨w.heap.size+1,0,none⟩ (.slice (af x5 0) 1 y5)):=Off.setCell _ _ _ _
   have u7:((w5.setCell ⟨w.heap.size+1,0,none⟩ (.slice (af x5 0) 1 y5)).alloc (.cells aT 90)).ownsRow (w.heap.size+2) 90 5 (.slice ua 0 uc) 0 (ei 0 fo):=bk (aQ u5 (fun g hg=>o6.block g (by have:=(u5.lt g hg).2;omega) (by have:=(u5.lt g hg).1;simp;omega))) (az (Below.refl _ _) _)
   have nk7:=ay (w5.setCell ⟨w.heap.size+1,0,none⟩ (.slice (af x5 0) 1 y5)) (.cells aT 90)
   have hs6:(w5.setCell ⟨w.heap.size+1,0,none⟩ (.slice (af x5 0) 1 y5)).heap.size=w5.heap.size:=by simp[World.setCell]
   rw[hs6]at nk7
   have hcl7:∀ j u,(fo 0).cs[j]?=some u→((w5.setCell ⟨w.heap.size+1,0,none⟩ (.slice (af x5 0) 1 y5)).alloc (.cells aT 90)).cell? ((⟨w5.heap.size,0,none⟩:Addr).add j)=some u:=ep nk7
   have hbs7:w.heap.size+2 ≤ ((w5.setCell ⟨w.heap.size+1,0,none⟩ (.slice (af x5 0) 1 y5)).alloc (.cells aT 90)).heap.size:=by rw[World.size_alloc,hs6];omega
   have HH:Hid (_):=And.intro o5 (And.intro g5 (And.intro s5 (And.intro k5 (And.intro p5 (And.intro u5 (And.intro nb (And.intro nu b4)))))))
   clear o5 g5 s5 k5 p5 u5 hrow hcl hbs nk q0 q1 nk7 o6 nb nu
   go_wp2_with (at_builtin;refine wpList_append_own_at _ rfl (.tmp 30) (.tmp 32) 27 rfl (w.heap.size+2) 90 i0 (.agg #[.int .u32 0,.int .i64 0,.int .i64 0,.int .i64 0,.int .u32 0]) 5 40 underlying27 hI hz0 hz1 hz2 rfl (by decide) (.slice ua 0 uc) 0 (ei 0 fo) rfl u7 ⟨w5.heap.size,0,none⟩ 1 1 (fo 0).cs rfl rfl hcl7 (fq _) (by unfold maxLen;omega) (by omega) hbs7 ?_)
   intro v8 w8 o8 g8 _ s8
   obtain⟨x8,y8,rfl,hx8⟩:=em (n:=0) o8
   have key:Hid (Sp w (w8.setCell ⟨w.heap.size+1,1,none⟩ (.slice (af x8 0) 1 y8)) 1 (af x5 0) y5 (af x8 0) y8∧w8.heap[w.heap.size+1]?=some (.cells #[.slice (af x5 0) 1 y5,.slice ua 0 uc,.int .u32 50] 30 (0,0))):=by
    obtain⟨o5,g5,s5,k5,p5,u5,nb,nu,b4⟩:=HH.out
    have hI':=HI.out
    have o6:Off [w.heap.size+1] w5 (w5.setCell ⟨w.heap.size+1,0,none⟩ (.slice (af x5 0) 1 y5)):=Off.setCell _ _ _ _
    have o9:Off [w.heap.size+1] w8 (w8.setCell ⟨w.heap.size+1,1,none⟩ (.slice (af x8 0) 1 y8)):=Off.setCell _ _ _ _
    have g8s:=g8.size
    rw[World.size_alloc,hs6]at g8s
    have wr2:w.heap.size+2≤wr.heap.size:=by omega
    have thr:∀ k,k<w5.heap.size→k≠w.heap.size+1→(∀ g,(Value.slice ua 0 uc).ownBlock=some g→k≠g)→(w8.setCell ⟨w.heap.size+1,1,none⟩ (.slice (af x8 0) 1 y8)).heap[k]?=w5.heap[k]?:=fun k hk h1 h2=>
     (o9.block k (by omega) (by simpa using h1)).trans ((g8.block k (by rw[World.size_alloc,hs6];omega) (fun e=>h2 k e.symm rfl)).trans (((az (Below.refl _ _) _).block k (by rw[hs6];exact hk)).trans (o6.block k hk (by simpa using h1))))
    have kk6:(w5.setCell ⟨w.heap.size+1,0,none⟩ (.slice (af x5 0) 1 y5)).heap[w.heap.size+1]?=some (.cells #[.slice (af x5 0) 1 y5,.slice ua 0 uc,.int .u32 50] 30 (0,0)):=heap_setCell_same _ _ _ _ _ _ k5
    have kk8:w8.heap[w.heap.size+1]?=some (.cells #[.slice (af x5 0) 1 y5,.slice ua 0 uc,.int .u32 50] 30 (0,0)):=(g8.block _ (by rw[World.size_alloc,hs6];omega) (fun e=>by have:=(nu _ e.symm).1;omega)).trans (((az (Below.refl _ _) _).block _ (by rw[hs6];omega)).trans kk6)
    have b5:Below w.heap.size w w5:=(hI'.bel.trans (b4.mono (by omega))).grown g5 (by simp;omega) (fun j hj=>by have:=(nb j hj).1;omega)
    have l5:=(o5.lt x5 rfl).2
    have xu:∀ g,(Value.slice ua 0 uc).ownBlock=some g→x5≠g:=fun g hg e=>by
     subst e
     rcases s5 with h | h
     ·exact hI'.dis x5 (h.symm.trans rfl) hg
     ·have h2:some x5=some _:=h
      simp only[Option.some.injEq]at h2
      have:=(nu _ hg).2
      omega
    refine⟨⟨?_,?_,heap_setCell_same _ _ _ _ _ _ kk8,?_,?_,?_⟩,kk8⟩
    ·have b6:=o6.below b5 (fun k hk=>by simp at hk;omega) b5.size
     have b7:=(b6.alloc (by rw[hs6];exact b5.size) (.cells aT 90)).grown g8 (by rw[World.size_alloc,hs6];have:=b5.size;omega) (fun j hj=>by have:=(nu j hj).1;omega)
     exact o9.below b7 (fun k hk=>by simp at hk;omega) b7.size
    ·rw[thr _ (by omega) (by omega) (fun g hg=>by have:=(nu g hg).1;omega)]
     exact (g5.block _ (by simp;omega) (fun e=>by have:=(nb _ e.symm).1;omega)).trans ((b4.block _ (by omega)).trans hI'.rb)
    ·rw[cy]
     exact aQ o5 (fun g hg=>by
      have e:g=x5:=by simpa [Value.ownBlock] using hg.symm
      subst e
      exact thr g l5 (by omega) xu)
    ·rw[cy]
     exact aQ o8 (fun g hg=>by
      have e:g=x8:=by simpa [Value.ownBlock] using hg.symm
      subst e
      exact o9.block g (o8.lt g rfl).2 (by simp;omega))
    ·intro g hg hg'
     cases hg
     have e8:x8=x5:=by simpa [Value.ownBlock] using hg'
     rcases s8 with h | h
     ·have h2:some x8=_:=h
      exact xu x8 h2.symm e8.symm
     ·have h2:some x8=some _:=h
      simp only[Option.some.injEq]at h2
      omega
   have HS:Hid (_):=key.out.1
   have f0:=ae w8 _ 0 _ _ _ key.out.2
   have f1:=ae w8 _ 1 _ _ _ key.out.2
   have fz:=fun k=>frozen_of_row w8 _ k _ _ key.out.2
   clear key o8 g8 s8 HH u7 hcl7 hbs7 HI
   go_wp2_with fail
   go_roundw
   case rel=>exact⟨1,_,_,_,_,by omega,by go_num,HS⟩
   case measure=>simp[il]
  ·have x0:=ae wr _ 0 _ _ _ HI.out.xb
   have x1:=ae wr _ 1 _ _ _ HI.out.xb
   have x2:=ae wr _ 2 _ _ _ HI.out.xb
   have y0:=ae wr _ 0 _ _ _ HI.out.rb
   have y1:=ae wr _ 1 _ _ _ HI.out.rb
   have y2:=ae wr _ 2 _ _ _ HI.out.rb
   have yz:=fun k=>frozen_of_row wr _ k _ _ HI.out.rb
   go_wp2_with fail
   refine bodyPost_ret (v:=.agg #[.slice va 1 vc,.slice ua 1 uc,.int .u32 50]) (by simp[results,results26,go_sem,y0,y1,y2]) rfl ?_
   have o:Off [w.heap.size] wr (((wr.setCell ⟨w.heap.size,0,none⟩ (.slice va 1 vc)).setCell ⟨w.heap.size,1,none⟩ (.slice ua 1 uc)).setCell ⟨w.heap.size,2,none⟩ (.int .u32 50)):=((Off.setCell _ _ _ _).trans (Off.setCell _ _ _ _)).trans (Off.setCell _ _ _ _)
   have hI:=HI.out
   exact⟨va,vc,ua,uc,rfl,(aQ hI.ov (fun g hg=>o.block g (hI.ov.lt g hg).2 (by have:=(hI.ov.lt g hg).1;simp;omega))),(aQ hI.ou (fun g hg=>o.block g (hI.ou.lt g hg).2 (by have:=(hI.ou.lt g hg).1;simp;omega))),hI.dis,o.below hI.bel (fun k hk=>by simp at hk;omega) hI.bel.size⟩
theorem bn {w:World} {b o:Nat} {cs:Array Value} {T:TypeId} {z:Nat × Nat} {v:Value} (h:w.heap[b]?=some (.cells cs T z)) (hv:cs[o]?=some v):w.setCell ⟨b,o,none⟩ v=w:=by
 have e:cs.setIfInBounds o v=cs:=by
  apply Array.ext
  ·simp
  ·intro i h1 h2
   rw[Array.getElem_setIfInBounds]
   split
   ·next q=>
    subst q
    rw[Array.getElem?_eq_getElem h2]at hv
    exact (Option.some.inj hv).symm
   ·rfl
 have hm:w.heap.modify b (fun x=>match x with
   | .cells c elem frozen=>.cells (if (⟨b,o,none⟩:Addr).spot.isSome then c else c.setIfInBounds o v) elem frozen
   | x=>x)=w.heap:=by
  apply Array.ext
  ·simp
  ·intro i h1 h2
   rw[Array.getElem_modify]
   split
   ·next q=>
    subst q
    have:w.heap[b]=.cells cs T z:=by
     rw[Array.getElem?_eq_getElem h2]at h
     exact Option.some.inj h
    rw[this]
    simp[e]
   ·rfl
 unfold World.setCell
 exact congrArg (fun x=>({ w with heap:=x }:World)) hm
theorem lO {fn:Func} {t u:Tmp} {ty:TypeId} {b o b' o':Nat} {v v':Value} (h:fn.results=#[.cell t ty,.cell u ty]) (tmps:Array Value) (P:Program) (w:World) (ht:tmps.getD t undef=ac b o) (hu:tmps.getD u undef=ac b' o') (hl:(loadVar ty ⟨b,o,none⟩).run P w=.ok v w) (hl':(loadVar ty ⟨b',o',none⟩).run P w=.ok v' w):(results fn tmps).run P w=.ok (.tuple #[v,v']) w:=by
 rw[Array.getD_eq_getD_getElem?]at ht hu
 simp[results,h,ht,hu,asAddr,hl,hl']
theorem abo (X k hn dn:Nat) (h0 h1 h2 h3 h4 h5 d0 d1 d2 d3 d4 d5:Int) (hq ho dq dO:Bool) (bh bd:Nat→Nat) (w:World) (hH:∀ w1,Below w.heap.size w w1→Calls prog 35 #[ac X 0,.int .i64 (k:Nat),.int .i64 1] w1 fun r w'=>∃ a ca,r=.returned (.tuple #[.agg #[.int .i64 h0,.int .u32 h1,.int .u32 h2,.int .u32 h3,.int .i64 h4,.int .i64 h5,.bool hq,.bool ho,.slice a hn ca],.int .i64 0])∧Hid (Below w1.heap.size w1 w'∧Row8 w' a hn ca bh∧∀ y,a=some y→0<hn→w1.heap.size≤y.block)) (hD:∀ w1,Below w.heap.size w w1→Calls prog 35 #[ac X 0,.int .i64 (k:Nat),.int .i64 2] w1 fun r w'=>∃ b cb,r=.returned (.tuple #[.agg #[.int .i64 d0,.int .u32 d1,.int .u32 d2,.int .u32 d3,.int .i64 d4,.int .i64 d5,.bool dq,.bool dO,.slice b dn cb],.int .i64 0])∧Hid (Below w1.heap.size w1 w'∧Row8 w' b dn cb bd∧∀ y,b=some y→0<dn→w1.heap.size≤y.block)):Calls prog 14 #[ac X 0,.int .i64 (k:Nat)] w fun r w'=>∃ a ca b cb,r=.returned (.tuple #[.agg #[.int .i64 h0,.int .u32 h1,.int .u32 h2,.int .u32 h3,.int .i64 h4,.int .i64 h5,.bool hq,.bool ho,.slice a hn ca],.agg #[.int .i64 d0,.int .u32 d1,.int .u32 d2,.int .u32 d3,.int .i64 d4,.int .i64 d5,.bool dq,.bool dO,.slice b dn cb]])∧Hid (Row8 w' a hn ca bh∧Row8 w' b dn cb bd∧Below w.heap.size w w'∧(∀ y,a=some y→0<hn→w.heap.size≤y.block)∧(∀ y,b=some y→0<dn→w.heap.size≤y.block)∧∀ y z,a=some y→b=some z→0<hn→0<dn→y.block≠z.block):=by
 have s1:=iy w (.cells dA 43)
 have bW:Below w.heap.size w ((w.alloc (.cells dA 43)).alloc (.cells dA 43)):=az (az (Below.refl _ w) _) _
 have kp:((w.alloc (.cells dA 43)).alloc (.cells dA 43)).heap[w.heap.size]?=some (.cells dA 43 (0,0)):=(Below.heap_alloc _ _ _ (by omega)).trans (ay w _)
 have kq:=ay (w.alloc (.cells dA 43)) (.cells dA 43)
 rw[s1]at kq
 obtain⟨W,hW⟩:∃ z,((w.alloc (.cells dA 43)).alloc (.cells dA 43))=z:=⟨_,rfl⟩
 rw[hW]at bW kp kq
 obtain⟨x,hx⟩:∃ z,w.heap.size=z:=⟨_,rfl⟩
 have HB:Hid (Below w.heap.size w W):=bW
 have HK:Hid (W.heap[x]?=some (.cells dA 43 (0,0))∧W.heap[x+1]?=some (.cells dA 43 (0,0))):=by rw[hx]at kp kq;exact⟨kp,kq⟩
 have HE:Hid (_=W):=hW
 have HS:Hid (w.heap.size=x):=hx
 have hA:=hH W bW
 clear s1 bW kp kq hW hx
 go_enter func14,ntmps14
 go_upto_region 1 with fail
 rw[HE.out,HS.out]
 go_wp2_with fail
 refine hA.mono ?_
 rintro r w1 ⟨a,ca,rfl,H1⟩
 clear hA
 have b2:Below w1.heap.size w1 (w1.alloc (.cells #[.int .i64 h0,.int .u32 h1,.int .u32 h2,.int .u32 h3,.int .i64 h4,.int .i64 h5,.bool hq,.bool ho,.slice a hn ca] 43)):=az (Below.refl _ _) _
 have k2:=ay w1 (.cells #[.int .i64 h0,.int .u32 h1,.int .u32 h2,.int .u32 h3,.int .i64 h4,.int .i64 h5,.bool hq,.bool ho,.slice a hn ca] 43)
 obtain⟨w2,hw2⟩:∃ z,w1.alloc (.cells #[.int .i64 h0,.int .u32 h1,.int .u32 h2,.int .u32 h3,.int .i64 h4,.int .i64 h5,.bool hq,.bool ho,.slice a hn ca] 43)=z:=⟨_,rfl⟩
 obtain⟨y,hy⟩:∃ z,w1.heap.size=z:=⟨_,rfl⟩
 rw[hw2]at b2 k2
 have HW2:Hid (Below W.heap.size W w2):=H1.out.1.trans (b2.mono H1.out.1.size)
 have HR1:Hid (_):=H1.out.2.1.below b2
 rw[hy]at k2
 have hB:=hD w2 (HB.out.trans (HW2.out.mono HB.out.size))
 have HE2:Hid (_=w2):=hw2
 have HY:Hid (w1.heap.size=y):=hy
 have HK2:Hid (w2.heap[y]?=some (.cells #[.int .i64 h0,.int .u32 h1,.int .u32 h2,.int .u32 h3,.int .i64 h4,.int .i64 h5,.bool hq,.bool ho,.slice a hn ca] 43 (0,0))):=k2
 have HxY:Hid (x+1<y):=by
  have l1:=(Array.getElem?_eq_some_iff.1 HK.out.2).1
  have l2:=H1.out.1.size
  show x+1<y
  omega
 clear b2 k2 hw2 hy
 go_upto_region 2 with fail
 rw[HE2.out,HY.out]
 go_wp2_with fail
 refine hB.mono ?_
 rintro r w3 ⟨b,cb,rfl,H3⟩
 clear hB
 have b4:Below w3.heap.size w3 (w3.alloc (.cells #[.int .i64 d0,.int .u32 d1,.int .u32 d2,.int .u32 d3,.int .i64 d4,.int .i64 d5,.bool dq,.bool dO,.slice b dn cb] 43)):=az (Below.refl _ _) _
 have k4:=ay w3 (.cells #[.int .i64 d0,.int .u32 d1,.int .u32 d2,.int .u32 d3,.int .i64 d4,.int .i64 d5,.bool dq,.bool dO,.slice b dn cb] 43)
 obtain⟨w4,hw4⟩:∃ z,w3.alloc (.cells #[.int .i64 d0,.int .u32 d1,.int .u32 d2,.int .u32 d3,.int .i64 d4,.int .i64 d5,.bool dq,.bool dO,.slice b dn cb] 43)=z:=⟨_,rfl⟩
 obtain⟨z,hz⟩:∃ q,w3.heap.size=q:=⟨_,rfl⟩
 rw[hw4]at b4 k4
 have b24:Below w2.heap.size w2 w4:=H3.out.1.trans (b4.mono H3.out.1.size)
 have ly:=(Array.getElem?_eq_some_iff.1 HK2.out).1
 have lz:y<z:=by have:=H3.out.1.size;omega
 rw[hz]at k4
 have ky4:=(b24.block y ly).trans HK2.out
 have hS:∀ w',Off [x,x+1] w4 w'→w'.cell? ⟨y,0,none⟩=some (Value.int .i64 h0)∧w'.cell? ⟨y,1,none⟩=some (Value.int .u32 h1)∧w'.cell? ⟨y,2,none⟩=some (Value.int .u32 h2)∧w'.cell? ⟨y,3,none⟩=some (Value.int .u32 h3)∧w'.cell? ⟨y,4,none⟩=some (Value.int .i64 h4)∧w'.cell? ⟨y,5,none⟩=some (Value.int .i64 h5)∧w'.cell? ⟨y,6,none⟩=some (Value.bool hq)∧w'.cell? ⟨y,7,none⟩=some (Value.bool ho)∧w'.cell? ⟨y,8,none⟩=some (Value.slice a hn ca)∧w'.cell? ⟨z,0,none⟩=some (Value.int .i64 d0)∧w'.cell? ⟨z,1,none⟩=some (Value.int .u32 d1)∧w'.cell? ⟨z,2,none⟩=some (Value.int .u32 d2)∧w'.cell? ⟨z,3,none⟩=some (Value.int .u32 d3)∧w'.cell? ⟨z,4,none⟩=some (Value.int .i64 d4)∧w'.cell? ⟨z,5,none⟩=some (Value.int .i64 d5)∧w'.cell? ⟨z,6,none⟩=some (Value.bool dq)∧w'.cell? ⟨z,7,none⟩=some (Value.bool dO)∧w'.cell? ⟨z,8,none⟩=some (Value.slice b dn cb):=fun w' o=>by
  have q1:=(o.block y (Nat.lt_of_lt_of_le ly b24.size) (by have:=HxY.out;simp;omega)).trans ky4
  have q2:=(o.block z (Array.getElem?_eq_some_iff.1 k4).1 (by have:=HxY.out;simp;omega)).trans k4
  exact⟨ae w' y 0 _ _ _ q1,ae w' y 1 _ _ _ q1,ae w' y 2 _ _ _ q1,ae w' y 3 _ _ _ q1,ae w' y 4 _ _ _ q1,ae w' y 5 _ _ _ q1,ae w' y 6 _ _ _ q1,ae w' y 7 _ _ _ q1,ae w' y 8 _ _ _ q1,ae w' z 0 _ _ _ q2,ae w' z 1 _ _ _ q2,ae w' z 2 _ _ _ q2,ae w' z 3 _ _ _ q2,ae w' z 4 _ _ _ q2,ae w' z 5 _ _ _ q2,ae w' z 6 _ _ _ q2,ae w' z 7 _ _ _ q2,ae w' z 8 _ _ _ q2⟩
 have W4:Below W.heap.size W w4:=HW2.out.trans (b24.mono HW2.out.size)
 have lw:=HK.out
 have kx:=(W4.block x (Array.getElem?_eq_some_iff.1 lw.1).1).trans lw.1
 have kx1:=(W4.block (x+1) (Array.getElem?_eq_some_iff.1 lw.2).1).trans lw.2
 have HSS:Hid (_):=hS
 have od0:Off [x,x+1] w4 w4.drew:=Off.of_below (Below.drew (Below.refl _ _))
 have HS0:=hS w4.drew od0
 have HR3:Hid (_):=And.intro (HR1.out.below b24) (And.intro (H3.out.2.1.below b4) W4)
 have HE4:Hid (_=w4):=hw4
 have HZ:Hid (w3.heap.size=z):=hz
 clear b4 k4 hw4 hz b24 ly lz ky4 hS W4 lw
 go_upto_region 3 with fail
 rw[HE4.out,HZ.out]
 refine wp_region_held_drew (S:=fun w'=>w'.cell? ⟨y,0,none⟩=some (Value.int .i64 h0)∧w'.cell? ⟨y,1,none⟩=some (Value.int .u32 h1)∧w'.cell? ⟨y,2,none⟩=some (Value.int .u32 h2)∧w'.cell? ⟨y,3,none⟩=some (Value.int .u32 h3)∧w'.cell? ⟨y,4,none⟩=some (Value.int .i64 h4)∧w'.cell? ⟨y,5,none⟩=some (Value.int .i64 h5)∧w'.cell? ⟨y,6,none⟩=some (Value.bool hq)∧w'.cell? ⟨y,7,none⟩=some (Value.bool ho)∧w'.cell? ⟨y,8,none⟩=some (Value.slice a hn ca)∧w'.cell? ⟨z,0,none⟩=some (Value.int .i64 d0)∧w'.cell? ⟨z,1,none⟩=some (Value.int .u32 d1)∧w'.cell? ⟨z,2,none⟩=some (Value.int .u32 d2)∧w'.cell? ⟨z,3,none⟩=some (Value.int .u32 d3)∧w'.cell? ⟨z,4,none⟩=some (Value.int .i64 d4)∧w'.cell? ⟨z,5,none⟩=some (Value.int .i64 d5)∧w'.cell? ⟨z,6,none⟩=some (Value.bool dq)∧w'.cell? ⟨z,7,none⟩=some (Value.bool dO)∧w'.cell? ⟨z,8,none⟩=some (Value.slice b dn cb)) (by kernel_rfl) HS0 (fun _=>?_)
 refine an (i:=0) (v:=Value.agg #[Value.int .i64 h0,Value.int .u32 h1,Value.int .u32 h2,Value.int .u32 h3,Value.int .i64 h4,Value.int .i64 h5,Value.bool hq,Value.bool ho,Value.slice a hn ca]) ?_
 refine an (i:=1) (v:=Value.agg #[Value.int .i64 d0,Value.int .u32 d1,Value.int .u32 d2,Value.int .u32 d3,Value.int .i64 d4,Value.int .i64 d5,Value.bool dq,Value.bool dO,Value.slice b dn cb]) ?_
 have kd:w4.drew.heap[x]?=some (.cells dA 43 (0,0)):=kx
 have kd1:w4.drew.heap[x+1]?=some (.cells dA 43 (0,0)):=kx1
 have h8:w4.drew.there x 0 9:=bJ kd rfl
 have o8:=cE w4.drew x 0 #[Value.int .i64 h0,Value.int .u32 h1,Value.int .u32 h2,Value.int .u32 h3,Value.int .i64 h4,Value.int .i64 h5,Value.bool hq,Value.bool ho,Value.slice a hn ca].toList
 have r8:=World.rangeAt_setCells_same w4.drew x 0 #[Value.int .i64 h0,Value.int .u32 h1,Value.int .u32 h2,Value.int .u32 h3,Value.int .i64 h4,Value.int .i64 h5,Value.bool hq,Value.bool ho,Value.slice a hn ca].toList h8
 have oo8:Off [x,x+1] w4 (w4.drew.setCells x 0 #[Value.int .i64 h0,Value.int .u32 h1,Value.int .u32 h2,Value.int .u32 h3,Value.int .i64 h4,Value.int .i64 h5,Value.bool hq,Value.bool ho,Value.slice a hn ca].toList):=od0.trans (o8.more (by simp))
 refine bK (i:=2) (by kernel_rfl) rfl (by kernel_rfl) 43 (.tmp 4) (.tmp 22) rfl x 0 #[Value.int .i64 h0,Value.int .u32 h1,Value.int .u32 h2,Value.int .u32 h3,Value.int .i64 h4,Value.int .i64 h5,Value.bool hq,Value.bool ho,Value.slice a hn ca] (by kernel_rfl) (by kernel_rfl) h8 (by kernel_rfl) (by kernel_rfl) (HSS.out _ oo8) ?_
 obtain⟨w5,hw5⟩:∃ q,w4.drew.setCells x 0 #[Value.int .i64 h0,Value.int .u32 h1,Value.int .u32 h2,Value.int .u32 h3,Value.int .i64 h4,Value.int .i64 h5,Value.bool hq,Value.bool ho,Value.slice a hn ca].toList=q:=⟨_,rfl⟩
 rw[hw5]at r8 o8 oo8 ⊢
 have k5:w5.heap[x+1]?=some (.cells dA 43 (0,0)):=(o8.block (x+1) (Array.getElem?_eq_some_iff.1 kd1).1 (by simp)).trans kd1
 have h9:w5.there (x+1) 0 9:=bJ k5 rfl
 have o9:=cE w5 (x+1) 0 #[Value.int .i64 d0,Value.int .u32 d1,Value.int .u32 d2,Value.int .u32 d3,Value.int .i64 d4,Value.int .i64 d5,Value.bool dq,Value.bool dO,Value.slice b dn cb].toList
 have r9:=World.rangeAt_setCells_same w5 (x+1) 0 #[Value.int .i64 d0,Value.int .u32 d1,Value.int .u32 d2,Value.int .u32 d3,Value.int .i64 d4,Value.int .i64 d5,Value.bool dq,Value.bool dO,Value.slice b dn cb].toList h9
 have oo9:Off [x,x+1] w4 (w5.setCells (x+1) 0 #[Value.int .i64 d0,Value.int .u32 d1,Value.int .u32 d2,Value.int .u32 d3,Value.int .i64 d4,Value.int .i64 d5,Value.bool dq,Value.bool dO,Value.slice b dn cb].toList):=oo8.trans (o9.more (by simp))
 refine bK (i:=3) (by kernel_rfl) rfl (by kernel_rfl) 43 (.tmp 5) (.tmp 23) rfl (x+1) 0 #[Value.int .i64 d0,Value.int .u32 d1,Value.int .u32 d2,Value.int .u32 d3,Value.int .i64 d4,Value.int .i64 d5,Value.bool dq,Value.bool dO,Value.slice b dn cb] (by kernel_rfl) (by kernel_rfl) h9 (by kernel_rfl) (by kernel_rfl) (HSS.out _ oo9) ?_
 obtain⟨w6,hw6⟩:∃ q,w5.setCells (x+1) 0 #[Value.int .i64 d0,Value.int .u32 d1,Value.int .u32 d2,Value.int .u32 d3,Value.int .i64 d4,Value.int .i64 d5,Value.bool dq,Value.bool dO,Value.slice b dn cb].toList=q:=⟨_,rfl⟩
 rw[hw6]at r9 o9 oo9 ⊢
 have lx5:x<w5.heap.size:=Nat.lt_of_lt_of_le (Array.getElem?_eq_some_iff.1 kd).1 o8.size
 have r8':w6.rangeAt x 0 #[Value.int .i64 h0,Value.int .u32 h1,Value.int .u32 h2,Value.int .u32 h3,Value.int .i64 h4,Value.int .i64 h5,Value.bool hq,Value.bool ho,Value.slice a hn ca].toList:=fun j v hv=>(World.cell?_of_block (a:=⟨x,0+j,none⟩) (o9.block x lx5 (by simp))).trans (r8 j v hv)
 have hl1:(loadVar 43 ⟨x,0,none⟩).run prog w6=.ok (.agg #[Value.int .i64 h0,Value.int .u32 h1,Value.int .u32 h2,Value.int .u32 h3,Value.int .i64 h4,Value.int .i64 h5,Value.bool hq,Value.bool ho,Value.slice a hn ca]) w6:=run_loadVar_mid (P:=prog) _ x 0 43 #[Value.int .i64 h0,Value.int .u32 h1,Value.int .u32 h2,Value.int .u32 h3,Value.int .i64 h4,Value.int .i64 h5,Value.bool hq,Value.bool ho,Value.slice a hn ca].toList _ r8' underlying43 rfl (by kernel_rfl)
 have hl2:(loadVar 43 ⟨x+1,0,none⟩).run prog w6=.ok (.agg #[Value.int .i64 d0,Value.int .u32 d1,Value.int .u32 d2,Value.int .u32 d3,Value.int .i64 d4,Value.int .i64 d5,Value.bool dq,Value.bool dO,Value.slice b dn cb]) w6:=run_loadVar_mid (P:=prog) _ (x+1) 0 43 #[Value.int .i64 d0,Value.int .u32 d1,Value.int .u32 d2,Value.int .u32 d3,Value.int .i64 d4,Value.int .i64 d5,Value.bool dq,Value.bool dO,Value.slice b dn cb].toList _ r9 underlying43 rfl (by kernel_rfl)
 have HO:Hid (_):=oo9
 have HL:Hid (_):=And.intro hl1 hl2
 clear h8 h9 o8 o9 r8 r9 r8' kd kd1 k5 lx5 oo8 oo9 od0 hw5 hw6 kx kx1 HSS HS0 hl1 hl2
 refine wpAnyH_done (by kernel_rfl) ?_ _
 go_wp2_with fail
 refine bodyPost_ret (v:=.tuple #[.agg #[Value.int .i64 h0,Value.int .u32 h1,Value.int .u32 h2,Value.int .u32 h3,Value.int .i64 h4,Value.int .i64 h5,Value.bool hq,Value.bool ho,Value.slice a hn ca],.agg #[Value.int .i64 d0,Value.int .u32 d1,Value.int .u32 d2,Value.int .u32 d3,Value.int .i64 d4,Value.int .i64 d5,Value.bool dq,Value.bool dO,Value.slice b dn cb]]) (lO (t:=4) (u:=5) (ty:=43) rfl _ prog w6 (by kernel_rfl) (by kernel_rfl) HL.out.1 HL.out.2) rfl ?_
 obtain⟨R1,R3,W4⟩:=HR3.out
 have lw:=(Array.getElem?_eq_some_iff.1 HK.out.2).1
 have bw4:Below w.heap.size w w4:=HB.out.trans (W4.mono HB.out.size)
 have hs:w.heap.size=x:=HS.out
 have zW:=HB.out.size
 have zw2:=HW2.out.size
 refine⟨a,ca,b,cb,rfl,?_,?_,HO.out.below bw4 (fun q hq=>by simp at hq;omega) bw4.size,fun y hy h0=>by have:=H1.out.2.2 y hy h0;omega,fun y hy h0=>by have:=H3.out.2.2 y hy h0;omega,fun y z hy hz h0 h0'=>?_⟩
 ·exact R1.offY HO.out (fun q hq h0=>by have:=H1.out.2.2 q hq h0;simp;omega)
 ·exact R3.offY HO.out (fun q hq h0=>by have:=H3.out.2.2 q hq h0;have:=HW2.out.size;simp;omega)
 ·have l1:=World.block_lt_of_cell? w1 _ (H1.out.2.1.src y hy 0 h0)
  have hb:(y.add 0).block=y.block:=by unfold Addr.add;split <;> rfl
  have l2:=H3.out.2.2 z hz h0'
  have l3:=HK2.out
  have l4:=(Array.getElem?_eq_some_iff.1 l3).1
  have l5:w1.heap.size=_:=HY.out
  omega
open Go.RowKit
theorem pM (v:Vs):aE (eQ v false)=false:=by unfold aE;rw[eu];rfl
section
variable {w wr w':World} {g:Nat} {fs:List Fa}
end
end Go.Proofs.YtddahhlbpcbddaaGreat
