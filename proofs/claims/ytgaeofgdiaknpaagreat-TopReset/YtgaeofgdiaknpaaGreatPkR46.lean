/- Part 47: contracts that the proof rests on. -/
import Derived.Test.YtgaeofgdiaknpaaGreatPkR45
set_option maxHeartbeats 64000000
namespace Go.Proofs.YtgaeofgdiaknpaaGreat
set_option maxRecDepth 100000
open Go.RowKit Go.Maps
set_option linter.unusedVariables false
def NgI (w wr:World) (X b x n mx:Nat) (PH PD:Nat→Pm) (v0 v1:Value) (ob:Obj) (i:Nat):Prop:=∃ G:Ng,G.i=i∧G.X=X∧G.b=b∧G.x=x∧G.n=n∧G.mx=mx∧G.PH=PH∧G.PD=PD∧G.v0=v0∧G.v1=v1∧G.ob=ob∧Al w wr G.t
theorem ngi_next {w wr w5 w6 w7 w8:World} {X b x n mx i:Nat} {PH PD:Nat→Pm} {v0 v1:Value} {ob:Obj} {G:Ng} {P Q:Pm} (A:Al w wr G.t) (hG:G.i=i∧G.X=X∧G.b=b∧G.x=x∧G.n=n∧G.mx=mx∧G.PH=PH∧G.PD=PD∧G.v0=v0∧G.v1=v1∧G.ob=ob) (b5:Below wr.heap.size wr w5) {h d dm g:Nat}
  (H5:Below wr.drew.heap.size wr.drew w5∧∃ hU dU,HV w5 h P hU hnew∧DV w5 d dm g 16 mx Q dU (dnew M0)∧(∀ k,k ∈ hU→wr.drew.heap.size≤k)∧(∀ k,k ∈ dU→wr.drew.heap.size≤k)∧∀ k,k ∈ hU→k ∉ dU) (hP:PH i=P) (hQ:PD i=Q) (b6:Below w5.heap.size w5 w6) {vc:Value}
  (o7:w7.ownsRow 0 73 3 vc (i+1) (cnL i G.h G.d G.dm ++ cn3 h d dm)) (g7:w6.grownBy w7 G.vc.ownBlock) (p7:vc.ownBlock=G.vc.ownBlock∨vc.ownBlock=some w6.heap.size) (o8:Off [X] w7 w8) (k8:w8.heap[X]?=some (.cells #[v0,v1,.int .u32 (mx:Nat),vc,.pointer (some ⟨b,0,none⟩),.int .i64 0,.slice none 0 0] 68 (0,0))):NgI w w8 X b x n mx PH PD v0 v1 ob (i+1):=by
 obtain⟨_,hU,dU,hv,dv,hUg,dUg,dis⟩:=H5
 obtain⟨rfl,rfl,rfl,rfl,rfl,rfl,rfl,rfl,rfl,rfl,rfl⟩:=hG
 subst hP hQ
 exact⟨G.more vc h d dm g hU dU,rfl,rfl,rfl,rfl,rfl,rfl,rfl,rfl,rfl,rfl,rfl,Ng.step A b5 hv dv hUg dUg dis b6 o7 g7 p7 o8 k8⟩
theorem wnewQ (PH PD:Nat→Pm) (q0 o0 v0 q1 o1 v1 n mx:Nat) (hH:∀ k,k<n→Pok (PH k)) (hD:∀ k,k<n→Pok (PD k)) (hmx:mx<4294967296) (h0:mx≠0) (hn0:0<n) (hn8:n≤1000) (hu0:n≤v0) (hu1:n≤v1) (w:World) (k0:PqRow w (some ⟨q0,o0,none⟩) n (fun i=>(PH i).q)) (k1:PqRow w (some ⟨q1,o1,none⟩) n (fun i=>(PD i).q)) (hck:ckE n n mx (fun i=>(PH i).q) (fun i=>(PD i).q)=0):Calls Tryz.prog 9 #[.agg #[.slice (some ⟨q0,o0,none⟩) n v0,.slice (some ⟨q1,o1,none⟩) n v1,.int .u32 (mx:Nat)]] w fun r w'=>∃ L:Pw,r=.returned (.tuple #[.pointer (some ⟨L.x,0,none⟩),.int .i64 0])∧Hid (PW ev w w' (evT L) L∧L.S=sN n mx PH PD):=by
 have kA:=heap_alloc_new w (.cells #[.slice (some ⟨q0,o0,none⟩) n v0,.slice (some ⟨q1,o1,none⟩) n v1,.int .u32 (mx:Nat)] 26)
 have bA:=belY (Below.refl _ w) (.cells #[.slice (some ⟨q0,o0,none⟩) n v0,.slice (some ⟨q1,o1,none⟩) n v1,.int .u32 (mx:Nat)] 26)
 have sA:=sz1 w (.cells #[.slice (some ⟨q0,o0,none⟩) n v0,.slice (some ⟨q1,o1,none⟩) n v1,.int .u32 (mx:Nat)] 26)
 obtain⟨wa,hwa⟩:∃ y,w.alloc (.cells #[.slice (some ⟨q0,o0,none⟩) n v0,.slice (some ⟨q1,o1,none⟩) n v1,.int .u32 (mx:Nat)] 26)=y:=⟨_,rfl⟩
 rw[hwa]at kA bA sA
 obtain⟨x,hx⟩:∃ y,w.heap.size=y:=⟨_,rfl⟩
 rw[hx]at kA sA
 have y0:wa.cell? ⟨x,0,none⟩=some (.slice (some ⟨q0,o0,none⟩) n v0):=cell_of_row wa x 0 _ _ _ kA
 have y1:wa.cell? ⟨x,1,none⟩=some (.slice (some ⟨q1,o1,none⟩) n v1):=cell_of_row wa x 1 _ _ _ kA
 have y2:wa.cell? ⟨x,2,none⟩=some (.int .u32 (mx:Nat)):=cell_of_row wa x 2 _ _ _ kA
 have hCk:=pcheckQ (fun i=>(PH i).q) (fun i=>(PD i).q) (some ⟨q0,o0,none⟩) (some ⟨q1,o1,none⟩) n v0 n v1 mx wa (k0.below bA) (k1.below bA) hu0 hu1 (by omega) (by omega)
 rw[hck]at hCk
 have HH:Hid (_):=And.intro bA (And.intro kA (And.intro k0 (And.intro k1 sA)))
 have HE:Hid (_=wa):=hwa
 have HS:Hid (w.heap.size=x):=hx
 have HPk:Hid (_):=And.intro hH hD
 clear bA kA k0 k1 hwa hx sA hck hH hD
 go_enter Tryz.func9,Tryz.ntmps9
 go_upto_region 1 with fail
 rw[HE.out,HS.out]
 go_wp2_with fail
 refine hCk.mono ?_
 rintro r w1 ⟨rfl,H1⟩
 clear hCk y0 y1 y2
 obtain⟨bA,kA,k0,k1,sA⟩:=HH.out
 have b1:=H1.out
 have hb01:=bA.trans (b1.mono bA.size)
 have kx:=(b1.block x (Array.getElem?_eq_some_iff.1 kA).1).trans kA
 have y0:w1.cell? ⟨x,0,none⟩=some (.slice (some ⟨q0,o0,none⟩) n v0):=cell_of_row w1 x 0 _ _ _ kx
 have y1:w1.cell? ⟨x,1,none⟩=some (.slice (some ⟨q1,o1,none⟩) n v1):=cell_of_row w1 x 1 _ _ _ kx
 have y2:w1.cell? ⟨x,2,none⟩=some (.int .u32 (mx:Nat)):=cell_of_row w1 x 2 _ _ _ kx
 have hCo:=pcopiedQ (fun i=>(PH i).q) (fun i=>(PD i).q) q0 o0 v0 q1 o1 v1 n mx w1 (PqRow.below k0 hb01) (PqRow.below k1 hb01) (by omega)
 clear bA kA k0 k1 sA b1 hb01 kx
 go_wp2_with fail
 refine hCo.mono ?_
 rintro r w2 ⟨a0,c0,a1,c1,rfl,H2⟩
 clear hCo y0 y1 y2
 have hBn:=bnew_any w2
 go_wp2_with fail
 refine hBn.mono ?_
 rintro r w3 ⟨rfl,H3⟩
 clear hBn
 obtain⟨b,hb⟩:∃ y,w2.heap.size+1=y:=⟨_,rfl⟩
 rw[hb]
 have kW:=heap_alloc_new w3 (.cells #[.slice a0 n c0,.slice a1 n c1,.int .u32 (mx:Nat),.slice none 0 0,.pointer (some ⟨b,0,none⟩),.int .i64 0,.slice none 0 0] 68)
 have bW:=belY (Below.refl _ w3) (.cells #[.slice a0 n c0,.slice a1 n c1,.int .u32 (mx:Nat),.slice none 0 0,.pointer (some ⟨b,0,none⟩),.int .i64 0,.slice none 0 0] 68)
 obtain⟨wx,hwx⟩:∃ y,w3.alloc (.cells #[.slice a0 n c0,.slice a1 n c1,.int .u32 (mx:Nat),.slice none 0 0,.pointer (some ⟨b,0,none⟩),.int .i64 0,.slice none 0 0] 68)=y:=⟨_,rfl⟩
 obtain⟨X,hX⟩:∃ y,w3.heap.size=y:=⟨_,rfl⟩
 rw[hwx]at kW bW
 rw[hX]at kW
 obtain⟨bA,kA,k0,k1,sA⟩:=HH.out
 have b1:=H1.out
 obtain⟨r0,r1,b2,d01⟩:=H2.out
 obtain⟨b3,hg,s3⟩:=H3.out
 have b13:Below wa.heap.size wa wx:=((b1.trans (b2.mono b1.size)).trans (b3.mono (Nat.le_trans b1.size b2.size))).trans (bW.mono (Nat.le_trans (Nat.le_trans b1.size b2.size) b3.size))
 have kx:=(b13.block x (Array.getElem?_eq_some_iff.1 kA).1).trans kA
 have b2x:Below w2.heap.size w2 wx:=b3.trans (bW.mono b3.size)
 have s1:=b1.size
 have hsx:=HS.out
 have A0:NgI w wx X b x n mx PH PD (.slice a0 n c0) (.slice a1 n c1) (.cells #[.slice (some ⟨q0,o0,none⟩) n v0,.slice (some ⟨q1,o1,none⟩) n v1,.int .u32 (mx:Nat)] 26 (0,0)) 0:=by
  refine⟨⟨X,b,w2.heap.size,x,.slice a0 n c0,.slice a1 n c1,.slice none 0 0,n,0,mx,PH,PD,fun _=>0,fun _=>0,fun _=>0,fun _=>0,fun _=>[],fun _=>[],.cells #[.slice (some ⟨q0,o0,none⟩) n v0,.slice (some ⟨q1,o1,none⟩) n v1,.int .u32 (mx:Nat)] 26 (0,0)⟩,rfl,rfl,rfl,rfl,rfl,rfl,rfl,rfl,rfl,rfl,rfl,Ng.start rfl rfl (bA.trans (b13.mono bA.size)) kW (own_lowY (own_offY (l:=[]) r0 (Off.of_below b2x) (by simp)) (Nat.zero_le _)) (own_lowY (own_offY (l:=[]) r1 (Off.of_below b2x) (by simp)) (Nat.zero_le _)) ?_ kx hsx.symm (fun k hk=>?_) (fun k hk=>?_) d01 hb.symm ?_ ?_⟩
  ·have hh:Bg 0 w3 (w2.heap.size+1) w2.heap.size (.slice none 0 0) [] none []:=⟨hg.at_,⟨⟨rfl,.inl ⟨rfl,rfl⟩⟩,fun i f hi=>by simp at hi,fun f hf=>by simp at hf,by simp⟩,hg.met,hg.pk,Nat.zero_le _,Nat.zero_le _⟩
   rw[hb]at hh
   exact hh.below bW
  ·have:=r0.lt k hk
   show w.heap.size<k∧k<w2.heap.size
   omega
  ·have:=r1.lt k hk
   show w.heap.size<k∧k<w2.heap.size
   omega
  ·show X=w2.heap.size+2
   omega
  ·show w.heap.size<w2.heap.size
   have:=b2.size
   omega
 have y0:wx.cell? ⟨x,0,none⟩=some (.slice (some ⟨q0,o0,none⟩) n v0):=cell_of_row wx x 0 _ _ _ kx
 have HA0:Hid (_):=A0
 have HE3:Hid (_=wx):=hwx
 have HX3:Hid (w3.heap.size=X):=hX
 have HK0:Hid (_):=And.intro k0 (And.intro k1 (And.intro (show w.heap.size<X by have:=b2.size;omega) hsx))
 clear bA kA k0 k1 sA b1 r0 r1 b2 d01 b3 hg s3 b13 kx b2x s1 A0 kW bW hwx hX hb hsx
 go_upto_region 5 with fail
 rw[HE3.out,HX3.out]
 go_wp2_with fail
 go_loopw [6,20,21,22,23,24,25,26,27,28,29,30,31,32,33,34,35,36,37,38,39,40,41,42,43,44,45] (fun _ ctr _ _ _ _ _ _ _ _ _ _ _ _ _ _ _ _ _ _ _ _ _ _ _ _ _ wr=>∃ i:Nat,i≤n∧ctr=.int .i64 ((i:Nat):Int)∧Hid (NgI w wr X b x n mx PH PD (.slice a0 n c0) (.slice a1 n c1) (.cells #[.slice (some ⟨q0,o0,none⟩) n v0,.slice (some ⟨q1,o1,none⟩) n v1,.int .u32 (mx:Nat)] 26 (0,0)) i)) (fun _ ctr _ _ _ _ _ _ _ _ _ _ _ _ _ _ _ _ _ _ _ _ _ _ _ _ _ _=>n-natQ ctr)
 case atStart=>exact⟨0,by omega,rfl,HA0.out⟩
 case round=>
  obtain⟨i,hi,rfl,HI⟩:=hrel
  obtain⟨G,g1,g2,g3,g4,g5,g6,g7,g8,g9,g10,g11,A⟩:=HI.out
  by_cases hlt:i<n
  rotate_left
  ·obtain rfl:i=n:=by omega
   have hlt':¬ ((i:Nat):Int) < ((i:Nat):Int):=by omega
   have HW:Hid (_):=Ng.world A (by rw[g1,g5])
   have HSn:Hid (G.pw.S=sN i mx PH PD):=by show sN G.n G.mx G.PH G.PD=_;rw[g5,g6,g7,g8]
   have HXx:Hid (G.pw.x=X):=g2
   clear A g1 g2 g3 g4 g5 g6 g7 g8 g9 g10 g11
   go_wp2_with fail
   go_ret2
   exact⟨G.pw,by rw[HXx.out] <;> rfl,HW.out,HSn.out⟩
  have hlt':((i:Nat):Int) < ((n:Nat):Int):=by omega
  obtain⟨P,hP⟩:∃ z,PH i=z:=⟨_,rfl⟩
  obtain⟨Q,hQ⟩:∃ z,PD i=z:=⟨_,rfl⟩
  have hPo:Pok P:=by rw[← hP];exact HPk.out.1 i hlt
  have hQo:Pok Q:=by rw[← hQ];exact HPk.out.2 i hlt
  obtain⟨k0,k1,lwX,hsx⟩:=HK0.out
  obtain⟨z0,p0,ez0,cc0⟩:=(PqRow.below k0 A.bel) i hlt
  obtain⟨z1,p1,ez1,cc1⟩:=(PqRow.below k1 A.bel) i hlt
  obtain⟨_,_,ew0,dd0⟩:=k0 i hlt
  obtain⟨_,_,ew1,dd1⟩:=k1 i hlt
  have lq0:q0<w.heap.size:=by
   injection ew0 with ew0
   injection ew0 with e1 e2
   subst e1 e2
   exact World.block_lt_of_cell? w _ (dd0 0 _ rfl)
  have lq1:q1<w.heap.size:=by
   injection ew1 with ew1
   injection ew1 with e1 e2
   subst e1 e2
   exact World.block_lt_of_cell? w _ (dd1 0 _ rfl)
  injection ez0 with ez0
  injection ez0 with e1 e2
  subst e1 e2
  injection ez1 with ez1
  injection ez1 with e1 e2
  subst e1 e2
  dsimp only at cc0 cc1
  rw[hP]at cc0
  rw[hQ]at cc1
  have bx:wr.heap[x]?=some (.cells #[.slice (some ⟨q0,o0,none⟩) n v0,.slice (some ⟨q1,o1,none⟩) n v1,.int .u32 (mx:Nat)] 26 (0,0)):=by
   have:=A.get (i:=5) (x:=blT [(G.x,G.ob)]) rfl _ (List.mem_cons_self ..)
   rw[g4,g11]at this
   exact this
  have rc:=A.get (i:=3) (x:=rowT 73 3 G.vc G.i (cnL G.i G.h G.d G.dm)) rfl
  have rc':wr.ownsRow 0 73 3 G.vc G.i (cnL G.i G.h G.d G.dm):=rc
  obtain⟨av,cv,ev⟩:=own_shape rc'
  rw[g1]at rc' ev
  have bX:wr.heap[X]?=some (.cells #[.slice a0 n c0,.slice a1 n c1,.int .u32 (mx:Nat),.slice av i cv,.pointer (some ⟨b,0,none⟩),.int .i64 0,.slice none 0 0] 68 (0,0)):=by
   have:=A.get (i:=0) (x:=blT [(G.X,G.blk)]) rfl _ (List.mem_cons_self ..)
   unfold Ng.blk at this
   rw[g2,g9,g10,g6,ev,g3]at this
   exact this
  have hne:∀ k j,k ∈ (G.t j).U→j≠3→(Value.slice av i cv).ownBlock≠some k:=fun k j hk hj e=>A.dis 3 j (fun q=>hj q.symm) k (by show k ∈ G.vc.ownBlock.toList;rw[ev,e];simp) hk
  have hne2:∀ k,k<w.heap.size→(Value.slice av i cv).ownBlock≠some k:=fun k hk e=>by
   have:=(A.lt 3 k (by show k ∈ G.vc.ownBlock.toList;rw[ev,e];simp)).1
   omega
  have HNE:Hid ((Value.slice av i cv).ownBlock≠some x∧(Value.slice av i cv).ownBlock≠some q0∧(Value.slice av i cv).ownBlock≠some q1∧(Value.slice av i cv).ownBlock≠some X):=⟨hne x 5 (by show x ∈ [G.x];simp[g4]) (by omega),hne2 q0 lq0,hne2 q1 lq1,hne X 0 (by show X ∈ [G.X];simp[g2]) (by omega)⟩
  have HXX:Hid (x≠X∧q0≠X∧q1≠X):=⟨by omega,by omega,by omega⟩
  have hS:∀ w',Below wr.heap.size wr w'→w'.cell? ⟨x,0,none⟩=some (Value.slice (some ⟨q0,o0,none⟩) n v0)∧w'.cell? ⟨x,1,none⟩=some (Value.slice (some ⟨q1,o1,none⟩) n v1)∧w'.cell? ⟨x,2,none⟩=some (Value.int .u32 (mx:Nat))∧w'.cell? ⟨q0,o0+i*5,none⟩=some (Value.int .u32 (P.c:Nat))∧w'.cell? ⟨q0,o0+i*5+1,none⟩=some (Value.int .i64 (P.o:Nat))∧w'.cell? ⟨q0,o0+i*5+2,none⟩=some (Value.int .i64 (P.i:Nat))∧w'.cell? ⟨q0,o0+i*5+3,none⟩=some (Value.int .i64 (P.t:Nat))∧w'.cell? ⟨q0,o0+i*5+4,none⟩=some (Value.int .u32 (P.n:Nat))∧w'.cell? ⟨q1,o1+i*5,none⟩=some (Value.int .u32 (Q.c:Nat))∧w'.cell? ⟨q1,o1+i*5+1,none⟩=some (Value.int .i64 (Q.o:Nat))∧w'.cell? ⟨q1,o1+i*5+2,none⟩=some (Value.int .i64 (Q.i:Nat))∧w'.cell? ⟨q1,o1+i*5+3,none⟩=some (Value.int .i64 (Q.t:Nat))∧w'.cell? ⟨q1,o1+i*5+4,none⟩=some (Value.int .u32 (Q.n:Nat)):=fun w' bb=>⟨cellY (cell_of_row wr x 0 _ _ _ bx) bb,cellY (cell_of_row wr x 1 _ _ _ bx) bb,cellY (cell_of_row wr x 2 _ _ _ bx) bb,cellY (cc0 0 _ rfl) bb,cellY (cc0 1 _ rfl) bb,cellY (cc0 2 _ rfl) bb,cellY (cc0 3 _ rfl) bb,cellY (cc0 4 _ rfl) bb,cellY (cc1 0 _ rfl) bb,cellY (cc1 1 _ rfl) bb,cellY (cc1 2 _ rfl) bb,cellY (cc1 3 _ rfl) bb,cellY (cc1 4 _ rfl) bb⟩
  have HT0:=hS wr.drew (Below.drew (Below.refl _ _))
  have HSS:Hid (_):=hS
  have HX0:Hid (∀ w',Below wr.heap.size wr w'→w'.cell? ⟨X,3,none⟩=some (Value.slice av i cv)):=fun w' bb=>cellY (cell_of_row wr X 3 _ _ _ bX) bb
  have HXb:Hid (_):=bX
  have HRC:Hid (wr.ownsRow 0 73 3 (.slice av i cv) i (cnL i G.h G.d G.dm)):=by rw[← ev];exact rc'
  have HNG:Hid (Al w wr G.t):=A
  have HGi:Hid (_):=And.intro g1 (And.intro g2 (And.intro g3 (And.intro g4 (And.intro g5 (And.intro g6 (And.intro g7 (And.intro g8 (And.intro g9 (And.intro g10 g11)))))))))
  have HEv:Hid (G.vc=_):=ev
  have HPQ:Hid (_):=And.intro hP hQ
  clear cc0 cc1 bx rc rc' ev bX hne hne2 hS A g1 g2 g3 g4 g5 g6 g7 g8 g9 g10 g11 hP hQ lq0 lq1 k0 k1 lwX hsx dd0 dd1 ew0 ew1
  go_upto_region 8 with fail
  refine wp_region_held_drew (S:=fun w'=>w'.cell? ⟨x,0,none⟩=some (Value.slice (some ⟨q0,o0,none⟩) n v0)∧w'.cell? ⟨x,1,none⟩=some (Value.slice (some ⟨q1,o1,none⟩) n v1)∧w'.cell? ⟨x,2,none⟩=some (Value.int .u32 (mx:Nat))∧w'.cell? ⟨q0,o0+i*5,none⟩=some (Value.int .u32 (P.c:Nat))∧w'.cell? ⟨q0,o0+i*5+1,none⟩=some (Value.int .i64 (P.o:Nat))∧w'.cell? ⟨q0,o0+i*5+2,none⟩=some (Value.int .i64 (P.i:Nat))∧w'.cell? ⟨q0,o0+i*5+3,none⟩=some (Value.int .i64 (P.t:Nat))∧w'.cell? ⟨q0,o0+i*5+4,none⟩=some (Value.int .u32 (P.n:Nat))∧w'.cell? ⟨q1,o1+i*5,none⟩=some (Value.int .u32 (Q.c:Nat))∧w'.cell? ⟨q1,o1+i*5+1,none⟩=some (Value.int .i64 (Q.o:Nat))∧w'.cell? ⟨q1,o1+i*5+2,none⟩=some (Value.int .i64 (Q.i:Nat))∧w'.cell? ⟨q1,o1+i*5+3,none⟩=some (Value.int .i64 (Q.t:Nat))∧w'.cell? ⟨q1,o1+i*5+4,none⟩=some (Value.int .u32 (Q.n:Nat))) (by kernel_rfl) HT0 (fun _=>?_)
  refine tkH (i:=0) (v:=Value.pointer (some ⟨X,0,none⟩)) ?_
  refine tkH (i:=1) (v:=Value.pointer (some ⟨X,0,none⟩)) ?_
  refine tkH (i:=2) (v:=Value.pointer (some ⟨X,0,none⟩)) ?_
  refine tkH (i:=3) (v:=Value.pointer (some ⟨X,3,none⟩)) ?_
  refine tkH (i:=5) (v:=Value.pointer (some ⟨x,0,none⟩)) ?_
  refine tkH (i:=6) (v:=Value.slice (some ⟨q0,o0,none⟩) n v0) ?_
  refine tkH (i:=7) (v:=Value.int .i64 (i:Nat)) ?_
  refine tkH (i:=8) (v:=Value.pointer (some ⟨q0,o0+i*5,none⟩)) ?_
  refine tkH (i:=9) (v:=Value.agg #[Value.int .u32 (P.c:Nat),Value.int .i64 (P.o:Nat),Value.int .i64 (P.i:Nat),Value.int .i64 (P.t:Nat),Value.int .u32 (P.n:Nat)]) ?_
  refine tkH (i:=10) (v:=Value.pointer (some ⟨x,1,none⟩)) ?_
  refine tkH (i:=11) (v:=Value.slice (some ⟨q1,o1,none⟩) n v1) ?_
  refine tkH (i:=12) (v:=Value.int .i64 (i:Nat)) ?_
  refine tkH (i:=13) (v:=Value.pointer (some ⟨q1,o1+i*5,none⟩)) ?_
  refine tkH (i:=14) (v:=Value.agg #[Value.int .u32 (Q.c:Nat),Value.int .i64 (Q.o:Nat),Value.int .i64 (Q.i:Nat),Value.int .i64 (Q.t:Nat),Value.int .u32 (Q.n:Nat)]) ?_
  refine tkH (i:=15) (v:=Value.pointer (some ⟨x,2,none⟩)) ?_
  refine tkH (i:=16) (v:=Value.int .u32 (mx:Nat)) ?_
  refine held_two (i:=4) (j:=17) (by kernel_rfl) ?_ ?_
  ·have x3:(wr.drew).cell? ⟨X,3,none⟩=some (Value.slice av i cv):=HX0.out _ (Below.drew (Below.refl wr.heap.size wr))
   refine any_val (Value.slice av i cv) (wr.drew) rfl (by kernel_rfl) (by go_simp) ⟨HSS.out _ (Below.drew (Below.refl wr.heap.size wr)),?_⟩
   have HS0':=HSS.out _ (Below.drew (Below.refl wr.heap.size wr))
   refine held_call (i:=17) 21 #[Value.agg #[Value.int .u32 (P.c:Nat),Value.int .i64 (P.o:Nat),Value.int .i64 (P.i:Nat),Value.int .i64 (P.t:Nat),Value.int .u32 (P.n:Nat)],Value.agg #[Value.int .u32 (Q.c:Nat),Value.int .i64 (Q.o:Nat),Value.int .i64 (Q.i:Nat),Value.int .i64 (Q.t:Nat),Value.int .u32 (Q.n:Nat)],Value.int .u32 (mx:Nat)] (by kernel_rfl) rfl (by kernel_rfl) (by go_simp) ?_
   refine (pnewConn P Q hPo hQo mx hmx h0 wr.drew).mono ?_
   rintro r w5 ⟨h,d,dm,g,rfl,H5⟩
   have b5:Below wr.heap.size wr w5:=(Below.drew (Below.refl wr.heap.size wr)).trans H5.out.1
   refine⟨_,rfl,HSS.out w5 b5,?_⟩
   have HS5:=HSS.out w5 b5
   have b6:=belY b5 (.cells #[.pointer (some ⟨h,0,none⟩),.pointer (some ⟨d,0,none⟩),.pointer (some ⟨dm,0,none⟩)] 73)
   have k6:=heap_alloc_new w5 (.cells #[.pointer (some ⟨h,0,none⟩),.pointer (some ⟨d,0,none⟩),.pointer (some ⟨dm,0,none⟩)] 73)
   have s6:=sz1 w5 (.cells #[.pointer (some ⟨h,0,none⟩),.pointer (some ⟨d,0,none⟩),.pointer (some ⟨dm,0,none⟩)] 73)
   refine held_new (i:=18) (Value.slice (some ⟨w5.heap.size,0,none⟩) 1 1) (w5.alloc (.cells #[.pointer (some ⟨h,0,none⟩),.pointer (some ⟨d,0,none⟩),.pointer (some ⟨dm,0,none⟩)] 73)) (by kernel_rfl) rfl (by kernel_rfl) (by go_simp) (HSS.out _ b6) ?_
   have HS6:=HSS.out _ b6
   obtain⟨i0,hI,hz0,hz1,hz2⟩:=info_parts info_conY
   have hcs:∀ j u,(cn3 h d dm)[j]?=some u→(w5.alloc (.cells #[.pointer (some ⟨h,0,none⟩),.pointer (some ⟨d,0,none⟩),.pointer (some ⟨dm,0,none⟩)] 73)).cell? ((⟨w5.heap.size,0,none⟩:Addr).add j)=some u:=fun j u hu=>by
    have e:(Addr.add ⟨w5.heap.size,0,none⟩ j)=⟨w5.heap.size,j,none⟩:=by unfold Addr.add;simp;omega
    rw[e,cell_of_row _ _ j _ _ _ k6]
    simpa [cn3] using hu
   have oV:(w5.alloc (.cells #[.pointer (some ⟨h,0,none⟩),.pointer (some ⟨d,0,none⟩),.pointer (some ⟨dm,0,none⟩)] 73)).ownsRow 0 73 3 (.slice av i cv) i (cnL i G.h G.d G.dm):=own_offY (l:=[]) HRC.out (Off.of_below b6) (by simp)
   obtain⟨v7,w7,hr7,o7,g7,_,p7⟩:=run_append_own_at (P:=Tryz.prog) (w5.alloc (.cells #[.pointer (some ⟨h,0,none⟩),.pointer (some ⟨d,0,none⟩),.pointer (some ⟨dm,0,none⟩)] 73)) 0 65 65 73 i0 (.agg #[.pointer none,.pointer none,.pointer none]) 3 24 Tryz.underlying65 hI hz0 hz1 hz2 rfl (by decide) (.slice av i cv) i (cnL i G.h G.d G.dm) oV ⟨w5.heap.size,0,none⟩ 1 1 (cn3 h d dm) rfl hcs (by intro u hu;simp[cn3]at hu;rcases hu with rfl | rfl | rfl <;> rfl) (by unfold maxLen;omega) (by omega) (Nat.zero_le _)
   obtain⟨aw,cw,rfl⟩:=own_shape o7
   have ff:∀ q j v,(Value.slice av i cv).ownBlock≠some q→(w5.alloc (.cells #[.pointer (some ⟨h,0,none⟩),.pointer (some ⟨d,0,none⟩),.pointer (some ⟨dm,0,none⟩)] 73)).cell? ⟨q,j,none⟩=some v→w7.cell? ⟨q,j,none⟩=some v:=fun q j v hq hc=>(World.cell?_of_block (w:=(w5.alloc (.cells #[.pointer (some ⟨h,0,none⟩),.pointer (some ⟨d,0,none⟩),.pointer (some ⟨dm,0,none⟩)] 73))) (a:=⟨q,j,none⟩) (g7.block q (World.block_lt_of_cell? (w5.alloc (.cells #[.pointer (some ⟨h,0,none⟩),.pointer (some ⟨d,0,none⟩),.pointer (some ⟨dm,0,none⟩)] 73)) ⟨q,j,none⟩ hc) (fun e=>hq e.symm))).trans hc
   obtain⟨nx,m0,m1,nX⟩:=HNE.out
   have HS7:w7.cell? ⟨x,0,none⟩=some (Value.slice (some ⟨q0,o0,none⟩) n v0)∧w7.cell? ⟨x,1,none⟩=some (Value.slice (some ⟨q1,o1,none⟩) n v1)∧w7.cell? ⟨x,2,none⟩=some (Value.int .u32 (mx:Nat))∧w7.cell? ⟨q0,o0+i*5,none⟩=some (Value.int .u32 (P.c:Nat))∧w7.cell? ⟨q0,o0+i*5+1,none⟩=some (Value.int .i64 (P.o:Nat))∧w7.cell? ⟨q0,o0+i*5+2,none⟩=some (Value.int .i64 (P.i:Nat))∧w7.cell? ⟨q0,o0+i*5+3,none⟩=some (Value.int .i64 (P.t:Nat))∧w7.cell? ⟨q0,o0+i*5+4,none⟩=some (Value.int .u32 (P.n:Nat))∧w7.cell? ⟨q1,o1+i*5,none⟩=some (Value.int .u32 (Q.c:Nat))∧w7.cell? ⟨q1,o1+i*5+1,none⟩=some (Value.int .i64 (Q.o:Nat))∧w7.cell? ⟨q1,o1+i*5+2,none⟩=some (Value.int .i64 (Q.i:Nat))∧w7.cell? ⟨q1,o1+i*5+3,none⟩=some (Value.int .i64 (Q.t:Nat))∧w7.cell? ⟨q1,o1+i*5+4,none⟩=some (Value.int .u32 (Q.n:Nat)):=by
    obtain⟨u0,u1,u2,u3,u4,u5,u6,u7,u8,u9,u10,u11,u12⟩:=HS6
    exact⟨ff _ _ _ nx u0,ff _ _ _ nx u1,ff _ _ _ nx u2,ff _ _ _ m0 u3,ff _ _ _ m0 u4,ff _ _ _ m0 u5,ff _ _ _ m0 u6,ff _ _ _ m0 u7,ff _ _ _ m1 u8,ff _ _ _ m1 u9,ff _ _ _ m1 u10,ff _ _ _ m1 u11,ff _ _ _ m1 u12⟩
   refine held_new (i:=19) (Value.slice aw (i+1) cw) w7 (by kernel_rfl) rfl (by kernel_rfl) (app_runC (s:=.tmp 27) (x:=.tmp 41) rfl rfl (by kernel_rfl) (by kernel_rfl) hr7) HS7 ?_
   refine tkH (i:=20) (v:=Value.pointer (some ⟨X,0,none⟩)) ?_
   refine tkH (i:=21) (v:=Value.pointer (some ⟨X,3,none⟩)) ?_
   have kX6:=(b6.block X (Array.getElem?_eq_some_iff.1 HXb.out).1).trans HXb.out
   have kX7:=(g7.block X (Array.getElem?_eq_some_iff.1 kX6).1 (fun e=>nX e.symm)).trans kX6
   have y3:=cell_of_row w7 X 3 _ _ _ kX7
   have yz:=frozen_of_row w7 X 3 _ _ kX7
   have o8:Off [X] w7 (w7.setCell ⟨X,3,none⟩ (.slice aw (i+1) cw)):=Off.setCell X 3 w7 _
   have k8:(w7.setCell ⟨X,3,none⟩ (.slice aw (i+1) cw)).heap[X]?=some (.cells #[.slice a0 n c0,.slice a1 n c1,.int .u32 (mx:Nat),.slice aw (i+1) cw,.pointer (some ⟨b,0,none⟩),.int .i64 0,.slice none 0 0] 68 (0,0)):=Joins.block_setCell kX7 _
   obtain⟨w8,hw8⟩:∃ z,w7.setCell ⟨X,3,none⟩ (.slice aw (i+1) cw)=z:=⟨_,rfl⟩
   rw[hw8]at o8 k8
   have hS8:w8.cell? ⟨x,0,none⟩=some (Value.slice (some ⟨q0,o0,none⟩) n v0)∧w8.cell? ⟨x,1,none⟩=some (Value.slice (some ⟨q1,o1,none⟩) n v1)∧w8.cell? ⟨x,2,none⟩=some (Value.int .u32 (mx:Nat))∧w8.cell? ⟨q0,o0+i*5,none⟩=some (Value.int .u32 (P.c:Nat))∧w8.cell? ⟨q0,o0+i*5+1,none⟩=some (Value.int .i64 (P.o:Nat))∧w8.cell? ⟨q0,o0+i*5+2,none⟩=some (Value.int .i64 (P.i:Nat))∧w8.cell? ⟨q0,o0+i*5+3,none⟩=some (Value.int .i64 (P.t:Nat))∧w8.cell? ⟨q0,o0+i*5+4,none⟩=some (Value.int .u32 (P.n:Nat))∧w8.cell? ⟨q1,o1+i*5,none⟩=some (Value.int .u32 (Q.c:Nat))∧w8.cell? ⟨q1,o1+i*5+1,none⟩=some (Value.int .i64 (Q.o:Nat))∧w8.cell? ⟨q1,o1+i*5+2,none⟩=some (Value.int .i64 (Q.i:Nat))∧w8.cell? ⟨q1,o1+i*5+3,none⟩=some (Value.int .i64 (Q.t:Nat))∧w8.cell? ⟨q1,o1+i*5+4,none⟩=some (Value.int .u32 (Q.n:Nat)):=by
    obtain⟨u0,u1,u2,u3,u4,u5,u6,u7,u8,u9,u10,u11,u12⟩:=HS7
    obtain⟨z1,z2,z3⟩:=HXX.out
    have gg:∀ q j v,q≠X→w7.cell? ⟨q,j,none⟩=some v→w8.cell? ⟨q,j,none⟩=some v:=fun q j v hq hc=>(World.cell?_of_block (w:=w7) (a:=⟨q,j,none⟩) (o8.block q (World.block_lt_of_cell? w7 ⟨q,j,none⟩ hc) (by simpa using hq))).trans hc
    exact⟨gg _ _ _ z1 u0,gg _ _ _ z1 u1,gg _ _ _ z1 u2,gg _ _ _ z2 u3,gg _ _ _ z2 u4,gg _ _ _ z2 u5,gg _ _ _ z2 u6,gg _ _ _ z2 u7,gg _ _ _ z3 u8,gg _ _ _ z3 u9,gg _ _ _ z3 u10,gg _ _ _ z3 u11,gg _ _ _ z3 u12⟩
   refine held_skip (i:=22) w8 (by kernel_rfl) rfl (by kernel_rfl) (by rw[← hw8];go_simp) hS8 ?_
   refine wpAnyH_done (by kernel_rfl) ?_ _
   have HF:Hid (NgI w w8 X b x n mx PH PD (.slice a0 n c0) (.slice a1 n c1) (.cells #[.slice (some ⟨q0,o0,none⟩) n v0,.slice (some ⟨q1,o1,none⟩) n v1,.int .u32 (mx:Nat)] 26 (0,0)) (i+1)):=ngi_next HNG.out HGi.out b5 H5.out HPQ.out.1 HPQ.out.2 (belY (Below.refl _ w5) _) o7 (by rw[HEv.out];exact g7) (by rw[HEv.out];exact p7) o8 k8
   clear o8 k8 b5 b6 o7 g7 p7 s6 kX6 kX7 y3 yz hw8 HS7 HS6 HS5 HT0 k6 hcs hr7 hS8 H5 ff oV nx m0 m1 nX
   go_wp2_with fail
   go_roundw
   case rel=>exact⟨i+1,by omega,by first | rfl | go_num,HF⟩
   case measure=>simp only[natQ];omega
  ·refine any_call 21 #[Value.agg #[Value.int .u32 (P.c:Nat),Value.int .i64 (P.o:Nat),Value.int .i64 (P.i:Nat),Value.int .i64 (P.t:Nat),Value.int .u32 (P.n:Nat)],Value.agg #[Value.int .u32 (Q.c:Nat),Value.int .i64 (Q.o:Nat),Value.int .i64 (Q.i:Nat),Value.int .i64 (Q.t:Nat),Value.int .u32 (Q.n:Nat)],Value.int .u32 (mx:Nat)] rfl (by kernel_rfl) (by go_simp) ?_
   refine (pnewConn P Q hPo hQo mx hmx h0 wr.drew).mono ?_
   rintro r w5 ⟨h,d,dm,g,rfl,H5⟩
   have b5:Below wr.heap.size wr w5:=(Below.drew (Below.refl wr.heap.size wr)).trans H5.out.1
   refine⟨_,rfl,HSS.out w5 b5,?_⟩
   have HS5:=HSS.out w5 b5
   refine held_two (i:=4) (j:=18) (by kernel_rfl) ?_ ?_
   ·have x3:(w5).cell? ⟨X,3,none⟩=some (Value.slice av i cv):=HX0.out _ (b5)
    refine any_val (Value.slice av i cv) (w5) rfl (by kernel_rfl) (by go_simp) ⟨HSS.out _ (b5),?_⟩
    have b6:=belY b5 (.cells #[.pointer (some ⟨h,0,none⟩),.pointer (some ⟨d,0,none⟩),.pointer (some ⟨dm,0,none⟩)] 73)
    have k6:=heap_alloc_new w5 (.cells #[.pointer (some ⟨h,0,none⟩),.pointer (some ⟨d,0,none⟩),.pointer (some ⟨dm,0,none⟩)] 73)
    have s6:=sz1 w5 (.cells #[.pointer (some ⟨h,0,none⟩),.pointer (some ⟨d,0,none⟩),.pointer (some ⟨dm,0,none⟩)] 73)
    refine held_new (i:=18) (Value.slice (some ⟨w5.heap.size,0,none⟩) 1 1) (w5.alloc (.cells #[.pointer (some ⟨h,0,none⟩),.pointer (some ⟨d,0,none⟩),.pointer (some ⟨dm,0,none⟩)] 73)) (by kernel_rfl) rfl (by kernel_rfl) (by go_simp) (HSS.out _ b6) ?_
    have HS6:=HSS.out _ b6
    obtain⟨i0,hI,hz0,hz1,hz2⟩:=info_parts info_conY
    have hcs:∀ j u,(cn3 h d dm)[j]?=some u→(w5.alloc (.cells #[.pointer (some ⟨h,0,none⟩),.pointer (some ⟨d,0,none⟩),.pointer (some ⟨dm,0,none⟩)] 73)).cell? ((⟨w5.heap.size,0,none⟩:Addr).add j)=some u:=fun j u hu=>by
     have e:(Addr.add ⟨w5.heap.size,0,none⟩ j)=⟨w5.heap.size,j,none⟩:=by unfold Addr.add;simp;omega
     rw[e,cell_of_row _ _ j _ _ _ k6]
     simpa [cn3] using hu
    have oV:(w5.alloc (.cells #[.pointer (some ⟨h,0,none⟩),.pointer (some ⟨d,0,none⟩),.pointer (some ⟨dm,0,none⟩)] 73)).ownsRow 0 73 3 (.slice av i cv) i (cnL i G.h G.d G.dm):=own_offY (l:=[]) HRC.out (Off.of_below b6) (by simp)
    obtain⟨v7,w7,hr7,o7,g7,_,p7⟩:=run_append_own_at (P:=Tryz.prog) (w5.alloc (.cells #[.pointer (some ⟨h,0,none⟩),.pointer (some ⟨d,0,none⟩),.pointer (some ⟨dm,0,none⟩)] 73)) 0 65 65 73 i0 (.agg #[.pointer none,.pointer none,.pointer none]) 3 24 Tryz.underlying65 hI hz0 hz1 hz2 rfl (by decide) (.slice av i cv) i (cnL i G.h G.d G.dm) oV ⟨w5.heap.size,0,none⟩ 1 1 (cn3 h d dm) rfl hcs (by intro u hu;simp[cn3]at hu;rcases hu with rfl | rfl | rfl <;> rfl) (by unfold maxLen;omega) (by omega) (Nat.zero_le _)
    obtain⟨aw,cw,rfl⟩:=own_shape o7
    have ff:∀ q j v,(Value.slice av i cv).ownBlock≠some q→(w5.alloc (.cells #[.pointer (some ⟨h,0,none⟩),.pointer (some ⟨d,0,none⟩),.pointer (some ⟨dm,0,none⟩)] 73)).cell? ⟨q,j,none⟩=some v→w7.cell? ⟨q,j,none⟩=some v:=fun q j v hq hc=>(World.cell?_of_block (w:=(w5.alloc (.cells #[.pointer (some ⟨h,0,none⟩),.pointer (some ⟨d,0,none⟩),.pointer (some ⟨dm,0,none⟩)] 73))) (a:=⟨q,j,none⟩) (g7.block q (World.block_lt_of_cell? (w5.alloc (.cells #[.pointer (some ⟨h,0,none⟩),.pointer (some ⟨d,0,none⟩),.pointer (some ⟨dm,0,none⟩)] 73)) ⟨q,j,none⟩ hc) (fun e=>hq e.symm))).trans hc
    obtain⟨nx,m0,m1,nX⟩:=HNE.out
    have HS7:w7.cell? ⟨x,0,none⟩=some (Value.slice (some ⟨q0,o0,none⟩) n v0)∧w7.cell? ⟨x,1,none⟩=some (Value.slice (some ⟨q1,o1,none⟩) n v1)∧w7.cell? ⟨x,2,none⟩=some (Value.int .u32 (mx:Nat))∧w7.cell? ⟨q0,o0+i*5,none⟩=some (Value.int .u32 (P.c:Nat))∧w7.cell? ⟨q0,o0+i*5+1,none⟩=some (Value.int .i64 (P.o:Nat))∧w7.cell? ⟨q0,o0+i*5+2,none⟩=some (Value.int .i64 (P.i:Nat))∧w7.cell? ⟨q0,o0+i*5+3,none⟩=some (Value.int .i64 (P.t:Nat))∧w7.cell? ⟨q0,o0+i*5+4,none⟩=some (Value.int .u32 (P.n:Nat))∧w7.cell? ⟨q1,o1+i*5,none⟩=some (Value.int .u32 (Q.c:Nat))∧w7.cell? ⟨q1,o1+i*5+1,none⟩=some (Value.int .i64 (Q.o:Nat))∧w7.cell? ⟨q1,o1+i*5+2,none⟩=some (Value.int .i64 (Q.i:Nat))∧w7.cell? ⟨q1,o1+i*5+3,none⟩=some (Value.int .i64 (Q.t:Nat))∧w7.cell? ⟨q1,o1+i*5+4,none⟩=some (Value.int .u32 (Q.n:Nat)):=by
     obtain⟨u0,u1,u2,u3,u4,u5,u6,u7,u8,u9,u10,u11,u12⟩:=HS6
     exact⟨ff _ _ _ nx u0,ff _ _ _ nx u1,ff _ _ _ nx u2,ff _ _ _ m0 u3,ff _ _ _ m0 u4,ff _ _ _ m0 u5,ff _ _ _ m0 u6,ff _ _ _ m0 u7,ff _ _ _ m1 u8,ff _ _ _ m1 u9,ff _ _ _ m1 u10,ff _ _ _ m1 u11,ff _ _ _ m1 u12⟩
    refine held_new (i:=19) (Value.slice aw (i+1) cw) w7 (by kernel_rfl) rfl (by kernel_rfl) (app_runC (s:=.tmp 27) (x:=.tmp 41) rfl rfl (by kernel_rfl) (by kernel_rfl) hr7) HS7 ?_
    refine tkH (i:=20) (v:=Value.pointer (some ⟨X,0,none⟩)) ?_
    refine tkH (i:=21) (v:=Value.pointer (some ⟨X,3,none⟩)) ?_
    have kX6:=(b6.block X (Array.getElem?_eq_some_iff.1 HXb.out).1).trans HXb.out
    have kX7:=(g7.block X (Array.getElem?_eq_some_iff.1 kX6).1 (fun e=>nX e.symm)).trans kX6
    have y3:=cell_of_row w7 X 3 _ _ _ kX7
    have yz:=frozen_of_row w7 X 3 _ _ kX7
    have o8:Off [X] w7 (w7.setCell ⟨X,3,none⟩ (.slice aw (i+1) cw)):=Off.setCell X 3 w7 _
    have k8:(w7.setCell ⟨X,3,none⟩ (.slice aw (i+1) cw)).heap[X]?=some (.cells #[.slice a0 n c0,.slice a1 n c1,.int .u32 (mx:Nat),.slice aw (i+1) cw,.pointer (some ⟨b,0,none⟩),.int .i64 0,.slice none 0 0] 68 (0,0)):=Joins.block_setCell kX7 _
    obtain⟨w8,hw8⟩:∃ z,w7.setCell ⟨X,3,none⟩ (.slice aw (i+1) cw)=z:=⟨_,rfl⟩
    rw[hw8]at o8 k8
    have hS8:w8.cell? ⟨x,0,none⟩=some (Value.slice (some ⟨q0,o0,none⟩) n v0)∧w8.cell? ⟨x,1,none⟩=some (Value.slice (some ⟨q1,o1,none⟩) n v1)∧w8.cell? ⟨x,2,none⟩=some (Value.int .u32 (mx:Nat))∧w8.cell? ⟨q0,o0+i*5,none⟩=some (Value.int .u32 (P.c:Nat))∧w8.cell? ⟨q0,o0+i*5+1,none⟩=some (Value.int .i64 (P.o:Nat))∧w8.cell? ⟨q0,o0+i*5+2,none⟩=some (Value.int .i64 (P.i:Nat))∧w8.cell? ⟨q0,o0+i*5+3,none⟩=some (Value.int .i64 (P.t:Nat))∧w8.cell? ⟨q0,o0+i*5+4,none⟩=some (Value.int .u32 (P.n:Nat))∧w8.cell? ⟨q1,o1+i*5,none⟩=some (Value.int .u32 (Q.c:Nat))∧w8.cell? ⟨q1,o1+i*5+1,none⟩=some (Value.int .i64 (Q.o:Nat))∧w8.cell? ⟨q1,o1+i*5+2,none⟩=some (Value.int .i64 (Q.i:Nat))∧w8.cell? ⟨q1,o1+i*5+3,none⟩=some (Value.int .i64 (Q.t:Nat))∧w8.cell? ⟨q1,o1+i*5+4,none⟩=some (Value.int .u32 (Q.n:Nat)):=by
     obtain⟨u0,u1,u2,u3,u4,u5,u6,u7,u8,u9,u10,u11,u12⟩:=HS7
     obtain⟨z1,z2,z3⟩:=HXX.out
     have gg:∀ q j v,q≠X→w7.cell? ⟨q,j,none⟩=some v→w8.cell? ⟨q,j,none⟩=some v:=fun q j v hq hc=>(World.cell?_of_block (w:=w7) (a:=⟨q,j,none⟩) (o8.block q (World.block_lt_of_cell? w7 ⟨q,j,none⟩ hc) (by simpa using hq))).trans hc
     exact⟨gg _ _ _ z1 u0,gg _ _ _ z1 u1,gg _ _ _ z1 u2,gg _ _ _ z2 u3,gg _ _ _ z2 u4,gg _ _ _ z2 u5,gg _ _ _ z2 u6,gg _ _ _ z2 u7,gg _ _ _ z3 u8,gg _ _ _ z3 u9,gg _ _ _ z3 u10,gg _ _ _ z3 u11,gg _ _ _ z3 u12⟩
    refine held_skip (i:=22) w8 (by kernel_rfl) rfl (by kernel_rfl) (by rw[← hw8];go_simp) hS8 ?_
    refine wpAnyH_done (by kernel_rfl) ?_ _
    have HF:Hid (NgI w w8 X b x n mx PH PD (.slice a0 n c0) (.slice a1 n c1) (.cells #[.slice (some ⟨q0,o0,none⟩) n v0,.slice (some ⟨q1,o1,none⟩) n v1,.int .u32 (mx:Nat)] 26 (0,0)) (i+1)):=ngi_next HNG.out HGi.out b5 H5.out HPQ.out.1 HPQ.out.2 (belY (Below.refl _ w5) _) o7 (by rw[HEv.out];exact g7) (by rw[HEv.out];exact p7) o8 k8
    clear o8 k8 b5 b6 o7 g7 p7 s6 kX6 kX7 y3 yz hw8 HS7 HS6 HS5 HT0 k6 hcs hr7 hS8 H5 ff oV nx m0 m1 nX
    go_wp2_with fail
    go_roundw
    case rel=>exact⟨i+1,by omega,by first | rfl | go_num,HF⟩
    case measure=>simp only[natQ];omega
   ·have b6:=belY b5 (.cells #[.pointer (some ⟨h,0,none⟩),.pointer (some ⟨d,0,none⟩),.pointer (some ⟨dm,0,none⟩)] 73)
    have k6:=heap_alloc_new w5 (.cells #[.pointer (some ⟨h,0,none⟩),.pointer (some ⟨d,0,none⟩),.pointer (some ⟨dm,0,none⟩)] 73)
    have s6:=sz1 w5 (.cells #[.pointer (some ⟨h,0,none⟩),.pointer (some ⟨d,0,none⟩),.pointer (some ⟨dm,0,none⟩)] 73)
    refine any_val (Value.slice (some ⟨w5.heap.size,0,none⟩) 1 1) (w5.alloc (.cells #[.pointer (some ⟨h,0,none⟩),.pointer (some ⟨d,0,none⟩),.pointer (some ⟨dm,0,none⟩)] 73)) rfl (by kernel_rfl) (by go_simp) ⟨HSS.out _ b6,?_⟩
    have x3:((w5.alloc (.cells #[.pointer (some ⟨h,0,none⟩),.pointer (some ⟨d,0,none⟩),.pointer (some ⟨dm,0,none⟩)] 73))).cell? ⟨X,3,none⟩=some (Value.slice av i cv):=HX0.out _ (b6)
    refine held_val (i:=4) (Value.slice av i cv) (by kernel_rfl) rfl (by kernel_rfl) (by go_simp) (HSS.out _ (b6)) ?_
    have HS6:=HSS.out _ b6
    obtain⟨i0,hI,hz0,hz1,hz2⟩:=info_parts info_conY
    have hcs:∀ j u,(cn3 h d dm)[j]?=some u→(w5.alloc (.cells #[.pointer (some ⟨h,0,none⟩),.pointer (some ⟨d,0,none⟩),.pointer (some ⟨dm,0,none⟩)] 73)).cell? ((⟨w5.heap.size,0,none⟩:Addr).add j)=some u:=fun j u hu=>by
     have e:(Addr.add ⟨w5.heap.size,0,none⟩ j)=⟨w5.heap.size,j,none⟩:=by unfold Addr.add;simp;omega
     rw[e,cell_of_row _ _ j _ _ _ k6]
     simpa [cn3] using hu
    have oV:(w5.alloc (.cells #[.pointer (some ⟨h,0,none⟩),.pointer (some ⟨d,0,none⟩),.pointer (some ⟨dm,0,none⟩)] 73)).ownsRow 0 73 3 (.slice av i cv) i (cnL i G.h G.d G.dm):=own_offY (l:=[]) HRC.out (Off.of_below b6) (by simp)
    obtain⟨v7,w7,hr7,o7,g7,_,p7⟩:=run_append_own_at (P:=Tryz.prog) (w5.alloc (.cells #[.pointer (some ⟨h,0,none⟩),.pointer (some ⟨d,0,none⟩),.pointer (some ⟨dm,0,none⟩)] 73)) 0 65 65 73 i0 (.agg #[.pointer none,.pointer none,.pointer none]) 3 24 Tryz.underlying65 hI hz0 hz1 hz2 rfl (by decide) (.slice av i cv) i (cnL i G.h G.d G.dm) oV ⟨w5.heap.size,0,none⟩ 1 1 (cn3 h d dm) rfl hcs (by intro u hu;simp[cn3]at hu;rcases hu with rfl | rfl | rfl <;> rfl) (by unfold maxLen;omega) (by omega) (Nat.zero_le _)
    obtain⟨aw,cw,rfl⟩:=own_shape o7
    have ff:∀ q j v,(Value.slice av i cv).ownBlock≠some q→(w5.alloc (.cells #[.pointer (some ⟨h,0,none⟩),.pointer (some ⟨d,0,none⟩),.pointer (some ⟨dm,0,none⟩)] 73)).cell? ⟨q,j,none⟩=some v→w7.cell? ⟨q,j,none⟩=some v:=fun q j v hq hc=>(World.cell?_of_block (w:=(w5.alloc (.cells #[.pointer (some ⟨h,0,none⟩),.pointer (some ⟨d,0,none⟩),.pointer (some ⟨dm,0,none⟩)] 73))) (a:=⟨q,j,none⟩) (g7.block q (World.block_lt_of_cell? (w5.alloc (.cells #[.pointer (some ⟨h,0,none⟩),.pointer (some ⟨d,0,none⟩),.pointer (some ⟨dm,0,none⟩)] 73)) ⟨q,j,none⟩ hc) (fun e=>hq e.symm))).trans hc
    obtain⟨nx,m0,m1,nX⟩:=HNE.out
    have HS7:w7.cell? ⟨x,0,none⟩=some (Value.slice (some ⟨q0,o0,none⟩) n v0)∧w7.cell? ⟨x,1,none⟩=some (Value.slice (some ⟨q1,o1,none⟩) n v1)∧w7.cell? ⟨x,2,none⟩=some (Value.int .u32 (mx:Nat))∧w7.cell? ⟨q0,o0+i*5,none⟩=some (Value.int .u32 (P.c:Nat))∧w7.cell? ⟨q0,o0+i*5+1,none⟩=some (Value.int .i64 (P.o:Nat))∧w7.cell? ⟨q0,o0+i*5+2,none⟩=some (Value.int .i64 (P.i:Nat))∧w7.cell? ⟨q0,o0+i*5+3,none⟩=some (Value.int .i64 (P.t:Nat))∧w7.cell? ⟨q0,o0+i*5+4,none⟩=some (Value.int .u32 (P.n:Nat))∧w7.cell? ⟨q1,o1+i*5,none⟩=some (Value.int .u32 (Q.c:Nat))∧w7.cell? ⟨q1,o1+i*5+1,none⟩=some (Value.int .i64 (Q.o:Nat))∧w7.cell? ⟨q1,o1+i*5+2,none⟩=some (Value.int .i64 (Q.i:Nat))∧w7.cell? ⟨q1,o1+i*5+3,none⟩=some (Value.int .i64 (Q.t:Nat))∧w7.cell? ⟨q1,o1+i*5+4,none⟩=some (Value.int .u32 (Q.n:Nat)):=by
     obtain⟨u0,u1,u2,u3,u4,u5,u6,u7,u8,u9,u10,u11,u12⟩:=HS6
     exact⟨ff _ _ _ nx u0,ff _ _ _ nx u1,ff _ _ _ nx u2,ff _ _ _ m0 u3,ff _ _ _ m0 u4,ff _ _ _ m0 u5,ff _ _ _ m0 u6,ff _ _ _ m0 u7,ff _ _ _ m1 u8,ff _ _ _ m1 u9,ff _ _ _ m1 u10,ff _ _ _ m1 u11,ff _ _ _ m1 u12⟩
    refine held_new (i:=19) (Value.slice aw (i+1) cw) w7 (by kernel_rfl) rfl (by kernel_rfl) (app_runC (s:=.tmp 27) (x:=.tmp 41) rfl rfl (by kernel_rfl) (by kernel_rfl) hr7) HS7 ?_
    refine tkH (i:=20) (v:=Value.pointer (some ⟨X,0,none⟩)) ?_
    refine tkH (i:=21) (v:=Value.pointer (some ⟨X,3,none⟩)) ?_
    have kX6:=(b6.block X (Array.getElem?_eq_some_iff.1 HXb.out).1).trans HXb.out
    have kX7:=(g7.block X (Array.getElem?_eq_some_iff.1 kX6).1 (fun e=>nX e.symm)).trans kX6
    have y3:=cell_of_row w7 X 3 _ _ _ kX7
    have yz:=frozen_of_row w7 X 3 _ _ kX7
    have o8:Off [X] w7 (w7.setCell ⟨X,3,none⟩ (.slice aw (i+1) cw)):=Off.setCell X 3 w7 _
    have k8:(w7.setCell ⟨X,3,none⟩ (.slice aw (i+1) cw)).heap[X]?=some (.cells #[.slice a0 n c0,.slice a1 n c1,.int .u32 (mx:Nat),.slice aw (i+1) cw,.pointer (some ⟨b,0,none⟩),.int .i64 0,.slice none 0 0] 68 (0,0)):=Joins.block_setCell kX7 _
    obtain⟨w8,hw8⟩:∃ z,w7.setCell ⟨X,3,none⟩ (.slice aw (i+1) cw)=z:=⟨_,rfl⟩
    rw[hw8]at o8 k8
    have hS8:w8.cell? ⟨x,0,none⟩=some (Value.slice (some ⟨q0,o0,none⟩) n v0)∧w8.cell? ⟨x,1,none⟩=some (Value.slice (some ⟨q1,o1,none⟩) n v1)∧w8.cell? ⟨x,2,none⟩=some (Value.int .u32 (mx:Nat))∧w8.cell? ⟨q0,o0+i*5,none⟩=some (Value.int .u32 (P.c:Nat))∧w8.cell? ⟨q0,o0+i*5+1,none⟩=some (Value.int .i64 (P.o:Nat))∧w8.cell? ⟨q0,o0+i*5+2,none⟩=some (Value.int .i64 (P.i:Nat))∧w8.cell? ⟨q0,o0+i*5+3,none⟩=some (Value.int .i64 (P.t:Nat))∧w8.cell? ⟨q0,o0+i*5+4,none⟩=some (Value.int .u32 (P.n:Nat))∧w8.cell? ⟨q1,o1+i*5,none⟩=some (Value.int .u32 (Q.c:Nat))∧w8.cell? ⟨q1,o1+i*5+1,none⟩=some (Value.int .i64 (Q.o:Nat))∧w8.cell? ⟨q1,o1+i*5+2,none⟩=some (Value.int .i64 (Q.i:Nat))∧w8.cell? ⟨q1,o1+i*5+3,none⟩=some (Value.int .i64 (Q.t:Nat))∧w8.cell? ⟨q1,o1+i*5+4,none⟩=some (Value.int .u32 (Q.n:Nat)):=by
     obtain⟨u0,u1,u2,u3,u4,u5,u6,u7,u8,u9,u10,u11,u12⟩:=HS7
     obtain⟨z1,z2,z3⟩:=HXX.out
     have gg:∀ q j v,q≠X→w7.cell? ⟨q,j,none⟩=some v→w8.cell? ⟨q,j,none⟩=some v:=fun q j v hq hc=>(World.cell?_of_block (w:=w7) (a:=⟨q,j,none⟩) (o8.block q (World.block_lt_of_cell? w7 ⟨q,j,none⟩ hc) (by simpa using hq))).trans hc
     exact⟨gg _ _ _ z1 u0,gg _ _ _ z1 u1,gg _ _ _ z1 u2,gg _ _ _ z2 u3,gg _ _ _ z2 u4,gg _ _ _ z2 u5,gg _ _ _ z2 u6,gg _ _ _ z2 u7,gg _ _ _ z3 u8,gg _ _ _ z3 u9,gg _ _ _ z3 u10,gg _ _ _ z3 u11,gg _ _ _ z3 u12⟩
    refine held_skip (i:=22) w8 (by kernel_rfl) rfl (by kernel_rfl) (by rw[← hw8];go_simp) hS8 ?_
    refine wpAnyH_done (by kernel_rfl) ?_ _
    have HF:Hid (NgI w w8 X b x n mx PH PD (.slice a0 n c0) (.slice a1 n c1) (.cells #[.slice (some ⟨q0,o0,none⟩) n v0,.slice (some ⟨q1,o1,none⟩) n v1,.int .u32 (mx:Nat)] 26 (0,0)) (i+1)):=ngi_next HNG.out HGi.out b5 H5.out HPQ.out.1 HPQ.out.2 (belY (Below.refl _ w5) _) o7 (by rw[HEv.out];exact g7) (by rw[HEv.out];exact p7) o8 k8
    clear o8 k8 b5 b6 o7 g7 p7 s6 kX6 kX7 y3 yz hw8 HS7 HS6 HS5 HT0 k6 hcs hr7 hS8 H5 ff oV nx m0 m1 nX
    go_wp2_with fail
    go_roundw
    case rel=>exact⟨i+1,by omega,by first | rfl | go_num,HF⟩
    case measure=>simp only[natQ];omega
end Go.Proofs.YtgaeofgdiaknpaaGreat
