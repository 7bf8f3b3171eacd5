/- Part 26: contracts that the proof rests on. -/
import Derived.Test.YtenilkloffnjlaaGreatPkM24
set_option maxHeartbeats 64000000
set_option maxRecDepth 100000
namespace Go.Proofs.YtenilkloffnjlaaGreat
open Tryz
open Go.RowKit Go.Maps
set_option linter.unusedVariables false
def sN (n mx:Nat) (PH PD:Nat→Pm):Ws:=⟨n,PH,PD,fun _=>bu,fun _=>cW M0,mx,[],0,[]⟩
def Ng.pw (G:Ng):Pw:=⟨G.X,G.v0,G.v1,G.vc,.slice none 0 0,[],[],G.b,G.m,.slice none 0 0,[],none,G.h,G.hU,G.d,G.dm,G.g,G.dU,sN G.n G.mx G.PH G.PD⟩
theorem Ng.same (G:Ng) (hi:G.i=G.n) {j:Nat} (hj:2≤j):G.pw.t j=G.t (j+4):=by
 unfold Pw.t Ng.t
 rw[if_neg (by omega:¬ j=0),if_neg (by omega:¬ j=1),if_neg (by omega:¬ j+4=0),if_neg (by omega:¬ j+4=1),if_neg (by omega:¬ j+4=2),if_neg (by omega:¬ j+4=3),if_neg (by omega:¬ j+4=4),if_neg (by omega:¬ j+4=5)]
 rw[show j+4-6=j-2 by omega,hi]
 show (if j-2<2*G.n then _ else _)=_
 by_cases h:j-2<2*G.n
 ·rw[if_pos h,if_pos h]
  by_cases q:(j-2) % 2=0
  ·rw[if_pos q,if_pos (by omega:(j+4) % 2=0)]
   rfl
  ·rw[if_neg q,if_neg (by omega:¬ (j+4) % 2=0)]
   rfl
 ·rw[if_neg h,if_neg h]
theorem Ng.mem (G:Ng) (hi:G.i=G.n) (q k:Nat) (hk:k ∈ (mR G.pw q).U):(q=0∧∃ a,a≤3∧k ∈ (G.t a).U)∨(q=2∧k ∈ (G.t 4).U)∨(4≤q∧q % 2=0∧k ∈ (G.t (q / 2+4)).U):=by
 unfold mR at hk
 by_cases h2:q % 2=0
 ·rw[if_pos h2]at hk
  by_cases z0:q / 2=0
  ·rw[z0]at hk
   have hk:k ∈ G.pw.core.U:=hk
   simp only[Wc.U,Pw.core,Ng.pw,List.mem_cons,List.mem_append,Option.mem_toList,List.not_mem_nil,or_false]at hk
   refine .inl ⟨by omega,?_⟩
   rcases hk with hk | hk | hk | hk | hk
   ·exact⟨0,by omega,by show k ∈ [G.X];simp[hk]⟩
   ·exact⟨1,by omega,by show k ∈ G.v0.ownBlock.toList;simp[hk]⟩
   ·exact⟨2,by omega,by show k ∈ G.v1.ownBlock.toList;simp[hk]⟩
   ·exact⟨3,by omega,by show k ∈ G.vc.ownBlock.toList;simp[hk]⟩
   ·cases hk
  ·by_cases z1:q / 2=1
   ·rw[z1]at hk
    exact .inr (.inl ⟨by omega,hk⟩)
   ·rw[G.same hi (by omega)]at hk
    exact .inr (.inr ⟨by omega,h2,hk⟩)
 ·rw[if_neg h2]at hk
  simp[di]at hk
theorem Ng.world {w0 w:World} {G:Ng} (A:Al w0 w G.t) (hi:G.i=G.n):PW ev w0 w (mR G.pw) G.pw:=by
 have wb:WB G.pw.core w:=by
  refine⟨A.get (i:=0) (x:=cS [(G.X,G.blk)]) rfl _ (List.mem_cons_self ..),A.get (i:=1) (x:=kG 83 5 G.v0 G.n (xO G.n G.PH)) rfl,A.get (i:=2) (x:=kG 83 5 G.v1 G.n (xO G.n G.PD)) rfl,?_,⟨rfl,.inl ⟨rfl,rfl⟩⟩,rfl,fun i f d hf=>by simp[Ng.pw,Pw.core,sN]at hf,fun k hk=>by simp[Ng.pw,Pw.core]at hk⟩
  have:=A.get (i:=3) (x:=kG 80 3 G.vc G.i (gE G.i G.h G.d G.dm)) rfl
  rw[hi]at this
  exact this
 refine⟨⟨A.bel,fun q=>?_,fun q k hk=>?_,fun p q hpq k hp hq=>?_⟩,wo _⟩
 ·unfold mR
  by_cases h2:q % 2=0
  ·rw[if_pos h2]
   by_cases z0:q / 2=0
   ·rw[z0]
    exact wb
   ·by_cases z1:q / 2=1
    ·rw[z1]
     exact A.get (i:=4) (x:=zC G.b G.m (.slice none 0 0) [] none []) rfl
    ·rw[G.same hi (by omega)]
     exact A.ok _
  ·rw[if_neg h2]
   trivial
 ·rcases G.mem hi q k hk with ⟨_,a,_,h⟩ | ⟨_,h⟩ | ⟨_,_,h⟩
  ·exact A.lt a k h
  ·exact A.lt 4 k h
  ·exact A.lt _ k h
 ·rcases G.mem hi p k hp with ⟨e1,a,ha,h1⟩ | ⟨e1,h1⟩ | ⟨e1,f1,h1⟩
  ·rcases G.mem hi q k hq with ⟨e2,b,hb,h2⟩ | ⟨e2,h2⟩ | ⟨e2,f2,h2⟩
   ·omega
   ·exact A.dis a 4 (by omega) k h1 h2
   ·exact A.dis a _ (by omega) k h1 h2
  ·rcases G.mem hi q k hq with ⟨e2,b,hb,h2⟩ | ⟨e2,h2⟩ | ⟨e2,f2,h2⟩
   ·exact A.dis 4 b (by omega) k h1 h2
   ·omega
   ·exact A.dis 4 _ (by omega) k h1 h2
  ·rcases G.mem hi q k hq with ⟨e2,b,hb,h2⟩ | ⟨e2,h2⟩ | ⟨e2,f2,h2⟩
   ·exact A.dis _ b (by omega) k h1 h2
   ·exact A.dis _ 4 (by omega) k h1 h2
   ·exact A.dis _ _ (by omega) k h1 h2
theorem ya (n mx:Nat) (PH PD:Nat→Pm):(sN n mx PH PD).In:=
 ⟨fun k hk=>Ih.new_ _,fun k hk=>Iv.new_ _,fun k hk=>Nat.le_refl _,fun k hk=>⟨Nat.le_refl _,by show (0:Int)≤6 * ((0:Nat):Int);decide⟩,Nat.le_refl _,Nat.le_refl _⟩
theorem Ng.mem0 (G:Ng) (hi:G.i=0) (hvc:G.vc=.slice none 0 0) (q k:Nat) (hk:k ∈ (G.t q).U):(q=0∧k=G.X)∨(q=1∧G.v0.ownBlock=some k)∨(q=2∧G.v1.ownBlock=some k)∨(q=4∧(k=G.b∨k=G.m))∨(q=5∧k=G.x):=by
 unfold Ng.t at hk
 by_cases q0:q=0
 ·rw[if_pos q0]at hk
  have hk:k ∈ [G.X]:=hk
  exact .inl ⟨q0,by simpa using hk⟩
 rw[if_neg q0]at hk
 by_cases q1:q=1
 ·rw[if_pos q1]at hk
  have hk:k ∈ G.v0.ownBlock.toList:=hk
  exact .inr (.inl ⟨q1,by simpa using hk⟩)
 rw[if_neg q1]at hk
 by_cases q2:q=2
 ·rw[if_pos q2]at hk
  have hk:k ∈ G.v1.ownBlock.toList:=hk
  exact .inr (.inr (.inl ⟨q2,by simpa using hk⟩))
 rw[if_neg q2]at hk
 by_cases q3:q=3
 ·rw[if_pos q3,hvc]at hk
  have hk:k ∈ (Value.slice none 0 0).ownBlock.toList:=hk
  simp[Value.ownBlock]at hk
 rw[if_neg q3]at hk
 by_cases q4:q=4
 ·rw[if_pos q4]at hk
  have hk:k ∈ kK G.b G.m (.slice none 0 0) [] none:=hk
  simp[kK,Value.ownBlock]at hk
  exact .inr (.inr (.inr (.inl ⟨q4,hk⟩)))
 rw[if_neg q4]at hk
 by_cases q5:q=5
 ·rw[if_pos q5]at hk
  have hk:k ∈ [G.x]:=hk
  exact .inr (.inr (.inr (.inr ⟨q5,by simpa using hk⟩)))
 rw[if_neg q5,if_neg (by omega)]at hk
 simp[di]at hk
theorem Ng.start {w wx:World} {G:Ng} (hi:G.i=0) (hvc:G.vc=.slice none 0 0) (bel:Below w.heap.size w wx) (k0:wx.heap[G.X]?=some G.blk) (r0:wx.ownsRow 0 83 5 G.v0 G.n (xO G.n G.PH)) (r1:wx.ownsRow 0 83 5 G.v1 G.n (xO G.n G.PD)) (bg:Bg 0 wx G.b G.m (.slice none 0 0) [] none []) (kx:wx.heap[G.x]?=some G.ob)
  (lx:G.x=w.heap.size) (l0:∀ k,G.v0.ownBlock=some k→w.heap.size<k∧k<G.m) (l1:∀ k,G.v1.ownBlock=some k→w.heap.size<k∧k<G.m) (l01:∀ k,G.v0.ownBlock=some k→G.v1.ownBlock≠some k) (mb:G.b=G.m+1) (bX:G.X=G.m+2) (lm:w.heap.size<G.m):Al w wx G.t:=by
 have lX:=(Array.getElem?_eq_some_iff.1 k0).1
 refine⟨bel,fun q=>?_,fun q k hk=>?_,fun p q hpq k hp hq=>?_⟩
 ·unfold Ng.t
  by_cases q0:q=0
  ·rw[if_pos q0]
   intro p hp
   simp only[List.mem_cons,List.not_mem_nil,or_false]at hp
   subst hp
   exact k0
  rw[if_neg q0]
  by_cases q1:q=1
  ·rw[if_pos q1];exact r0
  rw[if_neg q1]
  by_cases q2:q=2
  ·rw[if_pos q2];exact r1
  rw[if_neg q2]
  by_cases q3:q=3
  ·rw[if_pos q3,hvc,hi]
   exact⟨rfl,.inl ⟨rfl,rfl⟩⟩
  rw[if_neg q3]
  by_cases q4:q=4
  ·rw[if_pos q4];exact⟨bg,rfl⟩
  rw[if_neg q4]
  by_cases q5:q=5
  ·rw[if_pos q5]
   intro p hp
   simp only[List.mem_cons,List.not_mem_nil,or_false]at hp
   subst hp
   exact kx
  rw[if_neg q5,if_neg (by omega)]
  trivial
 ·rcases G.mem0 hi hvc q k hk with ⟨_,e⟩ | ⟨_,e⟩ | ⟨_,e⟩ | ⟨_,e | e⟩ | ⟨_,e⟩
  ·omega
  ·have:=l0 k e;omega
  ·have:=l1 k e;omega
  ·omega
  ·omega
  ·omega
 ·rcases G.mem0 hi hvc p k hp with ⟨e1,hp⟩ | ⟨e1,hp⟩ | ⟨e1,hp⟩ | ⟨e1,hp | hp⟩ | ⟨e1,hp⟩
  all_goals rcases G.mem0 hi hvc q k hq with ⟨e2,hq⟩ | ⟨e2,hq⟩ | ⟨e2,hq⟩ | ⟨e2,hq | hq⟩ | ⟨e2,hq⟩
  all_goals first
   | exact hpq (by omega)
   | omega
   | (have:=l0 k hp;omega)
   | (have:=l1 k hp;omega)
   | (have:=l0 k hq;omega)
   | (have:=l1 k hq;omega)
   | exact l01 k hp hq
   | exact l01 k hq hp
def zy (w wr:World) (X b x n mx:Nat) (PH PD:Nat→Pm) (v0 v1:Value) (ob:Obj) (i:Nat):Prop:=∃ G:Ng,G.i=i∧G.X=X∧G.b=b∧G.x=x∧G.n=n∧G.mx=mx∧G.PH=PH∧G.PD=PD∧G.v0=v0∧G.v1=v1∧G.ob=ob∧Al w wr G.t
theorem jP {w wr w5 w6 w7 w8:World} {X b x n mx i:Nat} {PH PD:Nat→Pm} {v0 v1:Value} {ob:Obj} {G:Ng} {P Q:Pm} (A:Al w wr G.t) (hG:G.i=i∧G.X=X∧G.b=b∧G.x=x∧G.n=n∧G.mx=mx∧G.PH=PH∧G.PD=PD∧G.v0=v0∧G.v1=v1∧G.ob=ob) (b5:Below wr.heap.size wr w5) {h d dm g:Nat}
  (H5:Below wr.drew.heap.size wr.drew w5∧∃ hU dU,HV w5 h P hU bu∧DV w5 d dm g 16 mx Q dU (cW M0)∧(∀ k,k ∈ hU→wr.drew.heap.size≤k)∧(∀ k,k ∈ dU→wr.drew.heap.size≤k)∧∀ k,k ∈ hU→k ∉ dU) (hP:PH i=P) (hQ:PD i=Q) (b6:Below w5.heap.size w5 w6) {vc:Value}
  (o7:w7.ownsRow 0 80 3 vc (i+1) (gE i G.h G.d G.dm ++ mQ h d dm)) (g7:w6.grownBy w7 G.vc.ownBlock) (p7:vc.ownBlock=G.vc.ownBlock∨vc.ownBlock=some w6.heap.size) (o8:Off [X] w7 w8) (k8:w8.heap[X]?=some (.cells #[v0,v1,.int .u32 (mx:Nat),vc,ac b 0,.int .i64 0,.slice none 0 0] 75 (0,0))):zy w w8 X b x n mx PH PD v0 v1 ob (i+1):=by
 obtain⟨_,hU,dU,hv,dv,hUg,dUg,dis⟩:=H5
 obtain⟨rfl,rfl,rfl,rfl,rfl,rfl,rfl,rfl,rfl,rfl,rfl⟩:=hG
 subst hP hQ
 exact⟨G.more vc h d dm g hU dU,rfl,rfl,rfl,rfl,rfl,rfl,rfl,rfl,rfl,rfl,rfl,Ng.step A b5 hv dv hUg dUg dis b6 o7 g7 p7 o8 k8⟩
theorem vD (PH PD:Nat→Pm) (q0 o0 v0 q1 o1 v1 n mx:Nat) (hH:∀ k,k<n→Pok (PH k)) (hD:∀ k,k<n→Pok (PD k)) (hmx:mx<4294967296) (h0:mx≠0) (hn0:0<n) (hn8:n≤1000) (hu0:n≤v0) (hu1:n≤v1) (w:World) (k0:PqRow w (af q0 o0) n (fun i=>(PH i).q)) (k1:PqRow w (af q1 o1) n (fun i=>(PD i).q)) (hck:zO n n mx (fun i=>(PH i).q) (fun i=>(PD i).q)=0):Calls prog 7 #[.agg #[.slice (af q0 o0) n v0,.slice (af q1 o1) n v1,.int .u32 (mx:Nat)]] w fun r w'=>∃ L:Pw,r=.returned (.tuple #[ac L.x 0,.int .i64 0])∧Hid (PW ev w w' (mR L) L∧L.S=sN n mx PH PD):=by
 have kA:=aA w (.cells #[.slice (af q0 o0) n v0,.slice (af q1 o1) n v1,.int .u32 (mx:Nat)] 30)
 have bA:=aC (Below.refl _ w) (.cells #[.slice (af q0 o0) n v0,.slice (af q1 o1) n v1,.int .u32 (mx:Nat)] 30)
 have sA:=iQ w (.cells #[.slice (af q0 o0) n v0,.slice (af q1 o1) n v1,.int .u32 (mx:Nat)] 30)
 obtain⟨wa,hwa⟩:∃ y,w.alloc (.cells #[.slice (af q0 o0) n v0,.slice (af q1 o1) n v1,.int .u32 (mx:Nat)] 30)=y:=⟨_,rfl⟩
 rw[hwa]at kA bA sA
 obtain⟨x,hx⟩:∃ y,w.heap.size=y:=⟨_,rfl⟩
 rw[hx]at kA sA
 have y0:wa.cell? ⟨x,0,none⟩=some (.slice (af q0 o0) n v0):=ae wa x 0 _ _ _ kA
 have y1:wa.cell? ⟨x,1,none⟩=some (.slice (af q1 o1) n v1):=ae wa x 1 _ _ _ kA
 have y2:wa.cell? ⟨x,2,none⟩=some (.int .u32 (mx:Nat)):=ae wa x 2 _ _ _ kA
 have hCk:=wX (fun i=>(PH i).q) (fun i=>(PD i).q) (af q0 o0) (af q1 o1) n v0 n v1 mx wa (k0.below bA) (k1.below bA) hu0 hu1 (by omega) (by omega)
 rw[hck]at hCk
 have HH:Hid (_):=And.intro bA (And.intro kA (And.intro k0 (And.intro k1 sA)))
 have HE:Hid (_=wa):=hwa
 have HS:Hid (w.heap.size=x):=hx
 have HPk:Hid (_):=And.intro hH hD
 clear bA kA k0 k1 hwa hx sA hck hH hD
 go_enter func7,ntmps7
 go_upto_region 1 with fail
 rw[HE.out,HS.out]
 go_wp2_with fail
 refine hCk.mono ?_
 rintro r w1 ⟨rfl,H1⟩
 clear hCk y0 y1 y2
 obtain⟨bA,kA,k0,k1,sA⟩:=HH.out
 have b1:=H1.out
 have hb01:=bA.trans (b1.mono bA.size)
 have kx:=(b1.block x (Array.getElem?_eq_some_iff.1 kA).1).trans kA
 have y0:w1.cell? ⟨x,0,none⟩=some (.slice (af q0 o0) n v0):=ae w1 x 0 _ _ _ kx
 have y1:w1.cell? ⟨x,1,none⟩=some (.slice (af q1 o1) n v1):=ae w1 x 1 _ _ _ kx
 have y2:w1.cell? ⟨x,2,none⟩=some (.int .u32 (mx:Nat)):=ae w1 x 2 _ _ _ kx
 have hCo:=ur (fun i=>(PH i).q) (fun i=>(PD i).q) q0 o0 v0 q1 o1 v1 n mx w1 (PqRow.below k0 hb01) (PqRow.below k1 hb01) (by omega)
 clear bA kA k0 k1 sA b1 hb01 kx
 go_wp2_with fail
 refine hCo.mono ?_
 rintro r w2 ⟨a0,c0,a1,c1,rfl,H2⟩
 clear hCo y0 y1 y2
 have hBn:=tu w2
 go_wp2_with fail
 refine hBn.mono ?_
 rintro r w3 ⟨rfl,H3⟩
 clear hBn
 obtain⟨b,hb⟩:∃ y,w2.heap.size+1=y:=⟨_,rfl⟩
 rw[hb]
 have kW:=aA w3 (.cells #[.slice a0 n c0,.slice a1 n c1,.int .u32 (mx:Nat),.slice none 0 0,ac b 0,.int .i64 0,.slice none 0 0] 75)
 have bW:=aC (Below.refl _ w3) (.cells #[.slice a0 n c0,.slice a1 n c1,.int .u32 (mx:Nat),.slice none 0 0,ac b 0,.int .i64 0,.slice none 0 0] 75)
 obtain⟨wx,hwx⟩:∃ y,w3.alloc (.cells #[.slice a0 n c0,.slice a1 n c1,.int .u32 (mx:Nat),.slice none 0 0,ac b 0,.int .i64 0,.slice none 0 0] 75)=y:=⟨_,rfl⟩
 obtain⟨X,hX⟩:∃ y,w3.heap.size=y:=⟨_,rfl⟩
 rw[hwx]at kW bW
 rw[hX]at kW
 obtain⟨bA,kA,k0,k1,sA⟩:=HH.out
 have b1:=H1.out
 obtain⟨r0,r1,b2,d01⟩:=H2.out
 obtain⟨b3,hg,s3⟩:=H3.out
 have b13:Below wa.heap.size wa wx:=((b1.trans (b2.mono b1.size)).trans (b3.mono (Nat.le_trans b1.size b2.size))).trans (bW.mono (Nat.le_trans (Nat.le_trans b1.size b2.size) b3.size))
 have kx:=(b13.block x (Array.getElem?_eq_some_iff.1 kA).1).trans kA
 have b2x:Below w2.heap.size w2 wx:=b3.trans (bW.mono b3.size)
 have s1:=b1.size
 have hsx:=HS.out
 have A0:zy w wx X b x n mx PH PD (.slice a0 n c0) (.slice a1 n c1) (.cells #[.slice (af q0 o0) n v0,.slice (af q1 o1) n v1,.int .u32 (mx:Nat)] 30 (0,0)) 0:=by
  refine⟨⟨X,b,w2.heap.size,x,.slice a0 n c0,.slice a1 n c1,.slice none 0 0,n,0,mx,PH,PD,fun _=>0,fun _=>0,fun _=>0,fun _=>0,fun _=>[],fun _=>[],.cells #[.slice (af q0 o0) n v0,.slice (af q1 o1) n v1,.int .u32 (mx:Nat)] 30 (0,0)⟩,rfl,rfl,rfl,rfl,rfl,rfl,rfl,rfl,rfl,rfl,rfl,Ng.start rfl rfl (bA.trans (b13.mono bA.size)) kW (il (aX (l:=[]) r0 (Off.of_below b2x) (by simp)) (Nat.zero_le _)) (il (aX (l:=[]) r1 (Off.of_below b2x) (by simp)) (Nat.zero_le _)) ?_ kx hsx.symm (fun k hk=>?_) (fun k hk=>?_) d01 hb.symm ?_ ?_⟩
  ·have hh:Bg 0 w3 (w2.heap.size+1) w2.heap.size (.slice none 0 0) [] none []:=⟨hg.at_,⟨⟨rfl,.inl ⟨rfl,rfl⟩⟩,fun i f hi=>by simp at hi,fun f hf=>by simp at hf,by simp⟩,hg.met,hg.pk,Nat.zero_le _,Nat.zero_le _⟩
   rw[hb]at hh
   exact hh.below bW
  ·have:=r0.lt k hk
   show w.heap.size<k∧k<w2.heap.size
   omega
  ·have:=r1.lt k hk
   show w.heap.size<k∧k<w2.heap.size
   omega
  ·show X=w2.heap.size+2
   omega
  ·show w.heap.size<w2.heap.size
   have:=b2.size
   omega
 have y0:wx.cell? ⟨x,0,none⟩=some (.slice (af q0 o0) n v0):=ae wx x 0 _ _ _ kx
 have HA0:Hid (_):=A0
 have HE3:Hid (_=wx):=hwx
 have HX3:Hid (w3.heap.size=X):=hX
 have HK0:Hid (_):=And.intro k0 (And.intro k1 (And.intro (show w.heap.size<X by have:=b2.size;omega) hsx))
 clear bA kA k0 k1 sA b1 r0 r1 b2 d01 b3 hg s3 b13 kx b2x s1 A0 kW bW hwx hX hb hsx
 go_upto_region 5 with fail
 rw[HE3.out,HX3.out]
 go_wp2_with fail
 go_loopw [6,20,21,22,23,24,25,26,27,28,29,30,31,32,33,34,35,36,37,38,39,40,41,42,43,44,45] (fun _ ctr _ _ _ _ _ _ _ _ _ _ _ _ _ _ _ _ _ _ _ _ _ _ _ _ _ wr=>∃ i:Nat,i≤n∧ctr=.int .i64 ((i:Nat):Int)∧Hid (zy w wr X b x n mx PH PD (.slice a0 n c0) (.slice a1 n c1) (.cells #[.slice (af q0 o0) n v0,.slice (af q1 o1) n v1,.int .u32 (mx:Nat)] 30 (0,0)) i)) (fun _ ctr _ _ _ _ _ _ _ _ _ _ _ _ _ _ _ _ _ _ _ _ _ _ _ _ _ _=>n-ik ctr)
 case atStart=>exact⟨0,by omega,rfl,HA0.out⟩
 case round=>
  obtain⟨i,hi,rfl,HI⟩:=hrel
  obtain⟨G,g1,g2,g3,g4,g5,g6,g7,g8,g9,g10,g11,A⟩:=HI.out
  by_cases hlt:i<n
  rotate_left
  ·obtain rfl:i=n:=by omega
   have hlt':¬ ((i:Nat):Int) < ((i:Nat):Int):=by omega
   have HW:Hid (_):=Ng.world A (by rw[g1,g5])
   have HSn:Hid (G.pw.S=sN i mx PH PD):=by show sN G.n G.mx G.PH G.PD=_;rw[g5,g6,g7,g8]
   have HXx:Hid (G.pw.x=X):=g2
   clear A g1 g2 g3 g4 g5 g6 g7 g8 g9 g10 g11
   go_wp2_with fail
   go_ret2
   exact⟨G.pw,by rw[HXx.out] <;> rfl,HW.out,HSn.out⟩
  have hlt':((i:Nat):Int) < ((n:Nat):Int):=by omega
  obtain⟨P,hP⟩:∃ z,PH i=z:=⟨_,rfl⟩
  obtain⟨Q,hQ⟩:∃ z,PD i=z:=⟨_,rfl⟩
  have hPo:Pok P:=by rw[← hP];exact HPk.out.1 i hlt
  have hQo:Pok Q:=by rw[← hQ];exact HPk.out.2 i hlt
  obtain⟨k0,k1,lwX,hsx⟩:=HK0.out
  obtain⟨z0,p0,ez0,cc0⟩:=(PqRow.below k0 A.bel) i hlt
  obtain⟨z1,p1,ez1,cc1⟩:=(PqRow.below k1 A.bel) i hlt
  obtain⟨_,_,ew0,dd0⟩:=k0 i hlt
  obtain⟨_,_,ew1,dd1⟩:=k1 i hlt
  have lq0:q0<w.heap.size:=by
   injection ew0 with ew0
   injection ew0 with e1 e2
   subst e1 e2
   exact World.block_lt_of_cell? w _ (dd0 0 _ rfl)
  have lq1:q1<w.heap.size:=by
   injection ew1 with ew1
   injection ew1 with e1 e2
   subst e1 e2
   exact World.block_lt_of_cell? w _ (dd1 0 _ rfl)
  injection ez0 with ez0
  injection ez0 with e1 e2
  subst e1 e2
  injection ez1 with ez1
  injection ez1 with e1 e2
  subst e1 e2
  dsimp only at cc0 cc1
  rw[hP]at cc0
  rw[hQ]at cc1
  have bx:wr.heap[x]?=some (.cells #[.slice (af q0 o0) n v0,.slice (af q1 o1) n v1,.int .u32 (mx:Nat)] 30 (0,0)):=by
   have:=A.get (i:=5) (x:=cS [(G.x,G.ob)]) rfl _ (List.mem_cons_self ..)
   rw[g4,g11]at this
   exact this
  have rc:=A.get (i:=3) (x:=kG 80 3 G.vc G.i (gE G.i G.h G.d G.dm)) rfl
  have rc':wr.ownsRow 0 80 3 G.vc G.i (gE G.i G.h G.d G.dm):=rc
  obtain⟨av,cv,ev⟩:=bK rc'
  rw[g1]at rc' ev
  have bX:wr.heap[X]?=some (.cells #[.slice a0 n c0,.slice a1 n c1,.int .u32 (mx:Nat),.slice av i cv,ac b 0,.int .i64 0,.slice none 0 0] 75 (0,0)):=by
   have:=A.get (i:=0) (x:=cS [(G.X,G.blk)]) rfl _ (List.mem_cons_self ..)
   unfold Ng.blk at this
   rw[g2,g9,g10,g6,ev,g3]at this
   exact this
  have hne:∀ k j,k ∈ (G.t j).U→j≠3→(Value.slice av i cv).ownBlock≠some k:=fun k j hk hj e=>A.dis 3 j (fun q=>hj q.symm) k (by show k ∈ G.vc.ownBlock.toList;rw[ev,e];simp) hk
  have hne2:∀ k,k<w.heap.size→(Value.slice av i cv).ownBlock≠some k:=fun k hk e=>by
   have:=(A.lt 3 k (by show k ∈ G.vc.ownBlock.toList;rw[ev,e];simp)).1
   omega
  have HNE:Hid ((Value.slice av i cv).ownBlock≠some x∧(Value.slice av i cv).ownBlock≠some q0∧(Value.slice av i cv).ownBlock≠some q1∧(Value.slice av i cv).ownBlock≠some X):=⟨hne x 5 (by show x ∈ [G.x];simp[g4]) (by omega),hne2 q0 lq0,hne2 q1 lq1,hne X 0 (by show X ∈ [G.X];simp[g2]) (by omega)⟩
  have HXX:Hid (x≠X∧q0≠X∧q1≠X):=⟨by omega,by omega,by omega⟩
  have hS:∀ w',Below wr.heap.size wr w'→w'.cell? ⟨x,0,none⟩=some (Value.slice (af q0 o0) n v0)∧w'.cell? ⟨x,1,none⟩=some (Value.slice (af q1 o1) n v1)∧w'.cell? ⟨x,2,none⟩=some (Value.int .u32 (mx:Nat))∧w'.cell? ⟨q0,o0+i*5,none⟩=some (Value.int .u32 (P.c:Nat))∧w'.cell? ⟨q0,o0+i*5+1,none⟩=some (Value.int .i64 (P.o:Nat))∧w'.cell? ⟨q0,o0+i*5+2,none⟩=some (Value.int .i64 (P.i:Nat))∧w'.cell? ⟨q0,o0+i*5+3,none⟩=some (Value.int .i64 (P.t:Nat))∧w'.cell? ⟨q0,o0+i*5+4,none⟩=some (Value.int .u32 (P.n:Nat))∧w'.cell? ⟨q1,o1+i*5,none⟩=some (Value.int .u32 (Q.c:Nat))∧w'.cell? ⟨q1,o1+i*5+1,none⟩=some (Value.int .i64 (Q.o:Nat))∧w'.cell? ⟨q1,o1+i*5+2,none⟩=some (Value.int .i64 (Q.i:Nat))∧w'.cell? ⟨q1,o1+i*5+3,none⟩=some (Value.int .i64 (Q.t:Nat))∧w'.cell? ⟨q1,o1+i*5+4,none⟩=some (Value.int .u32 (Q.n:Nat)):=fun w' bb=>⟨ai (ae wr x 0 _ _ _ bx) bb,ai (ae wr x 1 _ _ _ bx) bb,ai (ae wr x 2 _ _ _ bx) bb,ai (cc0 0 _ rfl) bb,ai (cc0 1 _ rfl) bb,ai (cc0 2 _ rfl) bb,ai (cc0 3 _ rfl) bb,ai (cc0 4 _ rfl) bb,ai (cc1 0 _ rfl) bb,ai (cc1 1 _ rfl) bb,ai (cc1 2 _ rfl) bb,ai (cc1 3 _ rfl) bb,ai (cc1 4 _ rfl) bb⟩
  have HT0:=hS wr.drew (Below.drew (Below.refl _ _))
  have HSS:Hid (_):=hS
  have HX0:Hid (∀ w',Below wr.heap.size wr w'→w'.cell? ⟨X,3,none⟩=some (Value.slice av i cv)):=fun w' bb=>ai (ae wr X 3 _ _ _ bX) bb
  have HXb:Hid (_):=bX
  have HRC:Hid (wr.ownsRow 0 80 3 (.slice av i cv) i (gE i G.h G.d G.dm)):=by rw[← ev];exact rc'
  have HNG:Hid (Al w wr G.t):=A
  have HGi:Hid (_):=And.intro g1 (And.intro g2 (And.intro g3 (And.intro g4 (And.intro g5 (And.intro g6 (And.intro g7 (And.intro g8 (And.intro g9 (And.intro g10 g11)))))))))
  have HEv:Hid (G.vc=_):=ev
  have HPQ:Hid (_):=And.intro hP hQ
  clear cc0 cc1 bx rc rc' ev bX hne hne2 hS A g1 g2 g3 g4 g5 g6 g7 g8 g9 g10 g11 hP hQ lq0 lq1 k0 k1 lwX hsx dd0 dd1 ew0 ew1
  go_upto_region 8 with fail
  refine wp_region_held_drew (S:=fun w'=>w'.cell? ⟨x,0,none⟩=some (Value.slice (af q0 o0) n v0)∧w'.cell? ⟨x,1,none⟩=some (Value.slice (af q1 o1) n v1)∧w'.cell? ⟨x,2,none⟩=some (Value.int .u32 (mx:Nat))∧w'.cell? ⟨q0,o0+i*5,none⟩=some (Value.int .u32 (P.c:Nat))∧w'.cell? ⟨q0,o0+i*5+1,none⟩=some (Value.int .i64 (P.o:Nat))∧w'.cell? ⟨q0,o0+i*5+2,none⟩=some (Value.int .i64 (P.i:Nat))∧w'.cell? ⟨q0,o0+i*5+3,none⟩=some (Value.int .i64 (P.t:Nat))∧w'.cell? ⟨q0,o0+i*5+4,none⟩=some (Value.int .u32 (P.n:Nat))∧w'.cell? ⟨q1,o1+i*5,none⟩=some (Value.int .u32 (Q.c:Nat))∧w'.cell? ⟨q1,o1+i*5+1,none⟩=some (Value.int .i64 (Q.o:Nat))∧w'.cell? ⟨q1,o1+i*5+2,none⟩=some (Value.int .i64 (Q.i:Nat))∧w'.cell? ⟨q1,o1+i*5+3,none⟩=some (Value.int .i64 (Q.t:Nat))∧w'.cell? ⟨q1,o1+i*5+4,none⟩=some (Value.int .u32 (Q.n:Nat))) (by kernel_rfl) HT0 (fun _=>?_)
  refine an (i:=0) (v:=ac X 0) ?_
  refine an (i:=1) (v:=ac X 0) ?_
  refine an (i:=2) (v:=ac X 0) ?_
  refine an (i:=3) (v:=ac X 3) ?_
  refine an (i:=5) (v:=ac x 0) ?_
  refine an (i:=6) (v:=Value.slice (af q0 o0) n v0) ?_
  refine an (i:=7) (v:=Value.int .i64 (i:Nat)) ?_
  refine an (i:=8) (v:=ac q0 (o0+i*5)) ?_
  refine an (i:=9) (v:=Value.agg #[Value.int .u32 (P.c:Nat),Value.int .i64 (P.o:Nat),Value.int .i64 (P.i:Nat),Value.int .i64 (P.t:Nat),Value.int .u32 (P.n:Nat)]) ?_
  refine an (i:=10) (v:=ac x 1) ?_
  refine an (i:=11) (v:=Value.slice (af q1 o1) n v1) ?_
  refine an (i:=12) (v:=Value.int .i64 (i:Nat)) ?_
  refine an (i:=13) (v:=ac q1 (o1+i*5)) ?_
  refine an (i:=14) (v:=Value.agg #[Value.int .u32 (Q.c:Nat),Value.int .i64 (Q.o:Nat),Value.int .i64 (Q.i:Nat),Value.int .i64 (Q.t:Nat),Value.int .u32 (Q.n:Nat)]) ?_
  refine an (i:=15) (v:=ac x 2) ?_
  refine an (i:=16) (v:=Value.int .u32 (mx:Nat)) ?_
  refine nz (i:=4) (j:=17) (by kernel_rfl) ?_ ?_
  ·have x3:(wr.drew).cell? ⟨X,3,none⟩=some (Value.slice av i cv):=HX0.out _ (Below.drew (Below.refl wr.heap.size wr))
   refine dP (Value.slice av i cv) (wr.drew) rfl (by kernel_rfl) (by go_simp) ⟨HSS.out _ (Below.drew (Below.refl wr.heap.size wr)),?_⟩
   have HS0':=HSS.out _ (Below.drew (Below.refl wr.heap.size wr))
   refine aE (i:=17) 21 #[Value.agg #[Value.int .u32 (P.c:Nat),Value.int .i64 (P.o:Nat),Value.int .i64 (P.i:Nat),Value.int .i64 (P.t:Nat),Value.int .u32 (P.n:Nat)],Value.agg #[Value.int .u32 (Q.c:Nat),Value.int .i64 (Q.o:Nat),Value.int .i64 (Q.i:Nat),Value.int .i64 (Q.t:Nat),Value.int .u32 (Q.n:Nat)],Value.int .u32 (mx:Nat)] (by kernel_rfl) rfl (by kernel_rfl) (by go_simp) ?_
   refine (oq P Q hPo hQo mx hmx h0 wr.drew).mono ?_
   rintro r w5 ⟨h,d,dm,g,rfl,H5⟩
   have b5:Below wr.heap.size wr w5:=(Below.drew (Below.refl wr.heap.size wr)).trans H5.out.1
   refine⟨_,rfl,HSS.out w5 b5,?_⟩
   have HS5:=HSS.out w5 b5
   have b6:=aC b5 (.cells (ay h d dm) 80)
   have k6:=aA w5 (.cells (ay h d dm) 80)
   have s6:=iQ w5 (.cells (ay h d dm) 80)
   refine bP (i:=18) (Value.slice (af w5.heap.size 0) 1 1) (w5.alloc (.cells (ay h d dm) 80)) (by kernel_rfl) rfl (by kernel_rfl) (by go_simp) (HSS.out _ b6) ?_
   have HS6:=HSS.out _ b6
   obtain⟨i0,hI,hz0,hz1,hz2⟩:=info_parts iH
   have hcs:∀ j u,(mQ h d dm)[j]?=some u→(w5.alloc (.cells (ay h d dm) 80)).cell? ((⟨w5.heap.size,0,none⟩:Addr).add j)=some u:=fun j u hu=>by
    have e:(Addr.add ⟨w5.heap.size,0,none⟩ j)=⟨w5.heap.size,j,none⟩:=by unfold Addr.add;simp;omega
    rw[e,ae _ _ j _ _ _ k6]
    simpa [mQ] using hu
   have oV:(w5.alloc (.cells (ay h d dm) 80)).ownsRow 0 80 3 (.slice av i cv) i (gE i G.h G.d G.dm):=aX (l:=[]) HRC.out (Off.of_below b6) (by simp)
   obtain⟨v7,w7,hr7,o7,g7,_,p7⟩:=run_append_own_at (P:=prog) (w5.alloc (.cells (ay h d dm) 80)) 0 72 72 80 i0 (.agg aK) 3 24 underlying72 hI hz0 hz1 hz2 rfl (by decide) (.slice av i cv) i (gE i G.h G.d G.dm) oV ⟨w5.heap.size,0,none⟩ 1 1 (mQ h d dm) rfl hcs (by intro u hu;simp[mQ]at hu;rcases hu with rfl | rfl | rfl <;> rfl) (by unfold maxLen;omega) (by omega) (Nat.zero_le _)
   obtain⟨aw,cw,rfl⟩:=bK o7
   have ff:∀ q j v,(Value.slice av i cv).ownBlock≠some q→(w5.alloc (.cells (ay h d dm) 80)).cell? ⟨q,j,none⟩=some v→w7.cell? ⟨q,j,none⟩=some v:=fun q j v hq hc=>(World.cell?_of_block (w:=(w5.alloc (.cells (ay h d dm) 80))) (a:=⟨q,j,none⟩) (g7.block q (World.block_lt_of_cell? (w5.alloc (.cells (ay h d dm) 80)) ⟨q,j,none⟩ hc) (fun e=>hq e.symm))).trans hc
   obtain⟨nx,m0,m1,nX⟩:=HNE.out
   have HS7:w7.cell? ⟨x,0,none⟩=some (Value.slice (af q0 o0) n v0)∧w7.cell? ⟨x,1,none⟩=some (Value.slice (af q1 o1) n v1)∧w7.cell? ⟨x,2,none⟩=some (Value.int .u32 (mx:Nat))∧w7.cell? ⟨q0,o0+i*5,none⟩=some (Value.int .u32 (P.c:Nat))∧w7.cell? ⟨q0,o0+i*5+1,none⟩=some (Value.int .i64 (P.o:Nat))∧w7.cell? ⟨q0,o0+i*5+2,none⟩=some (Value.int .i64 (P.i:Nat))∧w7.cell? ⟨q0,o0+i*5+3,none⟩=some (Value.int .i64 (P.t:Nat))∧w7.cell? ⟨q0,o0+i*5+4,none⟩=some (Value.int .u32 (P.n:Nat))∧w7.cell? ⟨q1,o1+i*5,none⟩=some (Value.int .u32 (Q.c:Nat))∧w7.cell? ⟨q1,o1+i*5+1,none⟩=some (Value.int .i64 (Q.o:Nat))∧w7.cell? ⟨q1,o1+i*5+2,none⟩=some (Value.int .i64 (Q.i:Nat))∧w7.cell? ⟨q1,o1+i*5+3,none⟩=some (Value.int .i64 (Q.t:Nat))∧w7.cell? ⟨q1,o1+i*5+4,none⟩=some (Value.int .u32 (Q.n:Nat)):=by
    obtain⟨u0,u1,u2,u3,u4,u5,u6,u7,u8,u9,u10,u11,u12⟩:=HS6
    exact⟨ff _ _ _ nx u0,ff _ _ _ nx u1,ff _ _ _ nx u2,ff _ _ _ m0 u3,ff _ _ _ m0 u4,ff _ _ _ m0 u5,ff _ _ _ m0 u6,ff _ _ _ m0 u7,ff _ _ _ m1 u8,ff _ _ _ m1 u9,ff _ _ _ m1 u10,ff _ _ _ m1 u11,ff _ _ _ m1 u12⟩
   refine bP (i:=19) (Value.slice aw (i+1) cw) w7 (by kernel_rfl) rfl (by kernel_rfl) (jt (s:=.tmp 27) (x:=.tmp 41) rfl rfl (by kernel_rfl) (by kernel_rfl) hr7) HS7 ?_
   refine an (i:=20) (v:=ac X 0) ?_
   refine an (i:=21) (v:=ac X 3) ?_
   have kX6:=(b6.block X (Array.getElem?_eq_some_iff.1 HXb.out).1).trans HXb.out
   have kX7:=(g7.block X (Array.getElem?_eq_some_iff.1 kX6).1 (fun e=>nX e.symm)).trans kX6
   have y3:=ae w7 X 3 _ _ _ kX7
   have yz:=frozen_of_row w7 X 3 _ _ kX7
   have o8:Off [X] w7 (w7.setCell ⟨X,3,none⟩ (.slice aw (i+1) cw)):=Off.setCell X 3 w7 _
   have k8:(w7.setCell ⟨X,3,none⟩ (.slice aw (i+1) cw)).heap[X]?=some (.cells #[.slice a0 n c0,.slice a1 n c1,.int .u32 (mx:Nat),.slice aw (i+1) cw,ac b 0,.int .i64 0,.slice none 0 0] 75 (0,0)):=Joins.block_setCell kX7 _
   obtain⟨w8,hw8⟩:∃ z,w7.setCell ⟨X,3,none⟩ (.slice aw (i+1) cw)=z:=⟨_,rfl⟩
   rw[hw8]at o8 k8
   have hS8:w8.cell? ⟨x,0,none⟩=some (Value.slice (af q0 o0) n v0)∧w8.cell? ⟨x,1,none⟩=some (Value.slice (af q1 o1) n v1)∧w8.cell? ⟨x,2,none⟩=some (Value.int .u32 (mx:Nat))∧w8.cell? ⟨q0,o0+i*5,none⟩=some (Value.int .u32 (P.c:Nat))∧w8.cell? ⟨q0,o0+i*5+1,none⟩=some (Value.int .i64 (P.o:Nat))∧w8.cell? ⟨q0,o0+i*5+2,none⟩=some (Value.int .i64 (P.i:Nat))∧w8.cell? ⟨q0,o0+i*5+3,none⟩=some (Value.int .i64 (P.t:Nat))∧w8.cell? ⟨q0,o0+i*5+4,none⟩=some (Value.int .u32 (P.n:Nat))∧w8.cell? ⟨q1,o1+i*5,none⟩=some (Value.int .u32 (Q.c:Nat))∧w8.cell? ⟨q1,o1+i*5+1,none⟩=some (Value.int .i64 (Q.o:Nat))∧w8.cell? ⟨q1,o1+i*5+2,none⟩=some (Value.int .i64 (Q.i:Nat))∧w8.cell? ⟨q1,o1+i*5+3,none⟩=some (Value.int .i64 (Q.t:Nat))∧w8.cell? ⟨q1,o1+i*5+4,none⟩=some (Value.int .u32 (Q.n:Nat)):=by
    obtain⟨u0,u1,u2,u3,u4,u5,u6,u7,u8,u9,u10,u11,u12⟩:=HS7
    obtain⟨z1,z2,z3⟩:=HXX.out
    have gg:∀ q j v,q≠X→w7.cell? ⟨q,j,none⟩=some v→w8.cell? ⟨q,j,none⟩=some v:=fun q j v hq hc=>(World.cell?_of_block (w:=w7) (a:=⟨q,j,none⟩) (o8.block q (World.block_lt_of_cell? w7 ⟨q,j,none⟩ hc) (by simpa using hq))).trans hc
    exact⟨gg _ _ _ z1 u0,gg _ _ _ z1 u1,gg _ _ _ z1 u2,gg _ _ _ z2 u3,gg _ _ _ z2 u4,gg _ _ _ z2 u5,gg _ _ _ z2 u6,gg _ _ _ z2 u7,gg _ _ _ z3 u8,gg _ _ _ z3 u9,gg _ _ _ z3 u10,gg _ _ _ z3 u11,gg _ _ _ z3 u12⟩
   refine cj (i:=22) w8 (by kernel_rfl) rfl (by kernel_rfl) (by rw[← hw8];go_simp) hS8 ?_
   refine wpAnyH_done (by kernel_rfl) ?_ _
   have HF:Hid (zy w w8 X b x n mx PH PD (.slice a0 n c0) (.slice a1 n c1) (.cells #[.slice (af q0 o0) n v0,.slice (af q1 o1) n v1,.int .u32 (mx:Nat)] 30 (0,0)) (i+1)):=jP HNG.out HGi.out b5 H5.out HPQ.out.1 HPQ.out.2 (aC (Below.refl _ w5) _) o7 (by rw[HEv.out];exact g7) (by rw[HEv.out];exact p7) o8 k8
   clear o8 k8 b5 b6 o7 g7 p7 s6 kX6 kX7 y3 yz hw8 HS7 HS6 HS5 HT0 k6 hcs hr7 hS8 H5 ff oV nx m0 m1 nX
   go_wp2_with fail
   go_roundw
   case rel=>exact⟨i+1,by omega,by first | rfl | go_num,HF⟩
   case measure=>simp only[ik];omega
  ·refine mZ 21 #[Value.agg #[Value.int .u32 (P.c:Nat),Value.int .i64 (P.o:Nat),Value.int .i64 (P.i:Nat),Value.int .i64 (P.t:Nat),Value.int .u32 (P.n:Nat)],Value.agg #[Value.int .u32 (Q.c:Nat),Value.int .i64 (Q.o:Nat),Value.int .i64 (Q.i:Nat),Value.int .i64 (Q.t:Nat),Value.int .u32 (Q.n:Nat)],Value.int .u32 (mx:Nat)] rfl (by kernel_rfl) (by go_simp) ?_
   refine (oq P Q hPo hQo mx hmx h0 wr.drew).mono ?_
   rintro r w5 ⟨h,d,dm,g,rfl,H5⟩
   have b5:Below wr.heap.size wr w5:=(Below.drew (Below.refl wr.heap.size wr)).trans H5.out.1
   refine⟨_,rfl,HSS.out w5 b5,?_⟩
   have HS5:=HSS.out w5 b5
   refine nz (i:=4) (j:=18) (by kernel_rfl) ?_ ?_
   ·have x3:(w5).cell? ⟨X,3,none⟩=some (Value.slice av i cv):=HX0.out _ (b5)
    refine dP (Value.slice av i cv) (w5) rfl (by kernel_rfl) (by go_simp) ⟨HSS.out _ (b5),?_⟩
    have b6:=aC b5 (.cells (ay h d dm) 80)
    have k6:=aA w5 (.cells (ay h d dm) 80)
    have s6:=iQ w5 (.cells (ay h d dm) 80)
    refine bP (i:=18) (Value.slice (af w5.heap.size 0) 1 1) (w5.alloc (.cells (ay h d dm) 80)) (by kernel_rfl) rfl (by kernel_rfl) (by go_simp) (HSS.out _ b6) ?_
    have HS6:=HSS.out _ b6
    obtain⟨i0,hI,hz0,hz1,hz2⟩:=info_parts iH
    have hcs:∀ j u,(mQ h d dm)[j]?=some u→(w5.alloc (.cells (ay h d dm) 80)).cell? ((⟨w5.heap.size,0,none⟩:Addr).add j)=some u:=fun j u hu=>by
     have e:(Addr.add ⟨w5.heap.size,0,none⟩ j)=⟨w5.heap.size,j,none⟩:=by unfold Addr.add;simp;omega
     rw[e,ae _ _ j _ _ _ k6]
     simpa [mQ] using hu
    have oV:(w5.alloc (.cells (ay h d dm) 80)).ownsRow 0 80 3 (.slice av i cv) i (gE i G.h G.d G.dm):=aX (l:=[]) HRC.out (Off.of_below b6) (by simp)
    obtain⟨v7,w7,hr7,o7,g7,_,p7⟩:=run_append_own_at (P:=prog) (w5.alloc (.cells (ay h d dm) 80)) 0 72 72 80 i0 (.agg aK) 3 24 underlying72 hI hz0 hz1 hz2 rfl (by decide) (.slice av i cv) i (gE i G.h G.d G.dm) oV ⟨w5.heap.size,0,none⟩ 1 1 (mQ h d dm) rfl hcs (by intro u hu;simp[mQ]at hu;rcases hu with rfl | rfl | rfl <;> rfl) (by unfold maxLen;omega) (by omega) (Nat.zero_le _)
    obtain⟨aw,cw,rfl⟩:=bK o7
    have ff:∀ q j v,(Value.slice av i cv).ownBlock≠some q→(w5.alloc (.cells (ay h d dm) 80)).cell? ⟨q,j,none⟩=some v→w7.cell? ⟨q,j,none⟩=some v:=fun q j v hq hc=>(World.cell?_of_block (w:=(w5.alloc (.cells (ay h d dm) 80))) (a:=⟨q,j,none⟩) (g7.block q (World.block_lt_of_cell? (w5.alloc (.cells (ay h d dm) 80)) ⟨q,j,none⟩ hc) (fun e=>hq e.symm))).trans hc
    obtain⟨nx,m0,m1,nX⟩:=HNE.out
    have HS7:w7.cell? ⟨x,0,none⟩=some (Value.slice (af q0 o0) n v0)∧w7.cell? ⟨x,1,none⟩=some (Value.slice (af q1 o1) n v1)∧w7.cell? ⟨x,2,none⟩=some (Value.int .u32 (mx:Nat))∧w7.cell? ⟨q0,o0+i*5,none⟩=some (Value.int .u32 (P.c:Nat))∧w7.cell? ⟨q0,o0+i*5+1,none⟩=some (Value.int .i64 (P.o:Nat))∧w7.cell? ⟨q0,o0+i*5+2,none⟩=some (Value.int .i64 (P.i:Nat))∧w7.cell? ⟨q0,o0+i*5+3,none⟩=some (Value.int .i64 (P.t:Nat))∧w7.cell? ⟨q0,o0+i*5+4,none⟩=some (Value.int .u32 (P.n:Nat))∧w7.cell? ⟨q1,o1+i*5,none⟩=some (Value.int .u32 (Q.c:Nat))∧w7.cell? ⟨q1,o1+i*5+1,none⟩=some (Value.int .i64 (Q.o:Nat))∧w7.cell? ⟨q1,o1+i*5+2,none⟩=some (Value.int .i64 (Q.i:Nat))∧w7.cell? ⟨q1,o1+i*5+3,none⟩=some (Value.int .i64 (Q.t:Nat))∧w7.cell? ⟨q1,o1+i*5+4,none⟩=some (Value.int .u32 (Q.n:Nat)):=by
     obtain⟨u0,u1,u2,u3,u4,u5,u6,u7,u8,u9,u10,u11,u12⟩:=HS6
     exact⟨ff _ _ _ nx u0,ff _ _ _ nx u1,ff _ _ _ nx u2,ff _ _ _ m0 u3,ff _ _ _ m0 u4,ff _ _ _ m0 u5,ff _ _ _ m0 u6,ff _ _ _ m0 u7,ff _ _ _ m1 u8,ff _ _ _ m1 u9,ff _ _ _ m1 u10,ff _ _ _ m1 u11,ff _ _ _ m1 u12⟩
    refine bP (i:=19) (Value.slice aw (i+1) cw) w7 (by kernel_rfl) rfl (by kernel_rfl) (jt (s:=.tmp 27) (x:=.tmp 41) rfl rfl (by kernel_rfl) (by kernel_rfl) hr7) HS7 ?_
    refine an (i:=20) (v:=ac X 0) ?_
    refine an (i:=21) (v:=ac X 3) ?_
    have kX6:=(b6.block X (Array.getElem?_eq_some_iff.1 HXb.out).1).trans HXb.out
    have kX7:=(g7.block X (Array.getElem?_eq_some_iff.1 kX6).1 (fun e=>nX e.symm)).trans kX6
    have y3:=ae w7 X 3 _ _ _ kX7
    have yz:=frozen_of_row w7 X 3 _ _ kX7
    have o8:Off [X] w7 (w7.setCell ⟨X,3,none⟩ (.slice aw (i+1) cw)):=Off.setCell X 3 w7 _
    have k8:(w7.setCell ⟨X,3,none⟩ (.slice aw (i+1) cw)).heap[X]?=some (.cells #[.slice a0 n c0,.slice a1 n c1,.int .u32 (mx:Nat),.slice aw (i+1) cw,ac b 0,.int .i64 0,.slice none 0 0] 75 (0,0)):=Joins.block_setCell kX7 _
    obtain⟨w8,hw8⟩:∃ z,w7.setCell ⟨X,3,none⟩ (.slice aw (i+1) cw)=z:=⟨_,rfl⟩
    rw[hw8]at o8 k8
    have hS8:w8.cell? ⟨x,0,none⟩=some (Value.slice (af q0 o0) n v0)∧w8.cell? ⟨x,1,none⟩=some (Value.slice (af q1 o1) n v1)∧w8.cell? ⟨x,2,none⟩=some (Value.int .u32 (mx:Nat))∧w8.cell? ⟨q0,o0+i*5,none⟩=some (Value.int .u32 (P.c:Nat))∧w8.cell? ⟨q0,o0+i*5+1,none⟩=some (Value.int .i64 (P.o:Nat))∧w8.cell? ⟨q0,o0+i*5+2,none⟩=some (Value.int .i64 (P.i:Nat))∧w8.cell? ⟨q0,o0+i*5+3,none⟩=some (Value.int .i64 (P.t:Nat))∧w8.cell? ⟨q0,o0+i*5+4,none⟩=some (Value.int .u32 (P.n:Nat))∧w8.cell? ⟨q1,o1+i*5,none⟩=some (Value.int .u32 (Q.c:Nat))∧w8.cell? ⟨q1,o1+i*5+1,none⟩=some (Value.int .i64 (Q.o:Nat))∧w8.cell? ⟨q1,o1+i*5+2,none⟩=some (Value.int .i64 (Q.i:Nat))∧w8.cell? ⟨q1,o1+i*5+3,none⟩=some (Value.int .i64 (Q.t:Nat))∧w8.cell? ⟨q1,o1+i*5+4,none⟩=some (Value.int .u32 (Q.n:Nat)):=by
     obtain⟨u0,u1,u2,u3,u4,u5,u6,u7,u8,u9,u10,u11,u12⟩:=HS7
     obtain⟨z1,z2,z3⟩:=HXX.out
     have gg:∀ q j v,q≠X→w7.cell? ⟨q,j,none⟩=some v→w8.cell? ⟨q,j,none⟩=some v:=fun q j v hq hc=>(World.cell?_of_block (w:=w7) (a:=⟨q,j,none⟩) (o8.block q (World.block_lt_of_cell? w7 ⟨q,j,none⟩ hc) (by simpa using hq))).trans hc
     exact⟨gg _ _ _ z1 u0,gg _ _ _ z1 u1,gg _ _ _ z1 u2,gg _ _ _ z2 u3,gg _ _ _ z2 u4,gg _ _ _ z2 u5,gg _ _ _ z2 u6,gg _ _ _ z2 u7,gg _ _ _ z3 u8,gg _ _ _ z3 u9,gg _ _ _ z3 u10,gg _ _ _ z3 u11,gg _ _ _ z3 u12⟩
    refine cj (i:=22) w8 (by kernel_rfl) rfl (by kernel_rfl) (by rw[← hw8];go_simp) hS8 ?_
    refine wpAnyH_done (by kernel_rfl) ?_ _
    have HF:Hid (zy w w8 X b x n mx PH PD (.slice a0 n c0) (.slice a1 n c1) (.cells #[.slice (af q0 o0) n v0,.slice (af q1 o1) n v1,.int .u32 (mx:Nat)] 30 (0,0)) (i+1)):=jP HNG.out HGi.out b5 H5.out HPQ.out.1 HPQ.out.2 (aC (Below.refl _ w5) _) o7 (by rw[HEv.out];exact g7) (by rw[HEv.out];exact p7) o8 k8
    clear o8 k8 b5 b6 o7 g7 p7 s6 kX6 kX7 y3 yz hw8 HS7 HS6 HS5 HT0 k6 hcs hr7 hS8 H5 ff oV nx m0 m1 nX
    go_wp2_with fail
    go_roundw
    case rel=>exact⟨i+1,by omega,by first | rfl | go_num,HF⟩
    case measure=>simp only[ik];omega
   ·have b6:=aC b5 (.cells (ay h d dm) 80)
    have k6:=aA w5 (.cells (ay h d dm) 80)
    have s6:=iQ w5 (.cells (ay h d dm) 80)
    refine dP (Value.slice (af w5.heap.size 0) 1 1) (w5.alloc (.cells (ay h d dm) 80)) rfl (by kernel_rfl) (by go_simp) ⟨HSS.out _ b6,?_⟩
    have x3:((w5.alloc (.cells (ay h d dm) 80))).cell? ⟨X,3,none⟩=some (Value.slice av i cv):=HX0.out _ (b6)
    refine tO (i:=4) (Value.slice av i cv) (by kernel_rfl) rfl (by kernel_rfl) (by go_simp) (HSS.out _ (b6)) ?_
    have HS6:=HSS.out _ b6
    obtain⟨i0,hI,hz0,hz1,hz2⟩:=info_parts iH
    have hcs:∀ j u,(mQ h d dm)[j]?=some u→(w5.alloc (.cells (ay h d dm) 80)).cell? ((⟨w5.heap.size,0,none⟩:Addr).add j)=some u:=fun j u hu=>by
     have e:(Addr.add ⟨w5.heap.size,0,none⟩ j)=⟨w5.heap.size,j,none⟩:=by unfold Addr.add;simp;omega
     rw[e,ae _ _ j _ _ _ k6]
     simpa [mQ] using hu
    have oV:(w5.alloc (.cells (ay h d dm) 80)).ownsRow 0 80 3 (.slice av i cv) i (gE i G.h G.d G.dm):=aX (l:=[]) HRC.out (Off.of_below b6) (by simp)
    obtain⟨v7,w7,hr7,o7,g7,_,p7⟩:=run_append_own_at (P:=prog) (w5.alloc (.cells (ay h d dm) 80)) 0 72 72 80 i0 (.agg aK) 3 24 underlying72 hI hz0 hz1 hz2 rfl (by decide) (.slice av i cv) i (gE i G.h G.d G.dm) oV ⟨w5.heap.size,0,none⟩ 1 1 (mQ h d dm) rfl hcs (by intro u hu;simp[mQ]at hu;rcases hu with rfl | rfl | rfl <;> rfl) (by unfold maxLen;omega) (by omega) (Nat.zero_le _)
    obtain⟨aw,cw,rfl⟩:=bK o7
    have ff:∀ q j v,(Value.slice av i cv).ownBlock≠some q→(w5.alloc (.cells (ay h d dm) 80)).cell? ⟨q,j,none⟩=some v→w7.cell? ⟨q,j,none⟩=some v:=fun q j v hq hc=>(World.cell?_of_block (w:=(w5.alloc (.cells (ay h d dm) 80))) (a:=⟨q,j,none⟩) (g7.block q (World.block_lt_of_cell? (w5.alloc (.cells (ay h d dm) 80)) ⟨q,j,none⟩ hc) (fun e=>hq e.symm))).trans hc
    obtain⟨nx,m0,m1,nX⟩:=HNE.out
    have HS7:w7.cell? ⟨x,0,none⟩=some (Value.slice (af q0 o0) n v0)∧w7.cell? ⟨x,1,none⟩=some (Value.slice (af q1 o1) n v1)∧w7.cell? ⟨x,2,none⟩=some (Value.int .u32 (mx:Nat))∧w7.cell? ⟨q0,o0+i*5,none⟩=some (Value.int .u32 (P.c:Nat))∧w7.cell? ⟨q0,o0+i*5+1,none⟩=some (Value.int .i64 (P.o:Nat))∧w7.cell? ⟨q0,o0+i*5+2,none⟩=some (Value.int .i64 (P.i:Nat))∧w7.cell? ⟨q0,o0+i*5+3,none⟩=some (Value.int .i64 (P.t:Nat))∧w7.cell? ⟨q0,o0+i*5+4,none⟩=some (Value.int .u32 (P.n:Nat))∧w7.cell? ⟨q1,o1+i*5,none⟩=some (Value.int .u32 (Q.c:Nat))∧w7.cell? ⟨q1,o1+i*5+1,none⟩=some (Value.int .i64 (Q.o:Nat))∧w7.cell? ⟨q1,o1+i*5+2,none⟩=some (Value.int .i64 (Q.i:Nat))∧w7.cell? ⟨q1,o1+i*5+3,none⟩=some (Value.int .i64 (Q.t:Nat))∧w7.cell? ⟨q1,o1+i*5+4,none⟩=some (Value.int .u32 (Q.n:Nat)):=by
     obtain⟨u0,u1,u2,u3,u4,u5,u6,u7,u8,u9,u10,u11,u12⟩:=HS6
     exact⟨ff _ _ _ nx u0,ff _ _ _ nx u1,ff _ _ _ nx u2,ff _ _ _ m0 u3,ff _ _ _ m0 u4,ff _ _ _ m0 u5,ff _ _ _ m0 u6,ff _ _ _ m0 u7,ff _ _ _ m1 u8,ff _ _ _ m1 u9,ff _ _ _ m1 u10,ff _ _ _ m1 u11,ff _ _ _ m1 u12⟩
    refine bP (i:=19) (Value.slice aw (i+1) cw) w7 (by kernel_rfl) rfl (by kernel_rfl) (jt (s:=.tmp 27) (x:=.tmp 41) rfl rfl (by kernel_rfl) (by kernel_rfl) hr7) HS7 ?_
    refine an (i:=20) (v:=ac X 0) ?_
    refine an (i:=21) (v:=ac X 3) ?_
    have kX6:=(b6.block X (Array.getElem?_eq_some_iff.1 HXb.out).1).trans HXb.out
    have kX7:=(g7.block X (Array.getElem?_eq_some_iff.1 kX6).1 (fun e=>nX e.symm)).trans kX6
    have y3:=ae w7 X 3 _ _ _ kX7
    have yz:=frozen_of_row w7 X 3 _ _ kX7
    have o8:Off [X] w7 (w7.setCell ⟨X,3,none⟩ (.slice aw (i+1) cw)):=Off.setCell X 3 w7 _
    have k8:(w7.setCell ⟨X,3,none⟩ (.slice aw (i+1) cw)).heap[X]?=some (.cells #[.slice a0 n c0,.slice a1 n c1,.int .u32 (mx:Nat),.slice aw (i+1) cw,ac b 0,.int .i64 0,.slice none 0 0] 75 (0,0)):=Joins.block_setCell kX7 _
    obtain⟨w8,hw8⟩:∃ z,w7.setCell ⟨X,3,none⟩ (.slice aw (i+1) cw)=z:=⟨_,rfl⟩
    rw[hw8]at o8 k8
    have hS8:w8.cell? ⟨x,0,none⟩=some (Value.slice (af q0 o0) n v0)∧w8.cell? ⟨x,1,none⟩=some (Value.slice (af q1 o1) n v1)∧w8.cell? ⟨x,2,none⟩=some (Value.int .u32 (mx:Nat))∧w8.cell? ⟨q0,o0+i*5,none⟩=some (Value.int .u32 (P.c:Nat))∧w8.cell? ⟨q0,o0+i*5+1,none⟩=some (Value.int .i64 (P.o:Nat))∧w8.cell? ⟨q0,o0+i*5+2,none⟩=some (Value.int .i64 (P.i:Nat))∧w8.cell? ⟨q0,o0+i*5+3,none⟩=some (Value.int .i64 (P.t:Nat))∧w8.cell? ⟨q0,o0+i*5+4,none⟩=some (Value.int .u32 (P.n:Nat))∧w8.cell? ⟨q1,o1+i*5,none⟩=some (Value.int .u32 (Q.c:Nat))∧w8.cell? ⟨q1,o1+i*5+1,none⟩=some (Value.int .i64 (Q.o:Nat))∧w8.cell? ⟨q1,o1+i*5+2,none⟩=some (Value.int .i64 (Q.i:Nat))∧w8.cell? ⟨q1,o1+i*5+3,none⟩=some (Value.int .i64 (Q.t:Nat))∧w8.cell? ⟨q1,o1+i*5+4,none⟩=some (Value.int .u32 (Q.n:Nat)):=by
     obtain⟨u0,u1,u2,u3,u4,u5,u6,u7,u8,u9,u10,u11,u12⟩:=HS7
     obtain⟨z1,z2,z3⟩:=HXX.out
     have gg:∀ q j v,q≠X→w7.cell? ⟨q,j,none⟩=some v→w8.cell? ⟨q,j,none⟩=some v:=fun q j v hq hc=>(World.cell?_of_block (w:=w7) (a:=⟨q,j,none⟩) (o8.block q (World.block_lt_of_cell? w7 ⟨q,j,none⟩ hc) (by simpa using hq))).trans hc
     exact⟨gg _ _ _ z1 u0,gg _ _ _ z1 u1,gg _ _ _ z1 u2,gg _ _ _ z2 u3,gg _ _ _ z2 u4,gg _ _ _ z2 u5,gg _ _ _ z2 u6,gg _ _ _ z2 u7,gg _ _ _ z3 u8,gg _ _ _ z3 u9,gg _ _ _ z3 u10,gg _ _ _ z3 u11,gg _ _ _ z3 u12⟩
    refine cj (i:=22) w8 (by kernel_rfl) rfl (by kernel_rfl) (by rw[← hw8];go_simp) hS8 ?_
    refine wpAnyH_done (by kernel_rfl) ?_ _
    have HF:Hid (zy w w8 X b x n mx PH PD (.slice a0 n c0) (.slice a1 n c1) (.cells #[.slice (af q0 o0) n v0,.slice (af q1 o1) n v1,.int .u32 (mx:Nat)] 30 (0,0)) (i+1)):=jP HNG.out HGi.out b5 H5.out HPQ.out.1 HPQ.out.2 (aC (Below.refl _ w5) _) o7 (by rw[HEv.out];exact g7) (by rw[HEv.out];exact p7) o8 k8
    clear o8 k8 b5 b6 o7 g7 p7 s6 kX6 kX7 y3 yz hw8 HS7 HS6 HS5 HT0 k6 hcs hr7 hS8 H5 ff oV nx m0 m1 nX
    go_wp2_with fail
    go_roundw
    case rel=>exact⟨i+1,by omega,by first | rfl | go_num,HF⟩
    case measure=>simp only[ik];omega
open Go.RowKit Go.Maps Go.Sort
def oj (i:Nat):Pm:=⟨7+i,2,1,10+i,9⟩
def gv (i:Nat):Pq:=(oj i).q
theorem oc {w:World} {B e sz n c:Nat} {a:Option Addr} {xs:List Value} (h:w.ownsRow B e sz (.slice a n c) n xs) (h0:n≠0):n≤c:=by
 rcases h.2 with ⟨_,hn⟩ | ⟨g,cap,cur,e1,hg,hgg,h1,rest⟩
 ·exact absurd hn h0
 ·simp only[Value.slice.injEq]at e1
  obtain⟨_,_,rfl⟩:=e1
  exact h1
theorem gf (p:Pq):∀ u ∈ p.cs,u.oneCell'=true:=by
 intro u hu
 simp[Pq.cs]at hu
 rcases hu with rfl | rfl | rfl | rfl | rfl <;> rfl
theorem eT {W:World} {g:Nat} {p:Pq} (h:W.heap[g]?=some (.cells p.cs.toArray 83 (0,0))):∀ j u,p.cs[j]?=some u→W.cell? ((⟨g,0,none⟩:Addr).add j)=some u:=fun j u hu=>by
 have e:(Addr.add ⟨g,0,none⟩ j)=⟨g,j,none⟩:=by unfold Addr.add;simp;omega
 rw[e,ae W g j _ _ _ h]
 simpa using hu
theorem eR {w:World} {B e size n:Nat} {v:Value} {xs:List Value} (h:w.ownsRow B e size v (n+1) xs):∃ g cap,v=.slice (af g 0) (n+1) cap∧B≤g:=by
 rcases h.2 with ⟨_,hn⟩ | ⟨g,cap,cur,rfl,hg,hgg,rest⟩
 ·omega
 ·exact⟨g,cap,rfl,hg⟩
theorem bH {w w':World} {B e sz n:Nat} {v:Value} {xs:List Value} (h:w.ownsRow B e sz v n xs) (b:Below w.heap.size w w'):w'.ownsRow B e sz v n xs:=by
 refine⟨h.1,?_⟩
 rcases h.2 with hn | ⟨g,cap,cur,rfl,hg,hgg,rest⟩
 ·exact .inl hn
 ·exact .inr ⟨g,cap,cur,rfl,hg,(b.block g (Array.getElem?_eq_some_iff.1 hgg).1).trans hgg,rest⟩
theorem bk {w w':World} {B e s n:Nat} {v:Value} {xs:List Value} (h:w.ownsRow B e s v n xs) (hk:∀ g,v.ownBlock=some g→w'.heap[g]?=w.heap[g]?):w'.ownsRow B e s v n xs:=by
 obtain⟨h0,h1 | ⟨g,cap,cur,rfl,hg,hgg,rest⟩⟩:=h
 ·exact⟨h0,.inl h1⟩
 ·exact⟨h0,.inr ⟨g,cap,cur,rfl,hg,(hk g rfl).trans hgg,rest⟩⟩
structure Sp (w wr:World) (i:Nat) (va:Option Addr) (vc:Nat) (ua:Option Addr) (uc:Nat):Prop where
 bel:Below w.heap.size w wr
 rb:wr.heap[w.heap.size]?=some (.cells #[.slice none 0 0,.slice none 0 0,.int .u32 0] 30 (0,0))
 xb:wr.heap[w.heap.size+1]?=some (.cells #[.slice va i vc,.slice ua i uc,.int .u32 50] 30 (0,0))
 ov:wr.ownsRow (w.heap.size+2) 83 5 (.slice va i vc) i (eE i gv)
 ou:wr.ownsRow (w.heap.size+2) 83 5 (.slice ua i uc) i (eE i gv)
 dis:∀ g,(Value.slice va i vc).ownBlock=some g→(Value.slice ua i uc).ownBlock≠some g
def eA (j:Nat):Nat:=4*j
def eB (j:Nat):Nat:=4*j+2
def yD (A B:Pw):Nat→Thing:=fun q=>if q % 4=0 then A.t (q / 4) else if q % 4=2 then B.t (q / 4) else di
def ja (m:Mv) (W:Wr) (k:Nat) (a:Option Addr) (c:Nat) (ah:Option Addr) (ch:Nat) (ad:Option Addr) (cd:Nat):Array Value:=#[Value.int .i64 m.k,Value.int .i64 m.c,Value.int .i64 m.s,Value.int .i64 m.f,Value.int .i64 m.a,Value.int .u32 (m.w:Nat),Value.int .i64 m.n,Value.bool m.h,Value.slice a m.l c,Value.int .i64 W.e,Value.int .i64 W.i,Value.int .i64 ((W.S.hs k).st:Nat),Value.int .u32 ((W.S.hs k).ss:Nat),Value.int .u32 ((W.S.hs k).nm:Nat),Value.int .u32 ((W.S.hs k).sn:Nat),Value.int .i64 ((W.S.hs k).dc:Nat),Value.int .i64 (W.S.hs k).v.lat,Value.bool (aq (W.S.hs k).v),Value.bool (aB (W.S.hs k).v),Value.slice ah (W.S.PH k).i ch,Value.int .i64 ((W.S.ds k).st:Nat),Value.int .u32 ((W.S.ds k).ss:Nat),Value.int .u32 ((W.S.ds k).nm:Nat),Value.int .u32 ((W.S.ds k).sn:Nat),Value.int .i64 ((W.S.ds k).dc:Nat),Value.int .i64 (W.S.ds k).v.lat,Value.bool (aq (W.S.ds k).v),Value.bool (aB (W.S.ds k).v),Value.slice ad (W.S.PD k).o cd]
theorem lD (m:Mv) (W:Wr) (k:Nat) (a:Option Addr) (c:Nat) (ah:Option Addr) (ch:Nat) (ad:Option Addr) (cd:Nat):(ja m W k a c ah ch ad cd).size=29:=rfl
theorem oG (m:Mv) (W:Wr) (k:Nat) (a:Option Addr) (c:Nat) (ah:Option Addr) (ch:Nat) (ad:Option Addr) (cd:Nat):(ja m W k a c ah ch ad cd).all (·.oneCell')=true:=by kernel_rfl
def D2 (w1:World) (xa xb:Nat) (w:World) (SA SB:Ws) (z:Nat→Thing):Prop:=∃ t A B,Al w1 w t∧Wat eA t A∧Wat eB t B∧A.S=SA∧B.S=SB∧A.x=xa∧B.x=xb∧∀ q,t (2*q+1)=z q
section
variable {w1 w w':World} {xa xb:Nat} {SA SB:Ws} {z:Nat→Thing}
theorem D2.below (h:D2 w1 xa xb w SA SB z) (b:Below w.heap.size w w'):D2 w1 xa xb w' SA SB z:=by
 obtain⟨t,A,B,h1,h2⟩:=h
 exact⟨t,A,B,h1.below b,h2⟩
theorem D2.bel (h:D2 w1 xa xb w SA SB z):Below w1.heap.size w1 w:=by
 obtain⟨t,A,B,h1,h2⟩:=h
 exact h1.bel
theorem D2.kA (h:D2 w1 xa xb w SA SB z):SA.Kn:=by
 obtain⟨t,A,B,h1,h2,h3,h4,h5,h6,h7,h8⟩:=h
 rw[← h4]
 exact (PW.n ⟨h1,h2⟩).kn
theorem D2.kB (h:D2 w1 xa xb w SA SB z):SB.Kn:=by
 obtain⟨t,A,B,h1,h2,h3,h4,h5,h6,h7,h8⟩:=h
 rw[← h5]
 exact (PW.n ⟨h1,h3⟩).kn
theorem D2.lt (h:D2 w1 xa xb w SA SB z):xa<w.heap.size∧xb<w.heap.size:=by
 obtain⟨t,A,B,h1,h2,h3,h4,h5,h6,h7,h8⟩:=h
 subst h6 h7
 exact⟨(h2.wb h1).lt _ (by simp[Wc.U,Pw.core]),(h3.wb h1).lt _ (by simp[Wc.U,Pw.core])⟩
theorem D2.get (h:D2 w1 xa xb w SA SB z) {q:Nat} {x:Thing} (e:z q=x):x.T w:=by
 obtain⟨t,A,B,h1,h2,h3,h4,h5,h6,h7,h8⟩:=h
 exact h1.get ((h8 q).trans e)
theorem ji {t z:Nat→Thing} (h:∀ q,t (2*q+1)=z q) (i:Nat) (x:Thing):∀ q,aF t (2*i+1) x (2*q+1)=aF z i x q:=fun q=>by
 by_cases e:q=i
 ·subst e
  rw[al,al]
 ·rw[ag _ _ (by omega),ag _ _ e]
  exact h q
theorem vt {t:Nat→Thing} {L:Pw} (h:Wat eA t L) (i:Nat) (x:Thing):Wat eA (aF t (2*i+1) x) L:=⟨h.1,fun j=>by rw[ag _ _ (by unfold eA;omega)];exact h.2 j⟩
theorem vu {t:Nat→Thing} {L:Pw} (h:Wat eB t L) (i:Nat) (x:Thing):Wat eB (aF t (2*i+1) x) L:=⟨h.1,fun j=>by rw[ag _ _ (by unfold eB;omega)];exact h.2 j⟩
theorem D2.step (h:D2 w1 xa xb w SA SB z) (q:Nat) (x:Thing) {U:List Nat} (hU:(z q).U=U) (g:Gr U w x.U w') (hx:x.T w') (hl:∀ k,k ∈ x.U→k<w'.heap.size):D2 w1 xa xb w' SA SB (aF z q x):=by
 obtain⟨t,A,B,h1,h2,h3,h4,h5,h6,h7,h8⟩:=h
 exact⟨_,A,B,h1.step (2*q+1) x (by rw[h8];exact hU) g hx hl,vt h2 q x,vu h3 q x,h4,h5,h6,h7,ji h8 q x⟩
theorem D2.put (h:D2 w1 xa xb w SA SB z) (b:Below w.heap.size w w') (q:Nat) (x:Thing) (hx:x.T w') (hl:∀ k,k ∈ x.U→w.heap.size≤k∧k<w'.heap.size):D2 w1 xa xb w' SA SB (aF z q x):=
 h.step q x rfl ⟨Off.of_below b,fun k hk=>.inr (hl k hk).1⟩ hx (fun k hk=>(hl k hk).2)
theorem D2.same (h:D2 w1 xa xb w SA SB z) {z':Nat→Thing} (e:∀ q,z' q=z q):D2 w1 xa xb w SA SB z':=by
 have:z'=z:=funext e
 rw[this]
 exact h
theorem D2.upto (h:D2 w1 xa xb w SA SB z) (n:Nat):D2 w1 xa xb w SA SB (fun q=>if q<n then z q else di):=by
 obtain⟨t,A,B,h1,h2,h3,h4,h5,h6,h7,h8⟩:=h
 have e0:∀ i,i % 2=0→(if i % 2=0∨i<2*n then t i else di)=t i:=fun i hi=>if_pos (.inl hi)
 refine⟨fun i=>if i % 2=0∨i<2*n then t i else di,A,B,⟨h1.bel,fun i=>?_,fun i k hk=>?_,fun i j hij k hk hk'=>?_⟩,⟨h2.1,fun j=>(e0 _ (by unfold eA;omega)).trans (h2.2 j)⟩,⟨h3.1,fun j=>(e0 _ (by unfold eB;omega)).trans (h3.2 j)⟩,h4,h5,h6,h7,fun q=>?_⟩
 ·try dsimp only
  split
  ·exact h1.ok i
  ·trivial
 ·try dsimp only at hk
  split at hk
  ·exact h1.lt i k hk
  ·simp[di]at hk
 ·try dsimp only at hk hk'
  split at hk
  ·split at hk'
   ·exact h1.dis i j hij k hk hk'
   ·simp[di]at hk'
  ·simp[di]at hk
 ·try dsimp only
  by_cases e:q<n
  ·rw[if_pos (.inr (by omega)),if_pos e]
   exact h8 q
  ·rw[if_neg (by omega),if_neg e]
end
theorem D2.join {w1 w3 w4:World} {A B:Pw} (ha:PW ev w1 w3 (mR A) A) (hb:PW ev w3 w4 (mR B) B):D2 w1 A.x B.x w4 A.S B.S (fun _=>di):=by
 have ha4:=ha.1.below hb.1.bel
 have ga:∀ j,mR A (2*j)=A.t j:=fun j=>ha.2.2 j
 have gb:∀ j,mR B (2*j)=B.t j:=fun j=>hb.2.2 j
 have g0:∀ q,q % 4=0→yD A B q=A.t (q / 4):=fun q h=>by unfold yD;rw[if_pos h]
 have g2:∀ q,q % 4=2→yD A B q=B.t (q / 4):=fun q h=>by unfold yD;rw[if_neg (by omega),if_pos h]
 have g1:∀ q,q % 4≠0→q % 4≠2→yD A B q=di:=fun q h h'=>by unfold yD;rw[if_neg h,if_neg h']
 have la:∀ j k,k ∈ (A.t j).U→w1.heap.size≤k∧k<w3.heap.size:=fun j k hk=>ha.1.lt (2*j) k (by rw[ga];exact hk)
 have lb:∀ j k,k ∈ (B.t j).U→w3.heap.size≤k∧k<w4.heap.size:=fun j k hk=>hb.1.lt (2*j) k (by rw[gb];exact hk)
 have z13:=ha.1.size
 have z34:=hb.1.size
 refine⟨yD A B,A,B,⟨ha4.bel,fun i=>?_,fun i k hk=>?_,fun i j hij k hk hk'=>?_⟩,⟨fun i j h=>by unfold eA at h;omega,fun j=>?_⟩,⟨fun i j h=>by unfold eB at h;omega,fun j=>?_⟩,rfl,rfl,rfl,rfl,fun q=>?_⟩
 ·by_cases h:i % 4=0
  ·rw[g0 i h,← ga];exact ha4.ok _
  ·by_cases h':i % 4=2
   ·rw[g2 i h',← gb];exact hb.1.ok _
   ·rw[g1 i h h'];trivial
 ·by_cases h:i % 4=0
  ·rw[g0 i h]at hk;have:=la _ k hk;omega
  ·by_cases h':i % 4=2
   ·rw[g2 i h']at hk;have:=lb _ k hk;omega
   ·rw[g1 i h h']at hk;simp[di]at hk
 ·by_cases h:i % 4=0
  ·rw[g0 i h]at hk
   by_cases q:j % 4=0
   ·rw[g0 j q]at hk'
    exact ha.1.dis (2 * (i / 4)) (2 * (j / 4)) (by omega) k (by rw[ga];exact hk) (by rw[ga];exact hk')
   ·by_cases q':j % 4=2
    ·rw[g2 j q']at hk';have:=la _ k hk;have:=lb _ k hk';omega
    ·rw[g1 j q q']at hk';simp[di]at hk'
  ·by_cases h':i % 4=2
   ·rw[g2 i h']at hk
    by_cases q:j % 4=0
    ·rw[g0 j q]at hk';have:=la _ k hk';have:=lb _ k hk;omega
    ·by_cases q':j % 4=2
     ·rw[g2 j q']at hk'
      exact hb.1.dis (2 * (i / 4)) (2 * (j / 4)) (by omega) k (by rw[gb];exact hk) (by rw[gb];exact hk')
     ·rw[g1 j q q']at hk';simp[di]at hk'
   ·rw[g1 i h h']at hk;simp[di]at hk
 ·rw[g0 _ (by unfold eA;omega)];unfold eA;rw[show 4*j / 4=j by omega]
 ·rw[g2 _ (by unfold eB;omega)];unfold eB;rw[show (4*j+2) / 4=j by omega]
 ·exact g1 _ (by omega) (by omega)
def oI:Array Value:=cP
def ri (z:Nat→Thing) (i:Nat) (m:Mv) (S:Ws) (k:Nat) (a:Option Addr) (c:Nat) (ah:Option Addr) (ch:Nat) (ad:Option Addr) (cd:Nat):Nat→Thing:=aF (aF (aF z (i+1) (dF a m.l c m.b)) (i+2) (dF ah (S.PH k).i ch (cO (S.hs k).v))) (i+3) (dF ad (S.PD k).o cd (cO (S.ds k).v))
theorem ui {t z:Nat→Thing} (h:∀ q,t (2*q+1)=z q) (i:Nat) (m:Mv) (S:Ws) (k:Nat) (a:Option Addr) (c:Nat) (ah:Option Addr) (ch:Nat) (ad:Option Addr) (cd:Nat):∀ q,vL t i m S k a c ah ch ad cd (2*q+1)=ri z i m S k a c ah ch ad cd q:=
 ji (ji (ji h _ _) _ _) _ _
theorem rh {t:Nat→Thing} {i:Nat} {m:Mv} {S:Ws} {k:Nat} {a:Option Addr} {c:Nat} {ah:Option Addr} {ch:Nat} {ad:Option Addr} {cd q:Nat} (hq:q % 2=0):vL t i m S k a c ah ch ad cd q=t q:=by
 unfold vL
 rw[ag _ _ (by omega),ag _ _ (by omega),ag _ _ (by omega)]
theorem vZ {w1 w:World} {xa xb:Nat} {SA SB:Ws} {z:Nat→Thing} (i:Nat) (m:Mv) (d:Option Addr) (c:Nat) (h:D2 w1 xa xb w SA SB z) (F:∀ q,i≤q→z q=di) (I:SA.In) (ok:m.Ok) (hn:0<SA.n) (R:Row8 w d m.l c m.b) (hd:∀ y,d=some y→0<m.l→y.block≠xa) (hl:m.l≤140737488351232):Calls prog 11 #[ac xa 0,.agg (ak m m.c d c)] w fun r w'=>∃ (A:Array Value) (E:Int),r=.returned (.tuple #[.agg A,.int .i64 E])∧A.size=29∧A.all (·.oneCell')=true∧Hid (E=SA.bad m∧((SA.bad m≠0∧A=oI∧D2 w1 xa xb w' SA SB z)∨(SA.bad m=0∧∃ a c ah ch ad cd,A=ja m (SA.play m) m.c.toNat a c ah ch ad cd∧D2 w1 xa xb w' (SA.play m).S SB (ri z i m (SA.play m).S m.c.toNat a c ah ch ad cd)))):=by
 obtain⟨t,La,Lb,h1,h2,h3,h4,h5,h6,h7,h8⟩:=h
 subst h4 h6 h7
 have hP:=ra eA w1 w t La i m d c ⟨h1,h2⟩ (fun q hq=>⟨fun j=>by unfold eA;omega,(h8 q).trans (F q hq)⟩) I ok hn R hd hl
 refine hP.mono ?_
 rintro r w' (⟨hb,rfl,H⟩ | ⟨hb,a',c',ah,ch,ad,cd,rfl,H⟩)
 ·have q:=H.out.1
  exact⟨_,_,rfl,rfl,by kernel_rfl,rfl,.inl ⟨hb,rfl,t,La,Lb,q.1,q.2,h3,rfl,h5,rfl,rfl,h8⟩⟩
 ·refine⟨ja m (La.S.play m) m.c.toNat a' c' ah ch ad cd,0,rfl,lD ..,oG ..,hb.symm,.inr ⟨hb,a',c',ah,ch,ad,cd,rfl,?_⟩⟩
  obtain⟨t1,L1,k1,k2,k3,k4⟩:=H.out
  refine⟨t1,L1,Lb,k1.1,k1.2,⟨h3.1,fun j=>?_⟩,k2,h5,k3.x,rfl,fun q=>?_⟩
  ·rw[show eB j=4*j+2 from rfl,k4 _ (fun q=>by unfold eA;omega),rh (by omega)]
   exact h3.2 j
  ·rw[k4 _ (fun j=>by unfold eA;omega)]
   exact ui h8 i m _ _ a' c' ah ch ad cd q
theorem qJ {w1 w:World} {xa xb:Nat} {SA SB:Ws} {z:Nat→Thing} (i:Nat) (m:Mv) (d:Option Addr) (c:Nat) (h:D2 w1 xa xb w SA SB z) (F:∀ q,i≤q→z q=di) (I:SB.In) (ok:m.Ok) (hn:0<SB.n) (R:Row8 w d m.l c m.b) (hd:∀ y,d=some y→0<m.l→y.block≠xb) (hl:m.l≤140737488351232):Calls prog 11 #[ac xb 0,.agg (ak m m.c d c)] w fun r w'=>∃ (A:Array Value) (E:Int),r=.returned (.tuple #[.agg A,.int .i64 E])∧A.size=29∧A.all (·.oneCell')=true∧Hid (E=SB.bad m∧((SB.bad m≠0∧A=oI∧D2 w1 xa xb w' SA SB z)∨(SB.bad m=0∧∃ a c ah ch ad cd,A=ja m (SB.play m) m.c.toNat a c ah ch ad cd∧D2 w1 xa xb w' SA (SB.play m).S (ri z i m (SB.play m).S m.c.toNat a c ah ch ad cd)))):=by
 obtain⟨t,La,Lb,h1,h2,h3,h4,h5,h6,h7,h8⟩:=h
 subst h5 h6 h7
 have hP:=ra eB w1 w t Lb i m d c ⟨h1,h3⟩ (fun q hq=>⟨fun j=>by unfold eB;omega,(h8 q).trans (F q hq)⟩) I ok hn R hd hl
 refine hP.mono ?_
 rintro r w' (⟨hb,rfl,H⟩ | ⟨hb,a',c',ah,ch,ad,cd,rfl,H⟩)
 ·have q:=H.out.1
  exact⟨_,_,rfl,rfl,by kernel_rfl,rfl,.inl ⟨hb,rfl,t,La,Lb,q.1,h2,q.2,h4,rfl,rfl,rfl,h8⟩⟩
 ·refine⟨ja m (Lb.S.play m) m.c.toNat a' c' ah ch ad cd,0,rfl,lD ..,oG ..,hb.symm,.inr ⟨hb,a',c',ah,ch,ad,cd,rfl,?_⟩⟩
  obtain⟨t1,L1,k1,k2,k3,k4⟩:=H.out
  refine⟨t1,La,L1,k1.1,⟨h2.1,fun j=>?_⟩,k1.2,h4,k2,rfl,k3.x,fun q=>?_⟩
  ·rw[show eA j=4*j from rfl,k4 _ (fun q=>by unfold eB;omega),rh (by omega)]
   exact h2.2 j
  ·rw[k4 _ (fun j=>by unfold eB;omega)]
   exact ui h8 i m _ _ a' c' ah ch ad cd q
def kD (xs:List Nat):List Value:=xs.map fun n=>Value.int .i64 ((n:Nat):Int)
def qQ (v:Value) (xs:List Nat):Thing:=⟨v.ownBlock.toList,fun w=>w.ownsRow 0 3 1 v xs.length (kD xs),fun w w' l h o hl=>aX h o (fun k hk=>hl k (by rw[hk];simp))⟩
end Go.Proofs.YtenilkloffnjlaaGreat
namespace Go.Proofs.YtenilkloffnjlaaGreat
open Tryz
open Go.RowKit
open Go.RowKit Go.Maps
set_option linter.unusedVariables false
def Ws.actDF (S:Ws) (m:Mv):Sd:=if m.k=1 then (if m.s=1 then S.ds m.c.toNat else dD (S.PD m.c.toNat) (S.ds m.c.toNat) m.l m.b m.h) else if m.k=2 then S.ds m.c.toNat else if m.k=3∨m.k=4 then (if m.s=1 then S.ds m.c.toNat else (az (S.PD m.c.toNat) S.mx 16 (S.ds m.c.toNat) (S.fr m).1 (S.fr m).2).s) else if m.k=5 then (if m.s=1 then S.ds m.c.toNat else dY (S.PD m.c.toNat) (S.ds m.c.toNat) m.n) else if m.k=6 then (if m.s=1 then S.ds m.c.toNat else fH (S.ds m.c.toNat)) else if m.k=7 then (if m.s=1 then S.ds m.c.toNat else cr S.mx 16 (S.ds m.c.toNat) m.n) else { S.ds m.c.toNat with ms:=ks (S.ds m.c.toNat).ms m.n }
def Ws.actHF (S:Ws) (m:Mv):Sh:=if m.k=1 then (if m.s=1 then dE (S.PH m.c.toNat) (S.hs m.c.toNat) m.l m.b m.h else S.hs m.c.toNat) else if m.k=2 then cF (S.PH m.c.toNat) (S.hs m.c.toNat) else if m.k=3∨m.k=4 then (if m.s=1 then dk (S.PH m.c.toNat) (S.hs m.c.toNat) (S.fr m).1 (S.fr m).2 else S.hs m.c.toNat) else if m.k=5 then (if m.s=1 then d7 (S.PH m.c.toNat) (S.hs m.c.toNat) m.n else S.hs m.c.toNat) else if m.k=6 then (if m.s=1 then iX (S.hs m.c.toNat) else S.hs m.c.toNat) else if m.k=7 then (if m.s=1 then ft (S.hs m.c.toNat) else S.hs m.c.toNat) else S.hs m.c.toNat
def Ws.actEF (S:Ws) (m:Mv):Int:=if m.k=1 then (if m.s=1 then gt (S.PH m.c.toNat) m.l else gp (S.PD m.c.toNat) (S.ds m.c.toNat) m.l) else if m.k=2 then mh (S.hs m.c.toNat) else if m.k=3∨m.k=4 then (if m.s=1 then eF (S.PH m.c.toNat) (S.hs m.c.toNat) (S.fr m).1 (S.fr m).2 else (az (S.PD m.c.toNat) S.mx 16 (S.ds m.c.toNat) (S.fr m).1 (S.fr m).2).e) else if m.k=5 then (if m.s=1 then dZ m.n else dX (S.ds m.c.toNat) m.n) else if m.k=6 then (if m.s=1 then fJ (S.hs m.c.toNat) else fG (S.ds m.c.toNat)) else if m.k=7 then (if m.s=1 then 0 else fc S.mx 16 (S.ds m.c.toNat) m.n) else yu m.n
theorem cT (S:Ws) (k:Nat) (f:Fm):(S.toD2 k f).ds=bf S.ds k (az (S.PD k) S.mx 16 (S.ds k) f.1 f.2).s:=by
 unfold Ws.toD2
 split <;> rfl
theorem cU (S:Ws) (k:Nat) (f:Fm):(S.toD2 k f).hs=S.hs:=by
 unfold Ws.toD2
 split <;> rfl
theorem aaP (S:Ws) (m:Mv):(S.act m).S.ds m.c.toNat=S.actDF m:=by
 unfold Ws.act Ws.actDF
 dsimp only
 by_cases h1:m.k=1
 ·rw[if_pos h1,if_pos h1]
  by_cases hs:m.s=1
  ·rw[if_pos hs,if_pos hs]
   first | rfl | exact aj _ _ _ | (unfold Ws.snd;dsimp only;rw[(aM _ _ _ _).2.1];rfl) | (unfold Ws.toH;dsimp only;split <;> rfl) | (unfold Ws.toD;dsimp only;rw[(aM _ _ _ _).2.1,cT];exact aj _ _ _)
  ·rw[if_neg hs,if_neg hs]
   first | rfl | exact aj _ _ _ | (unfold Ws.snd;dsimp only;rw[(aM _ _ _ _).2.1];rfl) | (unfold Ws.toH;dsimp only;split <;> rfl) | (unfold Ws.toD;dsimp only;rw[(aM _ _ _ _).2.1,cT];exact aj _ _ _)
 rw[if_neg h1,if_neg h1]
 by_cases h2:m.k=2
 ·rw[if_pos h2,if_pos h2]
  first | rfl | exact aj _ _ _ | (unfold Ws.snd;dsimp only;rw[(aM _ _ _ _).2.1];rfl) | (unfold Ws.toH;dsimp only;split <;> rfl) | (unfold Ws.toD;dsimp only;rw[(aM _ _ _ _).2.1,cT];exact aj _ _ _)
 rw[if_neg h2,if_neg h2]
 by_cases h3:m.k=3∨m.k=4
 ·rw[if_pos h3,if_pos h3]
  by_cases hs:m.s=1
  ·rw[if_pos hs,if_pos hs]
   first | rfl | exact aj _ _ _ | (unfold Ws.snd;dsimp only;rw[(aM _ _ _ _).2.1];rfl) | (unfold Ws.toH;dsimp only;split <;> rfl) | (unfold Ws.toD;dsimp only;rw[(aM _ _ _ _).2.1,cT];exact aj _ _ _)
  ·rw[if_neg hs,if_neg hs]
   first | rfl | exact aj _ _ _ | (unfold Ws.snd;dsimp only;rw[(aM _ _ _ _).2.1];rfl) | (unfold Ws.toH;dsimp only;split <;> rfl) | (unfold Ws.toD;dsimp only;rw[(aM _ _ _ _).2.1,cT];exact aj _ _ _)
 rw[if_neg h3,if_neg h3]
 by_cases h5:m.k=5
 ·rw[if_pos h5,if_pos h5]
  by_cases hs:m.s=1
  ·rw[if_pos hs,if_pos hs]
   first | rfl | exact aj _ _ _ | (unfold Ws.snd;dsimp only;rw[(aM _ _ _ _).2.1];rfl) | (unfold Ws.toH;dsimp only;split <;> rfl) | (unfold Ws.toD;dsimp only;rw[(aM _ _ _ _).2.1,cT];exact aj _ _ _)
  ·rw[if_neg hs,if_neg hs]
   first | rfl | exact aj _ _ _ | (unfold Ws.snd;dsimp only;rw[(aM _ _ _ _).2.1];rfl) | (unfold Ws.toH;dsimp only;split <;> rfl) | (unfold Ws.toD;dsimp only;rw[(aM _ _ _ _).2.1,cT];exact aj _ _ _)
 rw[if_neg h5,if_neg h5]
 by_cases h6:m.k=6
 ·rw[if_pos h6,if_pos h6]
  by_cases hs:m.s=1
  ·rw[if_pos hs,if_pos hs]
   first | rfl | exact aj _ _ _ | (unfold Ws.snd;dsimp only;rw[(aM _ _ _ _).2.1];rfl) | (unfold Ws.toH;dsimp only;split <;> rfl) | (unfold Ws.toD;dsimp only;rw[(aM _ _ _ _).2.1,cT];exact aj _ _ _)
  ·rw[if_neg hs,if_neg hs]
   first | rfl | exact aj _ _ _ | (unfold Ws.snd;dsimp only;rw[(aM _ _ _ _).2.1];rfl) | (unfold Ws.toH;dsimp only;split <;> rfl) | (unfold Ws.toD;dsimp only;rw[(aM _ _ _ _).2.1,cT];exact aj _ _ _)
 rw[if_neg h6,if_neg h6]
 by_cases h7:m.k=7
 ·rw[if_pos h7,if_pos h7]
  by_cases hs:m.s=1
  ·rw[if_pos hs,if_pos hs]
   first | rfl | exact aj _ _ _ | (unfold Ws.snd;dsimp only;rw[(aM _ _ _ _).2.1];rfl) | (unfold Ws.toH;dsimp only;split <;> rfl) | (unfold Ws.toD;dsimp only;rw[(aM _ _ _ _).2.1,cT];exact aj _ _ _)
  ·rw[if_neg hs,if_neg hs]
   first | rfl | exact aj _ _ _ | (unfold Ws.snd;dsimp only;rw[(aM _ _ _ _).2.1];rfl) | (unfold Ws.toH;dsimp only;split <;> rfl) | (unfold Ws.toD;dsimp only;rw[(aM _ _ _ _).2.1,cT];exact aj _ _ _)
 rw[if_neg h7,if_neg h7]
 first | rfl | exact aj _ _ _ | (unfold Ws.snd;dsimp only;rw[(aM _ _ _ _).2.1];rfl) | (unfold Ws.toH;dsimp only;split <;> rfl) | (unfold Ws.toD;dsimp only;rw[(aM _ _ _ _).2.1,cT];exact aj _ _ _)
theorem aaR (S:Ws) (m:Mv):(S.act m).S.hs m.c.toNat=S.actHF m:=by
 unfold Ws.act Ws.actHF
 dsimp only
 by_cases h1:m.k=1
 ·rw[if_pos h1,if_pos h1]
  by_cases hs:m.s=1
  ·rw[if_pos hs,if_pos hs]
   first | rfl | exact aj _ _ _ | (unfold Ws.snd;dsimp only;rw[(aM _ _ _ _).2.2.1];exact aj _ _ _) | (unfold Ws.toH;dsimp only;split <;> exact aj _ _ _) | (unfold Ws.toD;dsimp only;rw[(aM _ _ _ _).2.2.1,cU])
  ·rw[if_neg hs,if_neg hs]
   first | rfl | exact aj _ _ _ | (unfold Ws.snd;dsimp only;rw[(aM _ _ _ _).2.2.1];exact aj _ _ _) | (unfold Ws.toH;dsimp only;split <;> exact aj _ _ _) | (unfold Ws.toD;dsimp only;rw[(aM _ _ _ _).2.2.1,cU])
 rw[if_neg h1,if_neg h1]
 by_cases h2:m.k=2
 ·rw[if_pos h2,if_pos h2]
  first | rfl | exact aj _ _ _ | (unfold Ws.snd;dsimp only;rw[(aM _ _ _ _).2.2.1];exact aj _ _ _) | (unfold Ws.toH;dsimp only;split <;> exact aj _ _ _) | (unfold Ws.toD;dsimp only;rw[(aM _ _ _ _).2.2.1,cU])
 rw[if_neg h2,if_neg h2]
 by_cases h3:m.k=3∨m.k=4
 ·rw[if_pos h3,if_pos h3]
  by_cases hs:m.s=1
  ·rw[if_pos hs,if_pos hs]
   first | rfl | exact aj _ _ _ | (unfold Ws.snd;dsimp only;rw[(aM _ _ _ _).2.2.1];exact aj _ _ _) | (unfold Ws.toH;dsimp only;split <;> exact aj _ _ _) | (unfold Ws.toD;dsimp only;rw[(aM _ _ _ _).2.2.1,cU])
  ·rw[if_neg hs,if_neg hs]
   first | rfl | exact aj _ _ _ | (unfold Ws.snd;dsimp only;rw[(aM _ _ _ _).2.2.1];exact aj _ _ _) | (unfold Ws.toH;dsimp only;split <;> exact aj _ _ _) | (unfold Ws.toD;dsimp only;rw[(aM _ _ _ _).2.2.1,cU])
 rw[if_neg h3,if_neg h3]
 by_cases h5:m.k=5
 ·rw[if_pos h5,if_pos h5]
  by_cases hs:m.s=1
  ·rw[if_pos hs,if_pos hs]
   first | rfl | exact aj _ _ _ | (unfold Ws.snd;dsimp only;rw[(aM _ _ _ _).2.2.1];exact aj _ _ _) | (unfold Ws.toH;dsimp only;split <;> exact aj _ _ _) | (unfold Ws.toD;dsimp only;rw[(aM _ _ _ _).2.2.1,cU])
  ·rw[if_neg hs,if_neg hs]
   first | rfl | exact aj _ _ _ | (unfold Ws.snd;dsimp only;rw[(aM _ _ _ _).2.2.1];exact aj _ _ _) | (unfold Ws.toH;dsimp only;split <;> exact aj _ _ _) | (unfold Ws.toD;dsimp only;rw[(aM _ _ _ _).2.2.1,cU])
 rw[if_neg h5,if_neg h5]
 by_cases h6:m.k=6
 ·rw[if_pos h6,if_pos h6]
  by_cases hs:m.s=1
  ·rw[if_pos hs,if_pos hs]
   first | rfl | exact aj _ _ _ | (unfold Ws.snd;dsimp only;rw[(aM _ _ _ _).2.2.1];exact aj _ _ _) | (unfold Ws.toH;dsimp only;split <;> exact aj _ _ _) | (unfold Ws.toD;dsimp only;rw[(aM _ _ _ _).2.2.1,cU])
  ·rw[if_neg hs,if_neg hs]
   first | rfl | exact aj _ _ _ | (unfold Ws.snd;dsimp only;rw[(aM _ _ _ _).2.2.1];exact aj _ _ _) | (unfold Ws.toH;dsimp only;split <;> exact aj _ _ _) | (unfold Ws.toD;dsimp only;rw[(aM _ _ _ _).2.2.1,cU])
 rw[if_neg h6,if_neg h6]
 by_cases h7:m.k=7
 ·rw[if_pos h7,if_pos h7]
  by_cases hs:m.s=1
  ·rw[if_pos hs,if_pos hs]
   first | rfl | exact aj _ _ _ | (unfold Ws.snd;dsimp only;rw[(aM _ _ _ _).2.2.1];exact aj _ _ _) | (unfold Ws.toH;dsimp only;split <;> exact aj _ _ _) | (unfold Ws.toD;dsimp only;rw[(aM _ _ _ _).2.2.1,cU])
  ·rw[if_neg hs,if_neg hs]
   first | rfl | exact aj _ _ _ | (unfold Ws.snd;dsimp only;rw[(aM _ _ _ _).2.2.1];exact aj _ _ _) | (unfold Ws.toH;dsimp only;split <;> exact aj _ _ _) | (unfold Ws.toD;dsimp only;rw[(aM _ _ _ _).2.2.1,cU])
 rw[if_neg h7,if_neg h7]
 first | rfl | exact aj _ _ _ | (unfold Ws.snd;dsimp only;rw[(aM _ _ _ _).2.2.1];exact aj _ _ _) | (unfold Ws.toH;dsimp only;split <;> exact aj _ _ _) | (unfold Ws.toD;dsimp only;rw[(aM _ _ _ _).2.2.1,cU])
theorem aaQ (S:Ws) (m:Mv):(S.act m).e=S.actEF m:=by
 unfold Ws.act Ws.actEF
 dsimp only
 by_cases h1:m.k=1
 ·rw[if_pos h1,if_pos h1]
  by_cases hs:m.s=1
  ·rw[if_pos hs,if_pos hs]
   try rfl
  ·rw[if_neg hs,if_neg hs]
   try rfl
 rw[if_neg h1,if_neg h1]
 by_cases h2:m.k=2
 ·rw[if_pos h2,if_pos h2]
  try rfl
 rw[if_neg h2,if_neg h2]
 by_cases h3:m.k=3∨m.k=4
 ·rw[if_pos h3,if_pos h3]
  by_cases hs:m.s=1
  ·rw[if_pos hs,if_pos hs]
   try rfl
  ·rw[if_neg hs,if_neg hs]
   try rfl
 rw[if_neg h3,if_neg h3]
 by_cases h5:m.k=5
 ·rw[if_pos h5,if_pos h5]
  by_cases hs:m.s=1
  ·rw[if_pos hs,if_pos hs]
   try rfl
  ·rw[if_neg hs,if_neg hs]
   try rfl
 rw[if_neg h5,if_neg h5]
 by_cases h6:m.k=6
 ·rw[if_pos h6,if_pos h6]
  by_cases hs:m.s=1
  ·rw[if_pos hs,if_pos hs]
   try rfl
  ·rw[if_neg hs,if_neg hs]
   try rfl
 rw[if_neg h6,if_neg h6]
 by_cases h7:m.k=7
 ·rw[if_pos h7,if_pos h7]
  by_cases hs:m.s=1
  ·rw[if_pos hs,if_pos hs]
   try rfl
  ·rw[if_neg hs,if_neg hs]
   try rfl
 rw[if_neg h7,if_neg h7]
 try rfl
theorem lu (S:Ws) {m:Mv} (hb:S.bad m=0):(S.play m).S.ds m.c.toNat=S.actDF m∧(S.play m).S.hs m.c.toNat=S.actHF m∧(S.play m).e=S.actEF m:=by
 have hp:S.play m=⟨(S.up.act m).e,(S.up.act m).i,(S.up.act m).S.note [oH (S.up.act m).S m.c.toNat,oD (S.up.act m).S m.c.toNat]⟩:=by
  unfold Ws.play
  rw[if_neg (fun q=>q hb)]
  rfl
 rw[hp]
 exact⟨aaP S.up m,aaR S.up m,aaQ S.up m⟩
theorem sC {S:Ws} (I:S.In) (K:S.Kn) {m:Mv} (hb:S.bad m=0) {j:Nat} (hj:j≠m.c.toNat):(S.play m).S.ds j=S.ds j∧(S.play m).S.hs j=S.hs j:=by
 have l:=Ws.Law.of hb
 have K':S.up.Kn:=⟨K.ph,K.pd,K.ha,K.da,K.mo,K.fb⟩
 have q:=j7 K' (I.ih _ l.kn) (I.iv _ l.kn) l
 have hp:S.play m=⟨(S.up.act m).e,(S.up.act m).i,(S.up.act m).S.note [oH (S.up.act m).S m.c.toNat,oD (S.up.act m).S m.c.toNat]⟩:=by
  unfold Ws.play
  rw[if_neg (fun q=>q hb)]
  rfl
 rw[hp]
 exact⟨q.ds j hj,q.hs j hj⟩
theorem jT {S:Ws} (I:S.In) (K:S.Kn) (m:Mv):(S.play m).S.PH=S.PH∧(S.play m).S.PD=S.PD∧(S.play m).S.mx=S.mx:=by
 by_cases hb:S.bad m=0
 ·have l:=Ws.Law.of hb
  have K':S.up.Kn:=⟨K.ph,K.pd,K.ha,K.da,K.mo,K.fb⟩
  have q:=j7 K' (I.ih _ l.kn) (I.iv _ l.kn) l
  have hp:S.play m=⟨(S.up.act m).e,(S.up.act m).i,(S.up.act m).S.note [oH (S.up.act m).S m.c.toNat,oD (S.up.act m).S m.c.toNat]⟩:=by
   unfold Ws.play
   rw[if_neg (fun q=>q hb)]
   rfl
  rw[hp]
  exact⟨q.PH,q.PD,q.mx⟩
 ·have hp:(S.play m).S=S:=by
   unfold Ws.play
   rw[if_pos hb]
  rw[hp]
  exact⟨rfl,rfl,rfl⟩
section
variable {P:Pm} {mx n:Nat} {s s':Sd}
end
end Go.Proofs.YtenilkloffnjlaaGreat
namespace Go.Proofs.YtenilkloffnjlaaGreat
open Tryz
open Go.RowKit Go.Maps
set_option linter.unusedVariables false
section
variable {P:Pm} {mx n:Nat} {s:Sd}
end
theorem xC (S:Ws) (k:Nat) (f:Fm):(S.toD2 k f).bg=S.bg:=by
 unfold Ws.toD2
 split <;> rfl
end Go.Proofs.YtenilkloffnjlaaGreat
namespace Go.Proofs.YtenilkloffnjlaaGreat
open Tryz
open Go.RowKit
section
variable {P:Pm} {s:Sh}
end
end Go.Proofs.YtenilkloffnjlaaGreat
namespace Go.Proofs.YtenilkloffnjlaaGreat
open Tryz
open Go.RowKit Go.Maps
set_option linter.unusedVariables false
section
variable {P:Pm} {mx n:Nat} {s:Sd}
end
end Go.Proofs.YtenilkloffnjlaaGreat
namespace Go.Proofs.YtenilkloffnjlaaGreat
open Tryz
open Go.RowKit Go.Maps
set_option linter.unusedVariables false
section
variable {P:Pm} {mx n:Nat} {s:Sd}
end
end Go.Proofs.YtenilkloffnjlaaGreat
namespace Go.Proofs.YtenilkloffnjlaaGreat
open Tryz
open Go.RowKit Go.Maps Go.Sort
set_option linter.unusedVariables false
theorem cM {w:World} {b o:Nat} {cs:Array Value} {T:TypeId} {z:Nat × Nat} {v:Value} (h:w.heap[b]?=some (.cells cs T z)) (hv:cs[o]?=some v):w.setCell ⟨b,o,none⟩ v=w:=by
 have e:cs.setIfInBounds o v=cs:=by
  apply Array.ext
  ·simp
  ·intro i h1 h2
   rw[Array.getElem_setIfInBounds]
   split
   ·next q=>
    subst q
    rw[Array.getElem?_eq_getElem h2]at hv
    exact (Option.some.inj hv).symm
   ·rfl
 have hm:w.heap.modify b (fun x=>match x with
   | .cells c elem frozen=>.cells (if (⟨b,o,none⟩:Addr).spot.isSome then c else c.setIfInBounds o v) elem frozen
   | x=>x)=w.heap:=by
  apply Array.ext
  ·simp
  ·intro i h1 h2
   rw[Array.getElem_modify]
   split
   ·next q=>
    subst q
    have:w.heap[b]=.cells cs T z:=by
     rw[Array.getElem?_eq_getElem h2]at h
     exact Option.some.inj h
    rw[this]
    simp[e]
   ·rfl
 unfold World.setCell
 exact congrArg (fun x=>({ w with heap:=x }:World)) hm
open Go.RowKit Go.Maps
section
variable {P:Pm}
end
end Go.Proofs.YtenilkloffnjlaaGreat
