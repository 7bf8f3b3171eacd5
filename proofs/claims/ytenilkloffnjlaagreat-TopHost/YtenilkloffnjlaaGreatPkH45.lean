/- Part 46: contracts that the proof rests on. -/
import Derived.Test.YtenilkloffnjlaaGreatPkH44
set_option maxHeartbeats 64000000
set_option maxRecDepth 100000
namespace Go.Proofs.YtenilkloffnjlaaGreat
open Tryz
open Go.RowKit Go.Maps
set_option linter.unusedVariables false
def lV (T size:Nat) (v:Value) (n:Nat) (xs:List Value):Thing:=⟨v.ownBlock.toList,fun w=>w.ownsRow 0 T size v n xs,fun _ _ _ h o hl=>bG h o (fun k hk=>hl k (by rw[hk];simp))⟩
def oC (h d m:Nat):List Value:=[ac h 0,ac d 0,ac m 0]
theorem kD (n:Nat) (h d m:Nat→Nat):ij (n+1) h d m=ij n h d m ++ oC (h n) (d n) (m n):=by
 unfold ij oC
 rw[List.range_succ,List.flatMap_append]
 simp
theorem ye (n x y z:Nat) (h d m:Nat→Nat):∀ i,i≤n→ij i (aG h n x) (aG d n y) (aG m n z)=ij i h d m:=by
 intro i hi
 induction i with
 | zero=>rfl
 | succ i ih=>rw[kD,kD,ih (by omega),cG _ _ (by omega),cG _ _ (by omega),cG _ _ (by omega)]
structure Ng where
 X:Nat
 b:Nat
 m:Nat
 x:Nat
 v0:Value
 v1:Value
 vc:Value
 n:Nat
 i:Nat
 mx:Nat
 PH:Nat→Pm
 PD:Nat→Pm
 h:Nat→Nat
 d:Nat→Nat
 dm:Nat→Nat
 g:Nat→Nat
 hU:Nat→List Nat
 dU:Nat→List Nat
 ob:Obj
def Ng.blk (G:Ng):Obj:=.cells #[G.v0,G.v1,.int .u32 (G.mx:Nat),G.vc,ac G.b 0,.int .i64 0,.slice none 0 0] 75 (0,0)
def Ng.t (G:Ng) (q:Nat):Thing:=
 if q=0 then fC [(G.X,G.blk)] else if q=1 then lV 83 5 G.v0 G.n (zQ G.n G.PH) else if q=2 then lV 83 5 G.v1 G.n (zQ G.n G.PD)
 else if q=3 then lV 80 3 G.vc G.i (ij G.i G.h G.d G.dm) else if q=4 then bgT G.b G.m (.slice none 0 0) [] none [] else if q=5 then fC [(G.x,G.ob)]
 else if q-6<2*G.i then (if q % 2=0 then tR ⟨G.h ((q-6) / 2),G.PH ((q-6) / 2),bV⟩ (G.hU ((q-6) / 2)) else uA ⟨G.d ((q-6) / 2),G.dm ((q-6) / 2),G.g ((q-6) / 2),16,G.mx,G.PD ((q-6) / 2),dD M0⟩ (G.dU ((q-6) / 2)))
 else pQ
def Ng.more (G:Ng) (vc:Value) (h d dm g:Nat) (hU dU:List Nat):Ng:={ G with vc:=vc,i:=G.i+1,h:=aG G.h G.i h,d:=aG G.d G.i d,dm:=aG G.dm G.i dm,g:=aG G.g G.i g,hU:=aG G.hU G.i hU,dU:=aG G.dU G.i dU }
theorem Ng.more_t (G:Ng) (vc:Value) (h d dm g:Nat) (hU dU:List Nat):∀ q,(G.more vc h d dm g hU dU).t q=aJ (aJ (aJ (aJ G.t (6+2*G.i) (tR ⟨h,G.PH G.i,bV⟩ hU)) (7+2*G.i) (uA ⟨d,dm,g,16,G.mx,G.PD G.i,dD M0⟩ dU)) 3 (lV 80 3 vc (G.i+1) (ij G.i G.h G.d G.dm ++ oC h d dm))) 0 (fC [(G.X,(G.more vc h d dm g hU dU).blk)]) q:=by
 intro q
 by_cases q0:q=0
 ·subst q0
  rw[al]
  rfl
 rw[an _ _ q0]
 by_cases q3:q=3
 ·subst q3
  rw[al]
  show lV _ 3 vc (G.i+1) (ij (G.i+1) (aG G.h G.i h) (aG G.d G.i d) (aG G.dm G.i dm))=_
  rw[kD,ye _ _ _ _ _ _ _ _ (Nat.le_refl _),ai,ai,ai]
 rw[an _ _ q3]
 by_cases q7:q=7+2*G.i
 ·subst q7
  rw[al]
  unfold Ng.t
  rw[if_neg q0,if_neg (by omega),if_neg (by omega),if_neg q3,if_neg (by omega),if_neg (by omega),if_pos (show 7+2*G.i-6<2 * (G.more vc h d dm g hU dU).i by show 7+2*G.i-6<2 * (G.i+1);omega),if_neg (by omega),show (7+2*G.i-6) / 2=G.i by omega]
  show uA ⟨aG G.d G.i d G.i,aG G.dm G.i dm G.i,aG G.g G.i g G.i,16,G.mx,G.PD G.i,dD M0⟩ (aG G.dU G.i dU G.i)=_
  rw[ai,ai,ai,ai]
 rw[an _ _ q7]
 by_cases q6:q=6+2*G.i
 ·subst q6
  rw[al]
  unfold Ng.t
  rw[if_neg q0,if_neg (by omega),if_neg (by omega),if_neg q3,if_neg (by omega),if_neg (by omega),if_pos (show 6+2*G.i-6<2 * (G.more vc h d dm g hU dU).i by show 6+2*G.i-6<2 * (G.i+1);omega),if_pos (by omega),show (6+2*G.i-6) / 2=G.i by omega]
  show tR ⟨aG G.h G.i h G.i,G.PH G.i,bV⟩ (aG G.hU G.i hU G.i)=_
  rw[ai,ai]
 rw[an _ _ q6]
 unfold Ng.t
 rw[if_neg q0,if_neg q0]
 by_cases q1:q=1
 ·rw[if_pos q1,if_pos q1]
  rfl
 rw[if_neg q1,if_neg q1]
 by_cases q2:q=2
 ·rw[if_pos q2,if_pos q2]
  rfl
 rw[if_neg q2,if_neg q2,if_neg q3,if_neg q3]
 by_cases q4:q=4
 ·rw[if_pos q4,if_pos q4]
  rfl
 rw[if_neg q4,if_neg q4]
 by_cases q5:q=5
 ·rw[if_pos q5,if_pos q5]
  rfl
 rw[if_neg q5,if_neg q5]
 by_cases hl:q-6<2*G.i
 ·have hne:(q-6) / 2≠G.i:=by omega
  rw[if_pos hl,if_pos (show q-6<2 * (G.more vc h d dm g hU dU).i by show q-6<2 * (G.i+1);omega)]
  by_cases he:q % 2=0
  ·rw[if_pos he,if_pos he]
   show tR ⟨aG G.h G.i h ((q-6) / 2),G.PH ((q-6) / 2),bV⟩ (aG G.hU G.i hU ((q-6) / 2))=_
   rw[cG _ _ hne,cG _ _ hne]
  ·rw[if_neg he,if_neg he]
   show uA ⟨aG G.d G.i d ((q-6) / 2),aG G.dm G.i dm ((q-6) / 2),aG G.g G.i g ((q-6) / 2),16,G.mx,G.PD ((q-6) / 2),dD M0⟩ (aG G.dU G.i dU ((q-6) / 2))=_
   rw[cG _ _ hne,cG _ _ hne,cG _ _ hne,cG _ _ hne]
 ·rw[if_neg hl,if_neg (show ¬ q-6<2 * (G.more vc h d dm g hU dU).i by show ¬ q-6<2 * (G.i+1);omega)]
theorem Ng.step {w0 w w5 w6 w7 w8:World} {G:Ng} (A:Al w0 w G.t) (b5:Below w.heap.size w w5) {h d dm g:Nat} {hU dU:List Nat} (hv:HV w5 h (G.PH G.i) hU bV) (dv:DV w5 d dm g 16 G.mx (G.PD G.i) dU (dD M0)) (hUg:∀ k,k ∈ hU→w.heap.size≤k) (dUg:∀ k,k ∈ dU→w.heap.size≤k) (hd:∀ k,k ∈ hU→k ∉ dU)
  (b6:Below w5.heap.size w5 w6) {vc:Value} (o7:w7.ownsRow 0 80 3 vc (G.i+1) (ij G.i G.h G.d G.dm ++ oC h d dm)) (g7:w6.grownBy w7 G.vc.ownBlock) (p7:vc.ownBlock=G.vc.ownBlock∨vc.ownBlock=some w6.heap.size)
  (o8:Off [G.X] w7 w8) (k8:w8.heap[G.X]?=some (G.more vc h d dm g hU dU).blk):Al w0 w8 (G.more vc h d dm g hU dU).t:=by
 refine Al.same ?_ (G.more_t vc h d dm g hU dU)
 have sz:=A.size
 have s5:=b5.size
 have A5:=A.below b5
 have A5h:Al w0 w5 (aJ G.t (6+2*G.i) (tR ⟨h,G.PH G.i,bV⟩ hU)):=A5.turn _ _ (Off.refl _ _) hv (fun k hk=>⟨Nat.le_trans sz (hUg k hk),HV.ult hv k hk⟩) (fun k hk j hj hm=>by
  have:=(A.lt j k hm).2
  have:=hUg k hk
  omega)
 have A5d:Al w0 w5 (aJ (aJ G.t (6+2*G.i) (tR ⟨h,G.PH G.i,bV⟩ hU)) (7+2*G.i) (uA ⟨d,dm,g,16,G.mx,G.PD G.i,dD M0⟩ dU)):=A5h.turn _ _ (Off.refl _ _) dv (fun k hk=>⟨Nat.le_trans sz (dUg k hk),DV.ult dv k hk⟩) (fun k hk j hj hm=>by
  by_cases z:j=6+2*G.i
  ·subst z
   rw[al]at hm
   exact hd k hm hk
  ·rw[an _ _ z]at hm
   have:=(A.lt j k hm).2
   have:=dUg k hk
   omega)
 have A6:=A5d.below b6
 have A7:=A6.step 3 (lV 80 3 vc (G.i+1) (ij G.i G.h G.d G.dm ++ oC h d dm)) (U:=G.vc.ownBlock.toList) (by rw[an _ _ (by omega),an _ _ (by omega)];rfl) (w':=w7) ⟨⟨g7.os,g7.tape,g7.output,g7.size,fun k hk hb=>g7.block k hk (fun e=>hb (by rw[← e];simp))⟩,fun k hk=>by
  have hk:k ∈ vc.ownBlock.toList:=hk
  rw[Option.mem_toList]at hk
  rcases p7 with p | p
  ·exact .inl (by rw[← p,hk];simp)
  ·rw[hk]at p
   injection p with p
   exact .inr (by omega)⟩ o7 (fun k hk=>by
  have hk:k ∈ vc.ownBlock.toList:=hk
  rw[Option.mem_toList]at hk
  exact (o7.lt k hk).2)
 refine A7.step 0 (fC [(G.X,(G.more vc h d dm g hU dU).blk)]) (U:=[G.X]) (by rw[an _ _ (by omega),an _ _ (by omega),an _ _ (by omega)];rfl) ⟨o8,fun k hk=>.inl hk⟩ (fun p hp=>?_) (fun k hk=>?_)
 ·simp only[List.mem_cons,List.not_mem_nil,or_false]at hp
  subst hp
  exact k8
 ·have hk:k=G.X:=by
   have hk:k ∈ [G.X]:=hk
   simpa using hk
  subst hk
  exact (Array.getElem?_eq_some_iff.1 k8).1
def sN (n mx:Nat) (PH PD:Nat→Pm):Ws:=⟨n,PH,PD,fun _=>bV,fun _=>dD M0,mx,[],0,[]⟩
def Ng.pw (G:Ng):Pw:=⟨G.X,G.v0,G.v1,G.vc,.slice none 0 0,[],[],G.b,G.m,.slice none 0 0,[],none,G.h,G.hU,G.d,G.dm,G.g,G.dU,sN G.n G.mx G.PH G.PD⟩
theorem Ng.same (G:Ng) (hi:G.i=G.n) {j:Nat} (hj:2≤j):G.pw.t j=G.t (j+4):=by
 unfold Pw.t Ng.t
 rw[if_neg (by omega:¬ j=0),if_neg (by omega:¬ j=1),if_neg (by omega:¬ j+4=0),if_neg (by omega:¬ j+4=1),if_neg (by omega:¬ j+4=2),if_neg (by omega:¬ j+4=3),if_neg (by omega:¬ j+4=4),if_neg (by omega:¬ j+4=5)]
 rw[show j+4-6=j-2 by omega,hi]
 show (if j-2<2*G.n then _ else _)=_
 by_cases h:j-2<2*G.n
 ·rw[if_pos h,if_pos h]
  by_cases q:(j-2) % 2=0
  ·rw[if_pos q,if_pos (by omega:(j+4) % 2=0)]
   rfl
  ·rw[if_neg q,if_neg (by omega:¬ (j+4) % 2=0)]
   rfl
 ·rw[if_neg h,if_neg h]
theorem Ng.mem (G:Ng) (hi:G.i=G.n) (q k:Nat) (hk:k ∈ (gw G.pw q).U):(q=0∧∃ a,a≤3∧k ∈ (G.t a).U)∨(q=2∧k ∈ (G.t 4).U)∨(4≤q∧q % 2=0∧k ∈ (G.t (q / 2+4)).U):=by
 unfold gw at hk
 by_cases h2:q % 2=0
 ·rw[if_pos h2]at hk
  by_cases z0:q / 2=0
  ·rw[z0]at hk
   have hk:k ∈ G.pw.core.U:=hk
   simp only[Wc.U,Pw.core,Ng.pw,List.mem_cons,List.mem_append,Option.mem_toList,List.not_mem_nil,or_false]at hk
   refine .inl ⟨by omega,?_⟩
   rcases hk with hk | hk | hk | hk | hk
   ·exact⟨0,by omega,by show k ∈ [G.X];simp[hk]⟩
   ·exact⟨1,by omega,by show k ∈ G.v0.ownBlock.toList;simp[hk]⟩
   ·exact⟨2,by omega,by show k ∈ G.v1.ownBlock.toList;simp[hk]⟩
   ·exact⟨3,by omega,by show k ∈ G.vc.ownBlock.toList;simp[hk]⟩
   ·cases hk
  ·by_cases z1:q / 2=1
   ·rw[z1]at hk
    exact .inr (.inl ⟨by omega,hk⟩)
   ·rw[G.same hi (by omega)]at hk
    exact .inr (.inr ⟨by omega,h2,hk⟩)
 ·rw[if_neg h2]at hk
  simp[pQ]at hk
theorem Ng.world {w0 w:World} {G:Ng} (A:Al w0 w G.t) (hi:G.i=G.n):PW ev w0 w (gw G.pw) G.pw:=by
 have wb:WB G.pw.core w:=by
  refine⟨A.get (i:=0) (x:=fC [(G.X,G.blk)]) rfl _ (List.mem_cons_self ..),A.get (i:=1) (x:=lV 83 5 G.v0 G.n (zQ G.n G.PH)) rfl,A.get (i:=2) (x:=lV 83 5 G.v1 G.n (zQ G.n G.PD)) rfl,?_,⟨rfl,.inl ⟨rfl,rfl⟩⟩,rfl,fun i f d hf=>by simp[Ng.pw,Pw.core,sN]at hf,fun k hk=>by simp[Ng.pw,Pw.core]at hk⟩
  have:=A.get (i:=3) (x:=lV 80 3 G.vc G.i (ij G.i G.h G.d G.dm)) rfl
  rw[hi]at this
  exact this
 refine⟨⟨A.bel,fun q=>?_,fun q k hk=>?_,fun p q hpq k hp hq=>?_⟩,ys _⟩
 ·unfold gw
  by_cases h2:q % 2=0
  ·rw[if_pos h2]
   by_cases z0:q / 2=0
   ·rw[z0]
    exact wb
   ·by_cases z1:q / 2=1
    ·rw[z1]
     exact A.get (i:=4) (x:=bgT G.b G.m (.slice none 0 0) [] none []) rfl
    ·rw[G.same hi (by omega)]
     exact A.ok _
  ·rw[if_neg h2]
   trivial
 ·rcases G.mem hi q k hk with ⟨_,a,_,h⟩ | ⟨_,h⟩ | ⟨_,_,h⟩
  ·exact A.lt a k h
  ·exact A.lt 4 k h
  ·exact A.lt _ k h
 ·rcases G.mem hi p k hp with ⟨e1,a,ha,h1⟩ | ⟨e1,h1⟩ | ⟨e1,f1,h1⟩
  ·rcases G.mem hi q k hq with ⟨e2,b,hb,h2⟩ | ⟨e2,h2⟩ | ⟨e2,f2,h2⟩
   ·omega
   ·exact A.dis a 4 (by omega) k h1 h2
   ·exact A.dis a _ (by omega) k h1 h2
  ·rcases G.mem hi q k hq with ⟨e2,b,hb,h2⟩ | ⟨e2,h2⟩ | ⟨e2,f2,h2⟩
   ·exact A.dis 4 b (by omega) k h1 h2
   ·omega
   ·exact A.dis 4 _ (by omega) k h1 h2
  ·rcases G.mem hi q k hq with ⟨e2,b,hb,h2⟩ | ⟨e2,h2⟩ | ⟨e2,f2,h2⟩
   ·exact A.dis _ b (by omega) k h1 h2
   ·exact A.dis _ 4 (by omega) k h1 h2
   ·exact A.dis _ _ (by omega) k h1 h2
theorem ace (n mx:Nat) (PH PD:Nat→Pm):(sN n mx PH PD).In:=
 ⟨fun k hk=>Ih.new_ _,fun k hk=>Iv.new_ _,fun k hk=>Nat.le_refl _,fun k hk=>⟨Nat.le_refl _,by show (0:Int)≤6 * ((0:Nat):Int);decide⟩,Nat.le_refl _,Nat.le_refl _⟩
theorem Ng.mem0 (G:Ng) (hi:G.i=0) (hvc:G.vc=.slice none 0 0) (q k:Nat) (hk:k ∈ (G.t q).U):(q=0∧k=G.X)∨(q=1∧G.v0.ownBlock=some k)∨(q=2∧G.v1.ownBlock=some k)∨(q=4∧(k=G.b∨k=G.m))∨(q=5∧k=G.x):=by
 unfold Ng.t at hk
 by_cases q0:q=0
 ·rw[if_pos q0]at hk
  have hk:k ∈ [G.X]:=hk
  exact .inl ⟨q0,by simpa using hk⟩
 rw[if_neg q0]at hk
 by_cases q1:q=1
 ·rw[if_pos q1]at hk
  have hk:k ∈ G.v0.ownBlock.toList:=hk
  exact .inr (.inl ⟨q1,by simpa using hk⟩)
 rw[if_neg q1]at hk
 by_cases q2:q=2
 ·rw[if_pos q2]at hk
  have hk:k ∈ G.v1.ownBlock.toList:=hk
  exact .inr (.inr (.inl ⟨q2,by simpa using hk⟩))
 rw[if_neg q2]at hk
 by_cases q3:q=3
 ·rw[if_pos q3,hvc]at hk
  have hk:k ∈ (Value.slice none 0 0).ownBlock.toList:=hk
  simp[Value.ownBlock]at hk
 rw[if_neg q3]at hk
 by_cases q4:q=4
 ·rw[if_pos q4]at hk
  have hk:k ∈ lZ G.b G.m (.slice none 0 0) [] none:=hk
  simp[lZ,Value.ownBlock]at hk
  exact .inr (.inr (.inr (.inl ⟨q4,hk⟩)))
 rw[if_neg q4]at hk
 by_cases q5:q=5
 ·rw[if_pos q5]at hk
  have hk:k ∈ [G.x]:=hk
  exact .inr (.inr (.inr (.inr ⟨q5,by simpa using hk⟩)))
 rw[if_neg q5,if_neg (by omega)]at hk
 simp[pQ]at hk
theorem Ng.start {w wx:World} {G:Ng} (hi:G.i=0) (hvc:G.vc=.slice none 0 0) (bel:Below w.heap.size w wx) (k0:wx.heap[G.X]?=some G.blk) (r0:wx.ownsRow 0 83 5 G.v0 G.n (zQ G.n G.PH)) (r1:wx.ownsRow 0 83 5 G.v1 G.n (zQ G.n G.PD)) (bg:Bg 0 wx G.b G.m (.slice none 0 0) [] none []) (kx:wx.heap[G.x]?=some G.ob)
  (lx:G.x=w.heap.size) (l0:∀ k,G.v0.ownBlock=some k→w.heap.size<k∧k<G.m) (l1:∀ k,G.v1.ownBlock=some k→w.heap.size<k∧k<G.m) (l01:∀ k,G.v0.ownBlock=some k→G.v1.ownBlock≠some k) (mb:G.b=G.m+1) (bX:G.X=G.m+2) (lm:w.heap.size<G.m):Al w wx G.t:=by
 have lX:=(Array.getElem?_eq_some_iff.1 k0).1
 refine⟨bel,fun q=>?_,fun q k hk=>?_,fun p q hpq k hp hq=>?_⟩
 ·unfold Ng.t
  by_cases q0:q=0
  ·rw[if_pos q0]
   intro p hp
   simp only[List.mem_cons,List.not_mem_nil,or_false]at hp
   subst hp
   exact k0
  rw[if_neg q0]
  by_cases q1:q=1
  ·rw[if_pos q1];exact r0
  rw[if_neg q1]
  by_cases q2:q=2
  ·rw[if_pos q2];exact r1
  rw[if_neg q2]
  by_cases q3:q=3
  ·rw[if_pos q3,hvc,hi]
   exact⟨rfl,.inl ⟨rfl,rfl⟩⟩
  rw[if_neg q3]
  by_cases q4:q=4
  ·rw[if_pos q4];exact⟨bg,rfl⟩
  rw[if_neg q4]
  by_cases q5:q=5
  ·rw[if_pos q5]
   intro p hp
   simp only[List.mem_cons,List.not_mem_nil,or_false]at hp
   subst hp
   exact kx
  rw[if_neg q5,if_neg (by omega)]
  trivial
 ·rcases G.mem0 hi hvc q k hk with ⟨_,e⟩ | ⟨_,e⟩ | ⟨_,e⟩ | ⟨_,e | e⟩ | ⟨_,e⟩
  ·omega
  ·have:=l0 k e;omega
  ·have:=l1 k e;omega
  ·omega
  ·omega
  ·omega
 ·rcases G.mem0 hi hvc p k hp with ⟨e1,hp⟩ | ⟨e1,hp⟩ | ⟨e1,hp⟩ | ⟨e1,hp | hp⟩ | ⟨e1,hp⟩
  all_goals rcases G.mem0 hi hvc q k hq with ⟨e2,hq⟩ | ⟨e2,hq⟩ | ⟨e2,hq⟩ | ⟨e2,hq | hq⟩ | ⟨e2,hq⟩
  all_goals first
   | exact hpq (by omega)
   | omega
   | (have:=l0 k hp;omega)
   | (have:=l1 k hp;omega)
   | (have:=l0 k hq;omega)
   | (have:=l1 k hq;omega)
   | exact l01 k hp hq
   | exact l01 k hq hp
def NgI (w wr:World) (X b x n mx:Nat) (PH PD:Nat→Pm) (v0 v1:Value) (ob:Obj) (i:Nat):Prop:=∃ G:Ng,G.i=i∧G.X=X∧G.b=b∧G.x=x∧G.n=n∧G.mx=mx∧G.PH=PH∧G.PD=PD∧G.v0=v0∧G.v1=v1∧G.ob=ob∧Al w wr G.t
theorem kX {w wr w5 w6 w7 w8:World} {X b x n mx i:Nat} {PH PD:Nat→Pm} {v0 v1:Value} {ob:Obj} {G:Ng} {P Q:Pm} (A:Al w wr G.t) (hG:G.i=i∧G.X=X∧G.b=b∧G.x=x∧G.n=n∧G.mx=mx∧G.PH=PH∧G.PD=PD∧G.v0=v0∧G.v1=v1∧G.ob=ob) (b5:Below wr.heap.size wr w5) {h d dm g:Nat}
  (H5:Below wr.drew.heap.size wr.drew w5∧∃ hU dU,HV w5 h P hU bV∧DV w5 d dm g 16 mx Q dU (dD M0)∧(∀ k,k ∈ hU→wr.drew.heap.size≤k)∧(∀ k,k ∈ dU→wr.drew.heap.size≤k)∧∀ k,k ∈ hU→k ∉ dU) (hP:PH i=P) (hQ:PD i=Q) (b6:Below w5.heap.size w5 w6) {vc:Value}
  (o7:w7.ownsRow 0 80 3 vc (i+1) (ij i G.h G.d G.dm ++ oC h d dm)) (g7:w6.grownBy w7 G.vc.ownBlock) (p7:vc.ownBlock=G.vc.ownBlock∨vc.ownBlock=some w6.heap.size) (o8:Off [X] w7 w8) (k8:w8.heap[X]?=some (.cells #[v0,v1,.int .u32 (mx:Nat),vc,ac b 0,.int .i64 0,.slice none 0 0] 75 (0,0))):NgI w w8 X b x n mx PH PD v0 v1 ob (i+1):=by
 obtain⟨_,hU,dU,hv,dv,hUg,dUg,dis⟩:=H5
 obtain⟨rfl,rfl,rfl,rfl,rfl,rfl,rfl,rfl,rfl,rfl,rfl⟩:=hG
 subst hP hQ
 exact⟨G.more vc h d dm g hU dU,rfl,rfl,rfl,rfl,rfl,rfl,rfl,rfl,rfl,rfl,rfl,Ng.step A b5 hv dv hUg dUg dis b6 o7 g7 p7 o8 k8⟩
theorem aai (PH PD:Nat→Pm) (q0 o0 v0 q1 o1 v1 n mx:Nat) (hH:∀ k,k<n→Pok (PH k)) (hD:∀ k,k<n→Pok (PD k)) (hmx:mx<4294967296) (h0:mx≠0) (hn0:0<n) (hn8:n≤1000) (hu0:n≤v0) (hu1:n≤v1) (w:World) (k0:PqRow w (af q0 o0) n (fun i=>(PH i).q)) (k1:PqRow w (af q1 o1) n (fun i=>(PD i).q)) (hck:ckE n n mx (fun i=>(PH i).q) (fun i=>(PD i).q)=0):Calls prog 7 #[.agg #[.slice (af q0 o0) n v0,.slice (af q1 o1) n v1,.int .u32 (mx:Nat)]] w fun r w'=>∃ L:Pw,r=.returned (.tuple #[ac L.x 0,.int .i64 0])∧Hid (PW ev w w' (gw L) L∧L.S=sN n mx PH PD):=by
 have kA:=aB w (.cells #[.slice (af q0 o0) n v0,.slice (af q1 o1) n v1,.int .u32 (mx:Nat)] 30)
 have bA:=aF (Below.refl _ w) (.cells #[.slice (af q0 o0) n v0,.slice (af q1 o1) n v1,.int .u32 (mx:Nat)] 30)
 have sA:=io w (.cells #[.slice (af q0 o0) n v0,.slice (af q1 o1) n v1,.int .u32 (mx:Nat)] 30)
 obtain⟨wa,hwa⟩:∃ y,w.alloc (.cells #[.slice (af q0 o0) n v0,.slice (af q1 o1) n v1,.int .u32 (mx:Nat)] 30)=y:=⟨_,rfl⟩
 rw[hwa]at kA bA sA
 obtain⟨x,hx⟩:∃ y,w.heap.size=y:=⟨_,rfl⟩
 rw[hx]at kA sA
 have y0:wa.cell? ⟨x,0,none⟩=some (.slice (af q0 o0) n v0):=ae wa x 0 _ _ _ kA
 have y1:wa.cell? ⟨x,1,none⟩=some (.slice (af q1 o1) n v1):=ae wa x 1 _ _ _ kA
 have y2:wa.cell? ⟨x,2,none⟩=some (.int .u32 (mx:Nat)):=ae wa x 2 _ _ _ kA
 have hCk:=yQ (fun i=>(PH i).q) (fun i=>(PD i).q) (af q0 o0) (af q1 o1) n v0 n v1 mx wa (k0.below bA) (k1.below bA) hu0 hu1 (by omega) (by omega)
 rw[hck]at hCk
 have HH:Hid (_):=And.intro bA (And.intro kA (And.intro k0 (And.intro k1 sA)))
 have HE:Hid (_=wa):=hwa
 have HS:Hid (w.heap.size=x):=hx
 have HPk:Hid (_):=And.intro hH hD
 clear bA kA k0 k1 hwa hx sA hck hH hD
 go_enter func7,ntmps7
 go_upto_region 1 with fail
 rw[HE.out,HS.out]
 go_wp2_with fail
 refine hCk.mono ?_
 rintro r w1 ⟨rfl,H1⟩
 clear hCk y0 y1 y2
 obtain⟨bA,kA,k0,k1,sA⟩:=HH.out
 have b1:=H1.out
 have hb01:=bA.trans (b1.mono bA.size)
 have kx:=(b1.block x (Array.getElem?_eq_some_iff.1 kA).1).trans kA
 have y0:w1.cell? ⟨x,0,none⟩=some (.slice (af q0 o0) n v0):=ae w1 x 0 _ _ _ kx
 have y1:w1.cell? ⟨x,1,none⟩=some (.slice (af q1 o1) n v1):=ae w1 x 1 _ _ _ kx
 have y2:w1.cell? ⟨x,2,none⟩=some (.int .u32 (mx:Nat)):=ae w1 x 2 _ _ _ kx
 have hCo:=wA (fun i=>(PH i).q) (fun i=>(PD i).q) q0 o0 v0 q1 o1 v1 n mx w1 (PqRow.below k0 hb01) (PqRow.below k1 hb01) (by omega)
 clear bA kA k0 k1 sA b1 hb01 kx
 go_wp2_with fail
 refine hCo.mono ?_
 rintro r w2 ⟨a0,c0,a1,c1,rfl,H2⟩
 clear hCo y0 y1 y2
 have hBn:=uP w2
 go_wp2_with fail
 refine hBn.mono ?_
 rintro r w3 ⟨rfl,H3⟩
 clear hBn
 obtain⟨b,hb⟩:∃ y,w2.heap.size+1=y:=⟨_,rfl⟩
 rw[hb]
 have kW:=aB w3 (.cells #[.slice a0 n c0,.slice a1 n c1,.int .u32 (mx:Nat),.slice none 0 0,ac b 0,.int .i64 0,.slice none 0 0] 75)
 have bW:=aF (Below.refl _ w3) (.cells #[.slice a0 n c0,.slice a1 n c1,.int .u32 (mx:Nat),.slice none 0 0,ac b 0,.int .i64 0,.slice none 0 0] 75)
 obtain⟨wx,hwx⟩:∃ y,w3.alloc (.cells #[.slice a0 n c0,.slice a1 n c1,.int .u32 (mx:Nat),.slice none 0 0,ac b 0,.int .i64 0,.slice none 0 0] 75)=y:=⟨_,rfl⟩
 obtain⟨X,hX⟩:∃ y,w3.heap.size=y:=⟨_,rfl⟩
 rw[hwx]at kW bW
 rw[hX]at kW
 obtain⟨bA,kA,k0,k1,sA⟩:=HH.out
 have b1:=H1.out
 obtain⟨r0,r1,b2,d01⟩:=H2.out
 obtain⟨b3,hg,s3⟩:=H3.out
 have b13:Below wa.heap.size wa wx:=((b1.trans (b2.mono b1.size)).trans (b3.mono (Nat.le_trans b1.size b2.size))).trans (bW.mono (Nat.le_trans (Nat.le_trans b1.size b2.size) b3.size))
 have kx:=(b13.block x (Array.getElem?_eq_some_iff.1 kA).1).trans kA
 have b2x:Below w2.heap.size w2 wx:=b3.trans (bW.mono b3.size)
 have s1:=b1.size
 have hsx:=HS.out
 have A0:NgI w wx X b x n mx PH PD (.slice a0 n c0) (.slice a1 n c1) (.cells #[.slice (af q0 o0) n v0,.slice (af q1 o1) n v1,.int .u32 (mx:Nat)] 30 (0,0)) 0:=by
  refine⟨⟨X,b,w2.heap.size,x,.slice a0 n c0,.slice a1 n c1,.slice none 0 0,n,0,mx,PH,PD,fun _=>0,fun _=>0,fun _=>0,fun _=>0,fun _=>[],fun _=>[],.cells #[.slice (af q0 o0) n v0,.slice (af q1 o1) n v1,.int .u32 (mx:Nat)] 30 (0,0)⟩,rfl,rfl,rfl,rfl,rfl,rfl,rfl,rfl,rfl,rfl,rfl,Ng.start rfl rfl (bA.trans (b13.mono bA.size)) kW (iU (bG (l:=[]) r0 (Off.of_below b2x) (by simp)) (Nat.zero_le _)) (iU (bG (l:=[]) r1 (Off.of_below b2x) (by simp)) (Nat.zero_le _)) ?_ kx hsx.symm (fun k hk=>?_) (fun k hk=>?_) d01 hb.symm ?_ ?_⟩
  ·have hh:Bg 0 w3 (w2.heap.size+1) w2.heap.size (.slice none 0 0) [] none []:=⟨hg.at_,⟨⟨rfl,.inl ⟨rfl,rfl⟩⟩,fun i f hi=>by simp at hi,fun f hf=>by simp at hf,by simp⟩,hg.met,hg.pk,Nat.zero_le _,Nat.zero_le _⟩
   rw[hb]at hh
   exact hh.below bW
  ·have:=r0.lt k hk
   show w.heap.size<k∧k<w2.heap.size
   omega
  ·have:=r1.lt k hk
   show w.heap.size<k∧k<w2.heap.size
   omega
  ·show X=w2.heap.size+2
   omega
  ·show w.heap.size<w2.heap.size
   have:=b2.size
   omega
 have y0:wx.cell? ⟨x,0,none⟩=some (.slice (af q0 o0) n v0):=ae wx x 0 _ _ _ kx
 have HA0:Hid (_):=A0
 have HE3:Hid (_=wx):=hwx
 have HX3:Hid (w3.heap.size=X):=hX
 have HK0:Hid (_):=And.intro k0 (And.intro k1 (And.intro (show w.heap.size<X by have:=b2.size;omega) hsx))
 clear bA kA k0 k1 sA b1 r0 r1 b2 d01 b3 hg s3 b13 kx b2x s1 A0 kW bW hwx hX hb hsx
 go_upto_region 5 with fail
 rw[HE3.out,HX3.out]
 go_wp2_with fail
 go_loopw [6,20,21,22,23,24,25,26,27,28,29,30,31,32,33,34,35,36,37,38,39,40,41,42,43,44,45] (fun _ ctr _ _ _ _ _ _ _ _ _ _ _ _ _ _ _ _ _ _ _ _ _ _ _ _ _ wr=>∃ i:Nat,i≤n∧ctr=.int .i64 ((i:Nat):Int)∧Hid (NgI w wr X b x n mx PH PD (.slice a0 n c0) (.slice a1 n c1) (.cells #[.slice (af q0 o0) n v0,.slice (af q1 o1) n v1,.int .u32 (mx:Nat)] 30 (0,0)) i)) (fun _ ctr _ _ _ _ _ _ _ _ _ _ _ _ _ _ _ _ _ _ _ _ _ _ _ _ _ _=>n-jt ctr)
 case atStart=>exact⟨0,by omega,rfl,HA0.out⟩
 case round=>
  obtain⟨i,hi,rfl,HI⟩:=hrel
  obtain⟨G,g1,g2,g3,g4,g5,g6,g7,g8,g9,g10,g11,A⟩:=HI.out
  by_cases hlt:i<n
  rotate_left
  ·obtain rfl:i=n:=by omega
   have hlt':¬ ((i:Nat):Int) < ((i:Nat):Int):=by omega
   have HW:Hid (_):=Ng.world A (by rw[g1,g5])
   have HSn:Hid (G.pw.S=sN i mx PH PD):=by show sN G.n G.mx G.PH G.PD=_;rw[g5,g6,g7,g8]
   have HXx:Hid (G.pw.x=X):=g2
   clear A g1 g2 g3 g4 g5 g6 g7 g8 g9 g10 g11
   go_wp2_with fail
   go_ret2
   exact⟨G.pw,by rw[HXx.out] <;> rfl,HW.out,HSn.out⟩
  have hlt':((i:Nat):Int) < ((n:Nat):Int):=by omega
  obtain⟨P,hP⟩:∃ z,PH i=z:=⟨_,rfl⟩
  obtain⟨Q,hQ⟩:∃ z,PD i=z:=⟨_,rfl⟩
  have hPo:Pok P:=by rw[← hP];exact HPk.out.1 i hlt
  have hQo:Pok Q:=by rw[← hQ];exact HPk.out.2 i hlt
  obtain⟨k0,k1,lwX,hsx⟩:=HK0.out
  obtain⟨z0,p0,ez0,cc0⟩:=(PqRow.below k0 A.bel) i hlt
  obtain⟨z1,p1,ez1,cc1⟩:=(PqRow.below k1 A.bel) i hlt
  obtain⟨_,_,ew0,dd0⟩:=k0 i hlt
  obtain⟨_,_,ew1,dd1⟩:=k1 i hlt
  have lq0:q0<w.heap.size:=by
   injection ew0 with ew0
   injection ew0 with e1 e2
   subst e1 e2
   exact World.block_lt_of_cell? w _ (dd0 0 _ rfl)
  have lq1:q1<w.heap.size:=by
   injection ew1 with ew1
   injection ew1 with e1 e2
   subst e1 e2
   exact World.block_lt_of_cell? w _ (dd1 0 _ rfl)
  injection ez0 with ez0
  injection ez0 with e1 e2
  subst e1 e2
  injection ez1 with ez1
  injection ez1 with e1 e2
  subst e1 e2
  dsimp only at cc0 cc1
  rw[hP]at cc0
  rw[hQ]at cc1
  have bx:wr.heap[x]?=some (.cells #[.slice (af q0 o0) n v0,.slice (af q1 o1) n v1,.int .u32 (mx:Nat)] 30 (0,0)):=by
   have:=A.get (i:=5) (x:=fC [(G.x,G.ob)]) rfl _ (List.mem_cons_self ..)
   rw[g4,g11]at this
   exact this
  have rc:=A.get (i:=3) (x:=lV 80 3 G.vc G.i (ij G.i G.h G.d G.dm)) rfl
  have rc':wr.ownsRow 0 80 3 G.vc G.i (ij G.i G.h G.d G.dm):=rc
  obtain⟨av,cv,ev⟩:=cy rc'
  rw[g1]at rc' ev
  have bX:wr.heap[X]?=some (.cells #[.slice a0 n c0,.slice a1 n c1,.int .u32 (mx:Nat),.slice av i cv,ac b 0,.int .i64 0,.slice none 0 0] 75 (0,0)):=by
   have:=A.get (i:=0) (x:=fC [(G.X,G.blk)]) rfl _ (List.mem_cons_self ..)
   unfold Ng.blk at this
   rw[g2,g9,g10,g6,ev,g3]at this
   exact this
  have hne:∀ k j,k ∈ (G.t j).U→j≠3→(Value.slice av i cv).ownBlock≠some k:=fun k j hk hj e=>A.dis 3 j (fun q=>hj q.symm) k (by show k ∈ G.vc.ownBlock.toList;rw[ev,e];simp) hk
  have hne2:∀ k,k<w.heap.size→(Value.slice av i cv).ownBlock≠some k:=fun k hk e=>by
   have:=(A.lt 3 k (by show k ∈ G.vc.ownBlock.toList;rw[ev,e];simp)).1
   omega
  have HNE:Hid ((Value.slice av i cv).ownBlock≠some x∧(Value.slice av i cv).ownBlock≠some q0∧(Value.slice av i cv).ownBlock≠some q1∧(Value.slice av i cv).ownBlock≠some X):=⟨hne x 5 (by show x ∈ [G.x];simp[g4]) (by omega),hne2 q0 lq0,hne2 q1 lq1,hne X 0 (by show X ∈ [G.X];simp[g2]) (by omega)⟩
  have HXX:Hid (x≠X∧q0≠X∧q1≠X):=⟨by omega,by omega,by omega⟩
  have hS:∀ w',Below wr.heap.size wr w'→w'.cell? ⟨x,0,none⟩=some (Value.slice (af q0 o0) n v0)∧w'.cell? ⟨x,1,none⟩=some (Value.slice (af q1 o1) n v1)∧w'.cell? ⟨x,2,none⟩=some (Value.int .u32 (mx:Nat))∧w'.cell? ⟨q0,o0+i*5,none⟩=some (Value.int .u32 (P.c:Nat))∧w'.cell? ⟨q0,o0+i*5+1,none⟩=some (Value.int .i64 (P.o:Nat))∧w'.cell? ⟨q0,o0+i*5+2,none⟩=some (Value.int .i64 (P.i:Nat))∧w'.cell? ⟨q0,o0+i*5+3,none⟩=some (Value.int .i64 (P.t:Nat))∧w'.cell? ⟨q0,o0+i*5+4,none⟩=some (Value.int .u32 (P.n:Nat))∧w'.cell? ⟨q1,o1+i*5,none⟩=some (Value.int .u32 (Q.c:Nat))∧w'.cell? ⟨q1,o1+i*5+1,none⟩=some (Value.int .i64 (Q.o:Nat))∧w'.cell? ⟨q1,o1+i*5+2,none⟩=some (Value.int .i64 (Q.i:Nat))∧w'.cell? ⟨q1,o1+i*5+3,none⟩=some (Value.int .i64 (Q.t:Nat))∧w'.cell? ⟨q1,o1+i*5+4,none⟩=some (Value.int .u32 (Q.n:Nat)):=fun w' bb=>⟨ag (ae wr x 0 _ _ _ bx) bb,ag (ae wr x 1 _ _ _ bx) bb,ag (ae wr x 2 _ _ _ bx) bb,ag (cc0 0 _ rfl) bb,ag (cc0 1 _ rfl) bb,ag (cc0 2 _ rfl) bb,ag (cc0 3 _ rfl) bb,ag (cc0 4 _ rfl) bb,ag (cc1 0 _ rfl) bb,ag (cc1 1 _ rfl) bb,ag (cc1 2 _ rfl) bb,ag (cc1 3 _ rfl) bb,ag (cc1 4 _ rfl) bb⟩
  have HT0:=hS wr.drew (Below.drew (Below.refl _ _))
  have HSS:Hid (_):=hS
  have HX0:Hid (∀ w',Below wr.heap.size wr w'→w'.cell? ⟨X,3,none⟩=some (Value.slice av i cv)):=fun w' bb=>ag (ae wr X 3 _ _ _ bX) bb
  have HXb:Hid (_):=bX
  have HRC:Hid (wr.ownsRow 0 80 3 (.slice av i cv) i (ij i G.h G.d G.dm)):=by rw[← ev];exact rc'
  have HNG:Hid (Al w wr G.t):=A
  have HGi:Hid (_):=And.intro g1 (And.intro g2 (And.intro g3 (And.intro g4 (And.intro g5 (And.intro g6 (And.intro g7 (And.intro g8 (And.intro g9 (And.intro g10 g11)))))))))
  have HEv:Hid (G.vc=_):=ev
  have HPQ:Hid (_):=And.intro hP hQ
  clear cc0 cc1 bx rc rc' ev bX hne hne2 hS A g1 g2 g3 g4 g5 g6 g7 g8 g9 g10 g11 hP hQ lq0 lq1 k0 k1 lwX hsx dd0 dd1 ew0 ew1
  go_upto_region 8 with fail
  refine wp_region_held_drew (S:=fun w'=>w'.cell? ⟨x,0,none⟩=some (Value.slice (af q0 o0) n v0)∧w'.cell? ⟨x,1,none⟩=some (Value.slice (af q1 o1) n v1)∧w'.cell? ⟨x,2,none⟩=some (Value.int .u32 (mx:Nat))∧w'.cell? ⟨q0,o0+i*5,none⟩=some (Value.int .u32 (P.c:Nat))∧w'.cell? ⟨q0,o0+i*5+1,none⟩=some (Value.int .i64 (P.o:Nat))∧w'.cell? ⟨q0,o0+i*5+2,none⟩=some (Value.int .i64 (P.i:Nat))∧w'.cell? ⟨q0,o0+i*5+3,none⟩=some (Value.int .i64 (P.t:Nat))∧w'.cell? ⟨q0,o0+i*5+4,none⟩=some (Value.int .u32 (P.n:Nat))∧w'.cell? ⟨q1,o1+i*5,none⟩=some (Value.int .u32 (Q.c:Nat))∧w'.cell? ⟨q1,o1+i*5+1,none⟩=some (Value.int .i64 (Q.o:Nat))∧w'.cell? ⟨q1,o1+i*5+2,none⟩=some (Value.int .i64 (Q.i:Nat))∧w'.cell? ⟨q1,o1+i*5+3,none⟩=some (Value.int .i64 (Q.t:Nat))∧w'.cell? ⟨q1,o1+i*5+4,none⟩=some (Value.int .u32 (Q.n:Nat))) (by kernel_rfl) HT0 (fun _=>?_)
  refine aq (i:=0) (v:=ac X 0) ?_
  refine aq (i:=1) (v:=ac X 0) ?_
  refine aq (i:=2) (v:=ac X 0) ?_
  refine aq (i:=3) (v:=ac X 3) ?_
  refine aq (i:=5) (v:=ac x 0) ?_
  refine aq (i:=6) (v:=Value.slice (af q0 o0) n v0) ?_
  refine aq (i:=7) (v:=Value.int .i64 (i:Nat)) ?_
  refine aq (i:=8) (v:=ac q0 (o0+i*5)) ?_
  refine aq (i:=9) (v:=Value.agg #[Value.int .u32 (P.c:Nat),Value.int .i64 (P.o:Nat),Value.int .i64 (P.i:Nat),Value.int .i64 (P.t:Nat),Value.int .u32 (P.n:Nat)]) ?_
  refine aq (i:=10) (v:=ac x 1) ?_
  refine aq (i:=11) (v:=Value.slice (af q1 o1) n v1) ?_
  refine aq (i:=12) (v:=Value.int .i64 (i:Nat)) ?_
  refine aq (i:=13) (v:=ac q1 (o1+i*5)) ?_
  refine aq (i:=14) (v:=Value.agg #[Value.int .u32 (Q.c:Nat),Value.int .i64 (Q.o:Nat),Value.int .i64 (Q.i:Nat),Value.int .i64 (Q.t:Nat),Value.int .u32 (Q.n:Nat)]) ?_
  refine aq (i:=15) (v:=ac x 2) ?_
  refine aq (i:=16) (v:=Value.int .u32 (mx:Nat)) ?_
  refine pb (i:=4) (j:=17) (by kernel_rfl) ?_ ?_
  ·have x3:(wr.drew).cell? ⟨X,3,none⟩=some (Value.slice av i cv):=HX0.out _ (Below.drew (Below.refl wr.heap.size wr))
   refine cA (Value.slice av i cv) (wr.drew) rfl (by kernel_rfl) (by go_simp) ⟨HSS.out _ (Below.drew (Below.refl wr.heap.size wr)),?_⟩
   have HS0':=HSS.out _ (Below.drew (Below.refl wr.heap.size wr))
   refine aI (i:=17) 21 #[Value.agg #[Value.int .u32 (P.c:Nat),Value.int .i64 (P.o:Nat),Value.int .i64 (P.i:Nat),Value.int .i64 (P.t:Nat),Value.int .u32 (P.n:Nat)],Value.agg #[Value.int .u32 (Q.c:Nat),Value.int .i64 (Q.o:Nat),Value.int .i64 (Q.i:Nat),Value.int .i64 (Q.t:Nat),Value.int .u32 (Q.n:Nat)],Value.int .u32 (mx:Nat)] (by kernel_rfl) rfl (by kernel_rfl) (by go_simp) ?_
   refine (pW P Q hPo hQo mx hmx h0 wr.drew).mono ?_
   rintro r w5 ⟨h,d,dm,g,rfl,H5⟩
   have b5:Below wr.heap.size wr w5:=(Below.drew (Below.refl wr.heap.size wr)).trans H5.out.1
   refine⟨_,rfl,HSS.out w5 b5,?_⟩
   have HS5:=HSS.out w5 b5
   have b6:=aF b5 (.cells (aA h d dm) 80)
   have k6:=aB w5 (.cells (aA h d dm) 80)
   have s6:=io w5 (.cells (aA h d dm) 80)
   refine cC (i:=18) (Value.slice (af w5.heap.size 0) 1 1) (w5.alloc (.cells (aA h d dm) 80)) (by kernel_rfl) rfl (by kernel_rfl) (by go_simp) (HSS.out _ b6) ?_
   have HS6:=HSS.out _ b6
   obtain⟨i0,hI,hz0,hz1,hz2⟩:=info_parts js
   have hcs:∀ j u,(oC h d dm)[j]?=some u→(w5.alloc (.cells (aA h d dm) 80)).cell? ((⟨w5.heap.size,0,none⟩:Addr).add j)=some u:=fun j u hu=>by
    have e:(Addr.add ⟨w5.heap.size,0,none⟩ j)=⟨w5.heap.size,j,none⟩:=by unfold Addr.add;simp;omega
    rw[e,ae _ _ j _ _ _ k6]
    simpa [oC] using hu
   have oV:(w5.alloc (.cells (aA h d dm) 80)).ownsRow 0 80 3 (.slice av i cv) i (ij i G.h G.d G.dm):=bG (l:=[]) HRC.out (Off.of_below b6) (by simp)
   obtain⟨v7,w7,hr7,o7,g7,_,p7⟩:=run_append_own_at (P:=prog) (w5.alloc (.cells (aA h d dm) 80)) 0 72 72 80 i0 (.agg aQ) 3 24 underlying72 hI hz0 hz1 hz2 rfl (by decide) (.slice av i cv) i (ij i G.h G.d G.dm) oV ⟨w5.heap.size,0,none⟩ 1 1 (oC h d dm) rfl hcs (by intro u hu;simp[oC]at hu;rcases hu with rfl | rfl | rfl <;> rfl) (by unfold maxLen;omega) (by omega) (Nat.zero_le _)
   obtain⟨aw,cw,rfl⟩:=cy o7
   have ff:∀ q j v,(Value.slice av i cv).ownBlock≠some q→(w5.alloc (.cells (aA h d dm) 80)).cell? ⟨q,j,none⟩=some v→w7.cell? ⟨q,j,none⟩=some v:=fun q j v hq hc=>(World.cell?_of_block (w:=(w5.alloc (.cells (aA h d dm) 80))) (a:=⟨q,j,none⟩) (g7.block q (World.block_lt_of_cell? (w5.alloc (.cells (aA h d dm) 80)) ⟨q,j,none⟩ hc) (fun e=>hq e.symm))).trans hc
   obtain⟨nx,m0,m1,nX⟩:=HNE.out
   have HS7:w7.cell? ⟨x,0,none⟩=some (Value.slice (af q0 o0) n v0)∧w7.cell? ⟨x,1,none⟩=some (Value.slice (af q1 o1) n v1)∧w7.cell? ⟨x,2,none⟩=some (Value.int .u32 (mx:Nat))∧w7.cell? ⟨q0,o0+i*5,none⟩=some (Value.int .u32 (P.c:Nat))∧w7.cell? ⟨q0,o0+i*5+1,none⟩=some (Value.int .i64 (P.o:Nat))∧w7.cell? ⟨q0,o0+i*5+2,none⟩=some (Value.int .i64 (P.i:Nat))∧w7.cell? ⟨q0,o0+i*5+3,none⟩=some (Value.int .i64 (P.t:Nat))∧w7.cell? ⟨q0,o0+i*5+4,none⟩=some (Value.int .u32 (P.n:Nat))∧w7.cell? ⟨q1,o1+i*5,none⟩=some (Value.int .u32 (Q.c:Nat))∧w7.cell? ⟨q1,o1+i*5+1,none⟩=some (Value.int .i64 (Q.o:Nat))∧w7.cell? ⟨q1,o1+i*5+2,none⟩=some (Value.int .i64 (Q.i:Nat))∧w7.cell? ⟨q1,o1+i*5+3,none⟩=some (Value.int .i64 (Q.t:Nat))∧w7.cell? ⟨q1,o1+i*5+4,none⟩=some (Value.int .u32 (Q.n:Nat)):=by
    obtain⟨u0,u1,u2,u3,u4,u5,u6,u7,u8,u9,u10,u11,u12⟩:=HS6
    exact⟨ff _ _ _ nx u0,ff _ _ _ nx u1,ff _ _ _ nx u2,ff _ _ _ m0 u3,ff _ _ _ m0 u4,ff _ _ _ m0 u5,ff _ _ _ m0 u6,ff _ _ _ m0 u7,ff _ _ _ m1 u8,ff _ _ _ m1 u9,ff _ _ _ m1 u10,ff _ _ _ m1 u11,ff _ _ _ m1 u12⟩
   refine cC (i:=19) (Value.slice aw (i+1) cw) w7 (by kernel_rfl) rfl (by kernel_rfl) (ki (s:=.tmp 27) (x:=.tmp 41) rfl rfl (by kernel_rfl) (by kernel_rfl) hr7) HS7 ?_
   refine aq (i:=20) (v:=ac X 0) ?_
   refine aq (i:=21) (v:=ac X 3) ?_
   have kX6:=(b6.block X (Array.getElem?_eq_some_iff.1 HXb.out).1).trans HXb.out
   have kX7:=(g7.block X (Array.getElem?_eq_some_iff.1 kX6).1 (fun e=>nX e.symm)).trans kX6
   have y3:=ae w7 X 3 _ _ _ kX7
   have yz:=frozen_of_row w7 X 3 _ _ kX7
   have o8:Off [X] w7 (w7.setCell ⟨X,3,none⟩ (.slice aw (i+1) cw)):=Off.setCell X 3 w7 _
   have k8:(w7.setCell ⟨X,3,none⟩ (.slice aw (i+1) cw)).heap[X]?=some (.cells #[.slice a0 n c0,.slice a1 n c1,.int .u32 (mx:Nat),.slice aw (i+1) cw,ac b 0,.int .i64 0,.slice none 0 0] 75 (0,0)):=Joins.block_setCell kX7 _
   obtain⟨w8,hw8⟩:∃ z,w7.setCell ⟨X,3,none⟩ (.slice aw (i+1) cw)=z:=⟨_,rfl⟩
   rw[hw8]at o8 k8
   have hS8:w8.cell? ⟨x,0,none⟩=some (Value.slice (af q0 o0) n v0)∧w8.cell? ⟨x,1,none⟩=some (Value.slice (af q1 o1) n v1)∧w8.cell? ⟨x,2,none⟩=some (Value.int .u32 (mx:Nat))∧w8.cell? ⟨q0,o0+i*5,none⟩=some (Value.int .u32 (P.c:Nat))∧w8.cell? ⟨q0,o0+i*5+1,none⟩=some (Value.int .i64 (P.o:Nat))∧w8.cell? ⟨q0,o0+i*5+2,none⟩=some (Value.int .i64 (P.i:Nat))∧w8.cell? ⟨q0,o0+i*5+3,none⟩=some (Value.int .i64 (P.t:Nat))∧w8.cell? ⟨q0,o0+i*5+4,none⟩=some (Value.int .u32 (P.n:Nat))∧w8.cell? ⟨q1,o1+i*5,none⟩=some (Value.int .u32 (Q.c:Nat))∧w8.cell? ⟨q1,o1+i*5+1,none⟩=some (Value.int .i64 (Q.o:Nat))∧w8.cell? ⟨q1,o1+i*5+2,none⟩=some (Value.int .i64 (Q.i:Nat))∧w8.cell? ⟨q1,o1+i*5+3,none⟩=some (Value.int .i64 (Q.t:Nat))∧w8.cell? ⟨q1,o1+i*5+4,none⟩=some (Value.int .u32 (Q.n:Nat)):=by
    obtain⟨u0,u1,u2,u3,u4,u5,u6,u7,u8,u9,u10,u11,u12⟩:=HS7
    obtain⟨z1,z2,z3⟩:=HXX.out
    have gg:∀ q j v,q≠X→w7.cell? ⟨q,j,none⟩=some v→w8.cell? ⟨q,j,none⟩=some v:=fun q j v hq hc=>(World.cell?_of_block (w:=w7) (a:=⟨q,j,none⟩) (o8.block q (World.block_lt_of_cell? w7 ⟨q,j,none⟩ hc) (by simpa using hq))).trans hc
    exact⟨gg _ _ _ z1 u0,gg _ _ _ z1 u1,gg _ _ _ z1 u2,gg _ _ _ z2 u3,gg _ _ _ z2 u4,gg _ _ _ z2 u5,gg _ _ _ z2 u6,gg _ _ _ z2 u7,gg _ _ _ z3 u8,gg _ _ _ z3 u9,gg _ _ _ z3 u10,gg _ _ _ z3 u11,gg _ _ _ z3 u12⟩
   refine cH (i:=22) w8 (by kernel_rfl) rfl (by kernel_rfl) (by rw[← hw8];go_simp) hS8 ?_
   refine wpAnyH_done (by kernel_rfl) ?_ _
   have HF:Hid (NgI w w8 X b x n mx PH PD (.slice a0 n c0) (.slice a1 n c1) (.cells #[.slice (af q0 o0) n v0,.slice (af q1 o1) n v1,.int .u32 (mx:Nat)] 30 (0,0)) (i+1)):=kX HNG.out HGi.out b5 H5.out HPQ.out.1 HPQ.out.2 (aF (Below.refl _ w5) _) o7 (by rw[HEv.out];exact g7) (by rw[HEv.out];exact p7) o8 k8
   clear o8 k8 b5 b6 o7 g7 p7 s6 kX6 kX7 y3 yz hw8 HS7 HS6 HS5 HT0 k6 hcs hr7 hS8 H5 ff oV nx m0 m1 nX
   go_wp2_with fail
   go_roundw
   case rel=>exact⟨i+1,by omega,by first | rfl | go_num,HF⟩
   case measure=>simp only[jt];omega
  ·refine eR 21 #[Value.agg #[Value.int .u32 (P.c:Nat),Value.int .i64 (P.o:Nat),Value.int .i64 (P.i:Nat),Value.int .i64 (P.t:Nat),Value.int .u32 (P.n:Nat)],Value.agg #[Value.int .u32 (Q.c:Nat),Value.int .i64 (Q.o:Nat),Value.int .i64 (Q.i:Nat),Value.int .i64 (Q.t:Nat),Value.int .u32 (Q.n:Nat)],Value.int .u32 (mx:Nat)] rfl (by kernel_rfl) (by go_simp) ?_
   refine (pW P Q hPo hQo mx hmx h0 wr.drew).mono ?_
   rintro r w5 ⟨h,d,dm,g,rfl,H5⟩
   have b5:Below wr.heap.size wr w5:=(Below.drew (Below.refl wr.heap.size wr)).trans H5.out.1
   refine⟨_,rfl,HSS.out w5 b5,?_⟩
   have HS5:=HSS.out w5 b5
   refine pb (i:=4) (j:=18) (by kernel_rfl) ?_ ?_
   ·have x3:(w5).cell? ⟨X,3,none⟩=some (Value.slice av i cv):=HX0.out _ (b5)
    refine cA (Value.slice av i cv) (w5) rfl (by kernel_rfl) (by go_simp) ⟨HSS.out _ (b5),?_⟩
    have b6:=aF b5 (.cells (aA h d dm) 80)
    have k6:=aB w5 (.cells (aA h d dm) 80)
    have s6:=io w5 (.cells (aA h d dm) 80)
    refine cC (i:=18) (Value.slice (af w5.heap.size 0) 1 1) (w5.alloc (.cells (aA h d dm) 80)) (by kernel_rfl) rfl (by kernel_rfl) (by go_simp) (HSS.out _ b6) ?_
    have HS6:=HSS.out _ b6
    obtain⟨i0,hI,hz0,hz1,hz2⟩:=info_parts js
    have hcs:∀ j u,(oC h d dm)[j]?=some u→(w5.alloc (.cells (aA h d dm) 80)).cell? ((⟨w5.heap.size,0,none⟩:Addr).add j)=some u:=fun j u hu=>by
     have e:(Addr.add ⟨w5.heap.size,0,none⟩ j)=⟨w5.heap.size,j,none⟩:=by unfold Addr.add;simp;omega
     rw[e,ae _ _ j _ _ _ k6]
     simpa [oC] using hu
    have oV:(w5.alloc (.cells (aA h d dm) 80)).ownsRow 0 80 3 (.slice av i cv) i (ij i G.h G.d G.dm):=bG (l:=[]) HRC.out (Off.of_below b6) (by simp)
    obtain⟨v7,w7,hr7,o7,g7,_,p7⟩:=run_append_own_at (P:=prog) (w5.alloc (.cells (aA h d dm) 80)) 0 72 72 80 i0 (.agg aQ) 3 24 underlying72 hI hz0 hz1 hz2 rfl (by decide) (.slice av i cv) i (ij i G.h G.d G.dm) oV ⟨w5.heap.size,0,none⟩ 1 1 (oC h d dm) rfl hcs (by intro u hu;simp[oC]at hu;rcases hu with rfl | rfl | rfl <;> rfl) (by unfold maxLen;omega) (by omega) (Nat.zero_le _)
    obtain⟨aw,cw,rfl⟩:=cy o7
    have ff:∀ q j v,(Value.slice av i cv).ownBlock≠some q→(w5.alloc (.cells (aA h d dm) 80)).cell? ⟨q,j,none⟩=some v→w7.cell? ⟨q,j,none⟩=some v:=fun q j v hq hc=>(World.cell?_of_block (w:=(w5.alloc (.cells (aA h d dm) 80))) (a:=⟨q,j,none⟩) (g7.block q (World.block_lt_of_cell? (w5.alloc (.cells (aA h d dm) 80)) ⟨q,j,none⟩ hc) (fun e=>hq e.symm))).trans hc
    obtain⟨nx,m0,m1,nX⟩:=HNE.out
    have HS7:w7.cell? ⟨x,0,none⟩=some (Value.slice (af q0 o0) n v0)∧w7.cell? ⟨x,1,none⟩=some (Value.slice (af q1 o1) n v1)∧w7.cell? ⟨x,2,none⟩=some (Value.int .u32 (mx:Nat))∧w7.cell? ⟨q0,o0+i*5,none⟩=some (Value.int .u32 (P.c:Nat))∧w7.cell? ⟨q0,o0+i*5+1,none⟩=some (Value.int .i64 (P.o:Nat))∧w7.cell? ⟨q0,o0+i*5+2,none⟩=some (Value.int .i64 (P.i:Nat))∧w7.cell? ⟨q0,o0+i*5+3,none⟩=some (Value.int .i64 (P.t:Nat))∧w7.cell? ⟨q0,o0+i*5+4,none⟩=some (Value.int .u32 (P.n:Nat))∧w7.cell? ⟨q1,o1+i*5,none⟩=some (Value.int .u32 (Q.c:Nat))∧w7.cell? ⟨q1,o1+i*5+1,none⟩=some (Value.int .i64 (Q.o:Nat))∧w7.cell? ⟨q1,o1+i*5+2,none⟩=some (Value.int .i64 (Q.i:Nat))∧w7.cell? ⟨q1,o1+i*5+3,none⟩=some (Value.int .i64 (Q.t:Nat))∧w7.cell? ⟨q1,o1+i*5+4,none⟩=some (Value.int .u32 (Q.n:Nat)):=by
     obtain⟨u0,u1,u2,u3,u4,u5,u6,u7,u8,u9,u10,u11,u12⟩:=HS6
     exact⟨ff _ _ _ nx u0,ff _ _ _ nx u1,ff _ _ _ nx u2,ff _ _ _ m0 u3,ff _ _ _ m0 u4,ff _ _ _ m0 u5,ff _ _ _ m0 u6,ff _ _ _ m0 u7,ff _ _ _ m1 u8,ff _ _ _ m1 u9,ff _ _ _ m1 u10,ff _ _ _ m1 u11,ff _ _ _ m1 u12⟩
    refine cC (i:=19) (Value.slice aw (i+1) cw) w7 (by kernel_rfl) rfl (by kernel_rfl) (ki (s:=.tmp 27) (x:=.tmp 41) rfl rfl (by kernel_rfl) (by kernel_rfl) hr7) HS7 ?_
    refine aq (i:=20) (v:=ac X 0) ?_
    refine aq (i:=21) (v:=ac X 3) ?_
    have kX6:=(b6.block X (Array.getElem?_eq_some_iff.1 HXb.out).1).trans HXb.out
    have kX7:=(g7.block X (Array.getElem?_eq_some_iff.1 kX6).1 (fun e=>nX e.symm)).trans kX6
    have y3:=ae w7 X 3 _ _ _ kX7
    have yz:=frozen_of_row w7 X 3 _ _ kX7
    have o8:Off [X] w7 (w7.setCell ⟨X,3,none⟩ (.slice aw (i+1) cw)):=Off.setCell X 3 w7 _
    have k8:(w7.setCell ⟨X,3,none⟩ (.slice aw (i+1) cw)).heap[X]?=some (.cells #[.slice a0 n c0,.slice a1 n c1,.int .u32 (mx:Nat),.slice aw (i+1) cw,ac b 0,.int .i64 0,.slice none 0 0] 75 (0,0)):=Joins.block_setCell kX7 _
    obtain⟨w8,hw8⟩:∃ z,w7.setCell ⟨X,3,none⟩ (.slice aw (i+1) cw)=z:=⟨_,rfl⟩
    rw[hw8]at o8 k8
    have hS8:w8.cell? ⟨x,0,none⟩=some (Value.slice (af q0 o0) n v0)∧w8.cell? ⟨x,1,none⟩=some (Value.slice (af q1 o1) n v1)∧w8.cell? ⟨x,2,none⟩=some (Value.int .u32 (mx:Nat))∧w8.cell? ⟨q0,o0+i*5,none⟩=some (Value.int .u32 (P.c:Nat))∧w8.cell? ⟨q0,o0+i*5+1,none⟩=some (Value.int .i64 (P.o:Nat))∧w8.cell? ⟨q0,o0+i*5+2,none⟩=some (Value.int .i64 (P.i:Nat))∧w8.cell? ⟨q0,o0+i*5+3,none⟩=some (Value.int .i64 (P.t:Nat))∧w8.cell? ⟨q0,o0+i*5+4,none⟩=some (Value.int .u32 (P.n:Nat))∧w8.cell? ⟨q1,o1+i*5,none⟩=some (Value.int .u32 (Q.c:Nat))∧w8.cell? ⟨q1,o1+i*5+1,none⟩=some (Value.int .i64 (Q.o:Nat))∧w8.cell? ⟨q1,o1+i*5+2,none⟩=some (Value.int .i64 (Q.i:Nat))∧w8.cell? ⟨q1,o1+i*5+3,none⟩=some (Value.int .i64 (Q.t:Nat))∧w8.cell? ⟨q1,o1+i*5+4,none⟩=some (Value.int .u32 (Q.n:Nat)):=by
     obtain⟨u0,u1,u2,u3,u4,u5,u6,u7,u8,u9,u10,u11,u12⟩:=HS7
     obtain⟨z1,z2,z3⟩:=HXX.out
     have gg:∀ q j v,q≠X→w7.cell? ⟨q,j,none⟩=some v→w8.cell? ⟨q,j,none⟩=some v:=fun q j v hq hc=>(World.cell?_of_block (w:=w7) (a:=⟨q,j,none⟩) (o8.block q (World.block_lt_of_cell? w7 ⟨q,j,none⟩ hc) (by simpa using hq))).trans hc
     exact⟨gg _ _ _ z1 u0,gg _ _ _ z1 u1,gg _ _ _ z1 u2,gg _ _ _ z2 u3,gg _ _ _ z2 u4,gg _ _ _ z2 u5,gg _ _ _ z2 u6,gg _ _ _ z2 u7,gg _ _ _ z3 u8,gg _ _ _ z3 u9,gg _ _ _ z3 u10,gg _ _ _ z3 u11,gg _ _ _ z3 u12⟩
    refine cH (i:=22) w8 (by kernel_rfl) rfl (by kernel_rfl) (by rw[← hw8];go_simp) hS8 ?_
    refine wpAnyH_done (by kernel_rfl) ?_ _
    have HF:Hid (NgI w w8 X b x n mx PH PD (.slice a0 n c0) (.slice a1 n c1) (.cells #[.slice (af q0 o0) n v0,.slice (af q1 o1) n v1,.int .u32 (mx:Nat)] 30 (0,0)) (i+1)):=kX HNG.out HGi.out b5 H5.out HPQ.out.1 HPQ.out.2 (aF (Below.refl _ w5) _) o7 (by rw[HEv.out];exact g7) (by rw[HEv.out];exact p7) o8 k8
    clear o8 k8 b5 b6 o7 g7 p7 s6 kX6 kX7 y3 yz hw8 HS7 HS6 HS5 HT0 k6 hcs hr7 hS8 H5 ff oV nx m0 m1 nX
    go_wp2_with fail
    go_roundw
    case rel=>exact⟨i+1,by omega,by first | rfl | go_num,HF⟩
    case measure=>simp only[jt];omega
   ·have b6:=aF b5 (.cells (aA h d dm) 80)
    have k6:=aB w5 (.cells (aA h d dm) 80)
    have s6:=io w5 (.cells (aA h d dm) 80)
    refine cA (Value.slice (af w5.heap.size 0) 1 1) (w5.alloc (.cells (aA h d dm) 80)) rfl (by kernel_rfl) (by go_simp) ⟨HSS.out _ b6,?_⟩
    have x3:((w5.alloc (.cells (aA h d dm) 80))).cell? ⟨X,3,none⟩=some (Value.slice av i cv):=HX0.out _ (b6)
    refine vy (i:=4) (Value.slice av i cv) (by kernel_rfl) rfl (by kernel_rfl) (by go_simp) (HSS.out _ (b6)) ?_
    have HS6:=HSS.out _ b6
    obtain⟨i0,hI,hz0,hz1,hz2⟩:=info_parts js
    have hcs:∀ j u,(oC h d dm)[j]?=some u→(w5.alloc (.cells (aA h d dm) 80)).cell? ((⟨w5.heap.size,0,none⟩:Addr).add j)=some u:=fun j u hu=>by
     have e:(Addr.add ⟨w5.heap.size,0,none⟩ j)=⟨w5.heap.size,j,none⟩:=by unfold Addr.add;simp;omega
     rw[e,ae _ _ j _ _ _ k6]
     simpa [oC] using hu
    have oV:(w5.alloc (.cells (aA h d dm) 80)).ownsRow 0 80 3 (.slice av i cv) i (ij i G.h G.d G.dm):=bG (l:=[]) HRC.out (Off.of_below b6) (by simp)
    obtain⟨v7,w7,hr7,o7,g7,_,p7⟩:=run_append_own_at (P:=prog) (w5.alloc (.cells (aA h d dm) 80)) 0 72 72 80 i0 (.agg aQ) 3 24 underlying72 hI hz0 hz1 hz2 rfl (by decide) (.slice av i cv) i (ij i G.h G.d G.dm) oV ⟨w5.heap.size,0,none⟩ 1 1 (oC h d dm) rfl hcs (by intro u hu;simp[oC]at hu;rcases hu with rfl | rfl | rfl <;> rfl) (by unfold maxLen;omega) (by omega) (Nat.zero_le _)
    obtain⟨aw,cw,rfl⟩:=cy o7
    have ff:∀ q j v,(Value.slice av i cv).ownBlock≠some q→(w5.alloc (.cells (aA h d dm) 80)).cell? ⟨q,j,none⟩=some v→w7.cell? ⟨q,j,none⟩=some v:=fun q j v hq hc=>(World.cell?_of_block (w:=(w5.alloc (.cells (aA h d dm) 80))) (a:=⟨q,j,none⟩) (g7.block q (World.block_lt_of_cell? (w5.alloc (.cells (aA h d dm) 80)) ⟨q,j,none⟩ hc) (fun e=>hq e.symm))).trans hc
    obtain⟨nx,m0,m1,nX⟩:=HNE.out
    have HS7:w7.cell? ⟨x,0,none⟩=some (Value.slice (af q0 o0) n v0)∧w7.cell? ⟨x,1,none⟩=some (Value.slice (af q1 o1) n v1)∧w7.cell? ⟨x,2,none⟩=some (Value.int .u32 (mx:Nat))∧w7.cell? ⟨q0,o0+i*5,none⟩=some (Value.int .u32 (P.c:Nat))∧w7.cell? ⟨q0,o0+i*5+1,none⟩=some (Value.int .i64 (P.o:Nat))∧w7.cell? ⟨q0,o0+i*5+2,none⟩=some (Value.int .i64 (P.i:Nat))∧w7.cell? ⟨q0,o0+i*5+3,none⟩=some (Value.int .i64 (P.t:Nat))∧w7.cell? ⟨q0,o0+i*5+4,none⟩=some (Value.int .u32 (P.n:Nat))∧w7.cell? ⟨q1,o1+i*5,none⟩=some (Value.int .u32 (Q.c:Nat))∧w7.cell? ⟨q1,o1+i*5+1,none⟩=some (Value.int .i64 (Q.o:Nat))∧w7.cell? ⟨q1,o1+i*5+2,none⟩=some (Value.int .i64 (Q.i:Nat))∧w7.cell? ⟨q1,o1+i*5+3,none⟩=some (Value.int .i64 (Q.t:Nat))∧w7.cell? ⟨q1,o1+i*5+4,none⟩=some (Value.int .u32 (Q.n:Nat)):=by
     obtain⟨u0,u1,u2,u3,u4,u5,u6,u7,u8,u9,u10,u11,u12⟩:=HS6
     exact⟨ff _ _ _ nx u0,ff _ _ _ nx u1,ff _ _ _ nx u2,ff _ _ _ m0 u3,ff _ _ _ m0 u4,ff _ _ _ m0 u5,ff _ _ _ m0 u6,ff _ _ _ m0 u7,ff _ _ _ m1 u8,ff _ _ _ m1 u9,ff _ _ _ m1 u10,ff _ _ _ m1 u11,ff _ _ _ m1 u12⟩
    refine cC (i:=19) (Value.slice aw (i+1) cw) w7 (by kernel_rfl) rfl (by kernel_rfl) (ki (s:=.tmp 27) (x:=.tmp 41) rfl rfl (by kernel_rfl) (by kernel_rfl) hr7) HS7 ?_
    refine aq (i:=20) (v:=ac X 0) ?_
    refine aq (i:=21) (v:=ac X 3) ?_
    have kX6:=(b6.block X (Array.getElem?_eq_some_iff.1 HXb.out).1).trans HXb.out
    have kX7:=(g7.block X (Array.getElem?_eq_some_iff.1 kX6).1 (fun e=>nX e.symm)).trans kX6
    have y3:=ae w7 X 3 _ _ _ kX7
    have yz:=frozen_of_row w7 X 3 _ _ kX7
    have o8:Off [X] w7 (w7.setCell ⟨X,3,none⟩ (.slice aw (i+1) cw)):=Off.setCell X 3 w7 _
    have k8:(w7.setCell ⟨X,3,none⟩ (.slice aw (i+1) cw)).heap[X]?=some (.cells #[.slice a0 n c0,.slice a1 n c1,.int .u32 (mx:Nat),.slice aw (i+1) cw,ac b 0,.int .i64 0,.slice none 0 0] 75 (0,0)):=Joins.block_setCell kX7 _
    obtain⟨w8,hw8⟩:∃ z,w7.setCell ⟨X,3,none⟩ (.slice aw (i+1) cw)=z:=⟨_,rfl⟩
    rw[hw8]at o8 k8
    have hS8:w8.cell? ⟨x,0,none⟩=some (Value.slice (af q0 o0) n v0)∧w8.cell? ⟨x,1,none⟩=some (Value.slice (af q1 o1) n v1)∧w8.cell? ⟨x,2,none⟩=some (Value.int .u32 (mx:Nat))∧w8.cell? ⟨q0,o0+i*5,none⟩=some (Value.int .u32 (P.c:Nat))∧w8.cell? ⟨q0,o0+i*5+1,none⟩=some (Value.int .i64 (P.o:Nat))∧w8.cell? ⟨q0,o0+i*5+2,none⟩=some (Value.int .i64 (P.i:Nat))∧w8.cell? ⟨q0,o0+i*5+3,none⟩=some (Value.int .i64 (P.t:Nat))∧w8.cell? ⟨q0,o0+i*5+4,none⟩=some (Value.int .u32 (P.n:Nat))∧w8.cell? ⟨q1,o1+i*5,none⟩=some (Value.int .u32 (Q.c:Nat))∧w8.cell? ⟨q1,o1+i*5+1,none⟩=some (Value.int .i64 (Q.o:Nat))∧w8.cell? ⟨q1,o1+i*5+2,none⟩=some (Value.int .i64 (Q.i:Nat))∧w8.cell? ⟨q1,o1+i*5+3,none⟩=some (Value.int .i64 (Q.t:Nat))∧w8.cell? ⟨q1,o1+i*5+4,none⟩=some (Value.int .u32 (Q.n:Nat)):=by
     obtain⟨u0,u1,u2,u3,u4,u5,u6,u7,u8,u9,u10,u11,u12⟩:=HS7
     obtain⟨z1,z2,z3⟩:=HXX.out
     have gg:∀ q j v,q≠X→w7.cell? ⟨q,j,none⟩=some v→w8.cell? ⟨q,j,none⟩=some v:=fun q j v hq hc=>(World.cell?_of_block (w:=w7) (a:=⟨q,j,none⟩) (o8.block q (World.block_lt_of_cell? w7 ⟨q,j,none⟩ hc) (by simpa using hq))).trans hc
     exact⟨gg _ _ _ z1 u0,gg _ _ _ z1 u1,gg _ _ _ z1 u2,gg _ _ _ z2 u3,gg _ _ _ z2 u4,gg _ _ _ z2 u5,gg _ _ _ z2 u6,gg _ _ _ z2 u7,gg _ _ _ z3 u8,gg _ _ _ z3 u9,gg _ _ _ z3 u10,gg _ _ _ z3 u11,gg _ _ _ z3 u12⟩
    refine cH (i:=22) w8 (by kernel_rfl) rfl (by kernel_rfl) (by rw[← hw8];go_simp) hS8 ?_
    refine wpAnyH_done (by kernel_rfl) ?_ _
    have HF:Hid (NgI w w8 X b x n mx PH PD (.slice a0 n c0) (.slice a1 n c1) (.cells #[.slice (af q0 o0) n v0,.slice (af q1 o1) n v1,.int .u32 (mx:Nat)] 30 (0,0)) (i+1)):=kX HNG.out HGi.out b5 H5.out HPQ.out.1 HPQ.out.2 (aF (Below.refl _ w5) _) o7 (by rw[HEv.out];exact g7) (by rw[HEv.out];exact p7) o8 k8
    clear o8 k8 b5 b6 o7 g7 p7 s6 kX6 kX7 y3 yz hw8 HS7 HS6 HS5 HT0 k6 hcs hr7 hS8 H5 ff oV nx m0 m1 nX
    go_wp2_with fail
    go_roundw
    case rel=>exact⟨i+1,by omega,by first | rfl | go_num,HF⟩
    case measure=>simp only[jt];omega
open Go.RowKit Go.Maps Go.Sort
def rE (i:Nat):Pm:=⟨7+i,2,1,10+i,9⟩
def j6 (i:Nat):Pq:=(rE i).q
theorem pS {w:World} {B e sz n c:Nat} {a:Option Addr} {xs:List Value} (h:w.ownsRow B e sz (.slice a n c) n xs) (h0:n≠0):n≤c:=by
 rcases h.2 with ⟨_,hn⟩ | ⟨g,cap,cur,e1,hg,hgg,h1,rest⟩
 ·exact absurd hn h0
 ·simp only[Value.slice.injEq]at e1
  obtain⟨_,_,rfl⟩:=e1
  exact h1
theorem jV (p:Pq):∀ u ∈ p.cs,u.oneCell'=true:=by
 intro u hu
 simp[Pq.cs]at hu
 rcases hu with rfl | rfl | rfl | rfl | rfl <;> rfl
theorem iX {W:World} {g:Nat} {p:Pq} (h:W.heap[g]?=some (.cells p.cs.toArray 83 (0,0))):∀ j u,p.cs[j]?=some u→W.cell? ((⟨g,0,none⟩:Addr).add j)=some u:=fun j u hu=>by
 have e:(Addr.add ⟨g,0,none⟩ j)=⟨g,j,none⟩:=by unfold Addr.add;simp;omega
 rw[e,ae W g j _ _ _ h]
 simpa using hu
theorem iV {w:World} {B e size n:Nat} {v:Value} {xs:List Value} (h:w.ownsRow B e size v (n+1) xs):∃ g cap,v=.slice (af g 0) (n+1) cap∧B≤g:=by
 rcases h.2 with ⟨_,hn⟩ | ⟨g,cap,cur,rfl,hg,hgg,rest⟩
 ·omega
 ·exact⟨g,cap,rfl,hg⟩
theorem cW {w w':World} {B e sz n:Nat} {v:Value} {xs:List Value} (h:w.ownsRow B e sz v n xs) (b:Below w.heap.size w w'):w'.ownsRow B e sz v n xs:=by
 refine⟨h.1,?_⟩
 rcases h.2 with hn | ⟨g,cap,cur,rfl,hg,hgg,rest⟩
 ·exact .inl hn
 ·exact .inr ⟨g,cap,cur,rfl,hg,(b.block g (Array.getElem?_eq_some_iff.1 hgg).1).trans hgg,rest⟩
theorem bZ {w w':World} {B e s n:Nat} {v:Value} {xs:List Value} (h:w.ownsRow B e s v n xs) (hk:∀ g,v.ownBlock=some g→w'.heap[g]?=w.heap[g]?):w'.ownsRow B e s v n xs:=by
 obtain⟨h0,h1 | ⟨g,cap,cur,rfl,hg,hgg,rest⟩⟩:=h
 ·exact⟨h0,.inl h1⟩
 ·exact⟨h0,.inr ⟨g,cap,cur,rfl,hg,(hk g rfl).trans hgg,rest⟩⟩
structure Sp (w wr:World) (i:Nat) (va:Option Addr) (vc:Nat) (ua:Option Addr) (uc:Nat):Prop where
 bel:Below w.heap.size w wr
 rb:wr.heap[w.heap.size]?=some (.cells #[.slice none 0 0,.slice none 0 0,.int .u32 0] 30 (0,0))
 xb:wr.heap[w.heap.size+1]?=some (.cells #[.slice va i vc,.slice ua i uc,.int .u32 50] 30 (0,0))
 ov:wr.ownsRow (w.heap.size+2) 83 5 (.slice va i vc) i (fW i j6)
 ou:wr.ownsRow (w.heap.size+2) 83 5 (.slice ua i uc) i (fW i j6)
 dis:∀ g,(Value.slice va i vc).ownBlock=some g→(Value.slice ua i uc).ownBlock≠some g
section
variable {P:Pm} {mx n:Nat} {s:Sd}
end
structure Uy where
 s:Nat
 n:Nat
 d:Fm
def uF (F:Fm):Uy:=⟨aC F.2 5,aC F.2 9,(F.1-19,fun i=>F.2 (15+i))⟩
def lY (l:List Uy) (s n:Nat) (b:ByteArray):Prop:=∃ u,u ∈ l∧u.s=s∧u.n=n∧BA u.d.2 u.d.1=b
end Go.Proofs.YtenilkloffnjlaaGreat
namespace Go.Proofs.YtenilkloffnjlaaGreat
open Tryz
open Go.RowKit Go.Maps Go.Sort
set_option linter.unusedVariables false
end Go.Proofs.YtenilkloffnjlaaGreat
