/- Part 21: contracts that the proof rests on. -/
import Derived.Test.YtdpahjfekoikiaaGreatPkX19
set_option maxHeartbeats 64000000
set_option maxRecDepth 100000
namespace Go.Proofs.YtdpahjfekoikiaaGreat
open Tryz
open Go.RowKit
theorem nt {mx n:Nat} {s:Ms} (hl:0≤s.l) (h:gc mx n s=0):(iy mx n s).off=false:=by
 unfold gc at h
 unfold iy
 by_cases h1:mx=0∨n<10
 ·rw[if_pos h1]at h;omega
 ·rw[if_neg h1]at h ⊢
  by_cases h2:s.off=true
  ·rw[if_pos h2]at h;omega
  ·rw[if_neg h2]at h ⊢
   rcases dN n (be s.bs) s (fun x hx=>(gn s.bs n (by omega) x hx).1) (by simpa using h2) hl with ⟨_,e,_⟩ | ⟨e,_⟩
   ·rw[e]
   ·omega
def bj (ms:Ms):Sd:=⟨ms,[],0,ly,1,0,0,0,0,fun _=>0,false⟩
theorem DX.made {w2 w3 w4:World} {m g n mx c:Nat} {P:Pm} {ms:Ms} {db vb vg ga b:Nat} (hP:Pok P) (hn:10≤n) (hx0:mx≠0) (hx:mx<4294967296) (hM:MR w2 m g n ms) (hC:CS w2 c m mx ms.bs false) (hoff:ms.off=false)
  (hm:m<c) (hg:g<c) (q:Off [] w2 w3) (hD:DG w3 (b+2) [b,b+1,b+2] []) (hb:w2.heap.size≤b) (hN:NL w3 w4 P db vb vg ga) :
  DX (w4.alloc (.cells (iw P m mx (aa c 0) (b+2) db vb (bj ms) (.slice (ac ga 0) P.i P.i)) 90)) w4.heap.size m g n mx P [w4.heap.size,m,g,c,db,vb,vg,ga,b,b+1,b+2] (bj ms)
   ⟨c,b+2,db,vb,vg,[],[b,b+1,b+2],aa c 0,.slice (ac ga 0) P.i P.i,fun k=>if k=w4.heap.size then 0 else if k=m∨k=g then 1 else if k=c then 2 else if k=db then 3 else if k=vb∨k=vg then 4 else if k=ga then 6 else 5⟩ True:=by
 obtain⟨q1,q2,q3,q4,q5,q6,q7,q8,q9,q10⟩:=hN
 have hc:=hC.lt
 have s2:=q.size
 have s3:=q4.size
 have d3:b+2<w3.heap.size:=hD.ult _ (by simp)
 have o34:Off [] w3 w4:=Off.of_below q4
 have oA:Off [] w4 (w4.alloc (.cells (iw P m mx (aa c 0) (b+2) db vb (bj ms) (.slice (ac ga 0) P.i P.i)) 90)):=Off.alloc _ _ _
 have oB:=(q.trans o34).trans oA
 refine⟨aB w4 _,hM.off oB (by simp) (by simp),fun _=>⟨rfl,hC.off oB (by simp),hoff⟩,q1.off oA (by simp),q2.off oA (by simp) (by simp) (by simp),hD.off (o34.trans oA) (by simp),an (ak q3 (Nat.zero_le _)) oA (by simp),fun i _=>(by show 0<256;omega),?_,?_,?_,?_,?_,?_,?_,?_,fun k hk=>(by simp at hk),?_,?_,hP,hn,hx0,hx⟩
 ·intro k hk
  rw[World.size_alloc]
  simp at hk
  omega
 ·exact⟨if_pos rfl,by simp⟩
 ·exact⟨by dsimp only;rw[if_neg (by omega),if_pos (.inl rfl)],by simp⟩
 ·exact⟨by dsimp only;rw[if_neg (by omega),if_pos (.inr rfl)],by simp⟩
 ·exact⟨by dsimp only;rw[if_neg (by omega),if_neg (by omega),if_pos rfl],by simp⟩
 ·exact⟨by dsimp only;rw[if_neg (by omega),if_neg (by omega),if_neg (by omega),if_pos rfl],by simp⟩
 ·exact⟨by dsimp only;rw[if_neg (by omega),if_neg (by omega),if_neg (by omega),if_neg (by omega),if_pos (.inl rfl)],by simp⟩
 ·exact⟨by dsimp only;rw[if_neg (by omega),if_neg (by omega),if_neg (by omega),if_neg (by omega),if_pos (.inr rfl)],by simp⟩
 ·intro k hk
  refine⟨?_,by simp at hk ⊢;omega⟩
  dsimp only
  simp at hk
  rw[if_neg (by omega),if_neg (by omega),if_neg (by omega),if_neg (by omega),if_neg (by omega),if_neg (by omega)]
 ·intro k hk
  cases hk
  exact⟨by dsimp only;rw[if_neg (by omega),if_neg (by omega),if_neg (by omega),if_neg (by omega),if_neg (by omega),if_pos rfl],by simp⟩
theorem qA (m g n mx:Nat) (P:Pm) (hP:Pok P) (ms:Ms) (w:World) (hM:MR w m g n ms) (hx:mx<4294967296) (ht:ms.t<9223372036854774000) :
  Calls prog 8 #[.agg #[.int .u32 (P.c:Nat),.int .i64 (P.o:Nat),.int .i64 (P.i:Nat),.int .i64 (P.t:Nat),.int .u32 (P.n:Nat)],aa m 0,.int .u32 (mx:Nat)] w fun e w'=>∃ p,e=.returned (.tuple #[.pointer p,.int .i64 (gc mx n ms)])∧Hid (Off [m,g] w w'∧MR w' m g n (iy mx n ms) ∧
   (gc mx n ms=0→∃ d U,p=ac d 0∧DV w' d m g n mx P U (bj (iy mx n ms))∧(∀ k,k ∈ U→k=m∨k=g∨w.heap.size≤k))∧(¬ gc mx n ms=0→p=none)):=by
 have hb:Below w.heap.size w (w.alloc (.cells #[.int .u32 (P.c:Nat),.int .i64 (P.o:Nat),.int .i64 (P.i:Nat),.int .i64 (P.t:Nat),.int .u32 (P.n:Nat)] 29)):=(Below.refl _ _).alloc (Nat.le_refl _) _
 have hs:(w.alloc (.cells #[.int .u32 (P.c:Nat),.int .i64 (P.o:Nat),.int .i64 (P.i:Nat),.int .i64 (P.t:Nat),.int .u32 (P.n:Nat)] 29)).heap.size=w.heap.size+1:=by simp
 have hx0:=aB w (.cells #[.int .u32 (P.c:Nat),.int .i64 (P.o:Nat),.int .i64 (P.i:Nat),.int .i64 (P.t:Nat),.int .u32 (P.n:Nat)] 29)
 have hC:=fI P.c P.o P.i P.t P.n (w.alloc (.cells #[.int .u32 (P.c:Nat),.int .i64 (P.o:Nat),.int .i64 (P.i:Nat),.int .i64 (P.t:Nat),.int .u32 (P.n:Nat)] 29)) 0 (if_pos hP.ok)
 obtain⟨E,hE⟩:∃ x,gc mx n ms=x:=⟨_,rfl⟩
 rw[hE]
 have hO:∀ wx,MR wx m g n ms→Calls prog 26 #[aa m 0,.int .u32 (mx:Nat)] wx fun e w'=>∃ p,e=.returned (.tuple #[.pointer p,.int .i64 E])∧Hid (Off [m,g] wx w'∧MR w' m g n (iy mx n ms) ∧
   (E=0→∃ c,p=ac c 0∧wx.heap.size≤c∧CS w' c m mx (iy mx n ms).bs false)∧(¬ E=0→p=none)):=by
  intro wx hMx
  subst hE
  exact uN m g n mx ms wx hMx ht
 have HO:Hid (_):=hO
 have HH:Hid (_):=And.intro hb (And.intro hs (And.intro hx0 (And.intro hM (And.intro hE (And.intro hP hx)))))
 clear hO hb hs hx0 hM hE hP hx ht
 go_enter func8,ntmps8
 go_wp2_with (first | (go_at_call 25;refine hC.mono ?_;rintro e w1 ⟨rfl,b1⟩))
 obtain⟨hb,hs,hx0,hM,_⟩:=HH.out
 have bb:=hb.trans (b1.mono hb.size)
 refine (HO.out w1 (hM.off (Off.of_below (l:=[]) bb) (by simp) (by simp))).mono ?_
 rintro e w2 ⟨p,rfl,h2⟩
 have e2:w2.heap[w.heap.size]?=some (.cells #[.int .u32 (P.c:Nat),.int .i64 (P.o:Nat),.int .i64 (P.i:Nat),.int .i64 (P.t:Nat),.int .u32 (P.n:Nat)] 29 (0,0)):=by
  have l1:=hM.lt
  have l2:=hM.lg
  have l3:=b1.size
  rw[h2.out.1.block w.heap.size (by omega) (by simp;omega),b1.block _ (by omega)]
  exact hx0
 have H2:Hid (_):=And.intro bb (And.intro h2.out (And.intro HH.out (by have:=b1.size;omega:w.heap.size<w1.heap.size)))
 by_cases he:E=0
 ·have e0:(E != 0)=false:=by simp[he]
  obtain⟨c,rfl,hc,hC2⟩:=h2.out.2.2.1 he
  have HE:Hid (_):=And.intro he (And.intro hc hC2)
  have HS:w2.drew.cell? ⟨w.heap.size,0,none⟩=some (.int .u32 (P.c:Nat))∧w2.drew.cell? ⟨w.heap.size,1,none⟩=some (.int .i64 (P.o:Nat))∧w2.drew.cell? ⟨w.heap.size,2,none⟩=some (.int .i64 (P.i:Nat))∧w2.drew.cell? ⟨w.heap.size,3,none⟩=some (.int .i64 (P.t:Nat))∧w2.drew.cell? ⟨w.heap.size,4,none⟩=some (.int .u32 (P.n:Nat)):=
   ⟨ab w2 _ 0 _ _ _ e2,ab w2 _ 1 _ _ _ e2,ab w2 _ 2 _ _ _ e2,ab w2 _ 3 _ _ _ e2,ab w2 _ 4 _ _ _ e2⟩
  have hN:=ke w2.drew
  clear hC b1 hb hs hx0 hM bb h2 e2 he hc hC2 HO
  go_wp2_with fail
  go_region_held3 (fun w'=>w'.cell? ⟨w.heap.size,0,none⟩=some (.int .u32 (P.c:Nat))∧w'.cell? ⟨w.heap.size,1,none⟩=some (.int .i64 (P.o:Nat))∧w'.cell? ⟨w.heap.size,2,none⟩=some (.int .i64 (P.i:Nat))∧w'.cell? ⟨w.heap.size,3,none⟩=some (.int .i64 (P.t:Nat))∧w'.cell? ⟨w.heap.size,4,none⟩=some (.int .u32 (P.n:Nat))) (first | with_reducible assumption | exact⟨(belA _).cell hwl |>.trans HU.1,(belA _).cell hwl |>.trans HU.2.1,(belA _).cell hwl |>.trans HU.2.2.1,(belA _).cell hwl |>.trans HU.2.2.2.1,(belA _).cell hwl |>.trans HU.2.2.2.2⟩) (first
   | (go_at_call 27;refine hN.mono ?_;rintro e w3 ⟨rfl,h3⟩;have hL:=fV P H2.out.2.2.1.2.2.2.2.2.1 w3;have hl3:w.heap.size<w2.drew.heap.size:=(Nat.lt_of_lt_of_le H2.out.2.2.2 H2.out.2.1.1.size);have HT:w3.cell? ⟨w.heap.size,0,none⟩=some (.int .u32 (P.c:Nat))∧w3.cell? ⟨w.heap.size,1,none⟩=some (.int .i64 (P.o:Nat))∧w3.cell? ⟨w.heap.size,2,none⟩=some (.int .i64 (P.i:Nat))∧w3.cell? ⟨w.heap.size,3,none⟩=some (.int .i64 (P.t:Nat))∧w3.cell? ⟨w.heap.size,4,none⟩=some (.int .u32 (P.n:Nat)):=⟨(h3.out.1.cell hl3).trans HS.1,(h3.out.1.cell hl3).trans HS.2.1,(h3.out.1.cell hl3).trans HS.2.2.1,(h3.out.1.cell hl3).trans HS.2.2.2.1,(h3.out.1.cell hl3).trans HS.2.2.2.2⟩;have hl4:w.heap.size<w3.heap.size:=(Nat.lt_of_lt_of_le hl3 h3.out.1.size);clear hN)
   | (go_at_call 28;refine hL.mono ?_;rintro e w4 ⟨db,vb,vg,ga,rfl,h4⟩;have HU:w4.cell? ⟨w.heap.size,0,none⟩=some (.int .u32 (P.c:Nat))∧w4.cell? ⟨w.heap.size,1,none⟩=some (.int .i64 (P.o:Nat))∧w4.cell? ⟨w.heap.size,2,none⟩=some (.int .i64 (P.i:Nat))∧w4.cell? ⟨w.heap.size,3,none⟩=some (.int .i64 (P.t:Nat))∧w4.cell? ⟨w.heap.size,4,none⟩=some (.int .u32 (P.n:Nat)):=⟨(h4.out.bel.cell hl4).trans HT.1,(h4.out.bel.cell hl4).trans HT.2.1,(h4.out.bel.cell hl4).trans HT.2.2.1,(h4.out.bel.cell hl4).trans HT.2.2.2.1,(h4.out.bel.cell hl4).trans HT.2.2.2.2⟩;have hwl:w.heap.size<w4.heap.size:=(Nat.lt_of_lt_of_le hl4 h4.out.bel.size);have belA:∀ o,Below w4.heap.size w4 (w4.alloc o):=(fun o=>(Below.refl _ _).alloc (Nat.le_refl _) o);clear hL))
  all_goals
   go_wp2_with fail
   go_ret2
   obtain⟨bb,⟨o2,m2,_,_⟩,⟨_,hs,_,hM,hE,hP,hx⟩,hw1⟩:=H2.out
   obtain⟨he,hc,hC2⟩:=HE.out
   subst he
   obtain⟨mx0,n10,_⟩:=t4 m g n mx ms w hM hE
   have l1:=hM.lt
   have l2:=hM.lg
   have hoff:=nt hM.l0 hE
   have q3:Off [] w2.drew w3:=Off.of_below h3.out.1
   have X:=DX.made hP n10 mx0 hx (m2.off (Off.drew [] w2) (by simp) (by simp)) (hC2.off (Off.drew [] w2) (by simp)) hoff (by omega) (by omega) q3 h3.out.2.2 (Nat.le_refl _) h4.out
   have hcl:=hC2.lt
   have s3:=q3.size
   have s2:w2.drew.heap.size=w2.heap.size:=rfl
   have k1:=h4.out.h1
   have k2:=h4.out.h2
   have k3:=h4.out.h3
   have k4:=h4.out.h4
   have k6:=h4.out.h6
   have k7:=o2.size
   refine⟨_,rfl,?_,?_,fun _=>⟨w4.heap.size,_,rfl,⟨_,{ X with cel:=fun _=>X.cel trivial }⟩,?_⟩,fun h=>absurd rfl h⟩
   ·exact ((Off.of_below bb).trans o2).trans ((((Off.drew _ w2).trans (q3.more (by simp))).trans (Off.of_below h4.out.bel)).trans (Off.alloc _ _ _))
   ·exact X.mem
   ·intro k hk
    simp at hk
    omega
 ·have e0:(E != 0)=true:=by simp[he]
  obtain rfl:=h2.out.2.2.2 he
  have HE:Hid (_):=he
  clear he hC b1 hb hs hx0 hM bb h2 e2
  go_wp2_with fail
  go_ret2
  obtain⟨bb,⟨o2,m2,_,_⟩,hh,_⟩:=H2.out
  exact⟨none,rfl,(Off.of_below bb).trans o2,m2,fun h=>absurd h HE.out,fun _=>rfl⟩
end Go.Proofs.YtdpahjfekoikiaaGreat
