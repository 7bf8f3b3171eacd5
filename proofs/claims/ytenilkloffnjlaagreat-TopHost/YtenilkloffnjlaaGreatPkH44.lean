/- Part 45: contracts that the proof rests on. -/
import Derived.Test.YtenilkloffnjlaaGreatPkH43
set_option maxHeartbeats 64000000
set_option maxRecDepth 100000
namespace Go.Proofs.YtenilkloffnjlaaGreat
open Tryz
open Go.RowKit Go.Maps
set_option linter.unusedVariables false
def it (P:Nat→Pq) (l:Nat):Bool:=(List.range l).any fun i=>jQ P i (P i).c
theorem tt (P:Nat→Pq) (l:Nat):it P (l+1)=(it P l || jQ P l (P l).c):=by
 unfold it
 rw[List.range_succ,List.any_append]
 simp
theorem mE (a:Option Addr) (len cap:Nat) (P:Nat→Pq) (w:World) (hr:PqRow w a len P) (hlen:len≤1000000) (hcap:len≤cap):Calls prog 40 #[.slice a len cap] w fun r w'=>r=.returned (.bool (it P len))∧Hid (Below w.heap.size w w'):=by
 have HW:Hid (PqRow w a len P):=hr
 clear hr
 go_enter func40,ntmps40
 go_wp2_with fail
 go_loopw [2,3,4,5,8,9,10,11,12,13,14,15,16,17,18,19] (fun _ _ _ _ c0 _ _ _ _ _ _ _ _ _ _ _ wr=>∃ i:Nat,i≤len∧c0=.int .i64 ((i:Nat):Int)∧Hid (it P i=false∧Below w.heap.size w wr)) (fun _ _ _ _ c0 _ _ _ _ _ _ _ _ _ _ _ _=>len-jt c0)
 case atStart=>exact⟨0,by omega,rfl,rfl,Below.refl _ _⟩
 case round=>
  obtain⟨i,hi,rfl,HI⟩:=hrel
  by_cases hlt:i<len
  rotate_left
  ·obtain rfl:i=len:=by omega
   have hlt':¬ ((i:Nat):Int) < ((i:Nat):Int):=by omega
   go_wp2_with fail
   go_ret
   exact⟨by rw[HI.out.1] <;> rfl,HI.out.2⟩
  have hlt':((i:Nat):Int) < ((len:Nat):Int):=by omega
  have hic:((i:Nat):Int) ≤ ((cap:Nat):Int):=by omega
  have hR:=PqRow.below HW.out HI.out.2
  obtain⟨q,off,ea,cc⟩:=hR i hlt
  subst ea
  obtain⟨p,hP⟩:∃ y,P i=y:=⟨_,rfl⟩
  rw[hP]at cc
  have c0:wr.cell? ⟨q,off+i*5,none⟩=some (.int .u32 (p.c:Nat)):=cc 0 _ rfl
  have c1:wr.cell? ⟨q,off+i*5+1,none⟩=some (.int .i64 p.o):=cc 1 _ rfl
  have c2:wr.cell? ⟨q,off+i*5+2,none⟩=some (.int .i64 p.i):=cc 2 _ rfl
  have c3:wr.cell? ⟨q,off+i*5+3,none⟩=some (.int .i64 p.t):=cc 3 _ rfl
  have c4:wr.cell? ⟨q,off+i*5+4,none⟩=some (.int .u32 (p.n:Nat)):=cc 4 _ rfl
  have bA:=aF (Below.refl _ wr) (.cells #[.int .u32 (p.c:Nat),.int .i64 p.o,.int .i64 p.i,.int .i64 p.t,.int .u32 (p.n:Nat)] 83)
  have kA:=aB wr (.cells #[.int .u32 (p.c:Nat),.int .i64 p.o,.int .i64 p.i,.int .i64 p.t,.int .u32 (p.n:Nat)] 83)
  have hC:=rC (af q off) i cap P wr.heap.size p.c (wr.alloc (.cells #[.int .u32 (p.c:Nat),.int .i64 p.o,.int .i64 p.i,.int .i64 p.t,.int .u32 (p.n:Nat)] 83)) (fun j hj=>(hR.below bA) j (by omega)) (ae _ _ 0 _ _ _ kA) (by omega)
  have HP:Hid (_):=hP
  have HB:Hid (_):=HI.out.2.trans (bA.mono HI.out.2.size)
  clear cc hP bA kA hR
  cases hq:jQ P i p.c with
  | true=>
   rw[hq]at hC
   have HN:Hid (it P len=true):=List.any_eq_true.2 ⟨i,List.mem_range.2 hlt,by rw[HP.out];exact hq⟩
   clear hq
   go_wp2_with fail
   refine hC.mono ?_
   rintro r w3 ⟨rfl,H3⟩
   clear hC
   go_wp2_with fail
   go_ret
   exact⟨by rw[HN.out] <;> rfl,HB.out.trans (H3.out.mono HB.out.size)⟩
  | false=>
   rw[hq]at hC
   have HN:Hid (it P (i+1)=false):=by
    show it P (i+1)=false
    rw[tt,HI.out.1,HP.out,hq]
    rfl
   clear hq
   go_wp2_with fail
   refine hC.mono ?_
   rintro r w3 ⟨rfl,H3⟩
   clear hC
   go_wp2_with fail
   go_roundw
   case rel=>exact⟨i+1,by omega,by first | rfl | go_num,HN.out,HB.out.trans (H3.out.mono HB.out.size)⟩
   case measure=>simp only[jt];omega
def fW (n:Nat) (P:Nat→Pq):List Value:=(List.range n).flatMap fun i=>(P i).cs
theorem dx (n:Nat) (P:Nat→Pq):fW (n+1) P=fW n P ++ (P n).cs:=by
 unfold fW
 rw[List.range_succ,List.flatMap_append]
 simp
theorem fX (n:Nat) (P:Nat→Pq):(fW n P).length=n*5:=by
 induction n with
 | zero=>rfl
 | succ n ih=>
  rw[dx,List.length_append,ih]
  have:(P n).cs.length=5:=rfl
  omega
theorem nD (n:Nat) (P:Nat→Pq):∀ u ∈ fW n P,u.oneCell'=true:=by
 intro u hu
 unfold fW at hu
 obtain⟨i,_,hi⟩:=List.mem_flatMap.1 hu
 simp[Pq.cs]at hi
 rcases hi with rfl | rfl | rfl | rfl | rfl <;> rfl
theorem sC (n:Nat) (P:Nat→Pq) (i j:Nat) (hi:i<n) (hj:j<5):(fW n P)[i*5+j]?=(P i).cs[j]?:=by
 induction n with
 | zero=>omega
 | succ n ih=>
  rw[dx]
  by_cases h:i<n
  ·rw[List.getElem?_append_left (by rw[fX];omega)]
   exact ih h
  ·obtain rfl:i=n:=by omega
   rw[List.getElem?_append_right (by rw[fX];omega),fX]
   congr 1
   omega
theorem yt (n k:Nat) (P Q:Nat→Pq):fW (n+k) (fun i=>if i<n then P i else Q (i-n))=fW n P ++ fW k Q:=by
 induction k with
 | zero=>
  have e:∀ m,m≤n→fW m (fun i=>if i<n then P i else Q (i-n))=fW m P:=by
   intro m hm
   induction m with
   | zero=>rfl
   | succ m ih=>
    rw[dx,dx,ih (by omega),if_pos (by omega)]
  have:fW 0 Q=[]:=rfl
  rw[this,List.append_nil]
  exact e n (Nat.le_refl _)
 | succ k ih=>
  rw[show n + (k+1)=(n+k)+1 by omega,dx,ih,dx,List.append_assoc,if_neg (by omega),show n+k-n=k by omega]
theorem PqRow.src {w:World} {q off n:Nat} {P:Nat→Pq} (h:PqRow w (af q off) n P):∀ j u,(fW n P)[j]?=some u→w.cell? ((⟨q,off,none⟩:Addr).add j)=some u:=fun j u hu=>by
 have hj:j<n*5:=by
  have:=(List.getElem?_eq_some_iff.1 hu).1
  rw[fX]at this
  exact this
 have e:(Addr.add ⟨q,off,none⟩ j)=⟨q,off+j,none⟩:=Addr.add_mid q off j
 obtain⟨q',off',e1,c⟩:=h (j / 5) (by omega)
 injection e1 with e1
 injection e1 with e2 e3
 subst e2 e3
 have g:=sC n P (j / 5) (j % 5) (by omega) (by omega)
 rw[show j / 5*5+j % 5=j by omega,hu]at g
 have:=c (j % 5) u g.symm
 rw[show off+j / 5*5+j % 5=off+j by omega]at this
 rw[e]
 exact this
theorem PqRow.ofOwn {w:World} {B n c:Nat} {a:Option Addr} {P:Nat→Pq} (h:w.ownsRow B 83 5 (.slice a n c) n (fW n P)):PqRow w a n P:=fun i hi=>by
 obtain⟨g,rfl,_⟩:=jv h (by omega)
 refine⟨g,0,rfl,fun j u hu=>?_⟩
 have hj:j<5:=by
  have:=(List.getElem?_eq_some_iff.1 hu).1
  exact this
 have:=ju h (i*5+j) u (by rw[sC n P i j hi hj];exact hu)
 rw[Nat.zero_add]
 exact this
theorem aa3 (N:Nat) (h0:0<N) (hN:N≤1000000) (w:World):Calls prog 70 #[.slice none 0 0,.int .i64 (N:Nat)] w fun r w'=>∃ a c,r=.returned (.slice a 0 c)∧Hid (w'.ownsRow w.heap.size 83 5 (.slice a 0 c) 0 []∧Below w.heap.size w w'):=by
 obtain⟨i0,hI,hz0,hz1,hz2⟩:=info_parts fG
 have hold:(Builtin.firstCells i0.size 0 (.slice none 0 0)).run prog w.drew=.ok ([]:List Value).toArray w.drew:=run_firstCells_none _ _ _ _ _
 have hnc:Builtin.nextslicecap N 0*40≤281474976710656:=by
  unfold Builtin.nextslicecap
  rw[if_pos (by omega)]
  omega
 have hrz:∀ ty,(Builtin.append_ #[27,3] ty #[.slice none 0 0,.int .i64 (N:Nat)]).run prog w=_:=fun ty=>Lib.run_append_grow_zeros (P:=prog) w 27 3 ty 83 i0 _ .i64 .i64 underlying27 underlying3 hI hz0 none 0 0 [] hold N h0 (by rw[hz1];omega) (by omega) (by omega) (by rw[hz2];omega) (by rw[hz2,Nat.zero_add];exact hnc)
 have hGn:N≤grownCap w N 0 83:=grownCap_ge w _ _ _
 have hGm:grownCap w N 0 83≤maxLen:=grownCap_le_maxLen w N 0 _ (by unfold maxLen;omega)
 obtain⟨G,hG⟩:∃ G,grownCap w N 0 83=G:=⟨_,rfl⟩
 simp only[Nat.zero_add]at hrz
 rw[hG]at hrz hGn hGm
 have hb:Below w.heap.size w w.drew:=Below.drew (Below.refl _ _)
 have hs2:(([]:List Value).toArray ++ Builtin.zeroCells (Value.agg #[.int .u32 0,.int .i64 0,.int .i64 0,.int .i64 0,.int .u32 0]).cells N ++ Builtin.zeroCells (Value.agg #[.int .u32 0,.int .i64 0,.int .i64 0,.int .i64 0,.int .u32 0]).cells (G-N)).size=G*5:=by
  simp[Builtin.zeroCells,Value.cells]
  omega
 obtain⟨ZZ,hZZ⟩:∃ z,([]:List Value).toArray ++ Builtin.zeroCells (Value.agg #[.int .u32 0,.int .i64 0,.int .i64 0,.int .i64 0,.int .u32 0]).cells N ++ Builtin.zeroCells (Value.agg #[.int .u32 0,.int .i64 0,.int .i64 0,.int .i64 0,.int .u32 0]).cells (G-N)=z:=⟨_,rfl⟩
 rw[hZZ]at hrz hs2
 have hG63:G≤9223372036854775807:=by unfold maxLen at hGm;omega
 have ho:(w.drew.alloc (.cells ZZ 83)).ownsRow w.heap.size 83 5 (.slice (af w.drew.heap.size 0) 0 G) 0 []:=World.ownsRow_made w.drew ZZ G (Nat.le_refl _) hGm hs2
 have HF:Hid (_):=And.intro ho (aF hb (.cells ZZ 83))
 have h1:¬ (((N:Nat):Int)<0):=by omega
 have h2:((N:Nat):Int) > 0:=by omega
 clear hold hG hb hs2 hZZ ho hGm
 go_enter func70,ntmps70
 go_wp2_with (at_builtin;refine Lib.wpList_append_run _ rfl _ _ _ _ rfl _ _ rfl rfl _ _ (hrz _) ?_)
 go_ret
 exact⟨_,_,rfl,HF.out⟩
theorem sI (q off n c:Nat) (P:Nat→Pq) (w:World) (h:PqRow w (af q off) n P) (hn:n≤1000000):Calls prog 41 #[.slice (af q off) n c] w fun r w'=>∃ a' c',r=.returned (.slice a' n c')∧Hid (w'.ownsRow w.heap.size 83 5 (.slice a' n c') n (fW n P)∧Below w.heap.size w w'):=by
 have hnn:∀ w,(binOp .eql 27 (.slice (af q off) n c) (.slice none 0 0)).run prog w=.ok (.bool false) w:=fun _=>rfl
 obtain⟨i0,hI,hz0,hz1,hz2⟩:=info_parts fG
 have bA:=aF (Below.refl _ w) (.cells #[] 83)
 have oA:(w.alloc (.cells #[] 83)).ownsRow w.heap.size 83 5 (.slice (af w.heap.size 0) 0 0) 0 []:=World.ownsRow_made w #[] 0 (Nat.le_refl _) (Nat.zero_le _) rfl
 have sA:=(h.below bA).src
 have HB:Hid (_):=bA
 have zA:w.heap.size ≤ (w.alloc (.cells #[] 83)).heap.size:=bA.size
 clear h bA
 go_enter func41,ntmps41
 go_wp2_with (at_builtin;refine wpList_append_own_at _ rfl _ _ 27 rfl w.heap.size 83 i0 (.agg #[.int .u32 0,.int .i64 0,.int .i64 0,.int .i64 0,.int .u32 0]) 5 40 underlying27 hI hz0 hz1 hz2 rfl (by decide) (.slice (af w.heap.size 0) 0 0) 0 [] rfl oA ⟨q,off,none⟩ n c (fW n P) rfl (fX _ _) sA (nD _ _) (by unfold maxLen;omega) (by omega) zA ?_)
 intro v' w' o' g' _ _
 obtain⟨a',c',rfl⟩:=cy o'
 have HF:Hid (_):=And.intro o' (HB.out.grown g' HB.out.size (fun k hk=>(oA.lt k hk).1))
 clear o' g' oA sA zA hnn
 go_wp2_with fail
 go_ret
 exact⟨_,_,rfl,HF.out.1,HF.out.2⟩
theorem ww (P Q:Nat→Pq) (s q0 o0 n0 c0 q1 o1 n1 c1:Nat) (w:World) (hs:w.heap[s]?=some (.cells #[.slice (af q0 o0) n0 c0,.slice (af q1 o1) n1 c1] 27 (0,0))) (h0:PqRow w (af q0 o0) n0 P) (h1:PqRow w (af q1 o1) n1 Q) (l0:0<n0) (b0:n0≤1000) (b1:n1≤1000):Calls prog 38 #[.slice (af s 0) 2 2] w fun r w'=>∃ a c,r=.returned (.slice a (n0+n1) c)∧Hid (PqRow w' a (n0+n1) (fun i=>if i<n0 then P i else Q (i-n0))∧n0+n1≤c∧Below w.heap.size w w'):=by
 obtain⟨i0,hI,hz0,hz1,hz2⟩:=info_parts fG
 have e0:=ae w s 0 _ _ _ hs
 have e1:=ae w s 1 _ _ _ hs
 have hG:=aa3 (n0+n1) (by omega) (by omega) w
 rw[Int.natCast_add]at hG
 have ls:=(Array.getElem?_eq_some_iff.1 hs).1
 have H0:Hid (_):=ls
 have Hs:Hid (_):=hs
 have Hp:Hid (_):=h0
 have Hq:Hid (_):=h1
 have f0:¬ (((n0:Nat):Int)<0):=by omega
 have f1:¬ (((n0:Nat):Int) + ((n1:Nat):Int)<0):=by omega
 clear hs h0 h1 ls
 go_enter func38,ntmps38
 go_wp2_with fail
 refine wp_loop_rounds 3 ?_
 rw[rounds_succ]
 go_wp2_with fail
 rw[rounds_succ]
 go_wp2_with fail
 rw[rounds_succ]
 go_wp2_with fail
 refine hG.mono ?_
 rintro r w1 ⟨a,c,rfl,H1⟩
 have oA:=H1.out.1
 have bb1:=H1.out.2
 have d0:=ae w1 s 0 _ _ _ ((bb1.block s H0.out).trans Hs.out)
 have d1:=ae w1 s 1 _ _ _ ((bb1.block s H0.out).trans Hs.out)
 have sA:=(PqRow.below Hp.out bb1).src
 have zA:w.heap.size≤w1.heap.size:=bb1.size
 have HB1:Hid (_):=bb1
 clear bb1 hG e0 e1
 go_wp2_with fail
 refine wp_loop_rounds 3 ?_
 rw[rounds_succ]
 go_wp2_with (at_builtin;refine wpList_append_own_at _ rfl _ _ 27 rfl w.heap.size 83 i0 (.agg #[.int .u32 0,.int .i64 0,.int .i64 0,.int .i64 0,.int .u32 0]) 5 40 underlying27 hI hz0 hz1 hz2 rfl (by decide) (.slice a 0 c) 0 [] rfl oA ⟨q0,o0,none⟩ n0 c0 (fW n0 P) rfl (fX _ _) sA (nD _ _) (by unfold maxLen;omega) (by omega) zA ?_)
 intro v2 w2 o2 g2 _ _
 obtain⟨a2,c2,rfl⟩:=cy o2
 have bb2:=HB1.out.grown g2 zA (fun k hk=>(oA.lt k hk).1)
 have k0:=ae w2 s 0 _ _ _ ((bb2.block s H0.out).trans Hs.out)
 have k1:=ae w2 s 1 _ _ _ ((bb2.block s H0.out).trans Hs.out)
 have sB:=(PqRow.below Hq.out bb2).src
 have zB:w.heap.size≤w2.heap.size:=bb2.size
 have HB2:Hid (_):=bb2
 clear oA sA zA d0 d1 bb2 g2
 go_wp2_with fail
 rw[rounds_succ]
 go_wp2_with (at_builtin;refine wpList_append_own_at _ rfl _ _ 27 rfl w.heap.size 83 i0 (.agg #[.int .u32 0,.int .i64 0,.int .i64 0,.int .i64 0,.int .u32 0]) 5 40 underlying27 hI hz0 hz1 hz2 rfl (by decide) (.slice a2 n0 c2) n0 (fW n0 P) rfl o2 ⟨q1,o1,none⟩ n1 c1 (fW n1 Q) rfl (fX _ _) sB (nD _ _) (by unfold maxLen;omega) (by omega) zB ?_)
 intro v3 w3 o3 g3 _ _
 obtain⟨a3,c3,rfl⟩:=cy o3
 have HF:Hid (_):=And.intro o3 (HB2.out.grown g3 zB (fun k hk=>(o2.lt k hk).1))
 have m1:=ae w3 s 1 _ _ _ ((HF.out.2.block s H0.out).trans Hs.out)
 clear o2 o3 sB zB k0 k1 g3
 go_wp2_with fail
 rw[rounds_succ]
 go_wp2_with fail
 go_ret
 have h3:=HF.out.1
 rw[← yt]at h3
 refine⟨_,_,rfl,PqRow.ofOwn h3,?_,HF.out.2⟩
 rcases h3.2 with ⟨e,e2⟩ | ⟨g,cap,cur,e,_,_,hle,_⟩
 ·omega
 ·injection e with _ _ e3
  omega
def Pq.law (p:Pq):Prop:=tW p.c p.o p.i p.t p.n
instance (p:Pq):Decidable p.law:=inferInstanceAs (Decidable (tW p.c p.o p.i p.t p.n))
def oL (P:Nat→Pq) (n:Nat):Bool:=(List.range n).all fun i=>decide (P i).law
theorem te (P:Nat→Pq) (n:Nat):oL P (n+1)=(oL P n && decide (P n).law):=by
 unfold oL
 rw[List.range_succ,List.all_append]
 simp
def ckE (n0 n1 mx:Nat) (P Q:Nat→Pq):Int:=if n0<1∨8<n0∨n1≠n0∨mx<1 then 2 else if oL (fun i=>if i<n0 then P i else Q (i-n0)) (n0+n1)=false then 90 else if (it P n0 || it Q n1)=true then 160 else 0
theorem yQ (P Q:Nat→Pq) (a0 a1:Option Addr) (n0 c0 n1 c1 mx:Nat) (w:World) (h0:PqRow w a0 n0 P) (h1:PqRow w a1 n1 Q) (u0:n0≤c0) (u1:n1≤c1) (b0:n0≤1000000) (b1:n1≤1000000):Calls prog 18 #[.agg #[.slice a0 n0 c0,.slice a1 n1 c1,.int .u32 (mx:Nat)]] w fun r w'=>r=.returned (.int .i64 (ckE n0 n1 mx P Q))∧Hid (Below w.heap.size w w'):=by
 have kA:=aB w (.cells #[.slice a0 n0 c0,.slice a1 n1 c1,.int .u32 (mx:Nat)] 30)
 have bA:=aF (Below.refl _ w) (.cells #[.slice a0 n0 c0,.slice a1 n1 c1,.int .u32 (mx:Nat)] 30)
 obtain⟨wa,hwa⟩:∃ y,w.alloc (.cells #[.slice a0 n0 c0,.slice a1 n1 c1,.int .u32 (mx:Nat)] 30)=y:=⟨_,rfl⟩
 rw[hwa]at kA bA
 have r0:=h0.below bA
 have r1:=h1.below bA
 obtain⟨x,hx⟩:∃ y,w.heap.size=y:=⟨_,rfl⟩
 have HB:Hid (Below w.heap.size w wa):=bA
 rw[hx]at kA
 have y0:wa.cell? ⟨x,0,none⟩=some (.slice a0 n0 c0):=ae wa x 0 _ _ _ kA
 have y1:wa.cell? ⟨x,1,none⟩=some (.slice a1 n1 c1):=ae wa x 1 _ _ _ kA
 have y2:wa.cell? ⟨x,2,none⟩=some (.int .u32 (mx:Nat)):=ae wa x 2 _ _ _ kA
 have HK:Hid (_):=kA
 have HR:Hid (_):=And.intro r0 r1
 have HE:Hid (_=wa):=hwa
 have HS:Hid (w.heap.size=x):=hx
 clear kA bA hwa hx r0 r1 h0 h1
 unfold ckE
 by_cases g1:n0<1
 ·rw[if_pos (.inl g1)]
  have g1':((n0:Nat):Int)<1:=by omega
  go_enter func18,ntmps18
  go_upto_region 1 with fail
  rw[HE.out,HS.out]
  go_wp2_with fail
  go_ret
  exact⟨rfl,HB.out⟩
 by_cases g2:8<n0
 ·rw[if_pos (.inr (.inl g2))]
  have g1':¬ (((n0:Nat):Int)<1):=by omega
  have g2':((n0:Nat):Int) > 8:=by omega
  go_enter func18,ntmps18
  go_upto_region 1 with fail
  rw[HE.out,HS.out]
  go_wp2_with fail
  go_ret
  exact⟨rfl,HB.out⟩
 have g1':¬ (((n0:Nat):Int)<1):=by omega
 have g2':¬ (((n0:Nat):Int) > 8):=by omega
 by_cases g3:n1=n0
 rotate_left
 ·rw[if_pos (.inr (.inr (.inl g3)))]
  have g3':(((n1:Nat):Int) != ((n0:Nat):Int))=true:=by simp;omega
  go_enter func18,ntmps18
  go_upto_region 1 with fail
  rw[HE.out,HS.out]
  go_wp2_with fail
  go_ret
  exact⟨rfl,HB.out⟩
 subst g3
 have g3':(((n1:Nat):Int) != ((n1:Nat):Int))=false:=by simp
 by_cases g4:mx<1
 ·rw[if_pos (.inr (.inr (.inr g4)))]
  have g4':((mx:Nat):Int)<1:=by omega
  go_enter func18,ntmps18
  go_upto_region 1 with fail
  rw[HE.out,HS.out]
  go_wp2_with fail
  go_ret
  exact⟨rfl,HB.out⟩
 have g4':¬ (((mx:Nat):Int)<1):=by omega
 rw[if_neg (by omega:¬ (n1<1∨8<n1∨n1≠n1∨mx<1))]
 obtain⟨q0,o0,ea0,_⟩:=HR.out.1 0 (by omega)
 obtain⟨q1,o1,ea1,_⟩:=HR.out.2 0 (by omega)
 subst ea0 ea1
 have bB:=aF (Below.refl _ wa) (.cells #[.slice (af q0 o0) n1 c0,.slice (af q1 o1) n1 c1] 27)
 have kB:=aB wa (.cells #[.slice (af q0 o0) n1 c0,.slice (af q1 o1) n1 c1] 27)
 have hCc:=ww P Q wa.heap.size q0 o0 n1 c0 q1 o1 n1 c1 (wa.alloc (.cells #[.slice (af q0 o0) n1 c0,.slice (af q1 o1) n1 c1] 27)) kB (PqRow.below HR.out.1 bB) (PqRow.below HR.out.2 bB) (by omega) (by omega) (by omega)
 have HBB:Hid (_):=bB
 clear bB kB g1 g2 g4
 obtain⟨R,hR⟩:∃ z,(if oL (fun i=>if i<n1 then P i else Q (i-n1)) (n1+n1)=false then (90:Int) else if (it P n1 || it Q n1)=true then 160 else 0)=z:=⟨_,rfl⟩
 have HRR:Hid (_):=hR
 rw[hR]
 clear hR
 obtain⟨C,hC⟩:∃ C:Nat→Pq,(fun i=>if i<n1 then P i else Q (i-n1))=C:=⟨_,rfl⟩
 rw[hC]at hCc
 have HC:Hid (_):=hC
 clear hC
 go_enter func18,ntmps18
 go_upto_region 1 with fail
 rw[HE.out,HS.out]
 go_wp2_with fail
 refine hCc.mono ?_
 rintro r w1 ⟨a,c,rfl,H1⟩
 clear hCc y0 y1 y2
 have hb1:Below wa.heap.size wa w1:=HBB.out.trans (H1.out.2.2.mono HBB.out.size)
 have HB1:Hid (_):=hb1
 clear hb1
 go_wp2_with fail
 go_loopw [2,4,5,37,38,39,40,41,42,43,44,45,46] (fun _ _ _ v0 _ _ _ _ _ _ _ _ _ wr=>∃ i:Nat,i≤n1+n1∧v0=.int .i64 ((i:Nat):Int)∧Hid (oL C i=true∧Below w1.heap.size w1 wr)) (fun _ _ _ v0 _ _ _ _ _ _ _ _ _ _=>n1+n1-jt v0)
 case atStart=>exact⟨0,by omega,rfl,rfl,Below.refl _ _⟩
 case round=>
  obtain⟨i,hi,rfl,HI⟩:=hrel
  by_cases hlt:i<n1+n1
  rotate_left
  ·obtain rfl:i=n1+n1:=by omega
   have hlt':¬ (((n1+n1:Nat):Nat):Int) < (((n1+n1:Nat):Nat):Int):=by omega
   have hbr:Below wa.heap.size wa wr:=HB1.out.trans (HI.out.2.mono HB1.out.size)
   have kr:=(hbr.block x (Array.getElem?_eq_some_iff.1 HK.out).1).trans HK.out
   have y0:wr.cell? ⟨x,0,none⟩=some (.slice (af q0 o0) n1 c0):=ae wr x 0 _ _ _ kr
   have y1:wr.cell? ⟨x,1,none⟩=some (.slice (af q1 o1) n1 c1):=ae wr x 1 _ _ _ kr
   have hD:=mE (af q0 o0) n1 c0 P wr (PqRow.below HR.out.1 hbr) (by omega) u0
   have HBr:Hid (_):=hbr
   clear kr hbr
   cases hd:it P n1 with
   | true=>
    rw[hd]at hD
    have HN:Hid (R=160):=by
     show R=160
     rw[← HRR.out,HC.out,HI.out.1,hd]
     rfl
    clear hd
    go_wp2_with fail
    refine hD.mono ?_
    rintro r w3 ⟨rfl,H3⟩
    clear hD
    go_wp2_with fail
    go_ret
    exact⟨by rw[HN.out] <;> rfl,(HB.out.trans (HBr.out.mono HB.out.size)).trans (H3.out.mono (Nat.le_trans HB.out.size HBr.out.size))⟩
   | false=>
    rw[hd]at hD
    have HN0:Hid (it P n1=false):=hd
    clear hd
    go_wp2_with fail
    refine hD.mono ?_
    rintro r w3 ⟨rfl,H3⟩
    clear hD y0 y1
    have hb3:Below wa.heap.size wa w3:=HBr.out.trans (H3.out.mono HBr.out.size)
    have kr:=(hb3.block x (Array.getElem?_eq_some_iff.1 HK.out).1).trans HK.out
    have y1:w3.cell? ⟨x,1,none⟩=some (.slice (af q1 o1) n1 c1):=ae w3 x 1 _ _ _ kr
    have hD:=mE (af q1 o1) n1 c1 Q w3 (PqRow.below HR.out.2 hb3) (by omega) u1
    have HB3:Hid (_):=hb3
    clear kr hb3
    cases hd:it Q n1 with
    | true=>
     rw[hd]at hD
     have HN:Hid (R=160):=by
      show R=160
      rw[← HRR.out,HC.out,HI.out.1,HN0.out,hd]
      rfl
     clear hd
     go_wp2_with fail
     refine hD.mono ?_
     rintro r w4 ⟨rfl,H4⟩
     clear hD
     go_wp2_with fail
     go_ret
     exact⟨by rw[HN.out] <;> rfl,(HB.out.trans (HB3.out.mono HB.out.size)).trans (H4.out.mono (Nat.le_trans HB.out.size HB3.out.size))⟩
    | false=>
     rw[hd]at hD
     have HN:Hid (R=0):=by
      show R=0
      rw[← HRR.out,HC.out,HI.out.1,HN0.out,hd]
      rfl
     clear hd
     go_wp2_with fail
     refine hD.mono ?_
     rintro r w4 ⟨rfl,H4⟩
     clear hD
     go_wp2_with fail
     go_ret
     exact⟨by rw[HN.out] <;> rfl,(HB.out.trans (HB3.out.mono HB.out.size)).trans (H4.out.mono (Nat.le_trans HB.out.size HB3.out.size))⟩
  have hlt':((i:Nat):Int) < (((n1+n1:Nat):Nat):Int):=by omega
  obtain⟨q,off,ea,cc⟩:=(PqRow.below H1.out.1 HI.out.2) i hlt
  subst ea
  obtain⟨p,hP⟩:∃ y,C i=y:=⟨_,rfl⟩
  rw[hP]at cc
  have c0:wr.cell? ⟨q,off+i*5,none⟩=some (.int .u32 (p.c:Nat)):=cc 0 _ rfl
  have c1:wr.cell? ⟨q,off+i*5+1,none⟩=some (.int .i64 p.o):=cc 1 _ rfl
  have c2:wr.cell? ⟨q,off+i*5+2,none⟩=some (.int .i64 p.i):=cc 2 _ rfl
  have c3:wr.cell? ⟨q,off+i*5+3,none⟩=some (.int .i64 p.t):=cc 3 _ rfl
  have c4:wr.cell? ⟨q,off+i*5+4,none⟩=some (.int .u32 (p.n:Nat)):=cc 4 _ rfl
  have bA:=aF (Below.refl _ wr) (.cells #[.int .u32 (p.c:Nat),.int .i64 p.o,.int .i64 p.i,.int .i64 p.t,.int .u32 (p.n:Nat)] 83)
  have HP:Hid (_):=hP
  have HBx:Hid (_):=HI.out.2.trans (bA.mono HI.out.2.size)
  clear cc hP bA
  by_cases hl:p.law
  ·have hCk:=fD p.c p.o p.i p.t p.n (wr.alloc (.cells #[.int .u32 (p.c:Nat),.int .i64 p.o,.int .i64 p.i,.int .i64 p.t,.int .u32 (p.n:Nat)] 83)) 0 (if_pos (show tW p.c p.o p.i p.t p.n from hl))
   have HN:Hid (oL C (i+1)=true):=by
    show oL C (i+1)=true
    rw[te,HI.out.1,HP.out]
    simpa using hl
   clear hl
   go_wp2_with fail
   refine hCk.mono ?_
   rintro r w3 ⟨rfl,b3⟩
   have HB3:Hid (_):=b3
   clear hCk b3
   go_wp2_with fail
   go_roundw
   case rel=>exact⟨i+1,by omega,by first | rfl | go_num,HN.out,HBx.out.trans (HB3.out.mono HBx.out.size)⟩
   case measure=>simp only[jt];omega
  ·have hCk:=fD p.c p.o p.i p.t p.n (wr.alloc (.cells #[.int .u32 (p.c:Nat),.int .i64 p.o,.int .i64 p.i,.int .i64 p.t,.int .u32 (p.n:Nat)] 83)) 90 (if_neg (show ¬ tW p.c p.o p.i p.t p.n from hl))
   have HN:Hid (R=90):=by
    show R=90
    rw[← HRR.out,HC.out]
    refine if_pos ?_
    rw[Bool.eq_false_iff]
    intro hh
    have:=List.all_eq_true.1 hh i (List.mem_range.2 hlt)
    rw[HP.out]at this
    exact hl (by simpa using this)
   clear hl
   go_wp2_with fail
   refine hCk.mono ?_
   rintro r w3 ⟨rfl,b3⟩
   have HB3:Hid (_):=b3
   clear hCk b3
   go_wp2_with fail
   go_ret
   have e1:Below wa.heap.size wa w3:=HB1.out.trans ((HBx.out.trans (HB3.out.mono HBx.out.size)).mono HB1.out.size)
   exact⟨by rw[HN.out] <;> rfl,HB.out.trans (e1.mono HB.out.size)⟩
theorem wA (P Q:Nat→Pq) (q0 o0 v0 q1 o1 v1 n mx:Nat) (w:World) (k0:PqRow w (af q0 o0) n P) (k1:PqRow w (af q1 o1) n Q) (hn:n≤1000000):Calls prog 19 #[.agg #[.slice (af q0 o0) n v0,.slice (af q1 o1) n v1,.int .u32 (mx:Nat)]] w fun r w'=>∃ a0 c0 a1 c1,r=.returned (.agg #[.slice a0 n c0,.slice a1 n c1,.int .u32 (mx:Nat)])∧Hid (w'.ownsRow w.heap.size 83 5 (.slice a0 n c0) n (fW n P)∧w'.ownsRow w.heap.size 83 5 (.slice a1 n c1) n (fW n Q)∧Below w.heap.size w w'∧∀ k,(Value.slice a0 n c0).ownBlock=some k→(Value.slice a1 n c1).ownBlock≠some k):=by
 have kA0:=aB w (.cells #[.slice (af q0 o0) n v0,.slice (af q1 o1) n v1,.int .u32 (mx:Nat)] 30)
 have bA:=aF (aF (Below.refl _ w) (.cells #[.slice (af q0 o0) n v0,.slice (af q1 o1) n v1,.int .u32 (mx:Nat)] 30)) (.cells #[.slice none 0 0,.slice none 0 0,.int .u32 0] 30)
 have s1:(w.alloc (.cells #[.slice (af q0 o0) n v0,.slice (af q1 o1) n v1,.int .u32 (mx:Nat)] 30)).heap.size=w.heap.size+1:=io _ _
 have kA:((w.alloc (.cells #[.slice (af q0 o0) n v0,.slice (af q1 o1) n v1,.int .u32 (mx:Nat)] 30)).alloc (.cells #[.slice none 0 0,.slice none 0 0,.int .u32 0] 30)).heap[w.heap.size]?=_:=(Below.heap_alloc _ _ _ (by omega)).trans kA0
 have kB:=aB (w.alloc (.cells #[.slice (af q0 o0) n v0,.slice (af q1 o1) n v1,.int .u32 (mx:Nat)] 30)) (.cells #[.slice none 0 0,.slice none 0 0,.int .u32 0] 30)
 rw[s1]at kB
 have s2:((w.alloc (.cells #[.slice (af q0 o0) n v0,.slice (af q1 o1) n v1,.int .u32 (mx:Nat)] 30)).alloc (.cells #[.slice none 0 0,.slice none 0 0,.int .u32 0] 30)).heap.size=w.heap.size+2:=sz2 _ _ _
 obtain⟨wa,hwa⟩:∃ y,(w.alloc (.cells #[.slice (af q0 o0) n v0,.slice (af q1 o1) n v1,.int .u32 (mx:Nat)] 30)).alloc (.cells #[.slice none 0 0,.slice none 0 0,.int .u32 0] 30)=y:=⟨_,rfl⟩
 rw[hwa]at kA bA kB s2
 have j0:=k0.below bA
 have j1:=k1.below bA
 obtain⟨x,hx⟩:∃ y,w.heap.size=y:=⟨_,rfl⟩
 have HBa:Hid (Below w.heap.size w wa):=bA
 rw[hx]at kA kB s2
 have hS:∀ w',Below wa.heap.size wa w'→w'.cell? ⟨x,0,none⟩=some (Value.slice (af q0 o0) n v0)∧w'.cell? ⟨x,1,none⟩=some (Value.slice (af q1 o1) n v1)∧w'.cell? ⟨x,2,none⟩=some (Value.int .u32 (mx:Nat)):=fun w' b=>⟨ag (ae wa x 0 _ _ _ kA) b,ag (ae wa x 1 _ _ _ kA) b,ag (ae wa x 2 _ _ _ kA) b⟩
 have HS0:=hS wa.drew (Below.drew (Below.refl _ _))
 have HSS:Hid (_):=hS
 have HJ:Hid (_):=And.intro j0 (And.intro j1 (And.intro kB s2))
 have HE:Hid (_=wa):=hwa
 have HS:Hid (w.heap.size=x):=hx
 clear kA0 kA kB bA s1 s2 hwa hx j0 j1 k0 k1 hS
 go_enter func19,ntmps19
 go_upto_region 1 with fail
 rw[HE.out,HS.out]
 refine wp_region_held_drew (S:=fun w'=>w'.cell? ⟨x,0,none⟩=some (Value.slice (af q0 o0) n v0)∧w'.cell? ⟨x,1,none⟩=some (Value.slice (af q1 o1) n v1)∧w'.cell? ⟨x,2,none⟩=some (Value.int .u32 (mx:Nat))) (by kernel_rfl) HS0 (fun _=>?_)
 refine aq (i:=0) (v:=ac x 0) ?_
 refine aq (i:=1) (v:=Value.slice (af q0 o0) n v0) ?_
 refine aq (i:=3) (v:=ac x 1) ?_
 refine aq (i:=4) (v:=Value.slice (af q1 o1) n v1) ?_
 refine aq (i:=6) (v:=ac x 2) ?_
 refine aq (i:=7) (v:=Value.int .u32 (mx:Nat)) ?_
 have bd:Below wa.heap.size wa wa.drew:=Below.drew (Below.refl _ _)
 refine aI (i:=2) 41 #[Value.slice (af q0 o0) n v0] (by kernel_rfl) rfl (by kernel_rfl) (by go_simp) ?_
 refine (sI q0 o0 n v0 P wa.drew (PqRow.below HJ.out.1 bd) hn).mono ?_
 rintro r w1 ⟨a0,c0,rfl,H1⟩
 have b1:Below wa.heap.size wa w1:=bd.trans H1.out.2
 refine⟨_,rfl,HSS.out w1 b1,?_⟩
 have HSa:=HSS.out w1 b1
 refine aI (i:=5) 41 #[Value.slice (af q1 o1) n v1] (by kernel_rfl) rfl (by kernel_rfl) (by go_simp) ?_
 refine (sI q1 o1 n v1 Q w1 (PqRow.below HJ.out.2.1 b1) hn).mono ?_
 rintro r w2 ⟨a1,c1,rfl,H2⟩
 have b2:Below wa.heap.size wa w2:=b1.trans (H2.out.2.mono b1.size)
 have HSb:=HSS.out w2 b2
 refine⟨_,rfl,HSb,?_⟩
 refine aq (i:=8) (v:=Value.agg #[Value.slice a0 n c0,Value.slice a1 n c1,Value.int .u32 (mx:Nat)]) ?_
 obtain⟨_,_,kB,s2⟩:=HJ.out
 have kB2:=(b2.block (x+1) (by omega)).trans kB
 have y0:=ae w2 (x+1) 0 _ _ _ kB2
 have y1:=ae w2 (x+1) 1 _ _ _ kB2
 have y2:=ae w2 (x+1) 2 _ _ _ kB2
 have yz:=fun k=>frozen_of_row w2 (x+1) k _ _ kB2
 have kB3:(((w2.setCell ⟨x+1,0,none⟩ (Value.slice a0 n c0)).setCell ⟨x+1,1,none⟩ (Value.slice a1 n c1)).setCell ⟨x+1,2,none⟩ (Value.int .u32 (mx:Nat))).heap[x+1]?=some (.cells #[Value.slice a0 n c0,Value.slice a1 n c1,Value.int .u32 (mx:Nat)] 30 (0,0)):=Joins.block_setCell (Joins.block_setCell (Joins.block_setCell kB2 _) _) _
 have o3:Off [x+1] w2 (((w2.setCell ⟨x+1,0,none⟩ (Value.slice a0 n c0)).setCell ⟨x+1,1,none⟩ (Value.slice a1 n c1)).setCell ⟨x+1,2,none⟩ (Value.int .u32 (mx:Nat))):=((Off.setCell (x+1) 0 w2 _).trans (Off.setCell (x+1) 1 _ _)).trans (Off.setCell (x+1) 2 _ _)
 have hS3:(((w2.setCell ⟨x+1,0,none⟩ (Value.slice a0 n c0)).setCell ⟨x+1,1,none⟩ (Value.slice a1 n c1)).setCell ⟨x+1,2,none⟩ (Value.int .u32 (mx:Nat))).cell? ⟨x,0,none⟩=some (Value.slice (af q0 o0) n v0)∧(((w2.setCell ⟨x+1,0,none⟩ (Value.slice a0 n c0)).setCell ⟨x+1,1,none⟩ (Value.slice a1 n c1)).setCell ⟨x+1,2,none⟩ (Value.int .u32 (mx:Nat))).cell? ⟨x,1,none⟩=some (Value.slice (af q1 o1) n v1)∧(((w2.setCell ⟨x+1,0,none⟩ (Value.slice a0 n c0)).setCell ⟨x+1,1,none⟩ (Value.slice a1 n c1)).setCell ⟨x+1,2,none⟩ (Value.int .u32 (mx:Nat))).cell? ⟨x,2,none⟩=some (Value.int .u32 (mx:Nat)):=by
  obtain⟨u0,u1,u2⟩:=HSb
  refine⟨?_,?_,?_⟩
  ·rw[World.cell?_of_block (w:=w2) (o3.block x (by have:=b2.size;omega) (by simp))];exact u0
  ·rw[World.cell?_of_block (w:=w2) (o3.block x (by have:=b2.size;omega) (by simp))];exact u1
  ·rw[World.cell?_of_block (w:=w2) (o3.block x (by have:=b2.size;omega) (by simp))];exact u2
 obtain⟨w3,hw3⟩:∃ z,(((w2.setCell ⟨x+1,0,none⟩ (Value.slice a0 n c0)).setCell ⟨x+1,1,none⟩ (Value.slice a1 n c1)).setCell ⟨x+1,2,none⟩ (Value.int .u32 (mx:Nat)))=z:=⟨_,rfl⟩
 rw[hw3]at kB3 o3 hS3
 refine cH (i:=9) w3 (by kernel_rfl) rfl (by kernel_rfl) (by rw[← hw3];go_simp) hS3 ?_
 refine wpAnyH_done (by kernel_rfl) ?_ _
 have z0:=ae w3 (x+1) 0 _ _ _ kB3
 have z1:=ae w3 (x+1) 1 _ _ _ kB3
 have z2:=ae w3 (x+1) 2 _ _ _ kB3
 have HO:Hid (_):=And.intro o3 (And.intro b1 (And.intro b2 s2))
 clear o3 b1 b2 s2 kB kB2 kB3 hS3 HSb HSa hw3 HS0 bd y0 y1 y2 yz
 go_wp2_with fail
 refine bodyPost_ret (v:=.agg #[.slice a0 n c0,.slice a1 n c1,.int .u32 (mx:Nat)]) (by simp[results,results19,go_sem,z0,z1,z2]) rfl ?_
 obtain⟨o3,b1,b2,s2⟩:=HO.out
 have hb:=HBa.out
 have hsx:=HS.out
 have hdz:wa.drew.heap.size=wa.heap.size:=rfl
 have lt1:=H1.out.1.lt
 have lt2:=H2.out.1.lt
 have l1:=b1.size
 have u0:w2.ownsRow wa.heap.size 83 5 (.slice a0 n c0) n (fW n P):=bG (l:=[]) H1.out.1 (Off.of_below H2.out.2) (by simp)
 have v0:=bG u0 o3 (fun k hk hm=>by have:=(lt1 k hk).1;simp at hm;omega)
 have v1:=bG H2.out.1 o3 (fun k hk hm=>by have:=(lt2 k hk).1;simp at hm;omega)
 refine⟨a0,c0,a1,c1,rfl,iU v0 (by omega),iU v1 (by omega),o3.below (hb.trans (b2.mono hb.size)) (by simp;omega) (Nat.le_trans hb.size b2.size),fun k hk hm=>?_⟩
 have:=(lt1 k hk).2
 have:=(lt2 k hm).1
 omega
def Pm.q (P:Pm):Pq:=⟨P.c,P.o,P.i,P.t,P.n⟩
theorem acy (X b g cc n k hd dd dm:Nat) (s:Int) (T:TypeId) (Fn:FuncId) (P:Nat) (s0 s1 s2 s3 s4:Nat) (la:Int) (rq on:Bool) (o:Nat) (bs:Nat→Nat) (w:World)
  (cb:w.cell? ⟨X,4,none⟩=some (ac b 0)) (cv:w.cell? ⟨X,3,none⟩=some (.slice (af g 0) n cc)) (c0:w.cell? ⟨g,k*3,none⟩=some (ac hd 0)) (c1:w.cell? ⟨g,k*3+1,none⟩=some (ac dd 0)) (c2:w.cell? ⟨g,k*3+2,none⟩=some (ac dm 0)) (hlt:k<n) (hs:s=1∨s=2)
  (hA:∀ w1,Calls prog 55 #[.agg (aA hd dd dm),.int .i64 s] w1 fun r w'=>r=.returned (.iface T (ac P 0))∧Below w1.heap.size w1 w')
  (hM : ∀ w1, (method 438 T (.pointer (some ⟨P, 0, none⟩)) "See").run prog w1 = .ok (Fn, .pointer (some ⟨P, 0, none⟩)) w1) (hF : ∀ u w1, (callFunc Fn u).run prog w1 = .ok (.enter Fn u) w1)
  (hC:∀ w1,Below w.heap.size w w1→Calls prog Fn #[ac P 0] w1 fun r w'=>∃ a ca,r=.returned (.agg (bO s0 s1 s2 s3 s4 la rq on a o ca))∧Hid (Below w1.heap.size w1 w'∧Row8 w' a o ca bs∧∀ y,a=some y→0<o→w1.heap.size≤y.block)) :
  Calls prog 34 #[ac X 0,.int .i64 (k:Nat),.int .i64 s] w fun r w'=>∃ a ca,r=.returned (.tuple #[.agg (bO s0 s1 s2 s3 s4 la rq on a o ca),.int .i64 0])∧Hid (Below w.heap.size w w'∧Row8 w' a o ca bs∧∀ y,a=some y→0<o→w.heap.size≤y.block):=by
 have kA:=aB w (.cells dA 43)
 have bA:=aF (Below.refl _ w) (.cells dA 43)
 have sA:=io w (.cells dA 43)
 obtain⟨wa,hwa⟩:∃ z,w.alloc (.cells dA 43)=z:=⟨_,rfl⟩
 obtain⟨x,hx⟩:∃ z,w.heap.size=z:=⟨_,rfl⟩
 rw[hwa]at kA bA sA
 have HB:Hid (Below w.heap.size w wa):=bA
 have d3:=ag cv bA
 have d0:=ag c0 bA
 have d1:=ag c1 bA
 have d2:=ag c2 bA
 have hN:=pX X b wa (ag cb bA)
 have hH:=ab6 X (af g 0) n cc ((k:Nat):Int) wa d3
 rw[decide_eq_true (by omega)]at hH
 have hI:=sK s wa
 rw[show ((s == 1) || (s == 2))=true by simpa using hs]at hI
 have hAc:=hA wa
 rw[hx]at kA sA
 have HK:Hid (_):=kA
 have HS:Hid (w.heap.size=x):=hx
 have HZ:Hid (wa.heap.size=x+1):=sA
 have HE:Hid (_=wa):=hwa
 have HC:Hid (_):=hC
 have hlt':((k:Nat):Int) < ((n:Nat):Int):=by omega
 clear kA bA sA hwa hx hC hA cb cv c0 c1 c2 hs hlt
 go_enter func34,ntmps34
 go_upto_region 1 with fail
 rw[HE.out,HS.out]
 go_wp2_with fail
 refine hN.mono ?_
 rintro r w2 ⟨rfl,hw⟩
 rw[hw]
 clear hw
 clear hN
 go_wp2_with fail
 refine hH.mono ?_
 rintro r w2 ⟨rfl,hw⟩
 rw[hw]
 clear hw
 clear hH
 go_wp2_with fail
 refine hI.mono ?_
 rintro r w2 ⟨rfl,hw⟩
 rw[hw]
 clear hw
 clear hI
 go_wp2_with fail
 refine hAc.mono ?_
 rintro r w4 ⟨rfl,b4⟩
 clear hAc d0 d1 d2 d3
 have hCc:=(show Calls prog Fn #[ac P 0] w4 (fun r w'=>∃ a ca,r=.returned (.agg (bO s0 s1 s2 s3 s4 la rq on a o ca))∧Hid (Below w4.heap.size w4 w'∧Row8 w' a o ca bs∧∀ y,a=some y→0<o→w4.heap.size≤y.block)) from HC.out w4 (HB.out.trans (b4.mono HB.out.size)))
 have HB4:Hid (_):=b4
 clear b4
 go_wp2_with fail
 refine hCc.mono ?_
 rintro r w5 ⟨a,ca,rfl,H5⟩
 clear hCc
 have b45:Below wa.heap.size wa w5:=HB4.out.trans (H5.out.1.mono HB4.out.size)
 have k5:=(b45.block x (by rw[HZ.out];omega)).trans HK.out
 have y0:=ae w5 x 0 _ _ _ k5
 have y1:=ae w5 x 1 _ _ _ k5
 have y2:=ae w5 x 2 _ _ _ k5
 have y3:=ae w5 x 3 _ _ _ k5
 have y4:=ae w5 x 4 _ _ _ k5
 have y5:=ae w5 x 5 _ _ _ k5
 have y6:=ae w5 x 6 _ _ _ k5
 have y7:=ae w5 x 7 _ _ _ k5
 have y8:=ae w5 x 8 _ _ _ k5
 have yz:=fun j=>frozen_of_row w5 x j _ _ k5
 have HB5:Hid (_):=b45
 clear b45 k5
 go_wp2_with fail
 refine bodyPost_ret (v:=.tuple #[.agg (bO s0 s1 s2 s3 s4 la rq on a o ca),.int .i64 0]) (by simp[results,results34,go_sem,y0,y1,y2,y3,y4,y5,y6,y7,y8]) rfl ?_
 have oo:Off [x] w5 (((((((((w5.setCell ⟨x,0,none⟩ (Value.int .i64 (s0:Nat))).setCell ⟨x,1,none⟩ (Value.int .u32 (s1:Nat))).setCell ⟨x,2,none⟩ (Value.int .u32 (s2:Nat))).setCell ⟨x,3,none⟩ (Value.int .u32 (s3:Nat))).setCell ⟨x,4,none⟩ (Value.int .i64 (s4:Nat))).setCell ⟨x,5,none⟩ (Value.int .i64 la)).setCell ⟨x,6,none⟩ (Value.bool rq)).setCell ⟨x,7,none⟩ (Value.bool on)).setCell ⟨x,8,none⟩ (Value.slice a o ca)):=((((((((Off.setCell x 0 w5 _).trans (Off.setCell x 1 _ _)).trans (Off.setCell x 2 _ _)).trans (Off.setCell x 3 _ _)).trans (Off.setCell x 4 _ _)).trans (Off.setCell x 5 _ _)).trans (Off.setCell x 6 _ _)).trans (Off.setCell x 7 _ _)).trans (Off.setCell x 8 _ _)
 have hb:=HB.out
 have h4:=HB4.out.size
 have h5:=HZ.out
 have hsx:=HS.out
 refine⟨a,ca,rfl,oo.below (hb.trans (HB5.out.mono hb.size)) (by simp;omega) (Nat.le_trans hb.size HB5.out.size),Row8.offY H5.out.2.1 oo (fun y hy hn hm=>?_),fun y hy hn=>?_⟩
 ·have:=H5.out.2.2 y hy hn
  simp at hm
  omega
 ·have:=H5.out.2.2 y hy hn
  omega
theorem PWn.bagp {e:Nat→Nat} {w0 w:World} {t:Nat→Thing} {L:Pw} {S:Ws} (h:PWn e w0 t L w S):∃ b,w.cell? ⟨L.x,4,none⟩=some (ac b 0):=by
 obtain⟨t1,L1,h1,hs,hx,he⟩:=h
 have c4:w.cell? ⟨L1.x,4,none⟩=some (ac L1.b 0):=ae w L1.x 4 _ _ _ (h1.2.wb h1.1).blk
 rw[hx.x]at c4
 exact⟨_,c4⟩
theorem aa8 {e:Nat→Nat} {w0 w:World} {t:Nat→Thing} {L:Pw} {S:Ws} {k:Nat} (h:PWn e w0 t L w S) (hk:k<S.n):Calls prog 34 #[ac L.x 0,.int .i64 (k:Nat),.int .i64 1] w fun r w'=>∃ a ca,r=.returned (.tuple #[.agg #[.int .i64 ((S.hs k).st:Nat),.int .u32 ((S.hs k).ss:Nat),.int .u32 ((S.hs k).nm:Nat),.int .u32 ((S.hs k).sn:Nat),.int .i64 ((S.hs k).dc:Nat),.int .i64 (S.hs k).v.lat,.bool (au (S.hs k).v),.bool (aE (S.hs k).v),.slice a (S.PH k).i ca],.int .i64 0])∧Hid (Below w.heap.size w w'∧Row8 w' a (S.PH k).i ca (co (S.hs k).v)∧∀ y,a=some y→0 < (S.PH k).i→w.heap.size≤y.block):=by
 obtain⟨cv,c0,c1,c2⟩:=h.conn hk
 obtain⟨b,cb⟩:=h.bagp
 exact acy L.x b (fd L.vc) (ik L.vc) S.n k (L.hd k) (L.dd k) (L.dm k) 1 76 30 (L.hd k) _ _ _ _ _ _ _ _ _ _ w cb cv c0 c1 c2 hk (.inl rfl) (fun w1 => wo _ _ _ w1) (fun w1 => (by kernel_rfl : (method 438 76 (.pointer (some ⟨L.hd k, 0, none⟩)) "See").run prog w1 = .ok (30, .pointer (some ⟨L.hd k, 0, none⟩)) w1)) (fun u w1 => (by kernel_rfl : (callFunc 30 u).run prog w1 = .ok (.enter 30 u) w1)) (fun w1 b1 => by
  obtain⟨U,hv⟩:=(h.below b1).hv hk
  refine (jp (L.hd k) (S.PH k) U (S.hs k) w1 hv).mono ?_
  rintro r w' ⟨a,ca,rfl,H⟩
  exact⟨a,ca,rfl,H.out.2.2,H.out.2.1,H.out.1.newY⟩)
theorem aa9 {e:Nat→Nat} {w0 w:World} {t:Nat→Thing} {L:Pw} {S:Ws} {k:Nat} (h:PWn e w0 t L w S) (hk:k<S.n):Calls prog 34 #[ac L.x 0,.int .i64 (k:Nat),.int .i64 2] w fun r w'=>∃ a ca,r=.returned (.tuple #[.agg #[.int .i64 ((S.ds k).st:Nat),.int .u32 ((S.ds k).ss:Nat),.int .u32 ((S.ds k).nm:Nat),.int .u32 ((S.ds k).sn:Nat),.int .i64 ((S.ds k).dc:Nat),.int .i64 (S.ds k).v.lat,.bool (au (S.ds k).v),.bool (aE (S.ds k).v),.slice a (S.PD k).o ca],.int .i64 0])∧Hid (Below w.heap.size w w'∧Row8 w' a (S.PD k).o ca (co (S.ds k).v)∧∀ y,a=some y→0 < (S.PD k).o→w.heap.size≤y.block):=by
 obtain⟨cv,c0,c1,c2⟩:=h.conn hk
 obtain⟨b,cb⟩:=h.bagp
 exact acy L.x b (fd L.vc) (ik L.vc) S.n k (L.hd k) (L.dd k) (L.dm k) 2 77 31 (L.dd k) _ _ _ _ _ _ _ _ _ _ w cb cv c0 c1 c2 hk (.inr rfl) (fun w1 => wn _ _ _ w1) (fun w1 => (by kernel_rfl : (method 438 77 (.pointer (some ⟨L.dd k, 0, none⟩)) "See").run prog w1 = .ok (31, .pointer (some ⟨L.dd k, 0, none⟩)) w1)) (fun u w1 => (by kernel_rfl : (callFunc 31 u).run prog w1 = .ok (.enter 31 u) w1)) (fun w1 b1 => by
  obtain⟨g,U,dv⟩:=(h.below b1).dv hk
  refine (i6 (L.dd k) (L.dm k) g 16 S.mx (S.PD k) U (S.ds k) w1 dv).mono ?_
  rintro r w' ⟨a,ca,rfl,H⟩
  exact⟨a,ca,rfl,H.out.2.2,H.out.2.1,H.out.1.newY⟩)
theorem yR {e:Nat→Nat} {w0 w:World} {t:Nat→Thing} {L:Pw} {S:Ws} (i:Int) (h:PWn e w0 t L w S):Calls prog 32 #[ac L.x 0,.int .i64 i] w fun r w'=>∃ a n ca,r=.returned (.tuple #[.slice a n ca,.int .i64 (if i<0∨((S.bg.length:Nat):Int)≤i then 151 else 0)])∧Hid (Below w.heap.size w w'∧(¬ (i<0∨((S.bg.length:Nat):Int)≤i)→n=(S.bg.getD i.toNat cZ).1∧Row8 w' a n ca (S.bg.getD i.toNat cZ).2∧∀ y,a=some y→0<n→w.heap.size≤y.block)):=by
 obtain⟨t1,L1,h1,hs,hx,he⟩:=h
 subst hs
 have hb:=(h1.2.wb h1.1).blk
 have c4:w.cell? ⟨L1.x,4,none⟩=some (ac L1.b 0):=ae w L1.x 4 _ _ _ hb
 rw[hx.x]at c4
 have hN:=pX L.x L1.b w c4
 have hG:Calls prog 64 #[ac L1.b 0,.int .i64 i] w fun r w'=>∃ a n ca,r=.returned (.tuple #[.slice a n ca,.int .i64 (if i<0∨((L1.S.bg.length:Nat):Int)≤i then 151 else 0)])∧Hid (Below w.heap.size w w'∧(¬ (i<0∨((L1.S.bg.length:Nat):Int)≤i)→n=(L1.S.bg.getD i.toNat cZ).1∧Row8 w' a n ca (L1.S.bg.getD i.toNat cZ).2∧∀ y,a=some y→0<n→w.heap.size≤y.block)):=by
  by_cases ho:i<0∨((L1.S.bg.length:Nat):Int)≤i
  ·rw[if_pos ho]
   refine (ko 0 L1.b L1.m L1.bv L1.bs L1.bp L1.S.bg i w (h1.2.bg h1.1).1 ho).mono ?_
   rintro r w' ⟨rfl,rfl⟩
   exact⟨none,0,0,rfl,Below.refl _ _,fun q=>absurd ho q⟩
  ·rw[if_neg ho]
   have hlt:i.toNat<L1.S.bg.length:=by omega
   have hI:((i.toNat:Nat):Int)=i:=by omega
   obtain⟨f,hf⟩:∃ y,L1.S.bg.getD i.toNat cZ=y:=⟨_,rfl⟩
   have hg:L1.S.bg[i.toNat]?=some f:=by
    rw[← hf,List.getD_eq_getElem?_getD,List.getElem?_eq_getElem hlt]
    rfl
   have:=gp 0 L1.b L1.m L1.bv L1.bs L1.bp L1.S.bg i.toNat f w (h1.2.bg h1.1).1 hg
   rw[hI]at this
   have hby:=(h1.2.bg h1.1).1.fl.small f (List.mem_of_getElem? hg)
   refine this.mono ?_
   rintro r w' ⟨a,ca,rfl,H⟩
   obtain⟨a2,c2,e2,R2⟩:=Fr.row (f:=f) H.out.2 hby.2
   injection e2 with e3 _ e4
   subst e3 e4
   rw[hf]
   exact⟨a,_,ca,rfl,H.out.1,fun _=>⟨rfl,R2,Fr.newY (n:=f.1) (bs:=f.2) H.out.2⟩⟩
 obtain⟨X,hX⟩:∃ y,L.x=y:=⟨_,rfl⟩
 obtain⟨b,hbb⟩:∃ y,L1.b=y:=⟨_,rfl⟩
 obtain⟨E,hE⟩:∃ y,(if i<0∨((L1.S.bg.length:Nat):Int)≤i then (151:Int) else 0)=y:=⟨_,rfl⟩
 obtain⟨Z,hZ⟩:∃ Z:Option Addr→Nat→Nat→World→Prop,Z=fun a n ca w'=>Below w.heap.size w w'∧(¬ (i<0∨((L1.S.bg.length:Nat):Int)≤i)→n=(L1.S.bg.getD i.toNat cZ).1∧Row8 w' a n ca (L1.S.bg.getD i.toNat cZ).2∧∀ y,a=some y→0<n→w.heap.size≤y.block):=⟨_,rfl⟩
 have hG2:Calls prog 64 #[ac b 0,.int .i64 i] w fun r w'=>∃ a n ca,r=.returned (.tuple #[.slice a n ca,.int .i64 E])∧Hid (Z a n ca w'):=by rw[hZ,← hE,← hbb];exact hG
 show Calls prog 32 #[ac L.x 0,.int .i64 i] w fun r w'=>∃ a n ca,r=.returned (.tuple #[.slice a n ca,.int .i64 (if i<0∨((L1.S.bg.length:Nat):Int)≤i then (151:Int) else 0)])∧Hid (_)
 suffices hh:Calls prog 32 #[ac X 0,.int .i64 i] w fun r w'=>∃ a n ca,r=.returned (.tuple #[.slice a n ca,.int .i64 E])∧Hid (Z a n ca w') by
  rw[hZ,← hE,← hX]at hh
  exact hh
 rw[hX,hbb]at c4
 rw[hX]at hN
 clear hG h1 hx he hb hX hbb hE hZ
 go_enter func32,ntmps32
 go_wp2_with fail
 refine hN.mono ?_
 rintro r w2 ⟨rfl,rfl⟩
 go_wp2_with fail
 refine hG2.mono ?_
 rintro r w3 ⟨a,n,ca,rfl,H3⟩
 go_wp2_with fail
 go_ret2
 exact⟨a,n,ca,rfl,H3⟩
end Go.Proofs.YtenilkloffnjlaaGreat
