/- Part 35: contracts that the proof rests on. -/
import Derived.Test.YtddahhlbpcbddaaGreatPkX33
set_option maxHeartbeats 64000000
set_option maxRecDepth 100000
namespace Go.Proofs.YtddahhlbpcbddaaGreat
open Tryz
open Go.RowKit Go.Maps
set_option linter.unusedVariables false
theorem fN {w:World} {B e size g n c:Nat} {xs:List Value} (h:w.ownsRow B e size (.slice (af g 0) n c) n xs):∀ j u,xs[j]?=some u→w.cell? ⟨g,j,none⟩=some u:=fun j u hu=>by
 rcases h.2 with ⟨e1,_⟩ | ⟨g',cap,cur,e1,_,hg,_,_,_,hx⟩
 ·cases e1
 ·injection e1 with e2 _ _
  injection e2 with e3
  injection e3 with e4
  subst e4
  rw[ae w g j _ _ _ hg,← hu,← hx]
  have:j<n*size:=by
   have h1:=(List.getElem?_eq_some_iff.1 hu).1
   rw[h.1]at h1
   exact h1
  rw[List.getElem?_take_of_lt this]
  simp
theorem fM {w:World} {B e size n c:Nat} {a:Option Addr} {xs:List Value} (h:w.ownsRow B e size (.slice a n c) n xs) (hn:n≠0):∃ g,a=af g 0∧B≤g:=by
 rcases h.2 with ⟨_,e1⟩ | ⟨g',cap,cur,e1,hb,_⟩
 ·exact absurd e1 hn
 ·injection e1 with e2 _ _
  exact⟨g',e2,hb⟩
theorem iL {w:World} {B B' e size n:Nat} {v:Value} {xs:List Value} (h:w.ownsRow B e size v n xs) (hB:B'≤B):w.ownsRow B' e size v n xs:=by
 refine⟨h.1,?_⟩
 rcases h.2 with h1 | ⟨g,cap,cur,e1,hb,r⟩
 ·exact .inl h1
 ·exact .inr ⟨g,cap,cur,e1,Nat.le_trans hB hb,r⟩
structure Pq where
 c:Nat
 o:Int
 i:Int
 t:Int
 n:Nat
def Pq.cs (p:Pq):List Value:=[.int .u32 (p.c:Nat),.int .i64 p.o,.int .i64 p.i,.int .i64 p.t,.int .u32 (p.n:Nat)]
def PqRow (w:World) (a:Option Addr) (len:Nat) (P:Nat→Pq):Prop:=∀ i,i<len→∃ q off,a=af q off∧∀ j u,(P i).cs[j]?=some u→w.cell? ⟨q,off+i*5+j,none⟩=some u
theorem PqRow.below {w w':World} {a:Option Addr} {len:Nat} {P:Nat→Pq} (h:PqRow w a len P) (b:Below w.heap.size w w'):PqRow w' a len P:=fun i hi=>by
 obtain⟨q,off,e,c⟩:=h i hi
 exact⟨q,off,e,fun j u hu=>ag (c j u hu) b⟩
def il:Value→Nat
 | .int _ i=>i.toNat
 | _=>0
def jL (P:Nat→Pq) (l c:Nat):Bool:=(List.range l).any fun i=>(P i).c == c
theorem tm (P:Nat→Pq) (l c:Nat):jL P (l+1) c=(jL P l c || ((P l).c == c)):=by
 unfold jL
 rw[List.range_succ,List.any_append]
 simp
theorem abF (p:Pq) (x c:Nat) (w:World) (cx:w.cell? ⟨x,0,none⟩=some (.int .u32 (c:Nat))):Calls prog 72 #[.agg #[.int .u32 (p.c:Nat),.int .i64 p.o,.int .i64 p.i,.int .i64 p.t,.int .u32 (p.n:Nat)],ac x 0] w fun r w'=>r=.returned (.bool (((p.c:Nat):Int) == ((c:Nat):Int)))∧Below w.heap.size w w':=by
 have kA:=ay w (.cells #[.int .u32 (p.c:Nat),.int .i64 p.o,.int .i64 p.i,.int .i64 p.t,.int .u32 (p.n:Nat)] 90)
 have bA:=az (Below.refl _ w) (.cells #[.int .u32 (p.c:Nat),.int .i64 p.o,.int .i64 p.i,.int .i64 p.t,.int .u32 (p.n:Nat)] 90)
 have c1:=ag cx bA
 obtain⟨wa,hwa⟩:∃ z,w.alloc (.cells #[.int .u32 (p.c:Nat),.int .i64 p.o,.int .i64 p.i,.int .i64 p.t,.int .u32 (p.n:Nat)] 90)=z:=⟨_,rfl⟩
 rw[hwa]at kA bA c1
 obtain⟨y,hy⟩:∃ z,w.heap.size=z:=⟨_,rfl⟩
 have HB:Hid (Below w.heap.size w wa):=bA
 rw[hy]at kA
 have q0:wa.cell? ⟨y,0,none⟩=some (.int .u32 (p.c:Nat)):=ae wa y 0 _ _ _ kA
 have HE:Hid (_=wa):=hwa
 have HS:Hid (w.heap.size=y):=hy
 clear kA bA hwa hy cx
 go_enter func72,ntmps72
 go_upto_region 1 with fail
 rw[HE.out,HS.out]
 go_wp2_with fail
 go_ret
 exact⟨rfl,HB.out⟩
theorem yg (a:Option Addr) (len cap:Nat) (P:Nat→Pq) (x c:Nat) (w:World) (hr:PqRow w a len P) (cx:w.cell? ⟨x,0,none⟩=some (.int .u32 (c:Nat))) (hlen:len≤1000000):Calls prog 90 #[.slice a len cap,(.func (.func 72) #[] #[ac x 0])] w fun r w'=>∃ k:Int,r=.returned (.int .i64 k)∧Hid ((decide (0≤k))=jL P len c∧Below w.heap.size w w'):=by
 have HW:Hid (PqRow w a len P):=hr
 have HX:Hid (_):=cx
 clear hr cx
 go_enter func90,ntmps90
 go_wp2_with fail
 go_loopw [4,5,8,9,10,11,12,13,14,15,16,17,18] (fun _ _ c0 _ _ _ _ _ _ _ _ _ _ wr=>∃ i:Nat,i≤len∧c0=.int .i64 ((i:Nat):Int)∧Hid (jL P i c=false∧Below w.heap.size w wr)) (fun _ _ c0 _ _ _ _ _ _ _ _ _ _ _=>len-il c0)
 case atStart=>exact⟨0,by omega,rfl,rfl,Below.refl _ _⟩
 case round=>
  obtain⟨i,hi,rfl,HI⟩:=hrel
  by_cases hlt:i<len
  rotate_left
  ·obtain rfl:i=len:=by omega
   have hlt':¬ ((i:Nat):Int) < ((i:Nat):Int):=by omega
   go_wp2_with fail
   go_ret
   exact⟨-1,rfl,by rw[HI.out.1] <;> rfl,HI.out.2⟩
  have hlt':((i:Nat):Int) < ((len:Nat):Int):=by omega
  have hw1:IntKind.i64.wrap (((i:Nat):Int)+1)=((i+1:Nat):Int):=by rw[IntKind.wrap_i64];omega
  obtain⟨q,off,ea,cc⟩:=(PqRow.below HW.out HI.out.2) i hlt
  subst ea
  obtain⟨p,hP⟩:∃ y,P i=y:=⟨_,rfl⟩
  rw[hP]at cc
  have c0:wr.cell? ⟨q,off+i*5,none⟩=some (.int .u32 (p.c:Nat)):=cc 0 _ rfl
  have c1:wr.cell? ⟨q,off+i*5+1,none⟩=some (.int .i64 p.o):=cc 1 _ rfl
  have c2:wr.cell? ⟨q,off+i*5+2,none⟩=some (.int .i64 p.i):=cc 2 _ rfl
  have c3:wr.cell? ⟨q,off+i*5+3,none⟩=some (.int .i64 p.t):=cc 3 _ rfl
  have c4:wr.cell? ⟨q,off+i*5+4,none⟩=some (.int .u32 (p.n:Nat)):=cc 4 _ rfl
  have hC:=abF p x c wr (ag HX.out HI.out.2)
  have HP:Hid (_):=hP
  clear cc hP
  by_cases hq:p.c=c
  ·rw[show (((p.c:Nat):Int) == ((c:Nat):Int))=true by rw[be];exact decide_eq_true hq]at hC
   have HQ:Hid (p.c=c):=hq
   clear hq
   go_wp2_with fail
   refine hC.mono ?_
   rintro r w3 ⟨rfl,b3⟩
   go_wp2_with fail
   go_ret
   refine⟨((i:Nat):Int),rfl,?_,HI.out.2.trans (b3.mono HI.out.2.size)⟩
   rw[decide_eq_true (by omega)]
   refine (List.any_eq_true.2 ⟨i,List.mem_range.2 hlt,?_⟩).symm
   rw[HP.out]
   simpa using HQ.out
  ·rw[show (((p.c:Nat):Int) == ((c:Nat):Int))=false by rw[be];exact decide_eq_false hq]at hC
   have HN:Hid (jL P (i+1) c=false):=by
    show jL P (i+1) c=false
    rw[tm,HI.out.1,HP.out]
    simpa using hq
   clear hq
   go_wp2_with fail
   refine hC.mono ?_
   rintro r w3 ⟨rfl,b3⟩
   have HB3:Hid (_):=b3
   clear b3 hC
   go_wp2_with fail
   exact⟨⟨i+1,by omega,by first | rfl | go_num,HN.out,HI.out.2.trans (HB3.out.mono HI.out.2.size)⟩,by simp only[il];omega⟩
theorem rs (a:Option Addr) (len cap:Nat) (P:Nat→Pq) (x c:Nat) (w:World) (hr:PqRow w a len P) (cx:w.cell? ⟨x,0,none⟩=some (.int .u32 (c:Nat))) (hlen:len≤1000000):Calls prog 73 #[.slice a len cap,(.func (.func 72) #[] #[ac x 0])] w fun r w'=>r=.returned (.bool (jL P len c))∧Hid (Below w.heap.size w w'):=by
 have hI:=yg a len cap P x c w hr cx hlen
 obtain⟨B,hB⟩:∃ y,jL P len c=y:=⟨_,rfl⟩
 rw[hB]at hI ⊢
 clear hr cx hB
 go_enter func73,ntmps73
 go_wp2_with fail
 refine hI.mono ?_
 rintro r w2 ⟨k,rfl,H⟩
 go_wp2_with fail
 go_ret
 exact⟨by rw[← H.out.1] <;> rfl,H.out.2⟩
def iC (P:Nat→Pq) (l:Nat):Bool:=(List.range l).any fun i=>jL P i (P i).c
theorem tj (P:Nat→Pq) (l:Nat):iC P (l+1)=(iC P l || jL P l (P l).c):=by
 unfold iC
 rw[List.range_succ,List.any_append]
 simp
theorem mF (a:Option Addr) (len cap:Nat) (P:Nat→Pq) (w:World) (hr:PqRow w a len P) (hlen:len≤1000000) (hcap:len≤cap):Calls prog 44 #[.slice a len cap] w fun r w'=>r=.returned (.bool (iC P len))∧Hid (Below w.heap.size w w'):=by
 have HW:Hid (PqRow w a len P):=hr
 clear hr
 go_enter func44,ntmps44
 go_wp2_with fail
 go_loopw [2,3,4,5,8,9,10,11,12,13,14,15,16,17,18,19] (fun _ _ _ _ c0 _ _ _ _ _ _ _ _ _ _ _ wr=>∃ i:Nat,i≤len∧c0=.int .i64 ((i:Nat):Int)∧Hid (iC P i=false∧Below w.heap.size w wr)) (fun _ _ _ _ c0 _ _ _ _ _ _ _ _ _ _ _ _=>len-il c0)
 case atStart=>exact⟨0,by omega,rfl,rfl,Below.refl _ _⟩
 case round=>
  obtain⟨i,hi,rfl,HI⟩:=hrel
  by_cases hlt:i<len
  rotate_left
  ·obtain rfl:i=len:=by omega
   have hlt':¬ ((i:Nat):Int) < ((i:Nat):Int):=by omega
   go_wp2_with fail
   go_ret
   exact⟨by rw[HI.out.1] <;> rfl,HI.out.2⟩
  have hlt':((i:Nat):Int) < ((len:Nat):Int):=by omega
  have hic:((i:Nat):Int) ≤ ((cap:Nat):Int):=by omega
  have hR:=PqRow.below HW.out HI.out.2
  obtain⟨q,off,ea,cc⟩:=hR i hlt
  subst ea
  obtain⟨p,hP⟩:∃ y,P i=y:=⟨_,rfl⟩
  rw[hP]at cc
  have c0:wr.cell? ⟨q,off+i*5,none⟩=some (.int .u32 (p.c:Nat)):=cc 0 _ rfl
  have c1:wr.cell? ⟨q,off+i*5+1,none⟩=some (.int .i64 p.o):=cc 1 _ rfl
  have c2:wr.cell? ⟨q,off+i*5+2,none⟩=some (.int .i64 p.i):=cc 2 _ rfl
  have c3:wr.cell? ⟨q,off+i*5+3,none⟩=some (.int .i64 p.t):=cc 3 _ rfl
  have c4:wr.cell? ⟨q,off+i*5+4,none⟩=some (.int .u32 (p.n:Nat)):=cc 4 _ rfl
  have bA:=az (Below.refl _ wr) (.cells #[.int .u32 (p.c:Nat),.int .i64 p.o,.int .i64 p.i,.int .i64 p.t,.int .u32 (p.n:Nat)] 90)
  have kA:=ay wr (.cells #[.int .u32 (p.c:Nat),.int .i64 p.o,.int .i64 p.i,.int .i64 p.t,.int .u32 (p.n:Nat)] 90)
  have hC:=rs (af q off) i cap P wr.heap.size p.c (wr.alloc (.cells #[.int .u32 (p.c:Nat),.int .i64 p.o,.int .i64 p.i,.int .i64 p.t,.int .u32 (p.n:Nat)] 90)) (fun j hj=>(hR.below bA) j (by omega)) (ae _ _ 0 _ _ _ kA) (by omega)
  have HP:Hid (_):=hP
  have HB:Hid (_):=HI.out.2.trans (bA.mono HI.out.2.size)
  clear cc hP bA kA hR
  cases hq:jL P i p.c with
  | true=>
   rw[hq]at hC
   have HN:Hid (iC P len=true):=List.any_eq_true.2 ⟨i,List.mem_range.2 hlt,by rw[HP.out];exact hq⟩
   clear hq
   go_wp2_with fail
   refine hC.mono ?_
   rintro r w3 ⟨rfl,H3⟩
   clear hC
   go_wp2_with fail
   go_ret
   exact⟨by rw[HN.out] <;> rfl,HB.out.trans (H3.out.mono HB.out.size)⟩
  | false=>
   rw[hq]at hC
   have HN:Hid (iC P (i+1)=false):=by
    show iC P (i+1)=false
    rw[tj,HI.out.1,HP.out,hq]
    rfl
   clear hq
   go_wp2_with fail
   refine hC.mono ?_
   rintro r w3 ⟨rfl,H3⟩
   clear hC
   go_wp2_with fail
   go_roundw
   case rel=>exact⟨i+1,by omega,by first | rfl | go_num,HN.out,HB.out.trans (H3.out.mono HB.out.size)⟩
   case measure=>simp only[il];omega
def ei (n:Nat) (P:Nat→Pq):List Value:=(List.range n).flatMap fun i=>(P i).cs
theorem cy (n:Nat) (P:Nat→Pq):ei (n+1) P=ei n P ++ (P n).cs:=by
 unfold ei
 rw[List.range_succ,List.flatMap_append]
 simp
theorem fW (n:Nat) (P:Nat→Pq):(ei n P).length=n*5:=by
 induction n with
 | zero=>rfl
 | succ n ih=>
  rw[cy,List.length_append,ih]
  have:(P n).cs.length=5:=rfl
  omega
theorem nP (n:Nat) (P:Nat→Pq):∀ u ∈ ei n P,u.oneCell'=true:=by
 intro u hu
 unfold ei at hu
 obtain⟨i,_,hi⟩:=List.mem_flatMap.1 hu
 simp[Pq.cs]at hi
 rcases hi with rfl | rfl | rfl | rfl | rfl <;> rfl
theorem se (n:Nat) (P:Nat→Pq) (i j:Nat) (hi:i<n) (hj:j<5):(ei n P)[i*5+j]?=(P i).cs[j]?:=by
 induction n with
 | zero=>omega
 | succ n ih=>
  rw[cy]
  by_cases h:i<n
  ·rw[List.getElem?_append_left (by rw[fW];omega)]
   exact ih h
  ·obtain rfl:i=n:=by omega
   rw[List.getElem?_append_right (by rw[fW];omega),fW]
   congr 1
   omega
theorem xL (n k:Nat) (P Q:Nat→Pq):ei (n+k) (fun i=>if i<n then P i else Q (i-n))=ei n P ++ ei k Q:=by
 induction k with
 | zero=>
  have e:∀ m,m≤n→ei m (fun i=>if i<n then P i else Q (i-n))=ei m P:=by
   intro m hm
   induction m with
   | zero=>rfl
   | succ m ih=>
    rw[cy,cy,ih (by omega),if_pos (by omega)]
  have:ei 0 Q=[]:=rfl
  rw[this,List.append_nil]
  exact e n (Nat.le_refl _)
 | succ k ih=>
  rw[show n + (k+1)=(n+k)+1 by omega,cy,ih,cy,List.append_assoc,if_neg (by omega),show n+k-n=k by omega]
theorem PqRow.src {w:World} {q off n:Nat} {P:Nat→Pq} (h:PqRow w (af q off) n P):∀ j u,(ei n P)[j]?=some u→w.cell? ((⟨q,off,none⟩:Addr).add j)=some u:=fun j u hu=>by
 have hj:j<n*5:=by
  have:=(List.getElem?_eq_some_iff.1 hu).1
  rw[fW]at this
  exact this
 have e:(Addr.add ⟨q,off,none⟩ j)=⟨q,off+j,none⟩:=Addr.add_mid q off j
 obtain⟨q',off',e1,c⟩:=h (j / 5) (by omega)
 injection e1 with e1
 injection e1 with e2 e3
 subst e2 e3
 have g:=se n P (j / 5) (j % 5) (by omega) (by omega)
 rw[show j / 5*5+j % 5=j by omega,hu]at g
 have:=c (j % 5) u g.symm
 rw[show off+j / 5*5+j % 5=off+j by omega]at this
 rw[e]
 exact this
theorem PqRow.ofOwn {w:World} {B n c:Nat} {a:Option Addr} {P:Nat→Pq} (h:w.ownsRow B 90 5 (.slice a n c) n (ei n P)):PqRow w a n P:=fun i hi=>by
 obtain⟨g,rfl,_⟩:=fM h (by omega)
 refine⟨g,0,rfl,fun j u hu=>?_⟩
 have hj:j<5:=by
  have:=(List.getElem?_eq_some_iff.1 hu).1
  exact this
 have:=fN h (i*5+j) u (by rw[se n P i j hi hj];exact hu)
 rw[Nat.zero_add]
 exact this
theorem zJ (N:Nat) (h0:0<N) (hN:N≤1000000) (w:World):Calls prog 70 #[.slice none 0 0,.int .i64 (N:Nat)] w fun r w'=>∃ a c,r=.returned (.slice a 0 c)∧Hid (w'.ownsRow w.heap.size 90 5 (.slice a 0 c) 0 []∧Below w.heap.size w w'):=by
 obtain⟨i0,hI,hz0,hz1,hz2⟩:=info_parts dX
 have hold:(Builtin.firstCells i0.size 0 (.slice none 0 0)).run prog w.drew=.ok ([]:List Value).toArray w.drew:=run_firstCells_none _ _ _ _ _
 have hnc:Builtin.nextslicecap N 0*40≤281474976710656:=by
  unfold Builtin.nextslicecap
  rw[if_pos (by omega)]
  omega
 have hrz:∀ ty,(Builtin.append_ #[27,3] ty #[.slice none 0 0,.int .i64 (N:Nat)]).run prog w=_:=fun ty=>Lib.run_append_grow_zeros (P:=prog) w 27 3 ty 90 i0 _ .i64 .i64 underlying27 underlying3 hI hz0 none 0 0 [] hold N h0 (by rw[hz1];omega) (by omega) (by omega) (by rw[hz2];omega) (by rw[hz2,Nat.zero_add];exact hnc)
 have hGn:N≤grownCap w N 0 90:=grownCap_ge w _ _ _
 have hGm:grownCap w N 0 90≤maxLen:=grownCap_le_maxLen w N 0 _ (by unfold maxLen;omega)
 obtain⟨G,hG⟩:∃ G,grownCap w N 0 90=G:=⟨_,rfl⟩
 simp only[Nat.zero_add]at hrz
 rw[hG]at hrz hGn hGm
 have hb:Below w.heap.size w w.drew:=Below.drew (Below.refl _ _)
 have hs2:(([]:List Value).toArray ++ Builtin.zeroCells (Value.agg #[.int .u32 0,.int .i64 0,.int .i64 0,.int .i64 0,.int .u32 0]).cells N ++ Builtin.zeroCells (Value.agg #[.int .u32 0,.int .i64 0,.int .i64 0,.int .i64 0,.int .u32 0]).cells (G-N)).size=G*5:=by
  simp[Builtin.zeroCells,Value.cells]
  omega
 obtain⟨ZZ,hZZ⟩:∃ z,([]:List Value).toArray ++ Builtin.zeroCells (Value.agg #[.int .u32 0,.int .i64 0,.int .i64 0,.int .i64 0,.int .u32 0]).cells N ++ Builtin.zeroCells (Value.agg #[.int .u32 0,.int .i64 0,.int .i64 0,.int .i64 0,.int .u32 0]).cells (G-N)=z:=⟨_,rfl⟩
 rw[hZZ]at hrz hs2
 have hG63:G≤9223372036854775807:=by unfold maxLen at hGm;omega
 have ho:(w.drew.alloc (.cells ZZ 90)).ownsRow w.heap.size 90 5 (.slice (af w.drew.heap.size 0) 0 G) 0 []:=World.ownsRow_made w.drew ZZ G (Nat.le_refl _) hGm hs2
 have HF:Hid (_):=And.intro ho (az hb (.cells ZZ 90))
 have h1:¬ (((N:Nat):Int)<0):=by omega
 have h2:((N:Nat):Int) > 0:=by omega
 clear hold hG hb hs2 hZZ ho hGm
 go_enter func70,ntmps70
 go_wp2_with (at_builtin;refine Lib.wpList_append_run _ rfl _ _ _ _ rfl _ _ rfl rfl _ _ (hrz _) ?_)
 go_ret
 exact⟨_,_,rfl,HF.out⟩
theorem rK (q off n c:Nat) (P:Nat→Pq) (w:World) (h:PqRow w (af q off) n P) (hn:n≤1000000):Calls prog 45 #[.slice (af q off) n c] w fun r w'=>∃ a' c',r=.returned (.slice a' n c')∧Hid (w'.ownsRow w.heap.size 90 5 (.slice a' n c') n (ei n P)∧Below w.heap.size w w'):=by
 have hnn:∀ w,(binOp .eql 27 (.slice (af q off) n c) (.slice none 0 0)).run prog w=.ok (.bool false) w:=fun _=>rfl
 obtain⟨i0,hI,hz0,hz1,hz2⟩:=info_parts dX
 have bA:=az (Below.refl _ w) (.cells #[] 90)
 have oA:(w.alloc (.cells #[] 90)).ownsRow w.heap.size 90 5 (.slice (af w.heap.size 0) 0 0) 0 []:=World.ownsRow_made w #[] 0 (Nat.le_refl _) (Nat.zero_le _) rfl
 have sA:=(h.below bA).src
 have HB:Hid (_):=bA
 have zA:w.heap.size ≤ (w.alloc (.cells #[] 90)).heap.size:=bA.size
 clear h bA
 go_enter func45,ntmps45
 go_wp2_with (at_builtin;refine wpList_append_own_at _ rfl _ _ 27 rfl w.heap.size 90 i0 (.agg #[.int .u32 0,.int .i64 0,.int .i64 0,.int .i64 0,.int .u32 0]) 5 40 underlying27 hI hz0 hz1 hz2 rfl (by decide) (.slice (af w.heap.size 0) 0 0) 0 [] rfl oA ⟨q,off,none⟩ n c (ei n P) rfl (fW _ _) sA (nP _ _) (by unfold maxLen;omega) (by omega) zA ?_)
 intro v' w' o' g' _ _
 obtain⟨a',c',rfl⟩:=cr o'
 have HF:Hid (_):=And.intro o' (HB.out.grown g' HB.out.size (fun k hk=>(oA.lt k hk).1))
 clear o' g' oA sA zA hnn
 go_wp2_with fail
 go_ret
 exact⟨_,_,rfl,HF.out.1,HF.out.2⟩
theorem wB (P Q:Nat→Pq) (s q0 o0 n0 c0 q1 o1 n1 c1:Nat) (w:World) (hs:w.heap[s]?=some (.cells #[.slice (af q0 o0) n0 c0,.slice (af q1 o1) n1 c1] 27 (0,0))) (h0:PqRow w (af q0 o0) n0 P) (h1:PqRow w (af q1 o1) n1 Q) (l0:0<n0) (b0:n0≤1000) (b1:n1≤1000):Calls prog 42 #[.slice (af s 0) 2 2] w fun r w'=>∃ a c,r=.returned (.slice a (n0+n1) c)∧Hid (PqRow w' a (n0+n1) (fun i=>if i<n0 then P i else Q (i-n0))∧n0+n1≤c∧Below w.heap.size w w'):=by
 obtain⟨i0,hI,hz0,hz1,hz2⟩:=info_parts dX
 have e0:=ae w s 0 _ _ _ hs
 have e1:=ae w s 1 _ _ _ hs
 have hG:=zJ (n0+n1) (by omega) (by omega) w
 rw[Int.natCast_add]at hG
 have ls:=(Array.getElem?_eq_some_iff.1 hs).1
 have H0:Hid (_):=ls
 have Hs:Hid (_):=hs
 have Hp:Hid (_):=h0
 have Hq:Hid (_):=h1
 have f0:¬ (((n0:Nat):Int)<0):=by omega
 have f1:¬ (((n0:Nat):Int) + ((n1:Nat):Int)<0):=by omega
 clear hs h0 h1 ls
 go_enter func42,ntmps42
 go_wp2_with fail
 refine wp_loop_rounds 3 ?_
 rw[rounds_succ]
 go_wp2_with fail
 rw[rounds_succ]
 go_wp2_with fail
 rw[rounds_succ]
 go_wp2_with fail
 refine hG.mono ?_
 rintro r w1 ⟨a,c,rfl,H1⟩
 have oA:=H1.out.1
 have bb1:=H1.out.2
 have d0:=ae w1 s 0 _ _ _ ((bb1.block s H0.out).trans Hs.out)
 have d1:=ae w1 s 1 _ _ _ ((bb1.block s H0.out).trans Hs.out)
 have sA:=(PqRow.below Hp.out bb1).src
 have zA:w.heap.size≤w1.heap.size:=bb1.size
 have HB1:Hid (_):=bb1
 clear bb1 hG e0 e1
 go_wp2_with fail
 refine wp_loop_rounds 3 ?_
 rw[rounds_succ]
 go_wp2_with (at_builtin;refine wpList_append_own_at _ rfl _ _ 27 rfl w.heap.size 90 i0 (.agg #[.int .u32 0,.int .i64 0,.int .i64 0,.int .i64 0,.int .u32 0]) 5 40 underlying27 hI hz0 hz1 hz2 rfl (by decide) (.slice a 0 c) 0 [] rfl oA ⟨q0,o0,none⟩ n0 c0 (ei n0 P) rfl (fW _ _) sA (nP _ _) (by unfold maxLen;omega) (by omega) zA ?_)
 intro v2 w2 o2 g2 _ _
 obtain⟨a2,c2,rfl⟩:=cr o2
 have bb2:=HB1.out.grown g2 zA (fun k hk=>(oA.lt k hk).1)
 have k0:=ae w2 s 0 _ _ _ ((bb2.block s H0.out).trans Hs.out)
 have k1:=ae w2 s 1 _ _ _ ((bb2.block s H0.out).trans Hs.out)
 have sB:=(PqRow.below Hq.out bb2).src
 have zB:w.heap.size≤w2.heap.size:=bb2.size
 have HB2:Hid (_):=bb2
 clear oA sA zA d0 d1 bb2 g2
 go_wp2_with fail
 rw[rounds_succ]
 go_wp2_with (at_builtin;refine wpList_append_own_at _ rfl _ _ 27 rfl w.heap.size 90 i0 (.agg #[.int .u32 0,.int .i64 0,.int .i64 0,.int .i64 0,.int .u32 0]) 5 40 underlying27 hI hz0 hz1 hz2 rfl (by decide) (.slice a2 n0 c2) n0 (ei n0 P) rfl o2 ⟨q1,o1,none⟩ n1 c1 (ei n1 Q) rfl (fW _ _) sB (nP _ _) (by unfold maxLen;omega) (by omega) zB ?_)
 intro v3 w3 o3 g3 _ _
 obtain⟨a3,c3,rfl⟩:=cr o3
 have HF:Hid (_):=And.intro o3 (HB2.out.grown g3 zB (fun k hk=>(o2.lt k hk).1))
 have m1:=ae w3 s 1 _ _ _ ((HF.out.2.block s H0.out).trans Hs.out)
 clear o2 o3 sB zB k0 k1 g3
 go_wp2_with fail
 rw[rounds_succ]
 go_wp2_with fail
 go_ret
 have h3:=HF.out.1
 rw[← xL]at h3
 refine⟨_,_,rfl,PqRow.ofOwn h3,?_,HF.out.2⟩
 rcases h3.2 with ⟨e,e2⟩ | ⟨g,cap,cur,e,_,_,hle,_⟩
 ·omega
 ·injection e with _ _ e3
  omega
def Pq.law (p:Pq):Prop:=rI p.c p.o p.i p.t p.n
instance (p:Pq):Decidable p.law:=inferInstanceAs (Decidable (rI p.c p.o p.i p.t p.n))
def oq (P:Nat→Pq) (n:Nat):Bool:=(List.range n).all fun i=>decide (P i).law
theorem tO (P:Nat→Pq) (n:Nat):oq P (n+1)=(oq P n && decide (P n).law):=by
 unfold oq
 rw[List.range_succ,List.all_append]
 simp
def ckE (n0 n1 mx:Nat) (P Q:Nat→Pq):Int:=if n0<1∨8<n0∨n1≠n0∨mx<1 then 2 else if oq (fun i=>if i<n0 then P i else Q (i-n0)) (n0+n1)=false then 90 else if (iC P n0 || iC Q n1)=true then 160 else 0
theorem xi (P Q:Nat→Pq) (a0 a1:Option Addr) (n0 c0 n1 c1 mx:Nat) (w:World) (h0:PqRow w a0 n0 P) (h1:PqRow w a1 n1 Q) (u0:n0≤c0) (u1:n1≤c1) (b0:n0≤1000000) (b1:n1≤1000000):Calls prog 22 #[.agg #[.slice a0 n0 c0,.slice a1 n1 c1,.int .u32 (mx:Nat)]] w fun r w'=>r=.returned (.int .i64 (ckE n0 n1 mx P Q))∧Hid (Below w.heap.size w w'):=by
 have kA:=ay w (.cells #[.slice a0 n0 c0,.slice a1 n1 c1,.int .u32 (mx:Nat)] 30)
 have bA:=az (Below.refl _ w) (.cells #[.slice a0 n0 c0,.slice a1 n1 c1,.int .u32 (mx:Nat)] 30)
 obtain⟨wa,hwa⟩:∃ y,w.alloc (.cells #[.slice a0 n0 c0,.slice a1 n1 c1,.int .u32 (mx:Nat)] 30)=y:=⟨_,rfl⟩
 rw[hwa]at kA bA
 have r0:=h0.below bA
 have r1:=h1.below bA
 obtain⟨x,hx⟩:∃ y,w.heap.size=y:=⟨_,rfl⟩
 have HB:Hid (Below w.heap.size w wa):=bA
 rw[hx]at kA
 have y0:wa.cell? ⟨x,0,none⟩=some (.slice a0 n0 c0):=ae wa x 0 _ _ _ kA
 have y1:wa.cell? ⟨x,1,none⟩=some (.slice a1 n1 c1):=ae wa x 1 _ _ _ kA
 have y2:wa.cell? ⟨x,2,none⟩=some (.int .u32 (mx:Nat)):=ae wa x 2 _ _ _ kA
 have HK:Hid (_):=kA
 have HR:Hid (_):=And.intro r0 r1
 have HE:Hid (_=wa):=hwa
 have HS:Hid (w.heap.size=x):=hx
 clear kA bA hwa hx r0 r1 h0 h1
 unfold ckE
 by_cases g1:n0<1
 ·rw[if_pos (.inl g1)]
  have g1':((n0:Nat):Int)<1:=by omega
  go_enter func22,ntmps22
  go_upto_region 1 with fail
  rw[HE.out,HS.out]
  go_wp2_with fail
  go_ret
  exact⟨rfl,HB.out⟩
 by_cases g2:8<n0
 ·rw[if_pos (.inr (.inl g2))]
  have g1':¬ (((n0:Nat):Int)<1):=by omega
  have g2':((n0:Nat):Int) > 8:=by omega
  go_enter func22,ntmps22
  go_upto_region 1 with fail
  rw[HE.out,HS.out]
  go_wp2_with fail
  go_ret
  exact⟨rfl,HB.out⟩
 have g1':¬ (((n0:Nat):Int)<1):=by omega
 have g2':¬ (((n0:Nat):Int) > 8):=by omega
 by_cases g3:n1=n0
 rotate_left
 ·rw[if_pos (.inr (.inr (.inl g3)))]
  have g3':(((n1:Nat):Int) != ((n0:Nat):Int))=true:=by simp;omega
  go_enter func22,ntmps22
  go_upto_region 1 with fail
  rw[HE.out,HS.out]
  go_wp2_with fail
  go_ret
  exact⟨rfl,HB.out⟩
 subst g3
 have g3':(((n1:Nat):Int) != ((n1:Nat):Int))=false:=by simp
 by_cases g4:mx<1
 ·rw[if_pos (.inr (.inr (.inr g4)))]
  have g4':((mx:Nat):Int)<1:=by omega
  go_enter func22,ntmps22
  go_upto_region 1 with fail
  rw[HE.out,HS.out]
  go_wp2_with fail
  go_ret
  exact⟨rfl,HB.out⟩
 have g4':¬ (((mx:Nat):Int)<1):=by omega
 rw[if_neg (by omega:¬ (n1<1∨8<n1∨n1≠n1∨mx<1))]
 obtain⟨q0,o0,ea0,_⟩:=HR.out.1 0 (by omega)
 obtain⟨q1,o1,ea1,_⟩:=HR.out.2 0 (by omega)
 subst ea0 ea1
 have bB:=az (Below.refl _ wa) (.cells #[.slice (af q0 o0) n1 c0,.slice (af q1 o1) n1 c1] 27)
 have kB:=ay wa (.cells #[.slice (af q0 o0) n1 c0,.slice (af q1 o1) n1 c1] 27)
 have hCc:=wB P Q wa.heap.size q0 o0 n1 c0 q1 o1 n1 c1 (wa.alloc (.cells #[.slice (af q0 o0) n1 c0,.slice (af q1 o1) n1 c1] 27)) kB (PqRow.below HR.out.1 bB) (PqRow.below HR.out.2 bB) (by omega) (by omega) (by omega)
 have HBB:Hid (_):=bB
 clear bB kB g1 g2 g4
 obtain⟨R,hR⟩:∃ z,(if oq (fun i=>if i<n1 then P i else Q (i-n1)) (n1+n1)=false then (90:Int) else if (iC P n1 || iC Q n1)=true then 160 else 0)=z:=⟨_,rfl⟩
 have HRR:Hid (_):=hR
 rw[hR]
 clear hR
 obtain⟨C,hC⟩:∃ C:Nat→Pq,(fun i=>if i<n1 then P i else Q (i-n1))=C:=⟨_,rfl⟩
 rw[hC]at hCc
 have HC:Hid (_):=hC
 clear hC
 go_enter func22,ntmps22
 go_upto_region 1 with fail
 rw[HE.out,HS.out]
 go_wp2_with fail
 refine hCc.mono ?_
 rintro r w1 ⟨a,c,rfl,H1⟩
 clear hCc y0 y1 y2
 have hb1:Below wa.heap.size wa w1:=HBB.out.trans (H1.out.2.2.mono HBB.out.size)
 have HB1:Hid (_):=hb1
 clear hb1
 go_wp2_with fail
 go_loopw [2,4,5,37,38,39,40,41,42,43,44,45,46] (fun _ _ _ v0 _ _ _ _ _ _ _ _ _ wr=>∃ i:Nat,i≤n1+n1∧v0=.int .i64 ((i:Nat):Int)∧Hid (oq C i=true∧Below w1.heap.size w1 wr)) (fun _ _ _ v0 _ _ _ _ _ _ _ _ _ _=>n1+n1-il v0)
 case atStart=>exact⟨0,by omega,rfl,rfl,Below.refl _ _⟩
 case round=>
  obtain⟨i,hi,rfl,HI⟩:=hrel
  by_cases hlt:i<n1+n1
  rotate_left
  ·obtain rfl:i=n1+n1:=by omega
   have hlt':¬ (((n1+n1:Nat):Nat):Int) < (((n1+n1:Nat):Nat):Int):=by omega
   have hbr:Below wa.heap.size wa wr:=HB1.out.trans (HI.out.2.mono HB1.out.size)
   have kr:=(hbr.block x (Array.getElem?_eq_some_iff.1 HK.out).1).trans HK.out
   have y0:wr.cell? ⟨x,0,none⟩=some (.slice (af q0 o0) n1 c0):=ae wr x 0 _ _ _ kr
   have y1:wr.cell? ⟨x,1,none⟩=some (.slice (af q1 o1) n1 c1):=ae wr x 1 _ _ _ kr
   have hD:=mF (af q0 o0) n1 c0 P wr (PqRow.below HR.out.1 hbr) (by omega) u0
   have HBr:Hid (_):=hbr
   clear kr hbr
   cases hd:iC P n1 with
   | true=>
    rw[hd]at hD
    have HN:Hid (R=160):=by
     show R=160
     rw[← HRR.out,HC.out,HI.out.1,hd]
     rfl
    clear hd
    go_wp2_with fail
    refine hD.mono ?_
    rintro r w3 ⟨rfl,H3⟩
    clear hD
    go_wp2_with fail
    go_ret
    exact⟨by rw[HN.out] <;> rfl,(HB.out.trans (HBr.out.mono HB.out.size)).trans (H3.out.mono (Nat.le_trans HB.out.size HBr.out.size))⟩
   | false=>
    rw[hd]at hD
    have HN0:Hid (iC P n1=false):=hd
    clear hd
    go_wp2_with fail
    refine hD.mono ?_
    rintro r w3 ⟨rfl,H3⟩
    clear hD y0 y1
    have hb3:Below wa.heap.size wa w3:=HBr.out.trans (H3.out.mono HBr.out.size)
    have kr:=(hb3.block x (Array.getElem?_eq_some_iff.1 HK.out).1).trans HK.out
    have y1:w3.cell? ⟨x,1,none⟩=some (.slice (af q1 o1) n1 c1):=ae w3 x 1 _ _ _ kr
    have hD:=mF (af q1 o1) n1 c1 Q w3 (PqRow.below HR.out.2 hb3) (by omega) u1
    have HB3:Hid (_):=hb3
    clear kr hb3
    cases hd:iC Q n1 with
    | true=>
     rw[hd]at hD
     have HN:Hid (R=160):=by
      show R=160
      rw[← HRR.out,HC.out,HI.out.1,HN0.out,hd]
      rfl
     clear hd
     go_wp2_with fail
     refine hD.mono ?_
     rintro r w4 ⟨rfl,H4⟩
     clear hD
     go_wp2_with fail
     go_ret
     exact⟨by rw[HN.out] <;> rfl,(HB.out.trans (HB3.out.mono HB.out.size)).trans (H4.out.mono (Nat.le_trans HB.out.size HB3.out.size))⟩
    | false=>
     rw[hd]at hD
     have HN:Hid (R=0):=by
      show R=0
      rw[← HRR.out,HC.out,HI.out.1,HN0.out,hd]
      rfl
     clear hd
     go_wp2_with fail
     refine hD.mono ?_
     rintro r w4 ⟨rfl,H4⟩
     clear hD
     go_wp2_with fail
     go_ret
     exact⟨by rw[HN.out] <;> rfl,(HB.out.trans (HB3.out.mono HB.out.size)).trans (H4.out.mono (Nat.le_trans HB.out.size HB3.out.size))⟩
  have hlt':((i:Nat):Int) < (((n1+n1:Nat):Nat):Int):=by omega
  obtain⟨q,off,ea,cc⟩:=(PqRow.below H1.out.1 HI.out.2) i hlt
  subst ea
  obtain⟨p,hP⟩:∃ y,C i=y:=⟨_,rfl⟩
  rw[hP]at cc
  have c0:wr.cell? ⟨q,off+i*5,none⟩=some (.int .u32 (p.c:Nat)):=cc 0 _ rfl
  have c1:wr.cell? ⟨q,off+i*5+1,none⟩=some (.int .i64 p.o):=cc 1 _ rfl
  have c2:wr.cell? ⟨q,off+i*5+2,none⟩=some (.int .i64 p.i):=cc 2 _ rfl
  have c3:wr.cell? ⟨q,off+i*5+3,none⟩=some (.int .i64 p.t):=cc 3 _ rfl
  have c4:wr.cell? ⟨q,off+i*5+4,none⟩=some (.int .u32 (p.n:Nat)):=cc 4 _ rfl
  have bA:=az (Below.refl _ wr) (.cells #[.int .u32 (p.c:Nat),.int .i64 p.o,.int .i64 p.i,.int .i64 p.t,.int .u32 (p.n:Nat)] 90)
  have HP:Hid (_):=hP
  have HBx:Hid (_):=HI.out.2.trans (bA.mono HI.out.2.size)
  clear cc hP bA
  by_cases hl:p.law
  ·have hCk:=fK p.c p.o p.i p.t p.n (wr.alloc (.cells #[.int .u32 (p.c:Nat),.int .i64 p.o,.int .i64 p.i,.int .i64 p.t,.int .u32 (p.n:Nat)] 90)) 0 (if_pos (show rI p.c p.o p.i p.t p.n from hl))
   have HN:Hid (oq C (i+1)=true):=by
    show oq C (i+1)=true
    rw[tO,HI.out.1,HP.out]
    simpa using hl
   clear hl
   go_wp2_with fail
   refine hCk.mono ?_
   rintro r w3 ⟨rfl,b3⟩
   have HB3:Hid (_):=b3
   clear hCk b3
   go_wp2_with fail
   go_roundw
   case rel=>exact⟨i+1,by omega,by first | rfl | go_num,HN.out,HBx.out.trans (HB3.out.mono HBx.out.size)⟩
   case measure=>simp only[il];omega
  ·have hCk:=fK p.c p.o p.i p.t p.n (wr.alloc (.cells #[.int .u32 (p.c:Nat),.int .i64 p.o,.int .i64 p.i,.int .i64 p.t,.int .u32 (p.n:Nat)] 90)) 90 (if_neg (show ¬ rI p.c p.o p.i p.t p.n from hl))
   have HN:Hid (R=90):=by
    show R=90
    rw[← HRR.out,HC.out]
    refine if_pos ?_
    rw[Bool.eq_false_iff]
    intro hh
    have:=List.all_eq_true.1 hh i (List.mem_range.2 hlt)
    rw[HP.out]at this
    exact hl (by simpa using this)
   clear hl
   go_wp2_with fail
   refine hCk.mono ?_
   rintro r w3 ⟨rfl,b3⟩
   have HB3:Hid (_):=b3
   clear hCk b3
   go_wp2_with fail
   go_ret
   have e1:Below wa.heap.size wa w3:=HB1.out.trans ((HBx.out.trans (HB3.out.mono HBx.out.size)).mono HB1.out.size)
   exact⟨by rw[HN.out] <;> rfl,HB.out.trans (e1.mono HB.out.size)⟩
end Go.Proofs.YtddahhlbpcbddaaGreat
