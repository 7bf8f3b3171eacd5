/- Part 39: contracts that the proof rests on. -/
import Derived.Lib.AppendZerosOnto
import Derived.LoopN
import Derived.Test.YtgaeofgdiaknpaaGreatPkR37
set_option maxHeartbeats 64000000
namespace Go.Proofs.YtgaeofgdiaknpaaGreat
set_option maxRecDepth 100000
open Go.RowKit Go.Maps
set_option linter.unusedVariables false
theorem info_parY:(Tryz.prog.info? 50).map (fun i=>(i.zero,i.size,i.bytes))=some (some (.agg #[.int .u32 0,.int .i64 0,.int .i64 0,.int .i64 0,.int .u32 0]),5,40):=by kernel_rfl
theorem own_cellY {w:World} {B e size g n c:Nat} {xs:List Value} (h:w.ownsRow B e size (.slice (some ⟨g,0,none⟩) n c) n xs):∀ j u,xs[j]?=some u→w.cell? ⟨g,j,none⟩=some u:=fun j u hu=>by
 rcases h.2 with ⟨e1,_⟩ | ⟨g',cap,cur,e1,_,hg,_,_,_,hx⟩
 ·cases e1
 ·injection e1 with e2 _ _
  injection e2 with e3
  injection e3 with e4
  subst e4
  rw[cell_of_row w g j _ _ _ hg,← hu,← hx]
  have:j<n*size:=by
   have h1:=(List.getElem?_eq_some_iff.1 hu).1
   rw[h.1]at h1
   exact h1
  rw[List.getElem?_take_of_lt this]
  simp
theorem own_someY {w:World} {B e size n c:Nat} {a:Option Addr} {xs:List Value} (h:w.ownsRow B e size (.slice a n c) n xs) (hn:n≠0):∃ g,a=some ⟨g,0,none⟩∧B≤g:=by
 rcases h.2 with ⟨_,e1⟩ | ⟨g',cap,cur,e1,hb,_⟩
 ·exact absurd e1 hn
 ·injection e1 with e2 _ _
  exact⟨g',e2,hb⟩
theorem own_lowY {w:World} {B B' e size n:Nat} {v:Value} {xs:List Value} (h:w.ownsRow B e size v n xs) (hB:B'≤B):w.ownsRow B' e size v n xs:=by
 refine⟨h.1,?_⟩
 rcases h.2 with h1 | ⟨g,cap,cur,e1,hb,r⟩
 ·exact .inl h1
 ·exact .inr ⟨g,cap,cur,e1,Nat.le_trans hB hb,r⟩
structure Pq where
 c:Nat
 o:Int
 i:Int
 t:Int
 n:Nat
def Pq.cs (p:Pq):List Value:=[.int .u32 (p.c:Nat),.int .i64 p.o,.int .i64 p.i,.int .i64 p.t,.int .u32 (p.n:Nat)]
def PqRow (w:World) (a:Option Addr) (len:Nat) (P:Nat→Pq):Prop:=∀ i,i<len→∃ q off,a=some ⟨q,off,none⟩∧∀ j u,(P i).cs[j]?=some u→w.cell? ⟨q,off+i*5+j,none⟩=some u
theorem PqRow.below {w w':World} {a:Option Addr} {len:Nat} {P:Nat→Pq} (h:PqRow w a len P) (b:Below w.heap.size w w'):PqRow w' a len P:=fun i hi=>by
 obtain⟨q,off,e,c⟩:=h i hi
 exact⟨q,off,e,fun j u hu=>cellY (c j u hu) b⟩
def natQ:Value→Nat
 | .int _ i=>i.toNat
 | _=>0
def hasC (P:Nat→Pq) (l c:Nat):Bool:=(List.range l).any fun i=>(P i).c == c
theorem hasC_succ (P:Nat→Pq) (l c:Nat):hasC P (l+1) c=(hasC P l c || ((P l).c == c)):=by
 unfold hasC
 rw[List.range_succ,List.any_append]
 simp
theorem pclos (p:Pq) (x c:Nat) (w:World) (cx:w.cell? ⟨x,0,none⟩=some (.int .u32 (c:Nat))):Calls Tryz.prog 59 #[.agg #[.int .u32 (p.c:Nat),.int .i64 p.o,.int .i64 p.i,.int .i64 p.t,.int .u32 (p.n:Nat)],.pointer (some ⟨x,0,none⟩)] w fun r w'=>r=.returned (.bool (((p.c:Nat):Int) == ((c:Nat):Int)))∧Below w.heap.size w w':=by
 have kA:=heap_alloc_new w (.cells #[.int .u32 (p.c:Nat),.int .i64 p.o,.int .i64 p.i,.int .i64 p.t,.int .u32 (p.n:Nat)] 50)
 have bA:=belY (Below.refl _ w) (.cells #[.int .u32 (p.c:Nat),.int .i64 p.o,.int .i64 p.i,.int .i64 p.t,.int .u32 (p.n:Nat)] 50)
 have c1:=cellY cx bA
 obtain⟨wa,hwa⟩:∃ z,w.alloc (.cells #[.int .u32 (p.c:Nat),.int .i64 p.o,.int .i64 p.i,.int .i64 p.t,.int .u32 (p.n:Nat)] 50)=z:=⟨_,rfl⟩
 rw[hwa]at kA bA c1
 obtain⟨y,hy⟩:∃ z,w.heap.size=z:=⟨_,rfl⟩
 have HB:Hid (Below w.heap.size w wa):=bA
 rw[hy]at kA
 have q0:wa.cell? ⟨y,0,none⟩=some (.int .u32 (p.c:Nat)):=cell_of_row wa y 0 _ _ _ kA
 have HE:Hid (_=wa):=hwa
 have HS:Hid (w.heap.size=y):=hy
 clear kA bA hwa hy cx
 go_enter Tryz.func59,Tryz.ntmps59
 go_upto_region 1 with fail
 rw[HE.out,HS.out]
 go_wp2_with fail
 go_ret
 exact⟨rfl,HB.out⟩
theorem pindexC (a:Option Addr) (len cap:Nat) (P:Nat→Pq) (x c:Nat) (w:World) (hr:PqRow w a len P) (cx:w.cell? ⟨x,0,none⟩=some (.int .u32 (c:Nat))) (hlen:len≤1000000):Calls Tryz.prog 76 #[.slice a len cap,(.func (.func 59) #[] #[.pointer (some ⟨x,0,none⟩)])] w fun r w'=>∃ k:Int,r=.returned (.int .i64 k)∧Hid ((decide (0≤k))=hasC P len c∧Below w.heap.size w w'):=by
 have HW:Hid (PqRow w a len P):=hr
 have HX:Hid (_):=cx
 clear hr cx
 go_enter Tryz.func76,Tryz.ntmps76
 go_wp2_with fail
 go_loopw [4,5,8,9,10,11,12,13,14,15,16,17,18] (fun _ _ c0 _ _ _ _ _ _ _ _ _ _ wr=>∃ i:Nat,i≤len∧c0=.int .i64 ((i:Nat):Int)∧Hid (hasC P i c=false∧Below w.heap.size w wr)) (fun _ _ c0 _ _ _ _ _ _ _ _ _ _ _=>len-natQ c0)
 case atStart=>exact⟨0,by omega,rfl,rfl,Below.refl _ _⟩
 case round=>
  obtain⟨i,hi,rfl,HI⟩:=hrel
  by_cases hlt:i<len
  rotate_left
  ·obtain rfl:i=len:=by omega
   have hlt':¬ ((i:Nat):Int) < ((i:Nat):Int):=by omega
   go_wp2_with fail
   go_ret
   exact⟨-1,rfl,by rw[HI.out.1] <;> rfl,HI.out.2⟩
  have hlt':((i:Nat):Int) < ((len:Nat):Int):=by omega
  have hw1:IntKind.i64.wrap (((i:Nat):Int)+1)=((i+1:Nat):Int):=by rw[IntKind.wrap_i64];omega
  obtain⟨q,off,ea,cc⟩:=(PqRow.below HW.out HI.out.2) i hlt
  subst ea
  obtain⟨p,hP⟩:∃ y,P i=y:=⟨_,rfl⟩
  rw[hP]at cc
  have c0:wr.cell? ⟨q,off+i*5,none⟩=some (.int .u32 (p.c:Nat)):=cc 0 _ rfl
  have c1:wr.cell? ⟨q,off+i*5+1,none⟩=some (.int .i64 p.o):=cc 1 _ rfl
  have c2:wr.cell? ⟨q,off+i*5+2,none⟩=some (.int .i64 p.i):=cc 2 _ rfl
  have c3:wr.cell? ⟨q,off+i*5+3,none⟩=some (.int .i64 p.t):=cc 3 _ rfl
  have c4:wr.cell? ⟨q,off+i*5+4,none⟩=some (.int .u32 (p.n:Nat)):=cc 4 _ rfl
  have hC:=pclos p x c wr (cellY HX.out HI.out.2)
  have HP:Hid (_):=hP
  clear cc hP
  by_cases hq:p.c=c
  ·rw[show (((p.c:Nat):Int) == ((c:Nat):Int))=true by rw[natEqY];exact decide_eq_true hq]at hC
   have HQ:Hid (p.c=c):=hq
   clear hq
   go_wp2_with fail
   refine hC.mono ?_
   rintro r w3 ⟨rfl,b3⟩
   go_wp2_with fail
   go_ret
   refine⟨((i:Nat):Int),rfl,?_,HI.out.2.trans (b3.mono HI.out.2.size)⟩
   rw[decide_eq_true (by omega)]
   refine (List.any_eq_true.2 ⟨i,List.mem_range.2 hlt,?_⟩).symm
   rw[HP.out]
   simpa using HQ.out
  ·rw[show (((p.c:Nat):Int) == ((c:Nat):Int))=false by rw[natEqY];exact decide_eq_false hq]at hC
   have HN:Hid (hasC P (i+1) c=false):=by
    show hasC P (i+1) c=false
    rw[hasC_succ,HI.out.1,HP.out]
    simpa using hq
   clear hq
   go_wp2_with fail
   refine hC.mono ?_
   rintro r w3 ⟨rfl,b3⟩
   have HB3:Hid (_):=b3
   clear b3 hC
   go_wp2_with fail
   exact⟨⟨i+1,by omega,by first | rfl | go_num,HN.out,HI.out.2.trans (HB3.out.mono HI.out.2.size)⟩,by simp only[natQ];omega⟩
theorem pcontainsC (a:Option Addr) (len cap:Nat) (P:Nat→Pq) (x c:Nat) (w:World) (hr:PqRow w a len P) (cx:w.cell? ⟨x,0,none⟩=some (.int .u32 (c:Nat))) (hlen:len≤1000000):Calls Tryz.prog 60 #[.slice a len cap,(.func (.func 59) #[] #[.pointer (some ⟨x,0,none⟩)])] w fun r w'=>r=.returned (.bool (hasC P len c))∧Hid (Below w.heap.size w w'):=by
 have hI:=pindexC a len cap P x c w hr cx hlen
 obtain⟨B,hB⟩:∃ y,hasC P len c=y:=⟨_,rfl⟩
 rw[hB]at hI ⊢
 clear hr cx hB
 go_enter Tryz.func60,Tryz.ntmps60
 go_wp2_with fail
 refine hI.mono ?_
 rintro r w2 ⟨k,rfl,H⟩
 go_wp2_with fail
 go_ret
 exact⟨by rw[← H.out.1] <;> rfl,H.out.2⟩
def dblC (P:Nat→Pq) (l:Nat):Bool:=(List.range l).any fun i=>hasC P i (P i).c
theorem dblC_succ (P:Nat→Pq) (l:Nat):dblC P (l+1)=(dblC P l || hasC P l (P l).c):=by
 unfold dblC
 rw[List.range_succ,List.any_append]
 simp
theorem pdoubledC (a:Option Addr) (len cap:Nat) (P:Nat→Pq) (w:World) (hr:PqRow w a len P) (hlen:len≤1000000) (hcap:len≤cap):Calls Tryz.prog 36 #[.slice a len cap] w fun r w'=>r=.returned (.bool (dblC P len))∧Hid (Below w.heap.size w w'):=by
 have HW:Hid (PqRow w a len P):=hr
 clear hr
 go_enter Tryz.func36,Tryz.ntmps36
 go_wp2_with fail
 go_loopw [2,3,4,5,8,9,10,11,12,13,14,15,16,17,18,19] (fun _ _ _ _ c0 _ _ _ _ _ _ _ _ _ _ _ wr=>∃ i:Nat,i≤len∧c0=.int .i64 ((i:Nat):Int)∧Hid (dblC P i=false∧Below w.heap.size w wr)) (fun _ _ _ _ c0 _ _ _ _ _ _ _ _ _ _ _ _=>len-natQ c0)
 case atStart=>exact⟨0,by omega,rfl,rfl,Below.refl _ _⟩
 case round=>
  obtain⟨i,hi,rfl,HI⟩:=hrel
  by_cases hlt:i<len
  rotate_left
  ·obtain rfl:i=len:=by omega
   have hlt':¬ ((i:Nat):Int) < ((i:Nat):Int):=by omega
   go_wp2_with fail
   go_ret
   exact⟨by rw[HI.out.1] <;> rfl,HI.out.2⟩
  have hlt':((i:Nat):Int) < ((len:Nat):Int):=by omega
  have hic:((i:Nat):Int) ≤ ((cap:Nat):Int):=by omega
  have hR:=PqRow.below HW.out HI.out.2
  obtain⟨q,off,ea,cc⟩:=hR i hlt
  subst ea
  obtain⟨p,hP⟩:∃ y,P i=y:=⟨_,rfl⟩
  rw[hP]at cc
  have c0:wr.cell? ⟨q,off+i*5,none⟩=some (.int .u32 (p.c:Nat)):=cc 0 _ rfl
  have c1:wr.cell? ⟨q,off+i*5+1,none⟩=some (.int .i64 p.o):=cc 1 _ rfl
  have c2:wr.cell? ⟨q,off+i*5+2,none⟩=some (.int .i64 p.i):=cc 2 _ rfl
  have c3:wr.cell? ⟨q,off+i*5+3,none⟩=some (.int .i64 p.t):=cc 3 _ rfl
  have c4:wr.cell? ⟨q,off+i*5+4,none⟩=some (.int .u32 (p.n:Nat)):=cc 4 _ rfl
  have bA:=belY (Below.refl _ wr) (.cells #[.int .u32 (p.c:Nat),.int .i64 p.o,.int .i64 p.i,.int .i64 p.t,.int .u32 (p.n:Nat)] 50)
  have kA:=heap_alloc_new wr (.cells #[.int .u32 (p.c:Nat),.int .i64 p.o,.int .i64 p.i,.int .i64 p.t,.int .u32 (p.n:Nat)] 50)
  have hC:=pcontainsC (some ⟨q,off,none⟩) i cap P wr.heap.size p.c (wr.alloc (.cells #[.int .u32 (p.c:Nat),.int .i64 p.o,.int .i64 p.i,.int .i64 p.t,.int .u32 (p.n:Nat)] 50)) (fun j hj=>(hR.below bA) j (by omega)) (cell_of_row _ _ 0 _ _ _ kA) (by omega)
  have HP:Hid (_):=hP
  have HB:Hid (_):=HI.out.2.trans (bA.mono HI.out.2.size)
  clear cc hP bA kA hR
  cases hq:hasC P i p.c with
  | true=>
   rw[hq]at hC
   have HN:Hid (dblC P len=true):=List.any_eq_true.2 ⟨i,List.mem_range.2 hlt,by rw[HP.out];exact hq⟩
   clear hq
   go_wp2_with fail
   refine hC.mono ?_
   rintro r w3 ⟨rfl,H3⟩
   clear hC
   go_wp2_with fail
   go_ret
   exact⟨by rw[HN.out] <;> rfl,HB.out.trans (H3.out.mono HB.out.size)⟩
  | false=>
   rw[hq]at hC
   have HN:Hid (dblC P (i+1)=false):=by
    show dblC P (i+1)=false
    rw[dblC_succ,HI.out.1,HP.out,hq]
    rfl
   clear hq
   go_wp2_with fail
   refine hC.mono ?_
   rintro r w3 ⟨rfl,H3⟩
   clear hC
   go_wp2_with fail
   go_roundw
   case rel=>exact⟨i+1,by omega,by first | rfl | go_num,HN.out,HB.out.trans (H3.out.mono HB.out.size)⟩
   case measure=>simp only[natQ];omega
def flQ (n:Nat) (P:Nat→Pq):List Value:=(List.range n).flatMap fun i=>(P i).cs
theorem flQ_succ (n:Nat) (P:Nat→Pq):flQ (n+1) P=flQ n P ++ (P n).cs:=by
 unfold flQ
 rw[List.range_succ,List.flatMap_append]
 simp
theorem flQ_len (n:Nat) (P:Nat→Pq):(flQ n P).length=n*5:=by
 induction n with
 | zero=>rfl
 | succ n ih=>
  rw[flQ_succ,List.length_append,ih]
  have:(P n).cs.length=5:=rfl
  omega
theorem flQ_one (n:Nat) (P:Nat→Pq):∀ u ∈ flQ n P,u.oneCell'=true:=by
 intro u hu
 unfold flQ at hu
 obtain⟨i,_,hi⟩:=List.mem_flatMap.1 hu
 simp[Pq.cs]at hi
 rcases hi with rfl | rfl | rfl | rfl | rfl <;> rfl
theorem flQ_get (n:Nat) (P:Nat→Pq) (i j:Nat) (hi:i<n) (hj:j<5):(flQ n P)[i*5+j]?=(P i).cs[j]?:=by
 induction n with
 | zero=>omega
 | succ n ih=>
  rw[flQ_succ]
  by_cases h:i<n
  ·rw[List.getElem?_append_left (by rw[flQ_len];omega)]
   exact ih h
  ·obtain rfl:i=n:=by omega
   rw[List.getElem?_append_right (by rw[flQ_len];omega),flQ_len]
   congr 1
   omega
theorem flQ_cat (n k:Nat) (P Q:Nat→Pq):flQ (n+k) (fun i=>if i<n then P i else Q (i-n))=flQ n P ++ flQ k Q:=by
 induction k with
 | zero=>
  have e:∀ m,m≤n→flQ m (fun i=>if i<n then P i else Q (i-n))=flQ m P:=by
   intro m hm
   induction m with
   | zero=>rfl
   | succ m ih=>
    rw[flQ_succ,flQ_succ,ih (by omega),if_pos (by omega)]
  have:flQ 0 Q=[]:=rfl
  rw[this,List.append_nil]
  exact e n (Nat.le_refl _)
 | succ k ih=>
  rw[show n + (k+1)=(n+k)+1 by omega,flQ_succ,ih,flQ_succ,List.append_assoc,if_neg (by omega),show n+k-n=k by omega]
theorem PqRow.src {w:World} {q off n:Nat} {P:Nat→Pq} (h:PqRow w (some ⟨q,off,none⟩) n P):∀ j u,(flQ n P)[j]?=some u→w.cell? ((⟨q,off,none⟩:Addr).add j)=some u:=fun j u hu=>by
 have hj:j<n*5:=by
  have:=(List.getElem?_eq_some_iff.1 hu).1
  rw[flQ_len]at this
  exact this
 have e:(Addr.add ⟨q,off,none⟩ j)=⟨q,off+j,none⟩:=Addr.add_mid q off j
 obtain⟨q',off',e1,c⟩:=h (j / 5) (by omega)
 injection e1 with e1
 injection e1 with e2 e3
 subst e2 e3
 have g:=flQ_get n P (j / 5) (j % 5) (by omega) (by omega)
 rw[show j / 5*5+j % 5=j by omega,hu]at g
 have:=c (j % 5) u g.symm
 rw[show off+j / 5*5+j % 5=off+j by omega]at this
 rw[e]
 exact this
theorem PqRow.ofOwn {w:World} {B n c:Nat} {a:Option Addr} {P:Nat→Pq} (h:w.ownsRow B 50 5 (.slice a n c) n (flQ n P)):PqRow w a n P:=fun i hi=>by
 obtain⟨g,rfl,_⟩:=own_someY h (by omega)
 refine⟨g,0,rfl,fun j u hu=>?_⟩
 have hj:j<5:=by
  have:=(List.getElem?_eq_some_iff.1 hu).1
  exact this
 have:=own_cellY h (i*5+j) u (by rw[flQ_get n P i j hi hj];exact hu)
 rw[Nat.zero_add]
 exact this
theorem pgrowN (N:Nat) (h0:0<N) (hN:N≤1000000) (w:World):Calls Tryz.prog 57 #[.slice none 0 0,.int .i64 (N:Nat)] w fun r w'=>∃ a c,r=.returned (.slice a 0 c)∧Hid (w'.ownsRow w.heap.size 50 5 (.slice a 0 c) 0 []∧Below w.heap.size w w'):=by
 obtain⟨i0,hI,hz0,hz1,hz2⟩:=info_parts info_parY
 have hold:(Builtin.firstCells i0.size 0 (.slice none 0 0)).run Tryz.prog w.drew=.ok ([]:List Value).toArray w.drew:=run_firstCells_none _ _ _ _ _
 have hnc:Builtin.nextslicecap N 0*40≤281474976710656:=by
  unfold Builtin.nextslicecap
  rw[if_pos (by omega)]
  omega
 have hrz:∀ ty,(Builtin.append_ #[23,3] ty #[.slice none 0 0,.int .i64 (N:Nat)]).run Tryz.prog w=_:=fun ty=>Lib.run_append_grow_zeros (P:=Tryz.prog) w 23 3 ty 50 i0 _ .i64 .i64 Tryz.underlying23 Tryz.underlying3 hI hz0 none 0 0 [] hold N h0 (by rw[hz1];omega) (by omega) (by omega) (by rw[hz2];omega) (by rw[hz2,Nat.zero_add];exact hnc)
 have hGn:N≤grownCap w N 0 50:=grownCap_ge w _ _ _
 have hGm:grownCap w N 0 50≤maxLen:=grownCap_le_maxLen w N 0 _ (by unfold maxLen;omega)
 obtain⟨G,hG⟩:∃ G,grownCap w N 0 50=G:=⟨_,rfl⟩
 simp only[Nat.zero_add]at hrz
 rw[hG]at hrz hGn hGm
 have hb:Below w.heap.size w w.drew:=Below.drew (Below.refl _ _)
 have hs2:(([]:List Value).toArray ++ Builtin.zeroCells (Value.agg #[.int .u32 0,.int .i64 0,.int .i64 0,.int .i64 0,.int .u32 0]).cells N ++ Builtin.zeroCells (Value.agg #[.int .u32 0,.int .i64 0,.int .i64 0,.int .i64 0,.int .u32 0]).cells (G-N)).size=G*5:=by
  simp[Builtin.zeroCells,Value.cells]
  omega
 obtain⟨ZZ,hZZ⟩:∃ z,([]:List Value).toArray ++ Builtin.zeroCells (Value.agg #[.int .u32 0,.int .i64 0,.int .i64 0,.int .i64 0,.int .u32 0]).cells N ++ Builtin.zeroCells (Value.agg #[.int .u32 0,.int .i64 0,.int .i64 0,.int .i64 0,.int .u32 0]).cells (G-N)=z:=⟨_,rfl⟩
 rw[hZZ]at hrz hs2
 have hG63:G≤9223372036854775807:=by unfold maxLen at hGm;omega
 have ho:(w.drew.alloc (.cells ZZ 50)).ownsRow w.heap.size 50 5 (.slice (some ⟨w.drew.heap.size,0,none⟩) 0 G) 0 []:=World.ownsRow_made w.drew ZZ G (Nat.le_refl _) hGm hs2
 have HF:Hid (_):=And.intro ho (belY hb (.cells ZZ 50))
 have h1:¬ (((N:Nat):Int)<0):=by omega
 have h2:((N:Nat):Int) > 0:=by omega
 clear hold hG hb hs2 hZZ ho hGm
 go_enter Tryz.func57,Tryz.ntmps57
 go_wp2_with (at_builtin;refine Lib.wpList_append_run _ rfl _ _ _ _ rfl _ _ rfl rfl _ _ (hrz _) ?_)
 go_ret
 exact⟨_,_,rfl,HF.out⟩
theorem pcloneQ (q off n c:Nat) (P:Nat→Pq) (w:World) (h:PqRow w (some ⟨q,off,none⟩) n P) (hn:n≤1000000):Calls Tryz.prog 37 #[.slice (some ⟨q,off,none⟩) n c] w fun r w'=>∃ a' c',r=.returned (.slice a' n c')∧Hid (w'.ownsRow w.heap.size 50 5 (.slice a' n c') n (flQ n P)∧Below w.heap.size w w'):=by
 have hnn:∀ w,(binOp .eql 23 (.slice (some ⟨q,off,none⟩) n c) (.slice none 0 0)).run Tryz.prog w=.ok (.bool false) w:=fun _=>rfl
 obtain⟨i0,hI,hz0,hz1,hz2⟩:=info_parts info_parY
 have bA:=belY (Below.refl _ w) (.cells #[] 50)
 have oA:(w.alloc (.cells #[] 50)).ownsRow w.heap.size 50 5 (.slice (some ⟨w.heap.size,0,none⟩) 0 0) 0 []:=World.ownsRow_made w #[] 0 (Nat.le_refl _) (Nat.zero_le _) rfl
 have sA:=(h.below bA).src
 have HB:Hid (_):=bA
 have zA:w.heap.size ≤ (w.alloc (.cells #[] 50)).heap.size:=bA.size
 clear h bA
 go_enter Tryz.func37,Tryz.ntmps37
 go_wp2_with (at_builtin;refine wpList_append_own_at _ rfl _ _ 23 rfl w.heap.size 50 i0 (.agg #[.int .u32 0,.int .i64 0,.int .i64 0,.int .i64 0,.int .u32 0]) 5 40 Tryz.underlying23 hI hz0 hz1 hz2 rfl (by decide) (.slice (some ⟨w.heap.size,0,none⟩) 0 0) 0 [] rfl oA ⟨q,off,none⟩ n c (flQ n P) rfl (flQ_len _ _) sA (flQ_one _ _) (by unfold maxLen;omega) (by omega) zA ?_)
 intro v' w' o' g' _ _
 obtain⟨a',c',rfl⟩:=own_shape o'
 have HF:Hid (_):=And.intro o' (HB.out.grown g' HB.out.size (fun k hk=>(oA.lt k hk).1))
 clear o' g' oA sA zA hnn
 go_wp2_with fail
 go_ret
 exact⟨_,_,rfl,HF.out.1,HF.out.2⟩
end Go.Proofs.YtgaeofgdiaknpaaGreat
