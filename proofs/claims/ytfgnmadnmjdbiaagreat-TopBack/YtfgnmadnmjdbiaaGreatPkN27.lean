/- Part 28: contracts that the proof rests on. -/
import Derived.Lib.AppendZerosOnto
import Derived.LoopN
import Derived.Test.YtfgnmadnmjdbiaaGreatPkN26
set_option maxHeartbeats 64000000
set_option maxRecDepth 100000
namespace Go.Proofs.YtfgnmadnmjdbiaaGreat
open Tryz
open Go.RowKit Go.Maps
set_option linter.unusedVariables false
theorem i4:(prog.info? 42).map (fun i=>(i.zero,i.size,i.bytes))=some (some (.agg #[.int .u32 0,.int .i64 0,.int .i64 0,.int .i64 0,.int .u32 0]),5,40):=by kernel_rfl
theorem Pm.cs_one (P:Pm):∀ u ∈ P.cs,u.oneCell'=true:=by
 intro u hu
 simp[Pm.cs]at hu
 rcases hu with rfl | rfl | rfl | rfl | rfl <;> rfl
theorem Pm.cells {W:World} {g:Nat} {P:Pm} (h:W.heap[g]?=some (.cells #[.int .u32 (P.c:Nat),.int .i64 (P.o:Nat),.int .i64 (P.i:Nat),.int .i64 (P.t:Nat),.int .u32 (P.n:Nat)] 42 (0,0))):∀ j u,P.cs[j]?=some u→W.cell? ((⟨g,0,none⟩:Addr).add j)=some u:=fun j u hu=>by
 have e:(Addr.add ⟨g,0,none⟩ j)=⟨g,j,none⟩:=by unfold Addr.add;simp;omega
 rw[e,ae W g j _ _ _ h]
 have:(#[.int .u32 (P.c:Nat),.int .i64 (P.o:Nat),.int .i64 (P.i:Nat),.int .i64 (P.t:Nat),.int .u32 (P.n:Nat)]:Array Value)[j]?=P.cs[j]?:=by
  show (P.cs.toArray)[j]?=_
  simp
 rw[this]
 exact hu
theorem xu (w:World):Calls prog 60 #[.slice none 0 0,.int .i64 2] w fun r w'=>∃ a c,r=.returned (.slice a 0 c)∧Hid (w'.ownsRow w.heap.size 42 5 (.slice a 0 c) 0 []∧Below w.heap.size w w'):=by
 obtain⟨i0,hI,hz0,hz1,hz2⟩:=info_parts i4
 have hold:(Builtin.firstCells i0.size 0 (.slice none 0 0)).run prog w.drew=.ok ([]:List Value).toArray w.drew:=run_firstCells_none _ _ _ _ _
 have hrz:∀ ty,(Builtin.append_ #[34,3] ty #[.slice none 0 0,.int .i64 2]).run prog w=_:=fun ty=>Lib.run_append_grow_zeros (P:=prog) w 34 3 ty 42 i0 _ .i64 .i64 underlying34 underlying3 hI hz0 none 0 0 [] hold 2 (by omega) (by rw[hz1];omega) (by omega) (by omega) (by rw[hz2];omega) (by rw[hz2];decide)
 have hGn:2≤grownCap w 2 0 42:=grownCap_ge w _ _ _
 have hGm:grownCap w 2 0 42≤maxLen:=grownCap_le_maxLen w 2 0 _ (by unfold maxLen;omega)
 obtain⟨G,hG⟩:∃ G,grownCap w 2 0 42=G:=⟨_,rfl⟩
 simp only[Nat.zero_add]at hrz
 rw[hG]at hrz hGn hGm
 have hb:Below w.heap.size w w.drew:=Below.drew (Below.refl _ _)
 have hs2:(([]:List Value).toArray ++ Builtin.zeroCells (Value.agg #[.int .u32 0,.int .i64 0,.int .i64 0,.int .i64 0,.int .u32 0]).cells 2 ++ Builtin.zeroCells (Value.agg #[.int .u32 0,.int .i64 0,.int .i64 0,.int .i64 0,.int .u32 0]).cells (G-2)).size=G*5:=by
  simp[Builtin.zeroCells,Value.cells]
  omega
 obtain⟨ZZ,hZZ⟩:∃ z,([]:List Value).toArray ++ Builtin.zeroCells (Value.agg #[.int .u32 0,.int .i64 0,.int .i64 0,.int .i64 0,.int .u32 0]).cells 2 ++ Builtin.zeroCells (Value.agg #[.int .u32 0,.int .i64 0,.int .i64 0,.int .i64 0,.int .u32 0]).cells (G-2)=z:=⟨_,rfl⟩
 rw[hZZ]at hrz hs2
 have hG63:G≤9223372036854775807:=by unfold maxLen at hGm;omega
 have ho:(w.drew.alloc (.cells ZZ 42)).ownsRow w.heap.size 42 5 (.slice (af w.drew.heap.size 0) 0 G) 0 []:=World.ownsRow_made w.drew ZZ G (Nat.le_refl _) hGm hs2
 have HF:Hid (_):=And.intro ho (aM hb (.cells ZZ 42))
 clear hold hG hb hs2 hZZ ho hGm
 go_enter func60,ntmps60
 go_wp2_with (at_builtin;refine Lib.wpList_append_run _ rfl _ _ _ _ rfl _ _ rfl rfl _ _ (hrz _) ?_)
 go_ret
 exact⟨_,_,rfl,HF.out⟩
theorem uB (P Q:Pm) (s q0 q1:Nat) (w:World) (hs:w.heap[s]?=some (.cells #[.slice (af q0 0) 1 1,.slice (af q1 0) 1 1] 34 (0,0))) (h0:w.heap[q0]?=some (.cells #[.int .u32 (P.c:Nat),.int .i64 (P.o:Nat),.int .i64 (P.i:Nat),.int .i64 (P.t:Nat),.int .u32 (P.n:Nat)] 42 (0,0))) (h1:w.heap[q1]?=some (.cells #[.int .u32 (Q.c:Nat),.int .i64 (Q.o:Nat),.int .i64 (Q.i:Nat),.int .i64 (Q.t:Nat),.int .u32 (Q.n:Nat)] 42 (0,0))):Calls prog 40 #[.slice (af s 0) 2 2] w fun r w'=>∃ a c,r=.returned (.slice a 2 c)∧Hid (w'.ownsRow w.heap.size 42 5 (.slice a 2 c) 2 (P.cs ++ Q.cs)∧Below w.heap.size w w'):=by
 obtain⟨i0,hI,hz0,hz1,hz2⟩:=info_parts i4
 have c0:=ae w s 0 _ _ _ hs
 have c1:=ae w s 1 _ _ _ hs
 have hG:=xu w
 have ls:=(Array.getElem?_eq_some_iff.1 hs).1
 have l0:=(Array.getElem?_eq_some_iff.1 h0).1
 have l1:=(Array.getElem?_eq_some_iff.1 h1).1
 have H0:Hid (_):=And.intro ls (And.intro l0 l1)
 have Hs:Hid (_):=hs
 have Hp:Hid (_):=h0
 have Hq:Hid (_):=h1
 clear hs h0 h1 ls l0 l1
 go_enter func40,ntmps40
 go_wp2_with fail
 refine wp_loop_rounds 3 ?_
 rw[rounds_succ]
 go_wp2_with fail
 rw[rounds_succ]
 go_wp2_with fail
 rw[rounds_succ]
 go_wp2_with fail
 refine hG.mono ?_
 rintro r w1 ⟨a,c,rfl,H1⟩
 have oA:=H1.out.1
 have b1:=H1.out.2
 have d0:=ae w1 s 0 _ _ _ ((b1.block s H0.out.1).trans Hs.out)
 have d1:=ae w1 s 1 _ _ _ ((b1.block s H0.out.1).trans Hs.out)
 have sA:=Pm.cells ((b1.block q0 H0.out.2.1).trans Hp.out)
 have zA:w.heap.size≤w1.heap.size:=b1.size
 have HB1:Hid (_):=b1
 clear b1 hG c0 c1
 go_wp2_with fail
 refine wp_loop_rounds 3 ?_
 rw[rounds_succ]
 go_wp2_with (at_builtin;refine wpList_append_own_at _ rfl _ _ 34 rfl w.heap.size 42 i0 (.agg #[.int .u32 0,.int .i64 0,.int .i64 0,.int .i64 0,.int .u32 0]) 5 40 underlying34 hI hz0 hz1 hz2 rfl (by decide) (.slice a 0 c) 0 [] rfl oA ⟨q0,0,none⟩ 1 1 P.cs rfl rfl sA P.cs_one (by unfold maxLen;omega) (by omega) zA ?_)
 intro v2 w2 o2 g2 _ _
 obtain⟨a2,c2,rfl⟩:=cN o2
 have b2:=HB1.out.grown g2 zA (fun k hk=>(oA.lt k hk).1)
 have e0:=ae w2 s 0 _ _ _ ((b2.block s H0.out.1).trans Hs.out)
 have e1:=ae w2 s 1 _ _ _ ((b2.block s H0.out.1).trans Hs.out)
 have sB:=Pm.cells ((b2.block q1 H0.out.2.2).trans Hq.out)
 have zB:w.heap.size≤w2.heap.size:=b2.size
 have HB2:Hid (_):=b2
 clear oA sA zA d0 d1 b2 g2
 go_wp2_with fail
 rw[rounds_succ]
 go_wp2_with (at_builtin;refine wpList_append_own_at _ rfl _ _ 34 rfl w.heap.size 42 i0 (.agg #[.int .u32 0,.int .i64 0,.int .i64 0,.int .i64 0,.int .u32 0]) 5 40 underlying34 hI hz0 hz1 hz2 rfl (by decide) (.slice a2 1 c2) 1 P.cs rfl o2 ⟨q1,0,none⟩ 1 1 Q.cs rfl rfl sB Q.cs_one (by unfold maxLen;omega) (by omega) zB ?_)
 intro v3 w3 o3 g3 _ _
 obtain⟨a3,c3,rfl⟩:=cN o3
 have HF:Hid (_):=And.intro o3 (HB2.out.grown g3 zB (fun k hk=>(o2.lt k hk).1))
 have f1:=ae w3 s 1 _ _ _ ((HF.out.2.block s H0.out.1).trans Hs.out)
 clear o2 o3 sB zB e0 e1 g3
 go_wp2_with fail
 rw[rounds_succ]
 go_wp2_with fail
 go_ret
 exact⟨_,_,rfl,HF.out⟩
theorem vy (b:Option Addr) (c:Nat) (f:Value) (w:World):Calls prog 79 #[.slice b 0 c,f] w fun r w'=>r=.returned (.int .i64 (-1))∧w'=w:=by
 go_enter func79,ntmps79
 go_wp2_with fail
 refine wp_loop_rounds 1 ?_
 rw[rounds_succ]
 go_wp2_with fail
 go_ret
 exact⟨rfl,rfl⟩
theorem oX (b:Option Addr) (c:Nat) (f:Value) (w:World):Calls prog 63 #[.slice b 0 c,f] w fun r w'=>r=.returned (.bool false)∧w'=w:=by
 have hI:=vy b c f w
 go_enter func63,ntmps63
 go_wp2_with fail
 refine hI.mono ?_
 rintro r w2 ⟨rfl,rfl⟩
 go_wp2_with fail
 go_ret
 exact⟨rfl,rfl⟩
theorem lB (P:Pm) (q:Nat) (w:World) (h:w.heap[q]?=some (.cells #[.int .u32 (P.c:Nat),.int .i64 (P.o:Nat),.int .i64 (P.i:Nat),.int .i64 (P.t:Nat),.int .u32 (P.n:Nat)] 42 (0,0))):Calls prog 42 #[.slice (af q 0) 1 1] w fun r w'=>r=.returned (.bool false)∧Below w.heap.size w w':=by
 have c0:w.cell? ⟨q,0,none⟩=some (.int .u32 (P.c:Nat)):=ae w q 0 _ _ _ h
 have c1:w.cell? ⟨q,1,none⟩=some (.int .i64 (P.o:Nat)):=ae w q 1 _ _ _ h
 have c2:w.cell? ⟨q,2,none⟩=some (.int .i64 (P.i:Nat)):=ae w q 2 _ _ _ h
 have c3:w.cell? ⟨q,3,none⟩=some (.int .i64 (P.t:Nat)):=ae w q 3 _ _ _ h
 have c4:w.cell? ⟨q,4,none⟩=some (.int .u32 (P.n:Nat)):=ae w q 4 _ _ _ h
 have bA:=aM (Below.refl _ w) (.cells #[.int .u32 (P.c:Nat),.int .i64 (P.o:Nat),.int .i64 (P.i:Nat),.int .i64 (P.t:Nat),.int .u32 (P.n:Nat)] 42)
 have HF:Hid (_):=bA
 have hC:=oX
 clear bA h
 go_enter func42,ntmps42
 go_wp2_with fail
 refine wp_loop_rounds 2 ?_
 rw[rounds_succ]
 go_wp2_with fail
 refine (hC _ _ _ _).mono ?_
 rintro r w2 ⟨rfl,rfl⟩
 go_wp2_with fail
 rw[rounds_succ]
 go_wp2_with fail
 go_ret
 exact⟨rfl,HF.out⟩
theorem sf {w:World} {B e size g n c:Nat} {xs:List Value} (h:w.ownsRow B e size (.slice (af g 0) n c) n xs):∀ j u,xs[j]?=some u→w.cell? ⟨g,j,none⟩=some u:=fun j u hu=>by
 rcases h.2 with ⟨e1,_⟩ | ⟨g',cap,cur,e1,_,hg,_,_,_,hx⟩
 ·cases e1
 ·injection e1 with e2 _ _
  injection e2 with e3
  injection e3 with e4
  subst e4
  rw[ae w g j _ _ _ hg,← hu,← hx]
  have:j<n*size:=by
   have h1:=(List.getElem?_eq_some_iff.1 hu).1
   rw[h.1]at h1
   exact h1
  rw[List.getElem?_take_of_lt this]
  simp
theorem qR {w:World} {B e size n c:Nat} {a:Option Addr} {xs:List Value} (h:w.ownsRow B e size (.slice a n c) n xs) (hn:n≠0):∃ g,a=af g 0∧B≤g:=by
 rcases h.2 with ⟨_,e1⟩ | ⟨g',cap,cur,e1,hb,_⟩
 ·exact absurd e1 hn
 ·injection e1 with e2 _ _
  exact⟨g',e2,hb⟩
theorem ei {w:World} {B B' e size n:Nat} {v:Value} {xs:List Value} (h:w.ownsRow B e size v n xs) (hB:B'≤B):w.ownsRow B' e size v n xs:=by
 refine⟨h.1,?_⟩
 rcases h.2 with h1 | ⟨g,cap,cur,e1,hb,r⟩
 ·exact .inl h1
 ·exact .inr ⟨g,cap,cur,e1,Nat.le_trans hB hb,r⟩
theorem wB (P Q:Pm) (hP:Pok P) (hQ:Pok Q) (q0 q1 mx:Nat) (h0:mx≠0) (w:World) (k0:w.heap[q0]?=some (.cells #[.int .u32 (P.c:Nat),.int .i64 (P.o:Nat),.int .i64 (P.i:Nat),.int .i64 (P.t:Nat),.int .u32 (P.n:Nat)] 42 (0,0))) (k1:w.heap[q1]?=some (.cells #[.int .u32 (Q.c:Nat),.int .i64 (Q.o:Nat),.int .i64 (Q.i:Nat),.int .i64 (Q.t:Nat),.int .u32 (Q.n:Nat)] 42 (0,0))):Calls prog 24 #[.agg #[.slice (af q0 0) 1 1,.slice (af q1 0) 1 1,.int .u32 (mx:Nat)]] w fun r w'=>r=.returned (.int .i64 0)∧Hid (Below w.heap.size w w'):=by
 have kA:=aE w (.cells #[.slice (af q0 0) 1 1,.slice (af q1 0) 1 1,.int .u32 (mx:Nat)] 37)
 have bA:=aM (Below.refl _ w) (.cells #[.slice (af q0 0) 1 1,.slice (af q1 0) 1 1,.int .u32 (mx:Nat)] 37)
 obtain⟨wa,hwa⟩:∃ y,w.alloc (.cells #[.slice (af q0 0) 1 1,.slice (af q1 0) 1 1,.int .u32 (mx:Nat)] 37)=y:=⟨_,rfl⟩
 rw[hwa]at kA bA
 have l0:=(Array.getElem?_eq_some_iff.1 k0).1
 have l1:=(Array.getElem?_eq_some_iff.1 k1).1
 obtain⟨x,hx⟩:∃ y,w.heap.size=y:=⟨_,rfl⟩
 rw[hx]at kA
 have n0:wa.cell? ⟨x,0,none⟩=some (.slice (af q0 0) 1 1):=ae wa x 0 _ _ _ kA
 have n1:wa.cell? ⟨x,1,none⟩=some (.slice (af q1 0) 1 1):=ae wa x 1 _ _ _ kA
 have n2:wa.cell? ⟨x,2,none⟩=some (.int .u32 (mx:Nat)):=ae wa x 2 _ _ _ kA
 have bB:=aM (Below.refl _ wa) (.cells #[.slice (af q0 0) 1 1,.slice (af q1 0) 1 1] 34)
 have kB:=aE wa (.cells #[.slice (af q0 0) 1 1,.slice (af q1 0) 1 1] 34)
 have lxa:=(Array.getElem?_eq_some_iff.1 kA).1
 have lqa0:q0<wa.heap.size:=Nat.lt_of_lt_of_le l0 bA.size
 have lqa1:q1<wa.heap.size:=Nat.lt_of_lt_of_le l1 bA.size
 have hCc:=uB P Q wa.heap.size q0 q1 (wa.alloc (.cells #[.slice (af q0 0) 1 1,.slice (af q1 0) 1 1] 34)) kB ((bB.block q0 lqa0).trans ((bA.block q0 l0).trans k0)) ((bB.block q1 lqa1).trans ((bA.block q1 l1).trans k1))
 have hmx:¬ (((mx:Nat):Int)<1):=by omega
 have HH:Hid (_):=And.intro bA (And.intro bB (And.intro kA (And.intro k0 (And.intro k1 (And.intro l0 (And.intro l1 (And.intro lxa (And.intro lqa0 lqa1))))))))
 have HE:Hid (_=wa):=hwa
 have HS:Hid (w.heap.size=x):=hx
 clear bA bB kA kB k0 k1 l0 l1 lxa lqa0 lqa1 hwa hx h0
 go_enter func24,ntmps24
 go_upto_region 1 with fail
 rw[HE.out,HS.out]
 go_wp2_with fail
 refine hCc.mono ?_
 rintro r w1 ⟨a,c,rfl,H1⟩
 clear hCc n0 n1 n2
 obtain⟨bA,bB,kA,k0,k1,l0,l1,lxa,lqa0,lqa1⟩:=HH.out
 obtain⟨g,rfl,hgB⟩:=qR H1.out.1 (by omega)
 have b1:Below wa.heap.size wa w1:=bB.trans (H1.out.2.mono bB.size)
 have cc:=sf H1.out.1
 have p0:w1.cell? ⟨g,0,none⟩=some (.int .u32 (P.c:Nat)):=cc 0 _ rfl
 have p1:w1.cell? ⟨g,1,none⟩=some (.int .i64 (P.o:Nat)):=cc 1 _ rfl
 have p2:w1.cell? ⟨g,2,none⟩=some (.int .i64 (P.i:Nat)):=cc 2 _ rfl
 have p3:w1.cell? ⟨g,3,none⟩=some (.int .i64 (P.t:Nat)):=cc 3 _ rfl
 have p4:w1.cell? ⟨g,4,none⟩=some (.int .u32 (P.n:Nat)):=cc 4 _ rfl
 have bC:=aM (Below.refl _ w1) (.cells #[.int .u32 (P.c:Nat),.int .i64 (P.o:Nat),.int .i64 (P.i:Nat),.int .i64 (P.t:Nat),.int .u32 (P.n:Nat)] 42)
 have hK1:=fE P.c P.o P.i P.t P.n (w1.alloc (.cells #[.int .u32 (P.c:Nat),.int .i64 (P.o:Nat),.int .i64 (P.i:Nat),.int .i64 (P.t:Nat),.int .u32 (P.n:Nat)] 42)) 0 (if_pos hP.ok)
 have HG:Hid (_):=And.intro b1 (And.intro cc bC)
 clear bA bB kA k0 k1 l0 l1 lxa lqa0 lqa1 b1 cc bC
 go_wp2_with fail
 refine wp_loop_rounds 3 ?_
 rw[rounds_succ]
 go_wp2_with fail
 refine hK1.mono ?_
 rintro r w2 ⟨rfl,b2⟩
 clear hK1 p0 p1 p2 p3 p4
 obtain⟨b1,cc,bC⟩:=HG.out
 have b12:Below w1.heap.size w1 w2:=bC.trans (b2.mono bC.size)
 have p0:w2.cell? ⟨g,5,none⟩=some (.int .u32 (Q.c:Nat)):=ag (cc 5 _ rfl) b12
 have p1:w2.cell? ⟨g,6,none⟩=some (.int .i64 (Q.o:Nat)):=ag (cc 6 _ rfl) b12
 have p2:w2.cell? ⟨g,7,none⟩=some (.int .i64 (Q.i:Nat)):=ag (cc 7 _ rfl) b12
 have p3:w2.cell? ⟨g,8,none⟩=some (.int .i64 (Q.t:Nat)):=ag (cc 8 _ rfl) b12
 have p4:w2.cell? ⟨g,9,none⟩=some (.int .u32 (Q.n:Nat)):=ag (cc 9 _ rfl) b12
 have bD:=aM (Below.refl _ w2) (.cells #[.int .u32 (Q.c:Nat),.int .i64 (Q.o:Nat),.int .i64 (Q.i:Nat),.int .i64 (Q.t:Nat),.int .u32 (Q.n:Nat)] 42)
 have hK2:=fE Q.c Q.o Q.i Q.t Q.n (w2.alloc (.cells #[.int .u32 (Q.c:Nat),.int .i64 (Q.o:Nat),.int .i64 (Q.i:Nat),.int .i64 (Q.t:Nat),.int .u32 (Q.n:Nat)] 42)) 0 (if_pos hQ.ok)
 have HG2:Hid (_):=And.intro b12 bD
 clear b1 cc bC b2 b12 bD
 go_wp2_with fail
 rw[rounds_succ]
 go_wp2_with fail
 refine hK2.mono ?_
 rintro r w3 ⟨rfl,b3⟩
 clear hK2 p0 p1 p2 p3 p4
 obtain⟨b1,cc,bC⟩:=HG.out
 obtain⟨b12,bD⟩:=HG2.out
 obtain⟨bA,bB,kA,k0,k1,l0,l1,lxa,lqa0,lqa1⟩:=HH.out
 have b13:Below wa.heap.size wa w3:=(b1.trans (b12.mono b1.size)).trans ((bD.trans (b3.mono bD.size)).mono (Nat.le_trans b1.size b12.size))
 have kx:=(b13.block x lxa).trans kA
 have n0:w3.cell? ⟨x,0,none⟩=some (.slice (af q0 0) 1 1):=ae w3 x 0 _ _ _ kx
 have n1:w3.cell? ⟨x,1,none⟩=some (.slice (af q1 0) 1 1):=ae w3 x 1 _ _ _ kx
 have n2:w3.cell? ⟨x,2,none⟩=some (.int .u32 (mx:Nat)):=ae w3 x 2 _ _ _ kx
 have hD1:=lB P q0 w3 ((b13.block q0 lqa0).trans ((bA.block q0 l0).trans k0))
 have HG3:Hid (_):=b13
 clear b1 cc bC b12 bD bA bB kA k0 k1 l0 l1 lxa lqa0 lqa1 b3 b13 kx
 go_wp2_with fail
 rw[rounds_succ]
 go_wp2_with fail
 refine hD1.mono ?_
 rintro r w4 ⟨rfl,b4⟩
 clear hD1 n0 n1 n2
 obtain⟨bA,bB,kA,k0,k1,l0,l1,lxa,lqa0,lqa1⟩:=HH.out
 have b14:Below wa.heap.size wa w4:=HG3.out.trans (b4.mono HG3.out.size)
 have kx:=(b14.block x lxa).trans kA
 have n0:w4.cell? ⟨x,0,none⟩=some (.slice (af q0 0) 1 1):=ae w4 x 0 _ _ _ kx
 have n1:w4.cell? ⟨x,1,none⟩=some (.slice (af q1 0) 1 1):=ae w4 x 1 _ _ _ kx
 have n2:w4.cell? ⟨x,2,none⟩=some (.int .u32 (mx:Nat)):=ae w4 x 2 _ _ _ kx
 have hD2:=lB Q q1 w4 ((b14.block q1 lqa1).trans ((bA.block q1 l1).trans k1))
 have HG4:Hid (_):=And.intro b14 bA
 clear bA bB kA k0 k1 l0 l1 lxa lqa0 lqa1 b4 b14 kx
 go_wp2_with fail
 refine hD2.mono ?_
 rintro r w5 ⟨rfl,b5⟩
 clear hD2
 go_wp2_with fail
 go_ret
 exact⟨rfl,HG4.out.2.trans ((HG4.out.1.trans (b5.mono HG4.out.1.size)).mono HG4.out.2.size)⟩
theorem p9 (P:Pm) (q:Nat) (w:World) (h:w.heap[q]?=some (.cells #[.int .u32 (P.c:Nat),.int .i64 (P.o:Nat),.int .i64 (P.i:Nat),.int .i64 (P.t:Nat),.int .u32 (P.n:Nat)] 42 (0,0))):Calls prog 43 #[.slice (af q 0) 1 1] w fun r w'=>∃ a' c',r=.returned (.slice a' 1 c')∧Hid (w'.ownsRow w.heap.size 42 5 (.slice a' 1 c') 1 P.cs∧Below w.heap.size w w'):=by
 have hnn:∀ w,(binOp .eql 34 (.slice (af q 0) 1 1) (.slice none 0 0)).run prog w=.ok (.bool false) w:=fun _=>rfl
 obtain⟨i0,hI,hz0,hz1,hz2⟩:=info_parts i4
 have bA:=aM (Below.refl _ w) (.cells #[] 42)
 have oA:(w.alloc (.cells #[] 42)).ownsRow w.heap.size 42 5 (.slice (af w.heap.size 0) 0 0) 0 []:=World.ownsRow_made w #[] 0 (Nat.le_refl _) (Nat.zero_le _) rfl
 have sA:=Pm.cells ((bA.block q (Array.getElem?_eq_some_iff.1 h).1).trans h)
 have HB:Hid (_):=bA
 have zA:w.heap.size ≤ (w.alloc (.cells #[] 42)).heap.size:=bA.size
 clear h bA
 go_enter func43,ntmps43
 go_wp2_with (at_builtin;refine wpList_append_own_at _ rfl _ _ 34 rfl w.heap.size 42 i0 (.agg #[.int .u32 0,.int .i64 0,.int .i64 0,.int .i64 0,.int .u32 0]) 5 40 underlying34 hI hz0 hz1 hz2 rfl (by decide) (.slice (af w.heap.size 0) 0 0) 0 [] rfl oA ⟨q,0,none⟩ 1 1 P.cs rfl rfl sA P.cs_one (by unfold maxLen;omega) (by omega) zA ?_)
 intro v' w' o' g' _ _
 obtain⟨a',c',rfl⟩:=cN o'
 have HF:Hid (_):=And.intro o' (HB.out.grown g' HB.out.size (fun k hk=>(oA.lt k hk).1))
 clear o' g' oA sA zA hnn
 go_wp2_with fail
 go_ret
 exact⟨_,_,rfl,HF.out.1,HF.out.2⟩
theorem tB (P Q:Pm) (q0 q1 mx:Nat) (w:World) (k0:w.heap[q0]?=some (.cells #[.int .u32 (P.c:Nat),.int .i64 (P.o:Nat),.int .i64 (P.i:Nat),.int .i64 (P.t:Nat),.int .u32 (P.n:Nat)] 42 (0,0))) (k1:w.heap[q1]?=some (.cells #[.int .u32 (Q.c:Nat),.int .i64 (Q.o:Nat),.int .i64 (Q.i:Nat),.int .i64 (Q.t:Nat),.int .u32 (Q.n:Nat)] 42 (0,0))):Calls prog 25 #[.agg #[.slice (af q0 0) 1 1,.slice (af q1 0) 1 1,.int .u32 (mx:Nat)]] w fun r w'=>∃ a0 c0 a1 c1,r=.returned (.agg #[.slice a0 1 c0,.slice a1 1 c1,.int .u32 (mx:Nat)])∧Hid (w'.ownsRow w.heap.size 42 5 (.slice a0 1 c0) 1 P.cs∧w'.ownsRow w.heap.size 42 5 (.slice a1 1 c1) 1 Q.cs∧Below w.heap.size w w'∧∀ k,(Value.slice a0 1 c0).ownBlock=some k→(Value.slice a1 1 c1).ownBlock≠some k):=by
 have kA0:=aE w (.cells #[.slice (af q0 0) 1 1,.slice (af q1 0) 1 1,.int .u32 (mx:Nat)] 37)
 have bA:=aM (aM (Below.refl _ w) (.cells #[.slice (af q0 0) 1 1,.slice (af q1 0) 1 1,.int .u32 (mx:Nat)] 37)) (.cells #[.slice none 0 0,.slice none 0 0,.int .u32 0] 37)
 have s1:(w.alloc (.cells #[.slice (af q0 0) 1 1,.slice (af q1 0) 1 1,.int .u32 (mx:Nat)] 37)).heap.size=w.heap.size+1:=iK _ _
 have kA:((w.alloc (.cells #[.slice (af q0 0) 1 1,.slice (af q1 0) 1 1,.int .u32 (mx:Nat)] 37)).alloc (.cells #[.slice none 0 0,.slice none 0 0,.int .u32 0] 37)).heap[w.heap.size]?=_:=(Below.heap_alloc _ _ _ (by omega)).trans kA0
 have kB:=aE (w.alloc (.cells #[.slice (af q0 0) 1 1,.slice (af q1 0) 1 1,.int .u32 (mx:Nat)] 37)) (.cells #[.slice none 0 0,.slice none 0 0,.int .u32 0] 37)
 rw[s1]at kB
 have s2:((w.alloc (.cells #[.slice (af q0 0) 1 1,.slice (af q1 0) 1 1,.int .u32 (mx:Nat)] 37)).alloc (.cells #[.slice none 0 0,.slice none 0 0,.int .u32 0] 37)).heap.size=w.heap.size+2:=yb _ _ _
 obtain⟨wa,hwa⟩:∃ y,(w.alloc (.cells #[.slice (af q0 0) 1 1,.slice (af q1 0) 1 1,.int .u32 (mx:Nat)] 37)).alloc (.cells #[.slice none 0 0,.slice none 0 0,.int .u32 0] 37)=y:=⟨_,rfl⟩
 rw[hwa]at kA bA kB s2
 have l0:=(Array.getElem?_eq_some_iff.1 k0).1
 have l1:=(Array.getElem?_eq_some_iff.1 k1).1
 have j0:=(bA.block q0 l0).trans k0
 have j1:=(bA.block q1 l1).trans k1
 obtain⟨x,hx⟩:∃ y,w.heap.size=y:=⟨_,rfl⟩
 have HBa:Hid (Below w.heap.size w wa):=bA
 rw[hx]at kA kB s2
 have hS:∀ w',Below wa.heap.size wa w'→w'.cell? ⟨x,0,none⟩=some (Value.slice (af q0 0) 1 1)∧w'.cell? ⟨x,1,none⟩=some (Value.slice (af q1 0) 1 1)∧w'.cell? ⟨x,2,none⟩=some (Value.int .u32 (mx:Nat)):=fun w' b=>⟨ag (ae wa x 0 _ _ _ kA) b,ag (ae wa x 1 _ _ _ kA) b,ag (ae wa x 2 _ _ _ kA) b⟩
 have HS0:=hS wa.drew (Below.drew (Below.refl _ _))
 have HSS:Hid (_):=hS
 have HJ:Hid (_):=And.intro j0 (And.intro j1 (And.intro kB s2))
 have HE:Hid (_=wa):=hwa
 have HS:Hid (w.heap.size=x):=hx
 clear kA0 kA kB bA s1 s2 hwa hx l0 l1 j0 j1 k0 k1 hS
 go_enter func25,ntmps25
 go_upto_region 1 with fail
 rw[HE.out,HS.out]
 refine wp_region_held_drew (S:=fun w'=>w'.cell? ⟨x,0,none⟩=some (Value.slice (af q0 0) 1 1)∧w'.cell? ⟨x,1,none⟩=some (Value.slice (af q1 0) 1 1)∧w'.cell? ⟨x,2,none⟩=some (Value.int .u32 (mx:Nat))) (by kernel_rfl) HS0 (fun _=>?_)
 refine al (i:=0) (v:=ac x 0) ?_
 refine al (i:=1) (v:=Value.slice (af q0 0) 1 1) ?_
 refine al (i:=3) (v:=ac x 1) ?_
 refine al (i:=4) (v:=Value.slice (af q1 0) 1 1) ?_
 refine al (i:=6) (v:=ac x 2) ?_
 refine al (i:=7) (v:=Value.int .u32 (mx:Nat)) ?_
 have bd:Below wa.heap.size wa wa.drew:=Below.drew (Below.refl _ _)
 refine aF (i:=2) 43 #[Value.slice (af q0 0) 1 1] (by kernel_rfl) rfl (by kernel_rfl) (by go_simp) ?_
 refine (p9 P q0 wa.drew HJ.out.1).mono ?_
 rintro r w1 ⟨a0,c0,rfl,H1⟩
 have b1:Below wa.heap.size wa w1:=bd.trans H1.out.2
 refine⟨_,rfl,HSS.out w1 b1,?_⟩
 have HSa:=HSS.out w1 b1
 refine aF (i:=5) 43 #[Value.slice (af q1 0) 1 1] (by kernel_rfl) rfl (by kernel_rfl) (by go_simp) ?_
 refine (p9 Q q1 w1 ((b1.block q1 (Array.getElem?_eq_some_iff.1 HJ.out.2.1).1).trans HJ.out.2.1)).mono ?_
 rintro r w2 ⟨a1,c1,rfl,H2⟩
 have b2:Below wa.heap.size wa w2:=b1.trans (H2.out.2.mono b1.size)
 have HSb:=HSS.out w2 b2
 refine⟨_,rfl,HSb,?_⟩
 refine al (i:=8) (v:=Value.agg #[Value.slice a0 1 c0,Value.slice a1 1 c1,Value.int .u32 (mx:Nat)]) ?_
 obtain⟨_,_,kB,s2⟩:=HJ.out
 have kB2:=(b2.block (x+1) (by omega)).trans kB
 have y0:=ae w2 (x+1) 0 _ _ _ kB2
 have y1:=ae w2 (x+1) 1 _ _ _ kB2
 have y2:=ae w2 (x+1) 2 _ _ _ kB2
 have yz:=fun k=>frozen_of_row w2 (x+1) k _ _ kB2
 have kB3:(((w2.setCell ⟨x+1,0,none⟩ (Value.slice a0 1 c0)).setCell ⟨x+1,1,none⟩ (Value.slice a1 1 c1)).setCell ⟨x+1,2,none⟩ (Value.int .u32 (mx:Nat))).heap[x+1]?=some (.cells #[Value.slice a0 1 c0,Value.slice a1 1 c1,Value.int .u32 (mx:Nat)] 37 (0,0)):=Joins.block_setCell (Joins.block_setCell (Joins.block_setCell kB2 _) _) _
 have o3:Off [x+1] w2 (((w2.setCell ⟨x+1,0,none⟩ (Value.slice a0 1 c0)).setCell ⟨x+1,1,none⟩ (Value.slice a1 1 c1)).setCell ⟨x+1,2,none⟩ (Value.int .u32 (mx:Nat))):=((Off.setCell (x+1) 0 w2 _).trans (Off.setCell (x+1) 1 _ _)).trans (Off.setCell (x+1) 2 _ _)
 have hS3:(((w2.setCell ⟨x+1,0,none⟩ (Value.slice a0 1 c0)).setCell ⟨x+1,1,none⟩ (Value.slice a1 1 c1)).setCell ⟨x+1,2,none⟩ (Value.int .u32 (mx:Nat))).cell? ⟨x,0,none⟩=some (Value.slice (af q0 0) 1 1)∧(((w2.setCell ⟨x+1,0,none⟩ (Value.slice a0 1 c0)).setCell ⟨x+1,1,none⟩ (Value.slice a1 1 c1)).setCell ⟨x+1,2,none⟩ (Value.int .u32 (mx:Nat))).cell? ⟨x,1,none⟩=some (Value.slice (af q1 0) 1 1)∧(((w2.setCell ⟨x+1,0,none⟩ (Value.slice a0 1 c0)).setCell ⟨x+1,1,none⟩ (Value.slice a1 1 c1)).setCell ⟨x+1,2,none⟩ (Value.int .u32 (mx:Nat))).cell? ⟨x,2,none⟩=some (Value.int .u32 (mx:Nat)):=by
  obtain⟨u0,u1,u2⟩:=HSb
  refine⟨?_,?_,?_⟩
  ·rw[World.cell?_of_block (w:=w2) (o3.block x (by have:=b2.size;omega) (by simp))];exact u0
  ·rw[World.cell?_of_block (w:=w2) (o3.block x (by have:=b2.size;omega) (by simp))];exact u1
  ·rw[World.cell?_of_block (w:=w2) (o3.block x (by have:=b2.size;omega) (by simp))];exact u2
 obtain⟨w3,hw3⟩:∃ z,(((w2.setCell ⟨x+1,0,none⟩ (Value.slice a0 1 c0)).setCell ⟨x+1,1,none⟩ (Value.slice a1 1 c1)).setCell ⟨x+1,2,none⟩ (Value.int .u32 (mx:Nat)))=z:=⟨_,rfl⟩
 rw[hw3]at kB3 o3 hS3
 refine cV (i:=9) w3 (by kernel_rfl) rfl (by kernel_rfl) (by rw[← hw3];go_simp) hS3 ?_
 refine wpAnyH_done (by kernel_rfl) ?_ _
 have z0:=ae w3 (x+1) 0 _ _ _ kB3
 have z1:=ae w3 (x+1) 1 _ _ _ kB3
 have z2:=ae w3 (x+1) 2 _ _ _ kB3
 have HO:Hid (_):=And.intro o3 (And.intro b1 (And.intro b2 s2))
 clear o3 b1 b2 s2 kB kB2 kB3 hS3 HSb HSa hw3 HS0 bd y0 y1 y2 yz
 go_wp2_with fail
 refine bodyPost_ret (v:=.agg #[.slice a0 1 c0,.slice a1 1 c1,.int .u32 (mx:Nat)]) (by simp[results,results25,go_sem,z0,z1,z2]) rfl ?_
 obtain⟨o3,b1,b2,s2⟩:=HO.out
 have hb:=HBa.out
 have hsx:=HS.out
 have hdz:wa.drew.heap.size=wa.heap.size:=rfl
 have lt1:=H1.out.1.lt
 have lt2:=H2.out.1.lt
 have l1:=b1.size
 have u0:w2.ownsRow wa.heap.size 42 5 (.slice a0 1 c0) 1 P.cs:=a8 (l:=[]) H1.out.1 (Off.of_below H2.out.2) (by simp)
 have v0:=a8 u0 o3 (fun k hk hm=>by have:=(lt1 k hk).1;simp at hm;omega)
 have v1:=a8 H2.out.1 o3 (fun k hk hm=>by have:=(lt2 k hk).1;simp at hm;omega)
 refine⟨a0,c0,a1,c1,rfl,ei v0 (by omega),ei v1 (by omega),o3.below (hb.trans (b2.mono hb.size)) (by simp;omega) (Nat.le_trans hb.size b2.size),fun k hk hm=>?_⟩
 have:=(lt1 k hk).2
 have:=(lt2 k hm).1
 omega
def fB (l:List (Nat × Obj)):Thing:=⟨l.map (·.1),fun w=>∀ p,p ∈ l→w.heap[p.1]?=some p.2,fun w w' q h o hl p hp=>(o.block p.1 (Array.getElem?_eq_some_iff.1 (h p hp)).1 (hl p.1 (List.mem_map_of_mem hp))).trans (h p hp)⟩
theorem PW.layL {e:Nat→Nat} {w0 w1 w:World} {t:Nat→Thing} {L:Pw} (h:PW e w0 w1 t L) (b:Below w1.heap.size w1 w) {i:Nat} (hi:∀ j,i≠e j) {l:List (Nat × Obj)} (R:∀ p,p ∈ l→w.heap[p.1]?=some p.2) (bN:∀ p,p ∈ l→w1.heap.size≤p.1):PW e w0 w (ay t i (fB l)) L:=by
 have h2:=h.below b
 have hu:∀ k,k ∈ (fB l).U→∃ p,p ∈ l∧p.1=k:=fun k hk=>by
  have hk:k ∈ l.map (·.1):=hk
  simpa using hk
 refine⟨h2.1.turn i _ (Off.refl _ _) R (fun k hk=>?_) (fun k hk j hj hm=>?_),h.2.1,fun j=>?_⟩
 ·obtain⟨p,hp,rfl⟩:=hu k hk
  exact⟨Nat.le_trans h.1.size (bN p hp),(Array.getElem?_eq_some_iff.1 (R p hp)).1⟩
 ·obtain⟨p,hp,rfl⟩:=hu k hk
  have:=(h.1.lt j _ hm).2
  have:=bN p hp
  omega
 ·rw[an _ _ (fun q=>hi j q.symm)]
  exact h.2.2 j
def Fre (e:Nat→Nat) (t:Nat→Thing) (i:Nat):Prop:=∀ q,i≤q→(∀ j,2*q+1≠e j)∧t (2*q+1)=oz
theorem Fre.put {e:Nat→Nat} {t:Nat→Thing} {i:Nat} (h:Fre e t i) (x:Thing):Fre e (ay t (2*i+1) x) (i+1):=fun q hq=>⟨(h q (by omega)).1,by rw[an _ _ (by omega)];exact (h q (by omega)).2⟩
theorem Fre.els {e:Nat→Nat} {t t':Nat→Thing} {i:Nat} (h:Fre e t i) (l:Els e t t'):Fre e t' i:=fun q hq=>⟨(h q hq).1,by rw[l _ (h q hq).1];exact (h q hq).2⟩
theorem ov (e:Nat→Nat) (w0 w:World) (t:Nat→Thing) (L:Pw) (k:Nat) (a b:Sd) (n:Nat) (aa ab:Option Addr) (ca cb i:Nat) (h:PW e w0 w t L) (F:Fre e t i) (hF:L.S.fs.length≤90000):Calls prog 95 #[ac L.x 0,.int .i64 (k:Nat),.agg (bn a.st a.ss a.nm a.sn a.dc a.v.lat (aq a.v) (aB a.v) aa n ca),.agg (bn b.st b.ss b.nm b.sn b.dc b.v.lat (aq b.v) (aB b.v) ab n cb)] w fun r w'=>r=.returned (.tuple #[])∧Hid (PWn e w0 t L w' (L.S.note (dN k a b))):=by
 have kA:=aE w (.cells (bn a.st a.ss a.nm a.sn a.dc a.v.lat (aq a.v) (aB a.v) aa n ca) 54)
 have bA:=aM (Below.refl _ w) (.cells (bn a.st a.ss a.nm a.sn a.dc a.v.lat (aq a.v) (aB a.v) aa n ca) 54)
 have zA:(w.alloc (.cells (bn a.st a.ss a.nm a.sn a.dc a.v.lat (aq a.v) (aB a.v) aa n ca) 54)).heap.size=w.heap.size+1:=Array.size_push ..
 obtain⟨wa,hwa⟩:∃ y,w.alloc (.cells (bn a.st a.ss a.nm a.sn a.dc a.v.lat (aq a.v) (aB a.v) aa n ca) 54)=y:=⟨_,rfl⟩
 rw[hwa]at kA bA zA
 have kB:=aE wa (.cells (bn b.st b.ss b.nm b.sn b.dc b.v.lat (aq b.v) (aB b.v) ab n cb) 54)
 have bB:=aM (Below.refl _ wa) (.cells (bn b.st b.ss b.nm b.sn b.dc b.v.lat (aq b.v) (aB b.v) ab n cb) 54)
 obtain⟨wb,hwb⟩:∃ y,wa.alloc (.cells (bn b.st b.ss b.nm b.sn b.dc b.v.lat (aq b.v) (aB b.v) ab n cb) 54)=y:=⟨_,rfl⟩
 rw[hwb]at kB bB
 obtain⟨x,hx⟩:∃ y,w.heap.size=y:=⟨_,rfl⟩
 obtain⟨y,hy⟩:∃ y,wa.heap.size=y:=⟨_,rfl⟩
 have kA2:wb.heap[x]?=some (.cells (bn a.st a.ss a.nm a.sn a.dc a.v.lat (aq a.v) (aB a.v) aa n ca) 54 (0,0)):=by
  rw[← hx]
  exact (bB.block _ (by omega)).trans kA
 have kB2:wb.heap[y]?=some (.cells (bn b.st b.ss b.nm b.sn b.dc b.v.lat (aq b.v) (aB b.v) ab n cb) 54 (0,0)):=by
  rw[← hy]
  exact kB
 have bW:Below w.heap.size w wb:=bA.trans (bB.mono bA.size)
 have h9:=h.layL bW (i:=2*i+1) (F i (Nat.le_refl _)).1 (l:=[(x,.cells (bn a.st a.ss a.nm a.sn a.dc a.v.lat (aq a.v) (aB a.v) aa n ca) 54 (0,0)),(y,.cells (bn b.st b.ss b.nm b.sn b.dc b.v.lat (aq b.v) (aB b.v) ab n cb) 54 (0,0))]) (by
  intro p hp
  simp only[List.mem_cons,List.not_mem_nil,or_false]at hp
  rcases hp with rfl | rfl
  ·exact kA2
  ·exact kB2) (by
  intro p hp
  simp only[List.mem_cons,List.not_mem_nil,or_false]at hp
  rcases hp with rfl | rfl
  ·exact Nat.le_of_eq hx
  ·show w.heap.size≤y
   omega)
 obtain⟨t9,ht9⟩:∃ z,ay t (2*i+1) (fB [(x,.cells (bn a.st a.ss a.nm a.sn a.dc a.v.lat (aq a.v) (aB a.v) aa n ca) 54 (0,0)),(y,.cells (bn b.st b.ss b.nm b.sn b.dc b.v.lat (aq b.v) (aB b.v) ab n cb) 54 (0,0))])=z:=⟨_,rfl⟩
 have t9i:t9 (2*i+1)=fB [(x,.cells (bn a.st a.ss a.nm a.sn a.dc a.v.lat (aq a.v) (aB a.v) aa n ca) 54 (0,0)),(y,.cells (bn b.st b.ss b.nm b.sn b.dc b.v.lat (aq b.v) (aB b.v) ab n cb) 54 (0,0))]:=by
  rw[← ht9]
  exact ak _ _ _
 have HZ:Hid (∀ w' S,PWn e w0 t9 L w' S→PWn e w0 t L w' S):=fun w' S q=>by
  rw[← ht9]at q
  exact q.drop (F i (Nat.le_refl _)).1 (F i (Nat.le_refl _)).2
 rw[ht9]at h9
 have hN:Calls prog 53 #[ac L.x 0,.agg #[.int .i64 7,.int .i64 (k:Nat),.int .i64 2,.int .u32 0,.int .u32 0,.bool false,.int .i64 0,.slice none 0 0]] wb fun r w'=>r=.returned (.tuple #[])∧Hid (PWn e w0 t9 L w' (L.S.note [dB 7 k 2])):=jT e w0 wb t9 L 7 k 2 0 0 h9 (by omega)
 have HK:Hid (∀ w1 l,PWn e w0 t9 L w1 (L.S.note l)→l.length≤1→w1.cell? ⟨x,1,none⟩=some (.int .u32 (a.ss:Nat))∧w1.cell? ⟨y,1,none⟩=some (.int .u32 (b.ss:Nat))∧Calls prog 53 #[ac L.x 0,.agg #[.int .i64 3,.int .i64 (k:Nat),.int .i64 2,.int .u32 (b.ss:Nat),.int .u32 0,.bool false,.int .i64 0,.slice none 0 0]] w1 fun r w'=>r=.returned (.tuple #[])∧Hid (PWn e w0 t9 L w' (L.S.note (l ++ [⟨3,k,2,b.ss,0,false,0,dX⟩])))):=fun w1 l q hl=>by
  obtain⟨t1,L1,h1,hs,hf,he⟩:=q
  have ht:=h1.1.get (i:=2*i+1) ((he _ (F i (Nat.le_refl _)).1).trans t9i)
  have g1:w1.heap[x]?=_:=ht (x,.cells (bn a.st a.ss a.nm a.sn a.dc a.v.lat (aq a.v) (aB a.v) aa n ca) 54 (0,0)) (by simp)
  have g2:w1.heap[y]?=_:=ht (y,.cells (bn b.st b.ss b.nm b.sn b.dc b.v.lat (aq b.v) (aB b.v) ab n cb) 54 (0,0)) (by simp)
  refine⟨ae w1 x 1 _ _ _ g1,ae w1 y 1 _ _ _ g2,?_⟩
  have e1:L1.S.fs.length≤100000:=by
   rw[hs]
   show (L.S.fs ++ l).length≤100000
   rw[List.length_append]
   omega
  have:=jT e w0 w1 t1 L1 3 k 2 b.ss 0 h1 e1
  rw[hf.x]at this
  refine this.mono ?_
  rintro r w' ⟨rfl,H⟩
  refine⟨rfl,PWn.bind hf he ?_⟩
  have e2:L1.S.note [⟨3,k,2,b.ss,0,false,0,dX⟩]=L.S.note (l ++ [⟨3,k,2,b.ss,0,false,0,dX⟩]):=by
   rw[hs]
   unfold Ws.note
   simp
  rw[← e2]
  exact H.out
 have H0:Hid (PWn e w0 t9 L wb (L.S.note [])):=by
  have e1:L.S.note []=L.S:=by unfold Ws.note;rw[List.append_nil]
  show PWn e w0 t9 L wb (L.S.note [])
  rw[e1]
  exact h9.n
 obtain⟨d1',d2',hM0⟩:=HK.out wb [] H0.out (by simp)
 have d01:wb.cell? ⟨x,0,none⟩=some (.int .i64 (a.st:Nat)):=ae wb x 0 _ _ _ kA2
 have d02:wb.cell? ⟨y,0,none⟩=some (.int .i64 (b.st:Nat)):=ae wb y 0 _ _ _ kB2
 obtain⟨X,hX⟩:∃ y,L.x=y:=⟨_,rfl⟩
 rw[hX]at hN hM0 HK ⊢
 have HE:Hid (_=wa):=hwa
 have HE2:Hid (_=wb):=hwb
 have HS:Hid (w.heap.size=x):=hx
 have HS2:Hid (w.heap.size+1=y):=zA.symm.trans hy
 clear kA kB bA bB bW zA kA2 kB2 hwa hwb h h9 hx hy ht9 t9i F
 by_cases qb:b.st=6
 ·by_cases qa:a.st=6
  ·by_cases qs:b.ss=a.ss
   ·skip
    have hi:¬ (b.st=6∧a.st≠6):=fun q=>q.2 qa
    have hj:¬ (b.ss≠a.ss∧b.ss≠0):=fun q=>q.1 qs
    have eL:dN k a b=[]:=by unfold dN;rw[if_neg hi,if_neg hj];rfl
    rw[eL]
    have u1:(((b.st:Nat):Int) == 6)=true:=(aY b.st 6).trans (decide_eq_true qb)
    have u2:(((a.st:Nat):Int) == 6)=true:=(aY a.st 6).trans (decide_eq_true qa)
    have u3:(((b.ss:Nat):Int) == ((a.ss:Nat):Int))=true:=(aY b.ss a.ss).trans (decide_eq_true qs)
    have v2:(((a.st:Nat):Int) != 6)=false:=congrArg not u2
    have v3:(((b.ss:Nat):Int) != ((a.ss:Nat):Int))=false:=congrArg not u3
    clear hi hj eL qb qs qa
    go_enter func95,ntmps95
    go_upto_region 1 with fail
    rw[HE.out,HE2.out,HS2.out,HS.out]
    go_wp2_with fail
    go_end0
    exact⟨rfl,HZ.out _ _ H0.out⟩
   ·by_cases qz:b.ss=0
    ·skip
     have hi:¬ (b.st=6∧a.st≠6):=fun q=>q.2 qa
     have hj:¬ (b.ss≠a.ss∧b.ss≠0):=fun q=>q.2 qz
     have eL:dN k a b=[]:=by unfold dN;rw[if_neg hi,if_neg hj];rfl
     rw[eL]
     have u1:(((b.st:Nat):Int) == 6)=true:=(aY b.st 6).trans (decide_eq_true qb)
     have u2:(((a.st:Nat):Int) == 6)=true:=(aY a.st 6).trans (decide_eq_true qa)
     have u3:(((b.ss:Nat):Int) == ((a.ss:Nat):Int))=false:=(aY b.ss a.ss).trans (decide_eq_false qs)
     have u4:(((b.ss:Nat):Int) == 0)=true:=(aY b.ss 0).trans (decide_eq_true qz)
     have v2:(((a.st:Nat):Int) != 6)=false:=congrArg not u2
     have v3:(((b.ss:Nat):Int) != ((a.ss:Nat):Int))=true:=congrArg not u3
     have v4:(((b.ss:Nat):Int) != 0)=false:=congrArg not u4
     clear hi hj eL qb qs qa qz
     go_enter func95,ntmps95
     go_upto_region 1 with fail
     rw[HE.out,HE2.out,HS2.out,HS.out]
     go_wp2_with fail
     go_end0
     exact⟨rfl,HZ.out _ _ H0.out⟩
    ·skip
     have hi:¬ (b.st=6∧a.st≠6):=fun q=>q.2 qa
     have hj:b.ss≠a.ss∧b.ss≠0:=⟨qs,qz⟩
     have eL:dN k a b=[] ++ [⟨3,k,2,b.ss,0,false,0,dX⟩]:=by unfold dN;rw[if_neg hi,if_pos hj]
     rw[eL]
     have u1:(((b.st:Nat):Int) == 6)=true:=(aY b.st 6).trans (decide_eq_true qb)
     have u2:(((a.st:Nat):Int) == 6)=true:=(aY a.st 6).trans (decide_eq_true qa)
     have u3:(((b.ss:Nat):Int) == ((a.ss:Nat):Int))=false:=(aY b.ss a.ss).trans (decide_eq_false qs)
     have u4:(((b.ss:Nat):Int) == 0)=false:=(aY b.ss 0).trans (decide_eq_false qz)
     have v2:(((a.st:Nat):Int) != 6)=false:=congrArg not u2
     have v3:(((b.ss:Nat):Int) != ((a.ss:Nat):Int))=true:=congrArg not u3
     have v4:(((b.ss:Nat):Int) != 0)=true:=congrArg not u4
     clear hi hj eL qb qs qa qz
     go_enter func95,ntmps95
     go_upto_region 1 with fail
     rw[HE.out,HE2.out,HS2.out,HS.out]
     go_wp2_with fail
     refine (hM0).mono ?_
     rintro r w3 ⟨rfl,H3⟩
     go_wp2_with fail
     go_end0
     exact⟨rfl,HZ.out _ _ H3.out⟩
  ·by_cases qs:b.ss=a.ss
   ·skip
    have hi:b.st=6∧a.st≠6:=⟨qb,qa⟩
    have hj:¬ (b.ss≠a.ss∧b.ss≠0):=fun q=>q.1 qs
    have eL:dN k a b=[dB 7 k 2]:=by unfold dN;rw[if_pos hi,if_neg hj];rfl
    rw[eL]
    have u1:(((b.st:Nat):Int) == 6)=true:=(aY b.st 6).trans (decide_eq_true qb)
    have u2:(((a.st:Nat):Int) == 6)=false:=(aY a.st 6).trans (decide_eq_false qa)
    have u3:(((b.ss:Nat):Int) == ((a.ss:Nat):Int))=true:=(aY b.ss a.ss).trans (decide_eq_true qs)
    have v2:(((a.st:Nat):Int) != 6)=true:=congrArg not u2
    have v3:(((b.ss:Nat):Int) != ((a.ss:Nat):Int))=false:=congrArg not u3
    clear hi hj eL qb qs qa
    go_enter func95,ntmps95
    go_upto_region 1 with fail
    rw[HE.out,HE2.out,HS2.out,HS.out]
    go_wp2_with fail
    refine hN.mono ?_
    rintro r w1 ⟨rfl,H1⟩
    obtain⟨d1,d2,hM⟩:=HK.out w1 _ H1.out (by simp)
    go_wp2_with fail
    go_end0
    exact⟨rfl,HZ.out _ _ H1.out⟩
   ·by_cases qz:b.ss=0
    ·skip
     have hi:b.st=6∧a.st≠6:=⟨qb,qa⟩
     have hj:¬ (b.ss≠a.ss∧b.ss≠0):=fun q=>q.2 qz
     have eL:dN k a b=[dB 7 k 2]:=by unfold dN;rw[if_pos hi,if_neg hj];rfl
     rw[eL]
     have u1:(((b.st:Nat):Int) == 6)=true:=(aY b.st 6).trans (decide_eq_true qb)
     have u2:(((a.st:Nat):Int) == 6)=false:=(aY a.st 6).trans (decide_eq_false qa)
     have u3:(((b.ss:Nat):Int) == ((a.ss:Nat):Int))=false:=(aY b.ss a.ss).trans (decide_eq_false qs)
     have u4:(((b.ss:Nat):Int) == 0)=true:=(aY b.ss 0).trans (decide_eq_true qz)
     have v2:(((a.st:Nat):Int) != 6)=true:=congrArg not u2
     have v3:(((b.ss:Nat):Int) != ((a.ss:Nat):Int))=true:=congrArg not u3
     have v4:(((b.ss:Nat):Int) != 0)=false:=congrArg not u4
     clear hi hj eL qb qs qa qz
     go_enter func95,ntmps95
     go_upto_region 1 with fail
     rw[HE.out,HE2.out,HS2.out,HS.out]
     go_wp2_with fail
     refine hN.mono ?_
     rintro r w1 ⟨rfl,H1⟩
     obtain⟨d1,d2,hM⟩:=HK.out w1 _ H1.out (by simp)
     go_wp2_with fail
     go_end0
     exact⟨rfl,HZ.out _ _ H1.out⟩
    ·skip
     have hi:b.st=6∧a.st≠6:=⟨qb,qa⟩
     have hj:b.ss≠a.ss∧b.ss≠0:=⟨qs,qz⟩
     have eL:dN k a b=[dB 7 k 2] ++ [⟨3,k,2,b.ss,0,false,0,dX⟩]:=by unfold dN;rw[if_pos hi,if_pos hj]
     rw[eL]
     have u1:(((b.st:Nat):Int) == 6)=true:=(aY b.st 6).trans (decide_eq_true qb)
     have u2:(((a.st:Nat):Int) == 6)=false:=(aY a.st 6).trans (decide_eq_false qa)
     have u3:(((b.ss:Nat):Int) == ((a.ss:Nat):Int))=false:=(aY b.ss a.ss).trans (decide_eq_false qs)
     have u4:(((b.ss:Nat):Int) == 0)=false:=(aY b.ss 0).trans (decide_eq_false qz)
     have v2:(((a.st:Nat):Int) != 6)=true:=congrArg not u2
     have v3:(((b.ss:Nat):Int) != ((a.ss:Nat):Int))=true:=congrArg not u3
     have v4:(((b.ss:Nat):Int) != 0)=true:=congrArg not u4
     clear hi hj eL qb qs qa qz
     go_enter func95,ntmps95
     go_upto_region 1 with fail
     rw[HE.out,HE2.out,HS2.out,HS.out]
     go_wp2_with fail
     refine hN.mono ?_
     rintro r w1 ⟨rfl,H1⟩
     obtain⟨d1,d2,hM⟩:=HK.out w1 _ H1.out (by simp)
     go_wp2_with fail
     refine (hM).mono ?_
     rintro r w3 ⟨rfl,H3⟩
     go_wp2_with fail
     go_end0
     exact⟨rfl,HZ.out _ _ H3.out⟩
 ·by_cases qs:b.ss=a.ss
  ·skip
   have hi:¬ (b.st=6∧a.st≠6):=fun q=>qb q.1
   have hj:¬ (b.ss≠a.ss∧b.ss≠0):=fun q=>q.1 qs
   have eL:dN k a b=[]:=by unfold dN;rw[if_neg hi,if_neg hj];rfl
   rw[eL]
   have u1:(((b.st:Nat):Int) == 6)=false:=(aY b.st 6).trans (decide_eq_false qb)
   have u3:(((b.ss:Nat):Int) == ((a.ss:Nat):Int))=true:=(aY b.ss a.ss).trans (decide_eq_true qs)
   have v3:(((b.ss:Nat):Int) != ((a.ss:Nat):Int))=false:=congrArg not u3
   clear hi hj eL qb qs
   go_enter func95,ntmps95
   go_upto_region 1 with fail
   rw[HE.out,HE2.out,HS2.out,HS.out]
   go_wp2_with fail
   go_end0
   exact⟨rfl,HZ.out _ _ H0.out⟩
  ·by_cases qz:b.ss=0
   ·skip
    have hi:¬ (b.st=6∧a.st≠6):=fun q=>qb q.1
    have hj:¬ (b.ss≠a.ss∧b.ss≠0):=fun q=>q.2 qz
    have eL:dN k a b=[]:=by unfold dN;rw[if_neg hi,if_neg hj];rfl
    rw[eL]
    have u1:(((b.st:Nat):Int) == 6)=false:=(aY b.st 6).trans (decide_eq_false qb)
    have u3:(((b.ss:Nat):Int) == ((a.ss:Nat):Int))=false:=(aY b.ss a.ss).trans (decide_eq_false qs)
    have u4:(((b.ss:Nat):Int) == 0)=true:=(aY b.ss 0).trans (decide_eq_true qz)
    have v3:(((b.ss:Nat):Int) != ((a.ss:Nat):Int))=true:=congrArg not u3
    have v4:(((b.ss:Nat):Int) != 0)=false:=congrArg not u4
    clear hi hj eL qb qs qz
    go_enter func95,ntmps95
    go_upto_region 1 with fail
    rw[HE.out,HE2.out,HS2.out,HS.out]
    go_wp2_with fail
    go_end0
    exact⟨rfl,HZ.out _ _ H0.out⟩
   ·skip
    have hi:¬ (b.st=6∧a.st≠6):=fun q=>qb q.1
    have hj:b.ss≠a.ss∧b.ss≠0:=⟨qs,qz⟩
    have eL:dN k a b=[] ++ [⟨3,k,2,b.ss,0,false,0,dX⟩]:=by unfold dN;rw[if_neg hi,if_pos hj]
    rw[eL]
    have u1:(((b.st:Nat):Int) == 6)=false:=(aY b.st 6).trans (decide_eq_false qb)
    have u3:(((b.ss:Nat):Int) == ((a.ss:Nat):Int))=false:=(aY b.ss a.ss).trans (decide_eq_false qs)
    have u4:(((b.ss:Nat):Int) == 0)=false:=(aY b.ss 0).trans (decide_eq_false qz)
    have v3:(((b.ss:Nat):Int) != ((a.ss:Nat):Int))=true:=congrArg not u3
    have v4:(((b.ss:Nat):Int) != 0)=true:=congrArg not u4
    clear hi hj eL qb qs qz
    go_enter func95,ntmps95
    go_upto_region 1 with fail
    rw[HE.out,HE2.out,HS2.out,HS.out]
    go_wp2_with fail
    refine (hM0).mono ?_
    rintro r w3 ⟨rfl,H3⟩
    go_wp2_with fail
    go_end0
    exact⟨rfl,HZ.out _ _ H3.out⟩
theorem PW.outH {e:Nat→Nat} {w0 w w':World} {t:Nat→Thing} {L:Pw} (h:PW e w0 w t L) {k:Nat} (hk:k<L.S.n) {i:Nat} (F:Fre e t i) {s:Sh} {f:Fm} {v:Value} (hb:∀ j,j<f.1→f.2 j<256) (g:yj (L.hU k) w w' (L.hd k) (L.S.PH k) s f v):∃ a cap,v=.slice a f.1 cap∧PWn e w0 (ay t (2*i+1) (bE a f.1 cap f.2)) L w' (L.S.setH k s):=by
 obtain⟨U,g,hv,fr,hn⟩:=g
 obtain⟨a,cap,rfl,R⟩:=fr.row hb
 refine⟨a,cap,rfl,?_⟩
 obtain⟨h1,h2⟩:=h.2.stepH h.1 hk g hv
 obtain⟨q1,q2⟩:=L.toH_t s U hk
 have hi:=(F i (Nat.le_refl _)).1
 have hu:∀ q,q ∈ (bE a f.1 cap f.2).U→∃ y,a=some y∧0<f.1∧y.block=q:=fun q hq=>by
  have hq:q ∈ (if 0<f.1 then a.toList.map (·.block) else []):=hq
  split at hq
  ·next hl=>
   simp only[List.mem_map,Option.mem_toList]at hq
   obtain⟨y,hy,e⟩:=hq
   exact⟨y,hy,hl,e⟩
  ·cases hq
 have ho:∀ y,a=some y→0<f.1→(Value.slice a f.1 cap).ownBlock=some y.block:=fun y hy hl=>by
  subst hy
  rfl
 refine⟨ay (ay t (e (2+2*k)) ((L.toH k s U).t (2+2*k))) (2*i+1) (bE a f.1 cap f.2),L.toH k s U,⟨h1.turn _ _ (Off.refl _ _) R (fun q hq=>?_) (fun q hq j hj hm=>?_),h2.1,fun j=>?_⟩,rfl,⟨rfl,rfl,rfl,rfl,rfl,rfl⟩,fun q hq=>?_⟩
 ·obtain⟨y,hy,hl,rfl⟩:=hu q hq
  exact⟨Nat.le_trans h.1.size (fr.ge _ (ho y hy hl)),fr.lt _ (ho y hy hl)⟩
 ·obtain⟨y,hy,hl,rfl⟩:=hu q hq
  by_cases z:j=e (2+2*k)
  ·subst z
   rw[ak,q1]at hm
   exact hn _ (ho y hy hl) hm
  ·rw[an _ _ z]at hm
   have:=(h.1.lt j _ hm).2
   have:=fr.ge _ (ho y hy hl)
   omega
 ·rw[an _ _ (fun q=>hi j q.symm)]
  exact h2.2 j
 ·by_cases z:q=2*i+1
  ·subst z
   rw[ak,ak]
  ·rw[an _ _ z,an _ _ z,an _ _ (hq _)]
theorem PW.outD {e:Nat→Nat} {w0 w w':World} {t:Nat→Thing} {L:Pw} (h:PW e w0 w t L) {k:Nat} (hk:k<L.S.n) {i:Nat} (F:Fre e t i) {s:Sd} {f:Fm} {v:Value} (hb:∀ j,j<f.1→f.2 j<256) (g:Out (L.dU k) w w' (L.dd k) (L.dm k) (L.dg k) 16 L.S.mx (L.S.PD k) s f v):∃ a cap,v=.slice a f.1 cap∧PWn e w0 (ay t (2*i+1) (bE a f.1 cap f.2)) L w' (L.S.setD k s):=by
 obtain⟨U,g,hv,fr,hn⟩:=g
 obtain⟨a,cap,rfl,R⟩:=fr.row hb
 refine⟨a,cap,rfl,?_⟩
 obtain⟨h1,h2⟩:=h.2.stepD h.1 hk g hv
 obtain⟨q1,q2⟩:=L.toD_t s U hk
 have hi:=(F i (Nat.le_refl _)).1
 have hu:∀ q,q ∈ (bE a f.1 cap f.2).U→∃ y,a=some y∧0<f.1∧y.block=q:=fun q hq=>by
  have hq:q ∈ (if 0<f.1 then a.toList.map (·.block) else []):=hq
  split at hq
  ·next hl=>
   simp only[List.mem_map,Option.mem_toList]at hq
   obtain⟨y,hy,e⟩:=hq
   exact⟨y,hy,hl,e⟩
  ·cases hq
 have ho:∀ y,a=some y→0<f.1→(Value.slice a f.1 cap).ownBlock=some y.block:=fun y hy hl=>by
  subst hy
  rfl
 refine⟨ay (ay t (e (3+2*k)) ((L.toD k s U).t (3+2*k))) (2*i+1) (bE a f.1 cap f.2),L.toD k s U,⟨h1.turn _ _ (Off.refl _ _) R (fun q hq=>?_) (fun q hq j hj hm=>?_),h2.1,fun j=>?_⟩,rfl,⟨rfl,rfl,rfl,rfl,rfl,rfl⟩,fun q hq=>?_⟩
 ·obtain⟨y,hy,hl,rfl⟩:=hu q hq
  exact⟨Nat.le_trans h.1.size (fr.ge _ (ho y hy hl)),fr.lt _ (ho y hy hl)⟩
 ·obtain⟨y,hy,hl,rfl⟩:=hu q hq
  by_cases z:j=e (3+2*k)
  ·subst z
   rw[ak,q1]at hm
   exact hn _ (ho y hy hl) hm
  ·rw[an _ _ z]at hm
   have:=(h.1.lt j _ hm).2
   have:=fr.ge _ (ho y hy hl)
   omega
 ·rw[an _ _ (fun q=>hi j q.symm)]
  exact h2.2 j
 ·by_cases z:q=2*i+1
  ·subst z
   rw[ak,ak]
  ·rw[an _ _ z,an _ _ z,an _ _ (hq _)]
theorem uU (e:Nat→Nat) (w0 w:World) (t:Nat→Thing) (L:Pw) (k:Nat) (f:Fm) (a:Option Addr) (cap i:Nat) (h:PW e w0 w t L) (hk:k<L.S.n) (hF:L.S.fs.length≤90000) (hi:∀ j,i≠e j) (ht:t i=bE a f.1 cap f.2) (hL:(L.S.hs k).L.length<800000):Calls prog 72 #[ac L.x 0,.int .i64 (k:Nat),.slice a f.1 cap] w fun r w'=>r=.returned (.int .i64 (L.S.toH k f).e)∧Hid (PWn e w0 t L w' (L.S.toH k f).S):=by
 have hR:Calls prog 92 #[ac (L.hd k) 0,.slice a f.1 cap] w fun r w'=>r=.returned (.int .i64 (L.S.toH k f).e)∧Hid (PWn e w0 t L w' (L.S.setH k (cC (L.S.PH k) (L.S.hs k) f.1 f.2))):=by
  refine (mu (L.hd k) (L.S.PH k) (L.hU k) (L.S.hs k) a f.1 cap f.2 w (h.2.hv h.1 hk) (h.row ht) hL).mono ?_
  rintro r w' ⟨rfl,H⟩
  exact⟨rfl,h.stepH hk H.out⟩
 have hN:∀ w1,Hid (PWn e w0 t L w1 (L.S.setH k (cC (L.S.PH k) (L.S.hs k) f.1 f.2)))→Calls prog 93 #[ac L.x 0,.int .i64 (k:Nat),.int .i64 1,.slice a f.1 cap] w1 fun r w'=>r=.returned (.tuple #[])∧Hid (PWn e w0 t L w' ((L.S.setH k (cC (L.S.PH k) (L.S.hs k) f.1 f.2)).note (cH k 1 f))):=fun w1 q=>by
  obtain⟨t1,L1,h1,hs,hx,he⟩:=q.out
  have:=jF e w0 w1 t1 L1 k 1 f a cap i h1 (by rw[hs];exact hF) hi ((he i hi).trans ht)
  rw[hx.x,hs]at this
  refine this.mono ?_
  rintro r w' ⟨rfl,H⟩
  exact⟨rfl,PWn.bind hx he H.out⟩
 obtain⟨e1,c0',c1',c2'⟩:=(h.2.wb h.1).conn (k:=k) hk
 have cv:w.cell? ⟨L.x,3,none⟩=some (.slice (af (fu L.vc) 0) L.S.n (gZ L.vc)):=(ae w L.x 3 _ _ _ (h.2.wb h.1).blk).trans (congrArg some e1)
 have c0:w.cell? ⟨fu L.vc,k*3,none⟩=some (ac (L.hd k) 0):=c0'
 have c1:w.cell? ⟨fu L.vc,k*3+1,none⟩=some (ac (L.dd k) 0):=c1'
 clear c0' c1' c2' e1
 obtain⟨X,hX⟩:∃ y,L.x=y:=⟨_,rfl⟩
 obtain⟨g,hg⟩:∃ y,fu L.vc=y:=⟨_,rfl⟩
 obtain⟨cc,hcc⟩:∃ y,gZ L.vc=y:=⟨_,rfl⟩
 obtain⟨n,hn⟩:∃ y,L.S.n=y:=⟨_,rfl⟩
 have hlt:((k:Nat):Int) < ((n:Nat):Int):=by omega
 rw[hX,hg,hcc,hn]at cv
 rw[hg]at c0 c1
 have eS:(L.S.toH k f).S=if (L.S.toH k f).e=0 then (L.S.setH k (cC (L.S.PH k) (L.S.hs k) f.1 f.2)).note (cH k 1 f) else L.S.setH k (cC (L.S.PH k) (L.S.hs k) f.1 f.2):=rfl
 obtain⟨E,hE⟩:∃ y,(L.S.toH k f).e=y:=⟨_,rfl⟩
 obtain⟨l,hl⟩:∃ y,f.1=y:=⟨_,rfl⟩
 rw[eS,hE,hX,hl]
 rw[hE,hl]at hR
 rw[hX,hl]at hN
 have HN:Hid (_):=hN
 clear hN eS h ht hF
 by_cases h0:E=0
 ·rw[if_pos h0]
  subst h0
  go_enter func72,ntmps72
  go_wp2_with fail
  refine hR.mono ?_
  rintro r w1 ⟨rfl,H1⟩
  go_wp2_with fail
  refine (HN.out w1 (by rw[hl]at *;exact H1)).mono ?_
  rintro r w2 ⟨rfl,H2⟩
  go_wp2_with fail
  go_ret
  exact⟨rfl,H2⟩
 ·rw[if_neg h0]
  have h0':(E == 0)=false:=by simpa using h0
  go_enter func72,ntmps72
  go_wp2_with fail
  refine hR.mono ?_
  rintro r w1 ⟨rfl,H1⟩
  go_wp2_with fail
  go_ret
  exact⟨rfl,H1⟩
theorem wK (e:Nat→Nat) (w0 w:World) (t:Nat→Thing) (L:Pw) (S:Ws) (k s:Nat) (f:Fm) (a:Option Addr) (cap i:Nat) (h:PWn e w0 (ay t (2*i+1) (bE a f.1 cap f.2)) L w S) (F:Fre e t i) (hF:S.fs.length≤90000) (hf:f.1≤27) (hB:S.bg.length<4096):Calls prog 71 #[ac L.x 0,.int .i64 (k:Nat),.int .i64 (s:Nat),.slice a f.1 cap] w fun r w'=>r=.returned (.int .i64 (S.putI f))∧Hid (PWn e w0 t L w' (S.put k s f)):=by
 have hi:=F i (Nat.le_refl _)
 obtain⟨t1,L1,h1,hs,hx,he⟩:=id h
 have:=aas e w0 w t1 L1 k s f a cap (2*i+1) h1 (by rw[hs];exact hF) hi.1 ((he _ hi.1).trans (ak _ _ _)) hf (by rw[hs];exact hB)
 rw[hx.x,hs]at this
 refine this.mono ?_
 rintro r w' ⟨rfl,H⟩
 exact⟨rfl,(PWn.bind hx he H.out).drop hi.1 hi.2⟩
theorem aab (e:Nat→Nat) (w0 w:World) (t:Nat→Thing) (L:Pw) (k i:Nat) (h:PW e w0 w t L) (F:Fre e t i) (hk:k<L.S.n) (hF:L.S.fs.length≤90000) (hB:L.S.bg.length<4096) (ho:(L.S.hs k).ms<4) (h5:1 ≤ (L.S.hs k).st∧(L.S.hs k).st≤5) (hsn:(L.S.hs k).st=4→(L.S.hs k).sn+1<4294967296) (hL:(L.S.hs k).L.length<700000) (hb:∀ j,j < (az (L.S.PH k) (L.S.hs k)).1→(az (L.S.PH k) (L.S.hs k)).2 j<256) (hf:(az (L.S.PH k) (L.S.hs k)).1≤27):Calls prog 50 #[ac L.x 0,.int .i64 (k:Nat)] w fun r w'=>r=.returned (.tuple #[.int .i64 (L.S.snd k).e,.int .i64 (L.S.snd k).i])∧Hid (PWn e w0 t L w' (L.S.snd k).S):=by
 have hR:Calls prog 70 #[ac (L.hd k) 0] w fun r w'=>∃ a cap,r=.returned (.tuple #[.slice a (az (L.S.PH k) (L.S.hs k)).1 cap,.int .i64 (L.S.snd k).e])∧Hid (PWn e w0 (ay t (2*i+1) (bE a (az (L.S.PH k) (L.S.hs k)).1 cap (az (L.S.PH k) (L.S.hs k)).2)) L w' (L.S.setH k (aC (L.S.PH k) (L.S.hs k)))):=by
  refine (rL (L.hd k) (L.S.PH k) (L.hU k) (L.S.hs k) w (h.2.hv h.1 hk) ho h5 hsn hL).mono ?_
  rintro r w' ⟨v,rfl,H⟩
  obtain⟨a,cap,rfl,hp⟩:=h.outH hk F hb H.out
  exact⟨a,cap,rfl,hp⟩
 have hN:∀ a cap w1,Hid (PWn e w0 (ay t (2*i+1) (bE a (az (L.S.PH k) (L.S.hs k)).1 cap (az (L.S.PH k) (L.S.hs k)).2)) L w1 (L.S.setH k (aC (L.S.PH k) (L.S.hs k))))→Calls prog 71 #[ac L.x 0,.int .i64 (k:Nat),.int .i64 1,.slice a (az (L.S.PH k) (L.S.hs k)).1 cap] w1 fun r w'=>r=.returned (.int .i64 (L.S.snd k).i)∧Hid (PWn e w0 t L w' (L.S.snd k).S):=fun a cap w1 q=>wK e w0 w1 t L _ k 1 (az (L.S.PH k) (L.S.hs k)) a cap i q.out F hF hf hB
 obtain⟨e1,c0',c1',c2'⟩:=(h.2.wb h.1).conn (k:=k) hk
 have cv:w.cell? ⟨L.x,3,none⟩=some (.slice (af (fu L.vc) 0) L.S.n (gZ L.vc)):=(ae w L.x 3 _ _ _ (h.2.wb h.1).blk).trans (congrArg some e1)
 have c0:w.cell? ⟨fu L.vc,k*3,none⟩=some (ac (L.hd k) 0):=c0'
 have c1:w.cell? ⟨fu L.vc,k*3+1,none⟩=some (ac (L.dd k) 0):=c1'
 clear c0' c1' c2' e1
 obtain⟨X,hX⟩:∃ y,L.x=y:=⟨_,rfl⟩
 obtain⟨g,hg⟩:∃ y,fu L.vc=y:=⟨_,rfl⟩
 obtain⟨cc,hcc⟩:∃ y,gZ L.vc=y:=⟨_,rfl⟩
 obtain⟨n,hn⟩:∃ y,L.S.n=y:=⟨_,rfl⟩
 have hlt:((k:Nat):Int) < ((n:Nat):Int):=by omega
 rw[hX,hg,hcc,hn]at cv
 rw[hg]at c0 c1
 obtain⟨E,hE⟩:∃ y,(L.S.snd k).e=y:=⟨_,rfl⟩
 obtain⟨I,hI⟩:∃ y,(L.S.snd k).i=y:=⟨_,rfl⟩
 obtain⟨S',hS'⟩:∃ y,(L.S.snd k).S=y:=⟨_,rfl⟩
 obtain⟨S1,hS1⟩:∃ y,L.S.setH k (aC (L.S.PH k) (L.S.hs k))=y:=⟨_,rfl⟩
 obtain⟨f,hf'⟩:∃ y,az (L.S.PH k) (L.S.hs k)=y:=⟨_,rfl⟩
 rw[hE,hI,hS',hX]
 rw[hE,hf',hS1]at hR
 rw[hX,hI,hS',hf',hS1]at hN
 obtain⟨fl,fb⟩:=f
 have HN:Hid (_):=hN
 clear hN h hF hb hf hf' hS1 hS' F
 go_enter func50,ntmps50
 go_wp2_with fail
 refine hR.mono ?_
 rintro r w1 ⟨a,cap,rfl,H1⟩
 clear hR
 go_wp2_with fail
 refine (HN.out a cap w1 H1).mono ?_
 rintro r w2 ⟨rfl,H2⟩
 go_wp2_with fail
 go_ret2
 exact⟨rfl,H2⟩
end Go.Proofs.YtfgnmadnmjdbiaaGreat
