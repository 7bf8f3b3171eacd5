/- Part 33: contracts that the proof rests on. -/
import Derived.Test.YtfgnmadnmjdbiaaGreatPkU31
set_option maxHeartbeats 64000000
set_option maxRecDepth 100000
namespace Go.Proofs.YtfgnmadnmjdbiaaGreat
open Tryz
open Go.RowKit Go.Maps
set_option linter.unusedVariables false
theorem rK {w:World} {B e size g n c:Nat} {xs:List Value} (h:w.ownsRow B e size (.slice (af g 0) n c) n xs):∀ j u,xs[j]?=some u→w.cell? ⟨g,j,none⟩=some u:=fun j u hu=>by
 rcases h.2 with ⟨e1,_⟩ | ⟨g',cap,cur,e1,_,hg,_,_,_,hx⟩
 ·cases e1
 ·injection e1 with e2 _ _
  injection e2 with e3
  injection e3 with e4
  subst e4
  rw[ae w g j _ _ _ hg,← hu,← hx]
  have:j<n*size:=by
   have h1:=(List.getElem?_eq_some_iff.1 hu).1
   rw[h.1]at h1
   exact h1
  rw[List.getElem?_take_of_lt this]
  simp
theorem rd {w:World} {B e size n c:Nat} {a:Option Addr} {xs:List Value} (h:w.ownsRow B e size (.slice a n c) n xs) (hn:n≠0):∃ g,a=af g 0∧B≤g:=by
 rcases h.2 with ⟨_,e1⟩ | ⟨g',cap,cur,e1,hb,_⟩
 ·exact absurd e1 hn
 ·injection e1 with e2 _ _
  exact⟨g',e2,hb⟩
theorem dS {w:World} {B B' e size n:Nat} {v:Value} {xs:List Value} (h:w.ownsRow B e size v n xs) (hB:B'≤B):w.ownsRow B' e size v n xs:=by
 refine⟨h.1,?_⟩
 rcases h.2 with h1 | ⟨g,cap,cur,e1,hb,r⟩
 ·exact .inl h1
 ·exact .inr ⟨g,cap,cur,e1,Nat.le_trans hB hb,r⟩
theorem vH (P Q:Pm) (hP:Pok P) (hQ:Pok Q) (q0 q1 mx:Nat) (h0:mx≠0) (w:World) (k0:w.heap[q0]?=some (.cells #[.int .u32 (P.c:Nat),.int .i64 (P.o:Nat),.int .i64 (P.i:Nat),.int .i64 (P.t:Nat),.int .u32 (P.n:Nat)] 42 (0,0))) (k1:w.heap[q1]?=some (.cells #[.int .u32 (Q.c:Nat),.int .i64 (Q.o:Nat),.int .i64 (Q.i:Nat),.int .i64 (Q.t:Nat),.int .u32 (Q.n:Nat)] 42 (0,0))):Calls prog 24 #[.agg #[.slice (af q0 0) 1 1,.slice (af q1 0) 1 1,.int .u32 (mx:Nat)]] w fun r w'=>r=.returned (.int .i64 0)∧Hid (Below w.heap.size w w'):=by
 have kA:=aC w (.cells #[.slice (af q0 0) 1 1,.slice (af q1 0) 1 1,.int .u32 (mx:Nat)] 37)
 have bA:=aJ (Below.refl _ w) (.cells #[.slice (af q0 0) 1 1,.slice (af q1 0) 1 1,.int .u32 (mx:Nat)] 37)
 obtain⟨wa,hwa⟩:∃ y,w.alloc (.cells #[.slice (af q0 0) 1 1,.slice (af q1 0) 1 1,.int .u32 (mx:Nat)] 37)=y:=⟨_,rfl⟩
 rw[hwa]at kA bA
 have l0:=(Array.getElem?_eq_some_iff.1 k0).1
 have l1:=(Array.getElem?_eq_some_iff.1 k1).1
 obtain⟨x,hx⟩:∃ y,w.heap.size=y:=⟨_,rfl⟩
 rw[hx]at kA
 have n0:wa.cell? ⟨x,0,none⟩=some (.slice (af q0 0) 1 1):=ae wa x 0 _ _ _ kA
 have n1:wa.cell? ⟨x,1,none⟩=some (.slice (af q1 0) 1 1):=ae wa x 1 _ _ _ kA
 have n2:wa.cell? ⟨x,2,none⟩=some (.int .u32 (mx:Nat)):=ae wa x 2 _ _ _ kA
 have bB:=aJ (Below.refl _ wa) (.cells #[.slice (af q0 0) 1 1,.slice (af q1 0) 1 1] 34)
 have kB:=aC wa (.cells #[.slice (af q0 0) 1 1,.slice (af q1 0) 1 1] 34)
 have lxa:=(Array.getElem?_eq_some_iff.1 kA).1
 have lqa0:q0<wa.heap.size:=Nat.lt_of_lt_of_le l0 bA.size
 have lqa1:q1<wa.heap.size:=Nat.lt_of_lt_of_le l1 bA.size
 have hCc:=sR P Q wa.heap.size q0 q1 (wa.alloc (.cells #[.slice (af q0 0) 1 1,.slice (af q1 0) 1 1] 34)) kB ((bB.block q0 lqa0).trans ((bA.block q0 l0).trans k0)) ((bB.block q1 lqa1).trans ((bA.block q1 l1).trans k1))
 have hmx:¬ (((mx:Nat):Int)<1):=by omega
 have HH:Hid (_):=And.intro bA (And.intro bB (And.intro kA (And.intro k0 (And.intro k1 (And.intro l0 (And.intro l1 (And.intro lxa (And.intro lqa0 lqa1))))))))
 have HE:Hid (_=wa):=hwa
 have HS:Hid (w.heap.size=x):=hx
 clear bA bB kA kB k0 k1 l0 l1 lxa lqa0 lqa1 hwa hx h0
 go_enter func24,ntmps24
 go_upto_region 1 with fail
 rw[HE.out,HS.out]
 go_wp2_with fail
 refine hCc.mono ?_
 rintro r w1 ⟨a,c,rfl,H1⟩
 clear hCc n0 n1 n2
 obtain⟨bA,bB,kA,k0,k1,l0,l1,lxa,lqa0,lqa1⟩:=HH.out
 obtain⟨g,rfl,hgB⟩:=rd H1.out.1 (by omega)
 have b1:Below wa.heap.size wa w1:=bB.trans (H1.out.2.mono bB.size)
 have cc:=rK H1.out.1
 have p0:w1.cell? ⟨g,0,none⟩=some (.int .u32 (P.c:Nat)):=cc 0 _ rfl
 have p1:w1.cell? ⟨g,1,none⟩=some (.int .i64 (P.o:Nat)):=cc 1 _ rfl
 have p2:w1.cell? ⟨g,2,none⟩=some (.int .i64 (P.i:Nat)):=cc 2 _ rfl
 have p3:w1.cell? ⟨g,3,none⟩=some (.int .i64 (P.t:Nat)):=cc 3 _ rfl
 have p4:w1.cell? ⟨g,4,none⟩=some (.int .u32 (P.n:Nat)):=cc 4 _ rfl
 have bC:=aJ (Below.refl _ w1) (.cells #[.int .u32 (P.c:Nat),.int .i64 (P.o:Nat),.int .i64 (P.i:Nat),.int .i64 (P.t:Nat),.int .u32 (P.n:Nat)] 42)
 have hK1:=fe P.c P.o P.i P.t P.n (w1.alloc (.cells #[.int .u32 (P.c:Nat),.int .i64 (P.o:Nat),.int .i64 (P.i:Nat),.int .i64 (P.t:Nat),.int .u32 (P.n:Nat)] 42)) 0 (if_pos hP.ok)
 have HG:Hid (_):=And.intro b1 (And.intro cc bC)
 clear bA bB kA k0 k1 l0 l1 lxa lqa0 lqa1 b1 cc bC
 go_wp2_with fail
 refine wp_loop_rounds 3 ?_
 rw[rounds_succ]
 go_wp2_with fail
 refine hK1.mono ?_
 rintro r w2 ⟨rfl,b2⟩
 clear hK1 p0 p1 p2 p3 p4
 obtain⟨b1,cc,bC⟩:=HG.out
 have b12:Below w1.heap.size w1 w2:=bC.trans (b2.mono bC.size)
 have p0:w2.cell? ⟨g,5,none⟩=some (.int .u32 (Q.c:Nat)):=ag (cc 5 _ rfl) b12
 have p1:w2.cell? ⟨g,6,none⟩=some (.int .i64 (Q.o:Nat)):=ag (cc 6 _ rfl) b12
 have p2:w2.cell? ⟨g,7,none⟩=some (.int .i64 (Q.i:Nat)):=ag (cc 7 _ rfl) b12
 have p3:w2.cell? ⟨g,8,none⟩=some (.int .i64 (Q.t:Nat)):=ag (cc 8 _ rfl) b12
 have p4:w2.cell? ⟨g,9,none⟩=some (.int .u32 (Q.n:Nat)):=ag (cc 9 _ rfl) b12
 have bD:=aJ (Below.refl _ w2) (.cells #[.int .u32 (Q.c:Nat),.int .i64 (Q.o:Nat),.int .i64 (Q.i:Nat),.int .i64 (Q.t:Nat),.int .u32 (Q.n:Nat)] 42)
 have hK2:=fe Q.c Q.o Q.i Q.t Q.n (w2.alloc (.cells #[.int .u32 (Q.c:Nat),.int .i64 (Q.o:Nat),.int .i64 (Q.i:Nat),.int .i64 (Q.t:Nat),.int .u32 (Q.n:Nat)] 42)) 0 (if_pos hQ.ok)
 have HG2:Hid (_):=And.intro b12 bD
 clear b1 cc bC b2 b12 bD
 go_wp2_with fail
 rw[rounds_succ]
 go_wp2_with fail
 refine hK2.mono ?_
 rintro r w3 ⟨rfl,b3⟩
 clear hK2 p0 p1 p2 p3 p4
 obtain⟨b1,cc,bC⟩:=HG.out
 obtain⟨b12,bD⟩:=HG2.out
 obtain⟨bA,bB,kA,k0,k1,l0,l1,lxa,lqa0,lqa1⟩:=HH.out
 have b13:Below wa.heap.size wa w3:=(b1.trans (b12.mono b1.size)).trans ((bD.trans (b3.mono bD.size)).mono (Nat.le_trans b1.size b12.size))
 have kx:=(b13.block x lxa).trans kA
 have n0:w3.cell? ⟨x,0,none⟩=some (.slice (af q0 0) 1 1):=ae w3 x 0 _ _ _ kx
 have n1:w3.cell? ⟨x,1,none⟩=some (.slice (af q1 0) 1 1):=ae w3 x 1 _ _ _ kx
 have n2:w3.cell? ⟨x,2,none⟩=some (.int .u32 (mx:Nat)):=ae w3 x 2 _ _ _ kx
 have hD1:=kK P q0 w3 ((b13.block q0 lqa0).trans ((bA.block q0 l0).trans k0))
 have HG3:Hid (_):=b13
 clear b1 cc bC b12 bD bA bB kA k0 k1 l0 l1 lxa lqa0 lqa1 b3 b13 kx
 go_wp2_with fail
 rw[rounds_succ]
 go_wp2_with fail
 refine hD1.mono ?_
 rintro r w4 ⟨rfl,b4⟩
 clear hD1 n0 n1 n2
 obtain⟨bA,bB,kA,k0,k1,l0,l1,lxa,lqa0,lqa1⟩:=HH.out
 have b14:Below wa.heap.size wa w4:=HG3.out.trans (b4.mono HG3.out.size)
 have kx:=(b14.block x lxa).trans kA
 have n0:w4.cell? ⟨x,0,none⟩=some (.slice (af q0 0) 1 1):=ae w4 x 0 _ _ _ kx
 have n1:w4.cell? ⟨x,1,none⟩=some (.slice (af q1 0) 1 1):=ae w4 x 1 _ _ _ kx
 have n2:w4.cell? ⟨x,2,none⟩=some (.int .u32 (mx:Nat)):=ae w4 x 2 _ _ _ kx
 have hD2:=kK Q q1 w4 ((b14.block q1 lqa1).trans ((bA.block q1 l1).trans k1))
 have HG4:Hid (_):=And.intro b14 bA
 clear bA bB kA k0 k1 l0 l1 lxa lqa0 lqa1 b4 b14 kx
 go_wp2_with fail
 refine hD2.mono ?_
 rintro r w5 ⟨rfl,b5⟩
 clear hD2
 go_wp2_with fail
 go_ret
 exact⟨rfl,HG4.out.2.trans ((HG4.out.1.trans (b5.mono HG4.out.1.size)).mono HG4.out.2.size)⟩
theorem qp (P:Pm) (q:Nat) (w:World) (h:w.heap[q]?=some (.cells #[.int .u32 (P.c:Nat),.int .i64 (P.o:Nat),.int .i64 (P.i:Nat),.int .i64 (P.t:Nat),.int .u32 (P.n:Nat)] 42 (0,0))):Calls prog 43 #[.slice (af q 0) 1 1] w fun r w'=>∃ a' c',r=.returned (.slice a' 1 c')∧Hid (w'.ownsRow w.heap.size 42 5 (.slice a' 1 c') 1 P.cs∧Below w.heap.size w w'):=by
 have hnn:∀ w,(binOp .eql 34 (.slice (af q 0) 1 1) (.slice none 0 0)).run prog w=.ok (.bool false) w:=fun _=>rfl
 obtain⟨i0,hI,hz0,hz1,hz2⟩:=info_parts iJ
 have bA:=aJ (Below.refl _ w) (.cells #[] 42)
 have oA:(w.alloc (.cells #[] 42)).ownsRow w.heap.size 42 5 (.slice (af w.heap.size 0) 0 0) 0 []:=World.ownsRow_made w #[] 0 (Nat.le_refl _) (Nat.zero_le _) rfl
 have sA:=Pm.cells ((bA.block q (Array.getElem?_eq_some_iff.1 h).1).trans h)
 have HB:Hid (_):=bA
 have zA:w.heap.size ≤ (w.alloc (.cells #[] 42)).heap.size:=bA.size
 clear h bA
 go_enter func43,ntmps43
 go_wp2_with (at_builtin;refine wpList_append_own_at _ rfl _ _ 34 rfl w.heap.size 42 i0 (.agg #[.int .u32 0,.int .i64 0,.int .i64 0,.int .i64 0,.int .u32 0]) 5 40 underlying34 hI hz0 hz1 hz2 rfl (by decide) (.slice (af w.heap.size 0) 0 0) 0 [] rfl oA ⟨q,0,none⟩ 1 1 P.cs rfl rfl sA P.cs_one (by unfold maxLen;omega) (by omega) zA ?_)
 intro v' w' o' g' _ _
 obtain⟨a',c',rfl⟩:=cI o'
 have HF:Hid (_):=And.intro o' (HB.out.grown g' HB.out.size (fun k hk=>(oA.lt k hk).1))
 clear o' g' oA sA zA hnn
 go_wp2_with fail
 go_ret
 exact⟨_,_,rfl,HF.out.1,HF.out.2⟩
theorem sJ (P Q:Pm) (q0 q1 mx:Nat) (w:World) (k0:w.heap[q0]?=some (.cells #[.int .u32 (P.c:Nat),.int .i64 (P.o:Nat),.int .i64 (P.i:Nat),.int .i64 (P.t:Nat),.int .u32 (P.n:Nat)] 42 (0,0))) (k1:w.heap[q1]?=some (.cells #[.int .u32 (Q.c:Nat),.int .i64 (Q.o:Nat),.int .i64 (Q.i:Nat),.int .i64 (Q.t:Nat),.int .u32 (Q.n:Nat)] 42 (0,0))):Calls prog 25 #[.agg #[.slice (af q0 0) 1 1,.slice (af q1 0) 1 1,.int .u32 (mx:Nat)]] w fun r w'=>∃ a0 c0 a1 c1,r=.returned (.agg #[.slice a0 1 c0,.slice a1 1 c1,.int .u32 (mx:Nat)])∧Hid (w'.ownsRow w.heap.size 42 5 (.slice a0 1 c0) 1 P.cs∧w'.ownsRow w.heap.size 42 5 (.slice a1 1 c1) 1 Q.cs∧Below w.heap.size w w'∧∀ k,(Value.slice a0 1 c0).ownBlock=some k→(Value.slice a1 1 c1).ownBlock≠some k):=by
 have kA0:=aC w (.cells #[.slice (af q0 0) 1 1,.slice (af q1 0) 1 1,.int .u32 (mx:Nat)] 37)
 have bA:=aJ (aJ (Below.refl _ w) (.cells #[.slice (af q0 0) 1 1,.slice (af q1 0) 1 1,.int .u32 (mx:Nat)] 37)) (.cells #[.slice none 0 0,.slice none 0 0,.int .u32 0] 37)
 have s1:(w.alloc (.cells #[.slice (af q0 0) 1 1,.slice (af q1 0) 1 1,.int .u32 (mx:Nat)] 37)).heap.size=w.heap.size+1:=gU _ _
 have kA:((w.alloc (.cells #[.slice (af q0 0) 1 1,.slice (af q1 0) 1 1,.int .u32 (mx:Nat)] 37)).alloc (.cells #[.slice none 0 0,.slice none 0 0,.int .u32 0] 37)).heap[w.heap.size]?=_:=(Below.heap_alloc _ _ _ (by omega)).trans kA0
 have kB:=aC (w.alloc (.cells #[.slice (af q0 0) 1 1,.slice (af q1 0) 1 1,.int .u32 (mx:Nat)] 37)) (.cells #[.slice none 0 0,.slice none 0 0,.int .u32 0] 37)
 rw[s1]at kB
 have s2:((w.alloc (.cells #[.slice (af q0 0) 1 1,.slice (af q1 0) 1 1,.int .u32 (mx:Nat)] 37)).alloc (.cells #[.slice none 0 0,.slice none 0 0,.int .u32 0] 37)).heap.size=w.heap.size+2:=xX _ _ _
 obtain⟨wa,hwa⟩:∃ y,(w.alloc (.cells #[.slice (af q0 0) 1 1,.slice (af q1 0) 1 1,.int .u32 (mx:Nat)] 37)).alloc (.cells #[.slice none 0 0,.slice none 0 0,.int .u32 0] 37)=y:=⟨_,rfl⟩
 rw[hwa]at kA bA kB s2
 have l0:=(Array.getElem?_eq_some_iff.1 k0).1
 have l1:=(Array.getElem?_eq_some_iff.1 k1).1
 have j0:=(bA.block q0 l0).trans k0
 have j1:=(bA.block q1 l1).trans k1
 obtain⟨x,hx⟩:∃ y,w.heap.size=y:=⟨_,rfl⟩
 have HBa:Hid (Below w.heap.size w wa):=bA
 rw[hx]at kA kB s2
 have hS:∀ w',Below wa.heap.size wa w'→w'.cell? ⟨x,0,none⟩=some (Value.slice (af q0 0) 1 1)∧w'.cell? ⟨x,1,none⟩=some (Value.slice (af q1 0) 1 1)∧w'.cell? ⟨x,2,none⟩=some (Value.int .u32 (mx:Nat)):=fun w' b=>⟨ag (ae wa x 0 _ _ _ kA) b,ag (ae wa x 1 _ _ _ kA) b,ag (ae wa x 2 _ _ _ kA) b⟩
 have HS0:=hS wa.drew (Below.drew (Below.refl _ _))
 have HSS:Hid (_):=hS
 have HJ:Hid (_):=And.intro j0 (And.intro j1 (And.intro kB s2))
 have HE:Hid (_=wa):=hwa
 have HS:Hid (w.heap.size=x):=hx
 clear kA0 kA kB bA s1 s2 hwa hx l0 l1 j0 j1 k0 k1 hS
 go_enter func25,ntmps25
 go_upto_region 1 with fail
 rw[HE.out,HS.out]
 refine wp_region_held_drew (S:=fun w'=>w'.cell? ⟨x,0,none⟩=some (Value.slice (af q0 0) 1 1)∧w'.cell? ⟨x,1,none⟩=some (Value.slice (af q1 0) 1 1)∧w'.cell? ⟨x,2,none⟩=some (Value.int .u32 (mx:Nat))) (by kernel_rfl) HS0 (fun _=>?_)
 refine al (i:=0) (v:=ac x 0) ?_
 refine al (i:=1) (v:=Value.slice (af q0 0) 1 1) ?_
 refine al (i:=3) (v:=ac x 1) ?_
 refine al (i:=4) (v:=Value.slice (af q1 0) 1 1) ?_
 refine al (i:=6) (v:=ac x 2) ?_
 refine al (i:=7) (v:=Value.int .u32 (mx:Nat)) ?_
 have bd:Below wa.heap.size wa wa.drew:=Below.drew (Below.refl _ _)
 refine aE (i:=2) 43 #[Value.slice (af q0 0) 1 1] (by kernel_rfl) rfl (by kernel_rfl) (by go_simp) ?_
 refine (qp P q0 wa.drew HJ.out.1).mono ?_
 rintro r w1 ⟨a0,c0,rfl,H1⟩
 have b1:Below wa.heap.size wa w1:=bd.trans H1.out.2
 refine⟨_,rfl,HSS.out w1 b1,?_⟩
 have HSa:=HSS.out w1 b1
 refine aE (i:=5) 43 #[Value.slice (af q1 0) 1 1] (by kernel_rfl) rfl (by kernel_rfl) (by go_simp) ?_
 refine (qp Q q1 w1 ((b1.block q1 (Array.getElem?_eq_some_iff.1 HJ.out.2.1).1).trans HJ.out.2.1)).mono ?_
 rintro r w2 ⟨a1,c1,rfl,H2⟩
 have b2:Below wa.heap.size wa w2:=b1.trans (H2.out.2.mono b1.size)
 have HSb:=HSS.out w2 b2
 refine⟨_,rfl,HSb,?_⟩
 refine al (i:=8) (v:=Value.agg #[Value.slice a0 1 c0,Value.slice a1 1 c1,Value.int .u32 (mx:Nat)]) ?_
 obtain⟨_,_,kB,s2⟩:=HJ.out
 have kB2:=(b2.block (x+1) (by omega)).trans kB
 have y0:=ae w2 (x+1) 0 _ _ _ kB2
 have y1:=ae w2 (x+1) 1 _ _ _ kB2
 have y2:=ae w2 (x+1) 2 _ _ _ kB2
 have yz:=fun k=>frozen_of_row w2 (x+1) k _ _ kB2
 have kB3:(((w2.setCell ⟨x+1,0,none⟩ (Value.slice a0 1 c0)).setCell ⟨x+1,1,none⟩ (Value.slice a1 1 c1)).setCell ⟨x+1,2,none⟩ (Value.int .u32 (mx:Nat))).heap[x+1]?=some (.cells #[Value.slice a0 1 c0,Value.slice a1 1 c1,Value.int .u32 (mx:Nat)] 37 (0,0)):=Joins.block_setCell (Joins.block_setCell (Joins.block_setCell kB2 _) _) _
 have o3:Off [x+1] w2 (((w2.setCell ⟨x+1,0,none⟩ (Value.slice a0 1 c0)).setCell ⟨x+1,1,none⟩ (Value.slice a1 1 c1)).setCell ⟨x+1,2,none⟩ (Value.int .u32 (mx:Nat))):=((Off.setCell (x+1) 0 w2 _).trans (Off.setCell (x+1) 1 _ _)).trans (Off.setCell (x+1) 2 _ _)
 have hS3:(((w2.setCell ⟨x+1,0,none⟩ (Value.slice a0 1 c0)).setCell ⟨x+1,1,none⟩ (Value.slice a1 1 c1)).setCell ⟨x+1,2,none⟩ (Value.int .u32 (mx:Nat))).cell? ⟨x,0,none⟩=some (Value.slice (af q0 0) 1 1)∧(((w2.setCell ⟨x+1,0,none⟩ (Value.slice a0 1 c0)).setCell ⟨x+1,1,none⟩ (Value.slice a1 1 c1)).setCell ⟨x+1,2,none⟩ (Value.int .u32 (mx:Nat))).cell? ⟨x,1,none⟩=some (Value.slice (af q1 0) 1 1)∧(((w2.setCell ⟨x+1,0,none⟩ (Value.slice a0 1 c0)).setCell ⟨x+1,1,none⟩ (Value.slice a1 1 c1)).setCell ⟨x+1,2,none⟩ (Value.int .u32 (mx:Nat))).cell? ⟨x,2,none⟩=some (Value.int .u32 (mx:Nat)):=by
  obtain⟨u0,u1,u2⟩:=HSb
  refine⟨?_,?_,?_⟩
  ·rw[World.cell?_of_block (w:=w2) (o3.block x (by have:=b2.size;omega) (by simp))];exact u0
  ·rw[World.cell?_of_block (w:=w2) (o3.block x (by have:=b2.size;omega) (by simp))];exact u1
  ·rw[World.cell?_of_block (w:=w2) (o3.block x (by have:=b2.size;omega) (by simp))];exact u2
 obtain⟨w3,hw3⟩:∃ z,(((w2.setCell ⟨x+1,0,none⟩ (Value.slice a0 1 c0)).setCell ⟨x+1,1,none⟩ (Value.slice a1 1 c1)).setCell ⟨x+1,2,none⟩ (Value.int .u32 (mx:Nat)))=z:=⟨_,rfl⟩
 rw[hw3]at kB3 o3 hS3
 refine cP (i:=9) w3 (by kernel_rfl) rfl (by kernel_rfl) (by rw[← hw3];go_simp) hS3 ?_
 refine wpAnyH_done (by kernel_rfl) ?_ _
 have z0:=ae w3 (x+1) 0 _ _ _ kB3
 have z1:=ae w3 (x+1) 1 _ _ _ kB3
 have z2:=ae w3 (x+1) 2 _ _ _ kB3
 have HO:Hid (_):=And.intro o3 (And.intro b1 (And.intro b2 s2))
 clear o3 b1 b2 s2 kB kB2 kB3 hS3 HSb HSa hw3 HS0 bd y0 y1 y2 yz
 go_wp2_with fail
 refine bodyPost_ret (v:=.agg #[.slice a0 1 c0,.slice a1 1 c1,.int .u32 (mx:Nat)]) (by simp[results,results25,go_sem,z0,z1,z2]) rfl ?_
 obtain⟨o3,b1,b2,s2⟩:=HO.out
 have hb:=HBa.out
 have hsx:=HS.out
 have hdz:wa.drew.heap.size=wa.heap.size:=rfl
 have lt1:=H1.out.1.lt
 have lt2:=H2.out.1.lt
 have l1:=b1.size
 have u0:w2.ownsRow wa.heap.size 42 5 (.slice a0 1 c0) 1 P.cs:=a6 (l:=[]) H1.out.1 (Off.of_below H2.out.2) (by simp)
 have v0:=a6 u0 o3 (fun k hk hm=>by have:=(lt1 k hk).1;simp at hm;omega)
 have v1:=a6 H2.out.1 o3 (fun k hk hm=>by have:=(lt2 k hk).1;simp at hm;omega)
 refine⟨a0,c0,a1,c1,rfl,dS v0 (by omega),dS v1 (by omega),o3.below (hb.trans (b2.mono hb.size)) (by simp;omega) (Nat.le_trans hb.size b2.size),fun k hk hm=>?_⟩
 have:=(lt1 k hk).2
 have:=(lt2 k hm).1
 omega
theorem iM:(prog.info? 79).map (fun i=>(i.zero,i.size,i.bytes))=some (some (.agg aK),3,24):=by kernel_rfl
theorem nl {P:Program} {md:Region.Mode} {ops:Array Oper} {Q:Exit→Act→World→Prop} {S:World→Prop} {fuel:Nat} {l:Array Bool} {a:Act} {w:World} {i j:Nat} (hr:Region.ready md ops l=[i,j])
  (h1:wpOp P ops Q i (fun a' w'=>S w'∧wpAnyH P md ops Q S fuel (l.setIfInBounds i true) a' w') a w) (h2:wpOp P ops Q j (fun a' w'=>S w'∧wpAnyH P md ops Q S fuel (l.setIfInBounds j true) a' w') a w):wpAnyH P md ops Q S (fuel+1) l a w:=
 wpAnyH_all hr (by simp) (fun k hk=>by
  rcases List.mem_cons.1 hk with rfl | hk
  ·exact h1
  ·obtain rfl:=List.mem_singleton.1 hk
   exact h2)
theorem jI {o:Oper} {a:Act} {w w':World} {v v' u:Value} {s x:Operand} (hop:o.op=Op.call { callee:=Callee.builtin Builtin.append,args:=#[s,x],argTypes:=#[71,71] }) (hty:o.type=71) (hs:a.eval s=v) (hx:a.eval x=u) (hr:(Builtin.append_ #[71,71] 71 #[v,u]).run prog w=.ok v' w'):(execOp a.eval o).run prog w=.ok (.value v') w':=by
 unfold execOp
 simp only[hop,hty,resolve,invoke,builtin,Sem.run_bind,Sem.run_pure,Result.andThen_ok,List.map_toArray,List.map_cons,List.map_nil,hs,hx,hr]
structure NwF (P Q:Pm) (mx:Nat) (w w':World) (X b m:Nat) (a0:Option Addr) (c0:Nat) (a1:Option Addr) (c1:Nat) (h d dm g:Nat) (av:Option Addr) (cv:Nat) (hU dU:List Nat):Prop where
 bel:Below w.heap.size w w'
 blk:w'.heap[X]?=some (.cells #[.slice a0 1 c0,.slice a1 1 c1,.int .u32 (mx:Nat),.slice av 1 cv,ac b 0,.int .i64 0,.slice none 0 0] 74 (0,0))
 r0:w'.ownsRow w.heap.size 42 5 (.slice a0 1 c0) 1 P.cs
 r1:w'.ownsRow w.heap.size 42 5 (.slice a1 1 c1) 1 Q.cs
 rc:w'.ownsRow w.heap.size 79 3 (.slice av 1 cv) 1 [ac h 0,ac d 0,ac dm 0]
 bg:Bg 0 w' b m (.slice none 0 0) [] none []
 hv:HV w' h P hU bG
 dv:DV w' d dm g 16 mx Q dU (dw M0)
 lm:w.heap.size≤m
 mb:b=m+1
 bX:X=m+2
 l0:∀ k,(Value.slice a0 1 c0).ownBlock=some k→k<m
 l1:∀ k,(Value.slice a1 1 c1).ownBlock=some k→k<m
 l01:∀ k,(Value.slice a0 1 c0).ownBlock=some k→(Value.slice a1 1 c1).ownBlock≠some k
 lc:∀ k,(Value.slice av 1 cv).ownBlock=some k→X<k∧k ∉ hU∧k ∉ dU
 lh:∀ k,k ∈ hU→X<k∧k ∉ dU
 ld:∀ k,k ∈ dU→X<k
theorem zI (P Q:Pm) (mx:Nat) (w w1 w2 w3 wx w5 w7 w8:World) (X b:Nat) (a0:Option Addr) (c0:Nat) (a1:Option Addr) (c1:Nat) (h d dm g:Nat) (av:Option Addr) (cv:Nat) {wa:World} (bA:Below w.heap.size w wa) (b1:Below wa.heap.size wa w1)
  (H2:w2.ownsRow w1.heap.size 42 5 (.slice a0 1 c0) 1 P.cs∧w2.ownsRow w1.heap.size 42 5 (.slice a1 1 c1) 1 Q.cs∧Below w1.heap.size w1 w2∧∀ k,(Value.slice a0 1 c0).ownBlock=some k→(Value.slice a1 1 c1).ownBlock≠some k)
  (H3:Below w2.heap.size w2 w3∧Bg w2.heap.size w3 (w2.heap.size+1) w2.heap.size (.slice none 0 0) [] none []∧w3.heap.size=w2.heap.size+2) (hb:w2.heap.size+1=b) (hX:w3.heap.size=X)
  (kW:wx.heap[X]?=some (.cells #[.slice a0 1 c0,.slice a1 1 c1,.int .u32 (mx:Nat),.slice none 0 0,ac b 0,.int .i64 0,.slice none 0 0] 74 (0,0))) (bW:Below w3.heap.size w3 wx)
  (H5:Below wx.drew.heap.size wx.drew w5∧∃ hU dU,HV w5 h P hU bG∧DV w5 d dm g 16 mx Q dU (dw M0)∧(∀ k,k ∈ hU→wx.drew.heap.size≤k)∧(∀ k,k ∈ dU→wx.drew.heap.size≤k)∧∀ k,k ∈ hU→k ∉ dU) (b5:Below wx.heap.size wx w5)
  (o7:w7.ownsRow wx.heap.size 79 3 (.slice av 1 cv) 1 [ac h 0,ac d 0,ac dm 0]) (g7:(w5.alloc (.cells (ay h d dm) 79)).grownBy w7 (Value.slice none 0 0).ownBlock) (p7:(Value.slice av 1 cv).ownBlock=(Value.slice none 0 0).ownBlock∨(Value.slice av 1 cv).ownBlock=some (w5.alloc (.cells (ay h d dm) 79)).heap.size) (s6:(w5.alloc (.cells (ay h d dm) 79)).heap.size=w5.heap.size+1)
  (o8:Off [X] w7 w8) (k8:w8.heap[X]?=some (.cells #[.slice a0 1 c0,.slice a1 1 c1,.int .u32 (mx:Nat),.slice av 1 cv,ac b 0,.int .i64 0,.slice none 0 0] 74 (0,0))):∃ hU dU,NwF P Q mx w w8 X b w2.heap.size a0 c0 a1 c1 h d dm g av cv hU dU:=by
 obtain⟨r0,r1,b2,d01⟩:=H2
 obtain⟨b3,hg,s3⟩:=H3
 obtain⟨bd5,hU,dU,hv,dv,hUg,dUg,dis⟩:=H5
 have hd:wx.drew.heap.size=wx.heap.size:=rfl
 have lX:=(Array.getElem?_eq_some_iff.1 kW).1
 have b57:Below w5.heap.size w5 w7:=(aJ (Below.refl _ w5) (.cells (ay h d dm) 79)).grown g7 (by rw[s6];omega) (fun k hk=>by cases hk)
 have b27:Below w2.heap.size w2 w7:=(b3.trans (bW.mono b3.size)).trans ((b5.trans (b57.mono b5.size)).mono (Nat.le_trans b3.size bW.size))
 have b07:Below w.heap.size w w7:=(bA.trans (b1.mono bA.size)).trans ((b2.trans (b27.mono b2.size)).mono (Nat.le_trans bA.size b1.size))
 have s1:=b1.size
 have sA:=bA.size
 have s2:=b2.size
 have s5:=b5.size
 have s35:=bW.size
 have l0:=r0.lt
 have l1:=r1.lt
 have q0:w8.ownsRow w1.heap.size 42 5 (.slice a0 1 c0) 1 P.cs:=a6 (a6 (l:=[]) r0 (Off.of_below b27) (by simp)) o8 (fun k hk hm=>by have:=(l0 k hk).2;simp at hm;omega)
 have q1:w8.ownsRow w1.heap.size 42 5 (.slice a1 1 c1) 1 Q.cs:=a6 (a6 (l:=[]) r1 (Off.of_below b27) (by simp)) o8 (fun k hk hm=>by have:=(l1 k hk).2;simp at hm;omega)
 have lc:=o7.lt
 have qc:w8.ownsRow wx.heap.size 79 3 (.slice av 1 cv) 1 [ac h 0,ac d 0,ac dm 0]:=a6 o7 o8 (fun k hk hm=>by have:=(lc k hk).1;simp at hm;omega)
 have hw:∀ k,(Value.slice av 1 cv).ownBlock=some k→k=w5.heap.size+1:=fun k hk=>by
  rcases p7 with p | p
  ·rw[hk]at p;cases p
  ·rw[hk,s6]at p;injection p
 have bg8:Bg 0 w8 b w2.heap.size (.slice none 0 0) [] none []:=by
  subst hb
  have hh:Bg 0 w3 (w2.heap.size+1) w2.heap.size (.slice none 0 0) [] none []:=⟨hg.at_,⟨⟨rfl,.inl ⟨rfl,rfl⟩⟩,fun i f hi=>by simp at hi,fun f hf=>by simp at hf,by simp⟩,hg.met,hg.pk,Nat.zero_le _,Nat.zero_le _⟩
  have h4:=hh.below (bW.trans ((b5.trans (b57.mono b5.size)).mono bW.size))
  refine h4.offU o8 (fun k hk hm=>?_)
  simp[j5,Value.ownBlock]at hk hm
  omega
 have hv8:HV w8 h P hU bG:=HV.off (HV.off (l:=[]) hv (Off.of_below b57) (by simp)) o8 (fun k hk hm=>by have:=hUg k hk;simp at hm;omega)
 have dv8:DV w8 d dm g 16 mx Q dU (dw M0):=DV.offY (DV.offY (l:=[]) dv (Off.of_below b57) (by simp)) o8 (fun k hk hm=>by have:=dUg k hk;simp at hm;omega)
 refine⟨hU,dU,o8.below b07 (by simp;omega) b07.size,k8,dS q0 (by omega),dS q1 (by omega),dS qc (by omega),bg8,hv8,dv8,by omega,hb.symm,by omega,fun k hk=>(l0 k hk).2,fun k hk=>(l1 k hk).2,d01,fun k hk=>?_,fun k hk=>⟨by have:=hUg k hk;omega,dis k hk⟩,fun k hk=>by have:=dUg k hk;omega⟩
 have e1:=hw k hk
 refine⟨by omega,fun hm=>?_,fun hm=>?_⟩
 ·have:=HV.ult hv k hm
  omega
 ·have:=DV.ult dv k hm
  omega
theorem yc (P Q:Pm) (hP:Pok P) (hQ:Pok Q) (q0 q1 mx:Nat) (hmx:mx<4294967296) (h0:mx≠0) (w:World) (k0:w.heap[q0]?=some (.cells #[.int .u32 (P.c:Nat),.int .i64 (P.o:Nat),.int .i64 (P.i:Nat),.int .i64 (P.t:Nat),.int .u32 (P.n:Nat)] 42 (0,0))) (k1:w.heap[q1]?=some (.cells #[.int .u32 (Q.c:Nat),.int .i64 (Q.o:Nat),.int .i64 (Q.i:Nat),.int .i64 (Q.t:Nat),.int .u32 (Q.n:Nat)] 42 (0,0))):Calls prog 11 #[.agg #[.slice (af q0 0) 1 1,.slice (af q1 0) 1 1,.int .u32 (mx:Nat)]] w fun r w'=>∃ X b m a0 c0 a1 c1 h d dm g av cv hU dU,r=.returned (.tuple #[ac X 0,.int .i64 0])∧Hid (NwF P Q mx w w' X b m a0 c0 a1 c1 h d dm g av cv hU dU):=by
 have kA:=aC w (.cells #[.slice (af q0 0) 1 1,.slice (af q1 0) 1 1,.int .u32 (mx:Nat)] 37)
 have bA:=aJ (Below.refl _ w) (.cells #[.slice (af q0 0) 1 1,.slice (af q1 0) 1 1,.int .u32 (mx:Nat)] 37)
 obtain⟨wa,hwa⟩:∃ y,w.alloc (.cells #[.slice (af q0 0) 1 1,.slice (af q1 0) 1 1,.int .u32 (mx:Nat)] 37)=y:=⟨_,rfl⟩
 rw[hwa]at kA bA
 have l0:=(Array.getElem?_eq_some_iff.1 k0).1
 have l1:=(Array.getElem?_eq_some_iff.1 k1).1
 obtain⟨x,hx⟩:∃ y,w.heap.size=y:=⟨_,rfl⟩
 rw[hx]at kA
 have n0:wa.cell? ⟨x,0,none⟩=some (.slice (af q0 0) 1 1):=ae wa x 0 _ _ _ kA
 have n1:wa.cell? ⟨x,1,none⟩=some (.slice (af q1 0) 1 1):=ae wa x 1 _ _ _ kA
 have n2:wa.cell? ⟨x,2,none⟩=some (.int .u32 (mx:Nat)):=ae wa x 2 _ _ _ kA
 have lxa:=(Array.getElem?_eq_some_iff.1 kA).1
 have lqa0:q0<wa.heap.size:=Nat.lt_of_lt_of_le l0 bA.size
 have lqa1:q1<wa.heap.size:=Nat.lt_of_lt_of_le l1 bA.size
 have ka0:=(bA.block q0 l0).trans k0
 have ka1:=(bA.block q1 l1).trans k1
 have hCk:=vH P Q hP hQ q0 q1 mx h0 wa ka0 ka1
 have HH:Hid (_):=And.intro bA (And.intro kA (And.intro ka0 (And.intro ka1 (And.intro lxa (And.intro lqa0 lqa1)))))
 have HE:Hid (_=wa):=hwa
 have HS:Hid (w.heap.size=x):=hx
 clear bA kA ka0 ka1 k0 k1 l0 l1 lxa lqa0 lqa1 hwa hx
 go_enter func11,ntmps11
 go_upto_region 1 with fail
 rw[HE.out,HS.out]
 go_wp2_with fail
 refine hCk.mono ?_
 rintro r w1 ⟨rfl,H1⟩
 clear hCk n0 n1 n2
 obtain⟨bA,kA,ka0,ka1,lxa,lqa0,lqa1⟩:=HH.out
 have b1:=H1.out
 have kx:=(b1.block x lxa).trans kA
 have n0:w1.cell? ⟨x,0,none⟩=some (.slice (af q0 0) 1 1):=ae w1 x 0 _ _ _ kx
 have n1:w1.cell? ⟨x,1,none⟩=some (.slice (af q1 0) 1 1):=ae w1 x 1 _ _ _ kx
 have n2:w1.cell? ⟨x,2,none⟩=some (.int .u32 (mx:Nat)):=ae w1 x 2 _ _ _ kx
 have hCo:=sJ P Q q0 q1 mx w1 ((b1.block q0 lqa0).trans ka0) ((b1.block q1 lqa1).trans ka1)
 clear bA kA ka0 ka1 lxa lqa0 lqa1 b1 kx
 go_wp2_with fail
 refine hCo.mono ?_
 rintro r w2 ⟨a0,c0,a1,c1,rfl,H2⟩
 clear hCo n0 n1 n2
 have hBn:=tv w2
 go_wp2_with fail
 refine hBn.mono ?_
 rintro r w3 ⟨rfl,H3⟩
 clear hBn
 obtain⟨b,hb⟩:∃ y,w2.heap.size+1=y:=⟨_,rfl⟩
 rw[hb]
 have kW:=aC w3 (.cells #[.slice a0 1 c0,.slice a1 1 c1,.int .u32 (mx:Nat),.slice none 0 0,ac b 0,.int .i64 0,.slice none 0 0] 74)
 have bW:=aJ (Below.refl _ w3) (.cells #[.slice a0 1 c0,.slice a1 1 c1,.int .u32 (mx:Nat),.slice none 0 0,ac b 0,.int .i64 0,.slice none 0 0] 74)
 have sW:=gU w3 (.cells #[.slice a0 1 c0,.slice a1 1 c1,.int .u32 (mx:Nat),.slice none 0 0,ac b 0,.int .i64 0,.slice none 0 0] 74)
 obtain⟨wx,hwx⟩:∃ y,w3.alloc (.cells #[.slice a0 1 c0,.slice a1 1 c1,.int .u32 (mx:Nat),.slice none 0 0,ac b 0,.int .i64 0,.slice none 0 0] 74)=y:=⟨_,rfl⟩
 obtain⟨X,hX⟩:∃ y,w3.heap.size=y:=⟨_,rfl⟩
 rw[hwx]at kW bW sW
 rw[hX]at kW sW
 obtain⟨bA,kA,ka0,ka1,lxa,lqa0,lqa1⟩:=HH.out
 have b1:=H1.out
 have b2:=H2.out.2.2.1
 have b3:=H3.out.1
 have b13:Below wa.heap.size wa wx:=((b1.trans (b2.mono b1.size)).trans (b3.mono (Nat.le_trans b1.size b2.size))).trans (bW.mono (Nat.le_trans (Nat.le_trans b1.size b2.size) b3.size))
 have kx:=(b13.block x lxa).trans kA
 have kq0:=(b13.block q0 lqa0).trans ka0
 have kq1:=(b13.block q1 lqa1).trans ka1
 have n0:wx.cell? ⟨x,0,none⟩=some (.slice (af q0 0) 1 1):=ae wx x 0 _ _ _ kx
 have n1:wx.cell? ⟨x,1,none⟩=some (.slice (af q1 0) 1 1):=ae wx x 1 _ _ _ kx
 have n2:wx.cell? ⟨x,2,none⟩=some (.int .u32 (mx:Nat)):=ae wx x 2 _ _ _ kx
 have hS:∀ w',Below wx.heap.size wx w'→w'.cell? ⟨x,0,none⟩=some (Value.slice (af q0 0) 1 1)∧w'.cell? ⟨x,1,none⟩=some (Value.slice (af q1 0) 1 1)∧w'.cell? ⟨x,2,none⟩=some (Value.int .u32 (mx:Nat))∧w'.cell? ⟨q0,0,none⟩=some (Value.int .u32 (P.c:Nat))∧w'.cell? ⟨q0,1,none⟩=some (Value.int .i64 (P.o:Nat))∧w'.cell? ⟨q0,2,none⟩=some (Value.int .i64 (P.i:Nat))∧w'.cell? ⟨q0,3,none⟩=some (Value.int .i64 (P.t:Nat))∧w'.cell? ⟨q0,4,none⟩=some (Value.int .u32 (P.n:Nat))∧w'.cell? ⟨q1,0,none⟩=some (Value.int .u32 (Q.c:Nat))∧w'.cell? ⟨q1,1,none⟩=some (Value.int .i64 (Q.o:Nat))∧w'.cell? ⟨q1,2,none⟩=some (Value.int .i64 (Q.i:Nat))∧w'.cell? ⟨q1,3,none⟩=some (Value.int .i64 (Q.t:Nat))∧w'.cell? ⟨q1,4,none⟩=some (Value.int .u32 (Q.n:Nat)):=fun w' bb=>⟨ag n0 bb,ag n1 bb,ag n2 bb,ag (ae wx q0 0 _ _ _ kq0) bb,ag (ae wx q0 1 _ _ _ kq0) bb,ag (ae wx q0 2 _ _ _ kq0) bb,ag (ae wx q0 3 _ _ _ kq0) bb,ag (ae wx q0 4 _ _ _ kq0) bb,ag (ae wx q1 0 _ _ _ kq1) bb,ag (ae wx q1 1 _ _ _ kq1) bb,ag (ae wx q1 2 _ _ _ kq1) bb,ag (ae wx q1 3 _ _ _ kq1) bb,ag (ae wx q1 4 _ _ _ kq1) bb⟩
 have HS0:=hS wx.drew (Below.drew (Below.refl _ _))
 have HSS:Hid (_):=hS
 have HX0:Hid (∀ w',Below wx.heap.size wx w'→w'.cell? ⟨X,3,none⟩=some (Value.slice none 0 0)):=fun w' bb=>ag (ae wx X 3 _ _ _ kW) bb
 have HW:Hid (_):=And.intro kW (And.intro bW (And.intro sW (And.intro b13 bA)))
 have HE3:Hid (_=wx):=hwx
 have HXX:Hid (x<X∧q0<X∧q1<X):=by have:=b1.size;have:=b2.size;have:=b3.size;exact⟨by omega,by omega,by omega⟩
 have HX3:Hid (w3.heap.size=X):=hX
 have Hb:Hid (w2.heap.size+1=b):=hb
 clear bA kA ka0 ka1 lxa lqa0 lqa1 b1 b2 b3 b13 kx kq0 kq1 kW bW sW hS hwx hX hb
 go_upto_region 5 with fail
 rw[HE3.out,HX3.out]
 go_wp2_with fail
 refine wp_loop_rounds 2 ?_
 rw[rounds_succ]
 go_wp2_with fail
 refine wp_region_held_drew (S:=fun w'=>w'.cell? ⟨x,0,none⟩=some (Value.slice (af q0 0) 1 1)∧w'.cell? ⟨x,1,none⟩=some (Value.slice (af q1 0) 1 1)∧w'.cell? ⟨x,2,none⟩=some (Value.int .u32 (mx:Nat))∧w'.cell? ⟨q0,0,none⟩=some (Value.int .u32 (P.c:Nat))∧w'.cell? ⟨q0,1,none⟩=some (Value.int .i64 (P.o:Nat))∧w'.cell? ⟨q0,2,none⟩=some (Value.int .i64 (P.i:Nat))∧w'.cell? ⟨q0,3,none⟩=some (Value.int .i64 (P.t:Nat))∧w'.cell? ⟨q0,4,none⟩=some (Value.int .u32 (P.n:Nat))∧w'.cell? ⟨q1,0,none⟩=some (Value.int .u32 (Q.c:Nat))∧w'.cell? ⟨q1,1,none⟩=some (Value.int .i64 (Q.o:Nat))∧w'.cell? ⟨q1,2,none⟩=some (Value.int .i64 (Q.i:Nat))∧w'.cell? ⟨q1,3,none⟩=some (Value.int .i64 (Q.t:Nat))∧w'.cell? ⟨q1,4,none⟩=some (Value.int .u32 (Q.n:Nat))) (by kernel_rfl) HS0 (fun _=>?_)
 refine al (i:=0) (v:=ac X 0) ?_
 refine al (i:=1) (v:=ac X 0) ?_
 refine al (i:=2) (v:=ac X 0) ?_
 refine al (i:=3) (v:=ac X 3) ?_
 refine al (i:=5) (v:=ac x 0) ?_
 refine al (i:=6) (v:=Value.slice (af q0 0) 1 1) ?_
 refine al (i:=7) (v:=Value.int .i64 0) ?_
 refine al (i:=8) (v:=ac q0 0) ?_
 refine al (i:=9) (v:=Value.agg #[Value.int .u32 (P.c:Nat),Value.int .i64 (P.o:Nat),Value.int .i64 (P.i:Nat),Value.int .i64 (P.t:Nat),Value.int .u32 (P.n:Nat)]) ?_
 refine al (i:=10) (v:=ac x 1) ?_
 refine al (i:=11) (v:=Value.slice (af q1 0) 1 1) ?_
 refine al (i:=12) (v:=Value.int .i64 0) ?_
 refine al (i:=13) (v:=ac q1 0) ?_
 refine al (i:=14) (v:=Value.agg #[Value.int .u32 (Q.c:Nat),Value.int .i64 (Q.o:Nat),Value.int .i64 (Q.i:Nat),Value.int .i64 (Q.t:Nat),Value.int .u32 (Q.n:Nat)]) ?_
 refine al (i:=15) (v:=ac x 2) ?_
 refine al (i:=16) (v:=Value.int .u32 (mx:Nat)) ?_
 refine nl (i:=4) (j:=17) (by kernel_rfl) ?_ ?_
 ·have x3:(wx.drew).cell? ⟨X,3,none⟩=some (Value.slice none 0 0):=HX0.out _ (Below.drew (Below.refl wx.heap.size wx))
  refine it (Value.slice none 0 0) (wx.drew) rfl (by kernel_rfl) (by go_simp) ⟨HSS.out _ (Below.drew (Below.refl wx.heap.size wx)),?_⟩
  have HS0':=HSS.out _ (Below.drew (Below.refl wx.heap.size wx))
  refine aE (i:=17) 27 #[Value.agg #[Value.int .u32 (P.c:Nat),Value.int .i64 (P.o:Nat),Value.int .i64 (P.i:Nat),Value.int .i64 (P.t:Nat),Value.int .u32 (P.n:Nat)],Value.agg #[Value.int .u32 (Q.c:Nat),Value.int .i64 (Q.o:Nat),Value.int .i64 (Q.i:Nat),Value.int .i64 (Q.t:Nat),Value.int .u32 (Q.n:Nat)],Value.int .u32 (mx:Nat)] (by kernel_rfl) rfl (by kernel_rfl) (by go_simp) ?_
  refine (mY P Q hP hQ mx hmx h0 wx.drew).mono ?_
  rintro r w5 ⟨h,d,dm,g,rfl,H5⟩
  have b5:Below wx.heap.size wx w5:=(Below.drew (Below.refl wx.heap.size wx)).trans H5.out.1
  refine⟨_,rfl,HSS.out w5 b5,?_⟩
  have HS5:=HSS.out w5 b5
  have b6:=aJ b5 (.cells (ay h d dm) 79)
  have k6:=aC w5 (.cells (ay h d dm) 79)
  have s6:=gU w5 (.cells (ay h d dm) 79)
  refine bO (i:=18) (Value.slice (af w5.heap.size 0) 1 1) (w5.alloc (.cells (ay h d dm) 79)) (by kernel_rfl) rfl (by kernel_rfl) (by go_simp) (HSS.out _ b6) ?_
  have HS6:=HSS.out _ b6
  obtain⟨i0,hI,hz0,hz1,hz2⟩:=info_parts iM
  have hcs:∀ j u,([ac h 0,ac d 0,ac dm 0]:List Value)[j]?=some u→(w5.alloc (.cells (ay h d dm) 79)).cell? ((⟨w5.heap.size,0,none⟩:Addr).add j)=some u:=fun j u hu=>by
   have e:(Addr.add ⟨w5.heap.size,0,none⟩ j)=⟨w5.heap.size,j,none⟩:=by unfold Addr.add;simp;omega
   rw[e,ae _ _ j _ _ _ k6]
   simpa using hu
  obtain⟨v7,w7,hr7,o7,g7,_,p7⟩:=run_append_own_at (P:=prog) (w5.alloc (.cells (ay h d dm) 79)) wx.heap.size 71 71 79 i0 (.agg aK) 3 24 underlying71 hI hz0 hz1 hz2 rfl (by decide) (.slice none 0 0) 0 [] (World.ownsRow_nil _ _ _ _) ⟨w5.heap.size,0,none⟩ 1 1 [ac h 0,ac d 0,ac dm 0] rfl hcs (by intro u hu;simp at hu;rcases hu with rfl | rfl | rfl <;> rfl) (by unfold maxLen;omega) (by omega) (Nat.le_trans b5.size (by rw[s6];omega))
  obtain⟨av,cv,rfl⟩:=cI o7
  have b7:Below wx.heap.size wx w7:=b6.grown g7 b6.size (fun k hk=>by cases hk)
  refine bO (i:=19) (Value.slice av 1 cv) w7 (by kernel_rfl) rfl (by kernel_rfl) (jI (s:=.tmp 27) (x:=.tmp 41) rfl rfl (by kernel_rfl) (by kernel_rfl) hr7) (HSS.out w7 b7) ?_
  have HS7:=HSS.out w7 b7
  refine al (i:=20) (v:=ac X 0) ?_
  refine al (i:=21) (v:=ac X 3) ?_
  obtain⟨kW,bW,sW,b13,bA⟩:=HW.out
  have lX:X<wx.heap.size:=by omega
  have kX7:=(b7.block X lX).trans kW
  have y3:=ae w7 X 3 _ _ _ kX7
  have yz:=frozen_of_row w7 X 3 _ _ kX7
  have o8:Off [X] w7 (w7.setCell ⟨X,3,none⟩ (.slice av 1 cv)):=Off.setCell X 3 w7 _
  have k8:(w7.setCell ⟨X,3,none⟩ (.slice av 1 cv)).heap[X]?=some (.cells #[.slice a0 1 c0,.slice a1 1 c1,.int .u32 (mx:Nat),.slice av 1 cv,ac b 0,.int .i64 0,.slice none 0 0] 74 (0,0)):=Joins.block_setCell kX7 _
  obtain⟨w8,hw8⟩:∃ z,w7.setCell ⟨X,3,none⟩ (.slice av 1 cv)=z:=⟨_,rfl⟩
  rw[hw8]at o8 k8
  have hS8:w8.cell? ⟨x,0,none⟩=some (Value.slice (af q0 0) 1 1)∧w8.cell? ⟨x,1,none⟩=some (Value.slice (af q1 0) 1 1)∧w8.cell? ⟨x,2,none⟩=some (Value.int .u32 (mx:Nat))∧w8.cell? ⟨q0,0,none⟩=some (Value.int .u32 (P.c:Nat))∧w8.cell? ⟨q0,1,none⟩=some (Value.int .i64 (P.o:Nat))∧w8.cell? ⟨q0,2,none⟩=some (Value.int .i64 (P.i:Nat))∧w8.cell? ⟨q0,3,none⟩=some (Value.int .i64 (P.t:Nat))∧w8.cell? ⟨q0,4,none⟩=some (Value.int .u32 (P.n:Nat))∧w8.cell? ⟨q1,0,none⟩=some (Value.int .u32 (Q.c:Nat))∧w8.cell? ⟨q1,1,none⟩=some (Value.int .i64 (Q.o:Nat))∧w8.cell? ⟨q1,2,none⟩=some (Value.int .i64 (Q.i:Nat))∧w8.cell? ⟨q1,3,none⟩=some (Value.int .i64 (Q.t:Nat))∧w8.cell? ⟨q1,4,none⟩=some (Value.int .u32 (Q.n:Nat)):=by
   obtain⟨u0,u1,u2,u3,u4,u5,u6,u7,u8,u9,u10,u11,u12⟩:=HS7
   have nx:x ∉ [X]:=by have:=HXX.out;simp;omega
   have n0':q0 ∉ [X]:=by have:=HXX.out;simp;omega
   have n1':q1 ∉ [X]:=by have:=HXX.out;simp;omega
   have ff:∀ q i v,q ∉ [X]→w7.cell? ⟨q,i,none⟩=some v→w8.cell? ⟨q,i,none⟩=some v:=fun q i v hq hc=>(World.cell?_of_block (w:=w7) (a:=⟨q,i,none⟩) (o8.block q (World.block_lt_of_cell? w7 ⟨q,i,none⟩ hc) hq)).trans hc
   exact⟨ff _ _ _ nx u0,ff _ _ _ nx u1,ff _ _ _ nx u2,ff _ _ _ n0' u3,ff _ _ _ n0' u4,ff _ _ _ n0' u5,ff _ _ _ n0' u6,ff _ _ _ n0' u7,ff _ _ _ n1' u8,ff _ _ _ n1' u9,ff _ _ _ n1' u10,ff _ _ _ n1' u11,ff _ _ _ n1' u12⟩
  refine cP (i:=22) w8 (by kernel_rfl) rfl (by kernel_rfl) (by rw[← hw8];go_simp) hS8 ?_
  refine wpAnyH_done (by kernel_rfl) ?_ _
  have hFin:=zI P Q mx w w1 w2 w3 wx w5 w7 w8 X b a0 c0 a1 c1 h d dm g av cv bA H1.out H2.out H3.out Hb.out HX3.out kW bW H5.out b5 o7 g7 p7 s6 o8 k8
  have HF:Hid (_):=hFin
  have m0:w8.cell? ⟨x,0,none⟩=_:=hS8.1
  clear o8 k8 b5 b6 b7 o7 g7 p7 s6 sW kW bW b13 bA lX kX7 y3 yz hw8 HS7 HS6 HS5 HS0 k6 hcs hr7 n0 n1 n2 hS8 hFin H5
  go_wp2_with fail
  rw[rounds_succ]
  go_wp2_with fail
  go_ret2
  obtain⟨hU,dU,hF⟩:=HF.out
  exact⟨X,b,w2.heap.size,a0,c0,a1,c1,h,d,dm,g,av,cv,hU,dU,rfl,hF⟩
 ·refine nP 27 #[Value.agg #[Value.int .u32 (P.c:Nat),Value.int .i64 (P.o:Nat),Value.int .i64 (P.i:Nat),Value.int .i64 (P.t:Nat),Value.int .u32 (P.n:Nat)],Value.agg #[Value.int .u32 (Q.c:Nat),Value.int .i64 (Q.o:Nat),Value.int .i64 (Q.i:Nat),Value.int .i64 (Q.t:Nat),Value.int .u32 (Q.n:Nat)],Value.int .u32 (mx:Nat)] rfl (by kernel_rfl) (by go_simp) ?_
  refine (mY P Q hP hQ mx hmx h0 wx.drew).mono ?_
  rintro r w5 ⟨h,d,dm,g,rfl,H5⟩
  have b5:Below wx.heap.size wx w5:=(Below.drew (Below.refl wx.heap.size wx)).trans H5.out.1
  refine⟨_,rfl,HSS.out w5 b5,?_⟩
  have HS5:=HSS.out w5 b5
  refine nl (i:=4) (j:=18) (by kernel_rfl) ?_ ?_
  ·have x3:(w5).cell? ⟨X,3,none⟩=some (Value.slice none 0 0):=HX0.out _ (b5)
   refine it (Value.slice none 0 0) (w5) rfl (by kernel_rfl) (by go_simp) ⟨HSS.out _ (b5),?_⟩
   have b6:=aJ b5 (.cells (ay h d dm) 79)
   have k6:=aC w5 (.cells (ay h d dm) 79)
   have s6:=gU w5 (.cells (ay h d dm) 79)
   refine bO (i:=18) (Value.slice (af w5.heap.size 0) 1 1) (w5.alloc (.cells (ay h d dm) 79)) (by kernel_rfl) rfl (by kernel_rfl) (by go_simp) (HSS.out _ b6) ?_
   have HS6:=HSS.out _ b6
   obtain⟨i0,hI,hz0,hz1,hz2⟩:=info_parts iM
   have hcs:∀ j u,([ac h 0,ac d 0,ac dm 0]:List Value)[j]?=some u→(w5.alloc (.cells (ay h d dm) 79)).cell? ((⟨w5.heap.size,0,none⟩:Addr).add j)=some u:=fun j u hu=>by
    have e:(Addr.add ⟨w5.heap.size,0,none⟩ j)=⟨w5.heap.size,j,none⟩:=by unfold Addr.add;simp;omega
    rw[e,ae _ _ j _ _ _ k6]
    simpa using hu
   obtain⟨v7,w7,hr7,o7,g7,_,p7⟩:=run_append_own_at (P:=prog) (w5.alloc (.cells (ay h d dm) 79)) wx.heap.size 71 71 79 i0 (.agg aK) 3 24 underlying71 hI hz0 hz1 hz2 rfl (by decide) (.slice none 0 0) 0 [] (World.ownsRow_nil _ _ _ _) ⟨w5.heap.size,0,none⟩ 1 1 [ac h 0,ac d 0,ac dm 0] rfl hcs (by intro u hu;simp at hu;rcases hu with rfl | rfl | rfl <;> rfl) (by unfold maxLen;omega) (by omega) (Nat.le_trans b5.size (by rw[s6];omega))
   obtain⟨av,cv,rfl⟩:=cI o7
   have b7:Below wx.heap.size wx w7:=b6.grown g7 b6.size (fun k hk=>by cases hk)
   refine bO (i:=19) (Value.slice av 1 cv) w7 (by kernel_rfl) rfl (by kernel_rfl) (jI (s:=.tmp 27) (x:=.tmp 41) rfl rfl (by kernel_rfl) (by kernel_rfl) hr7) (HSS.out w7 b7) ?_
   have HS7:=HSS.out w7 b7
   refine al (i:=20) (v:=ac X 0) ?_
   refine al (i:=21) (v:=ac X 3) ?_
   obtain⟨kW,bW,sW,b13,bA⟩:=HW.out
   have lX:X<wx.heap.size:=by omega
   have kX7:=(b7.block X lX).trans kW
   have y3:=ae w7 X 3 _ _ _ kX7
   have yz:=frozen_of_row w7 X 3 _ _ kX7
   have o8:Off [X] w7 (w7.setCell ⟨X,3,none⟩ (.slice av 1 cv)):=Off.setCell X 3 w7 _
   have k8:(w7.setCell ⟨X,3,none⟩ (.slice av 1 cv)).heap[X]?=some (.cells #[.slice a0 1 c0,.slice a1 1 c1,.int .u32 (mx:Nat),.slice av 1 cv,ac b 0,.int .i64 0,.slice none 0 0] 74 (0,0)):=Joins.block_setCell kX7 _
   obtain⟨w8,hw8⟩:∃ z,w7.setCell ⟨X,3,none⟩ (.slice av 1 cv)=z:=⟨_,rfl⟩
   rw[hw8]at o8 k8
   have hS8:w8.cell? ⟨x,0,none⟩=some (Value.slice (af q0 0) 1 1)∧w8.cell? ⟨x,1,none⟩=some (Value.slice (af q1 0) 1 1)∧w8.cell? ⟨x,2,none⟩=some (Value.int .u32 (mx:Nat))∧w8.cell? ⟨q0,0,none⟩=some (Value.int .u32 (P.c:Nat))∧w8.cell? ⟨q0,1,none⟩=some (Value.int .i64 (P.o:Nat))∧w8.cell? ⟨q0,2,none⟩=some (Value.int .i64 (P.i:Nat))∧w8.cell? ⟨q0,3,none⟩=some (Value.int .i64 (P.t:Nat))∧w8.cell? ⟨q0,4,none⟩=some (Value.int .u32 (P.n:Nat))∧w8.cell? ⟨q1,0,none⟩=some (Value.int .u32 (Q.c:Nat))∧w8.cell? ⟨q1,1,none⟩=some (Value.int .i64 (Q.o:Nat))∧w8.cell? ⟨q1,2,none⟩=some (Value.int .i64 (Q.i:Nat))∧w8.cell? ⟨q1,3,none⟩=some (Value.int .i64 (Q.t:Nat))∧w8.cell? ⟨q1,4,none⟩=some (Value.int .u32 (Q.n:Nat)):=by
    obtain⟨u0,u1,u2,u3,u4,u5,u6,u7,u8,u9,u10,u11,u12⟩:=HS7
    have nx:x ∉ [X]:=by have:=HXX.out;simp;omega
    have n0':q0 ∉ [X]:=by have:=HXX.out;simp;omega
    have n1':q1 ∉ [X]:=by have:=HXX.out;simp;omega
    have ff:∀ q i v,q ∉ [X]→w7.cell? ⟨q,i,none⟩=some v→w8.cell? ⟨q,i,none⟩=some v:=fun q i v hq hc=>(World.cell?_of_block (w:=w7) (a:=⟨q,i,none⟩) (o8.block q (World.block_lt_of_cell? w7 ⟨q,i,none⟩ hc) hq)).trans hc
    exact⟨ff _ _ _ nx u0,ff _ _ _ nx u1,ff _ _ _ nx u2,ff _ _ _ n0' u3,ff _ _ _ n0' u4,ff _ _ _ n0' u5,ff _ _ _ n0' u6,ff _ _ _ n0' u7,ff _ _ _ n1' u8,ff _ _ _ n1' u9,ff _ _ _ n1' u10,ff _ _ _ n1' u11,ff _ _ _ n1' u12⟩
   refine cP (i:=22) w8 (by kernel_rfl) rfl (by kernel_rfl) (by rw[← hw8];go_simp) hS8 ?_
   refine wpAnyH_done (by kernel_rfl) ?_ _
   have hFin:=zI P Q mx w w1 w2 w3 wx w5 w7 w8 X b a0 c0 a1 c1 h d dm g av cv bA H1.out H2.out H3.out Hb.out HX3.out kW bW H5.out b5 o7 g7 p7 s6 o8 k8
   have HF:Hid (_):=hFin
   have m0:w8.cell? ⟨x,0,none⟩=_:=hS8.1
   clear o8 k8 b5 b6 b7 o7 g7 p7 s6 sW kW bW b13 bA lX kX7 y3 yz hw8 HS7 HS6 HS5 HS0 k6 hcs hr7 n0 n1 n2 hS8 hFin H5
   go_wp2_with fail
   rw[rounds_succ]
   go_wp2_with fail
   go_ret2
   obtain⟨hU,dU,hF⟩:=HF.out
   exact⟨X,b,w2.heap.size,a0,c0,a1,c1,h,d,dm,g,av,cv,hU,dU,rfl,hF⟩
  ·have b6:=aJ b5 (.cells (ay h d dm) 79)
   have k6:=aC w5 (.cells (ay h d dm) 79)
   have s6:=gU w5 (.cells (ay h d dm) 79)
   refine it (Value.slice (af w5.heap.size 0) 1 1) (w5.alloc (.cells (ay h d dm) 79)) rfl (by kernel_rfl) (by go_simp) ⟨HSS.out _ b6,?_⟩
   have x3:((w5.alloc (.cells (ay h d dm) 79))).cell? ⟨X,3,none⟩=some (Value.slice none 0 0):=HX0.out _ (b6)
   refine sg (i:=4) (Value.slice none 0 0) (by kernel_rfl) rfl (by kernel_rfl) (by go_simp) (HSS.out _ (b6)) ?_
   have HS6:=HSS.out _ b6
   obtain⟨i0,hI,hz0,hz1,hz2⟩:=info_parts iM
   have hcs:∀ j u,([ac h 0,ac d 0,ac dm 0]:List Value)[j]?=some u→(w5.alloc (.cells (ay h d dm) 79)).cell? ((⟨w5.heap.size,0,none⟩:Addr).add j)=some u:=fun j u hu=>by
    have e:(Addr.add ⟨w5.heap.size,0,none⟩ j)=⟨w5.heap.size,j,none⟩:=by unfold Addr.add;simp;omega
    rw[e,ae _ _ j _ _ _ k6]
    simpa using hu
   obtain⟨v7,w7,hr7,o7,g7,_,p7⟩:=run_append_own_at (P:=prog) (w5.alloc (.cells (ay h d dm) 79)) wx.heap.size 71 71 79 i0 (.agg aK) 3 24 underlying71 hI hz0 hz1 hz2 rfl (by decide) (.slice none 0 0) 0 [] (World.ownsRow_nil _ _ _ _) ⟨w5.heap.size,0,none⟩ 1 1 [ac h 0,ac d 0,ac dm 0] rfl hcs (by intro u hu;simp at hu;rcases hu with rfl | rfl | rfl <;> rfl) (by unfold maxLen;omega) (by omega) (Nat.le_trans b5.size (by rw[s6];omega))
   obtain⟨av,cv,rfl⟩:=cI o7
   have b7:Below wx.heap.size wx w7:=b6.grown g7 b6.size (fun k hk=>by cases hk)
   refine bO (i:=19) (Value.slice av 1 cv) w7 (by kernel_rfl) rfl (by kernel_rfl) (jI (s:=.tmp 27) (x:=.tmp 41) rfl rfl (by kernel_rfl) (by kernel_rfl) hr7) (HSS.out w7 b7) ?_
   have HS7:=HSS.out w7 b7
   refine al (i:=20) (v:=ac X 0) ?_
   refine al (i:=21) (v:=ac X 3) ?_
   obtain⟨kW,bW,sW,b13,bA⟩:=HW.out
   have lX:X<wx.heap.size:=by omega
   have kX7:=(b7.block X lX).trans kW
   have y3:=ae w7 X 3 _ _ _ kX7
   have yz:=frozen_of_row w7 X 3 _ _ kX7
   have o8:Off [X] w7 (w7.setCell ⟨X,3,none⟩ (.slice av 1 cv)):=Off.setCell X 3 w7 _
   have k8:(w7.setCell ⟨X,3,none⟩ (.slice av 1 cv)).heap[X]?=some (.cells #[.slice a0 1 c0,.slice a1 1 c1,.int .u32 (mx:Nat),.slice av 1 cv,ac b 0,.int .i64 0,.slice none 0 0] 74 (0,0)):=Joins.block_setCell kX7 _
   obtain⟨w8,hw8⟩:∃ z,w7.setCell ⟨X,3,none⟩ (.slice av 1 cv)=z:=⟨_,rfl⟩
   rw[hw8]at o8 k8
   have hS8:w8.cell? ⟨x,0,none⟩=some (Value.slice (af q0 0) 1 1)∧w8.cell? ⟨x,1,none⟩=some (Value.slice (af q1 0) 1 1)∧w8.cell? ⟨x,2,none⟩=some (Value.int .u32 (mx:Nat))∧w8.cell? ⟨q0,0,none⟩=some (Value.int .u32 (P.c:Nat))∧w8.cell? ⟨q0,1,none⟩=some (Value.int .i64 (P.o:Nat))∧w8.cell? ⟨q0,2,none⟩=some (Value.int .i64 (P.i:Nat))∧w8.cell? ⟨q0,3,none⟩=some (Value.int .i64 (P.t:Nat))∧w8.cell? ⟨q0,4,none⟩=some (Value.int .u32 (P.n:Nat))∧w8.cell? ⟨q1,0,none⟩=some (Value.int .u32 (Q.c:Nat))∧w8.cell? ⟨q1,1,none⟩=some (Value.int .i64 (Q.o:Nat))∧w8.cell? ⟨q1,2,none⟩=some (Value.int .i64 (Q.i:Nat))∧w8.cell? ⟨q1,3,none⟩=some (Value.int .i64 (Q.t:Nat))∧w8.cell? ⟨q1,4,none⟩=some (Value.int .u32 (Q.n:Nat)):=by
    obtain⟨u0,u1,u2,u3,u4,u5,u6,u7,u8,u9,u10,u11,u12⟩:=HS7
    have nx:x ∉ [X]:=by have:=HXX.out;simp;omega
    have n0':q0 ∉ [X]:=by have:=HXX.out;simp;omega
    have n1':q1 ∉ [X]:=by have:=HXX.out;simp;omega
    have ff:∀ q i v,q ∉ [X]→w7.cell? ⟨q,i,none⟩=some v→w8.cell? ⟨q,i,none⟩=some v:=fun q i v hq hc=>(World.cell?_of_block (w:=w7) (a:=⟨q,i,none⟩) (o8.block q (World.block_lt_of_cell? w7 ⟨q,i,none⟩ hc) hq)).trans hc
    exact⟨ff _ _ _ nx u0,ff _ _ _ nx u1,ff _ _ _ nx u2,ff _ _ _ n0' u3,ff _ _ _ n0' u4,ff _ _ _ n0' u5,ff _ _ _ n0' u6,ff _ _ _ n0' u7,ff _ _ _ n1' u8,ff _ _ _ n1' u9,ff _ _ _ n1' u10,ff _ _ _ n1' u11,ff _ _ _ n1' u12⟩
   refine cP (i:=22) w8 (by kernel_rfl) rfl (by kernel_rfl) (by rw[← hw8];go_simp) hS8 ?_
   refine wpAnyH_done (by kernel_rfl) ?_ _
   have hFin:=zI P Q mx w w1 w2 w3 wx w5 w7 w8 X b a0 c0 a1 c1 h d dm g av cv bA H1.out H2.out H3.out Hb.out HX3.out kW bW H5.out b5 o7 g7 p7 s6 o8 k8
   have HF:Hid (_):=hFin
   have m0:w8.cell? ⟨x,0,none⟩=_:=hS8.1
   clear o8 k8 b5 b6 b7 o7 g7 p7 s6 sW kW bW b13 bA lX kX7 y3 yz hw8 HS7 HS6 HS5 HS0 k6 hcs hr7 n0 n1 n2 hS8 hFin H5
   go_wp2_with fail
   rw[rounds_succ]
   go_wp2_with fail
   go_ret2
   obtain⟨hU,dU,hF⟩:=HF.out
   exact⟨X,b,w2.heap.size,a0,c0,a1,c1,h,d,dm,g,av,cv,hU,dU,rfl,hF⟩
def s0 (P Q:Pm) (mx:Nat):Ws:=⟨1,fun _=>P,fun _=>Q,fun _=>bG,fun _=>dw M0,mx,[],0,[]⟩
def oc (L:Pw):Nat→Thing:=fun q=>if q % 2=0 then L.t (q / 2) else oe
def ev (j:Nat):Nat:=2*j
theorem ix (L:Pw):Fre ev (oc L) 0:=fun q _=>⟨fun j=>by unfold ev;omega,by unfold oc;rw[if_neg (by omega)]⟩
theorem ut (L:Pw):Wat ev (oc L) L:=⟨fun i j h=>by unfold ev at h;omega,fun j=>by unfold oc ev;rw[if_pos (by omega),show 2*j / 2=j by omega]⟩
def uc (P Q:Pm) (mx:Nat) (X b m:Nat) (a0:Option Addr) (c0:Nat) (a1:Option Addr) (c1:Nat) (h d dm g:Nat) (av:Option Addr) (cv:Nat) (hU dU:List Nat):Pw:=⟨X,.slice a0 1 c0,.slice a1 1 c1,.slice av 1 cv,.slice none 0 0,[],[],b,m,.slice none 0 0,[],none,fun _=>h,fun _=>hU,fun _=>d,fun _=>dm,fun _=>g,fun _=>dU,s0 P Q mx⟩
theorem NwF.mem {P Q:Pm} {mx X b m:Nat} {a0:Option Addr} {c0:Nat} {a1:Option Addr} {c1 h d dm g:Nat} {av:Option Addr} {cv:Nat} {hU dU:List Nat} (q k:Nat) (hk:k ∈ (oc (uc P Q mx X b m a0 c0 a1 c1 h d dm g av cv hU dU) q).U) :
  (q=0∧(k=X∨(Value.slice a0 1 c0).ownBlock=some k∨(Value.slice a1 1 c1).ownBlock=some k∨(Value.slice av 1 cv).ownBlock=some k))∨(q=2∧(k=b∨k=m))∨(q=4∧k ∈ hU)∨(q=6∧k ∈ dU):=by
 unfold oc at hk
 by_cases h2:q % 2=0
 ·rw[if_pos h2]at hk
  unfold Pw.t at hk
  by_cases z0:q / 2=0
  ·rw[if_pos z0]at hk
   have hk:k ∈ (uc P Q mx X b m a0 c0 a1 c1 h d dm g av cv hU dU).core.U:=hk
   simp only[Wc.U,Pw.core,uc,List.mem_cons,List.mem_append,Option.mem_toList,List.not_mem_nil,or_false]at hk
   refine .inl ⟨by omega,?_⟩
   rcases hk with hk | hk | hk | hk | hk
   ·exact .inl hk
   ·exact .inr (.inl hk)
   ·exact .inr (.inr (.inl hk))
   ·exact .inr (.inr (.inr hk))
   ·cases hk
  rw[if_neg z0]at hk
  by_cases z1:q / 2=1
  ·rw[if_pos z1]at hk
   have hk:k ∈ j5 b m (.slice none 0 0) [] none:=hk
   simp[j5,Value.ownBlock]at hk
   exact .inr (.inl ⟨by omega,hk⟩)
  rw[if_neg z1]at hk
  by_cases z2:q / 2-2<2 * (uc P Q mx X b m a0 c0 a1 c1 h d dm g av cv hU dU).S.n
  ·rw[if_pos z2]at hk
   have z2:q / 2-2<2*1:=z2
   by_cases z3:(q / 2-2) % 2=0
   ·rw[if_pos z3]at hk
    exact .inr (.inr (.inl ⟨by omega,hk⟩))
   ·rw[if_neg z3]at hk
    exact .inr (.inr (.inr ⟨by omega,hk⟩))
  ·rw[if_neg z2]at hk
   simp[oe]at hk
 ·rw[if_neg h2]at hk
  simp[oe]at hk
theorem NwF.pw {P Q:Pm} {mx:Nat} {w w':World} {X b m:Nat} {a0:Option Addr} {c0:Nat} {a1:Option Addr} {c1 h d dm g:Nat} {av:Option Addr} {cv:Nat} {hU dU:List Nat} (F:NwF P Q mx w w' X b m a0 c0 a1 c1 h d dm g av cv hU dU):PW ev w w' (oc (uc P Q mx X b m a0 c0 a1 c1 h d dm g av cv hU dU)) (uc P Q mx X b m a0 c0 a1 c1 h d dm g av cv hU dU):=by
 have wb:WB (uc P Q mx X b m a0 c0 a1 c1 h d dm g av cv hU dU).core w':=by
  refine⟨F.blk,?_,?_,?_,⟨rfl,.inl ⟨rfl,rfl⟩⟩,rfl,fun i f d hf=>by simp[uc,Pw.core,s0]at hf,fun k hk=>by simp[uc,Pw.core]at hk⟩
  ·have:=dS F.r0 (Nat.zero_le _)
   show w'.ownsRow 0 42 5 (.slice a0 1 c0) 1 (wD 1 (fun _=>P))
   rw[show wD 1 (fun _=>P)=P.cs by simp[wD]]
   exact this
  ·have:=dS F.r1 (Nat.zero_le _)
   show w'.ownsRow 0 42 5 (.slice a1 1 c1) 1 (wD 1 (fun _=>Q))
   rw[show wD 1 (fun _=>Q)=Q.cs by simp[wD]]
   exact this
  ·have:=dS F.rc (Nat.zero_le _)
   show w'.ownsRow 0 79 3 (.slice av 1 cv) 1 (oE 1 (fun _=>h) (fun _=>d) (fun _=>dm))
   rw[show oE 1 (fun _=>h) (fun _=>d) (fun _=>dm)=[ac h 0,ac d 0,ac dm 0] by simp[oE]]
   exact this
 refine⟨⟨F.bel,fun q=>?_,fun q k hk=>?_,fun p q hpq k hp hq=>?_⟩,ut _⟩
 ·unfold oc
  by_cases h2:q % 2=0
  ·rw[if_pos h2]
   unfold Pw.t
   by_cases z0:q / 2=0
   ·rw[if_pos z0]
    exact wb
   rw[if_neg z0]
   by_cases z1:q / 2=1
   ·rw[if_pos z1]
    exact⟨F.bg,rfl⟩
   rw[if_neg z1]
   by_cases z2:q / 2-2<2 * (uc P Q mx X b m a0 c0 a1 c1 h d dm g av cv hU dU).S.n
   ·rw[if_pos z2]
    by_cases z3:(q / 2-2) % 2=0
    ·rw[if_pos z3]
     exact F.hv
    ·rw[if_neg z3]
     exact F.dv
   ·rw[if_neg z2]
    trivial
  ·rw[if_neg h2]
   trivial
 ·have lm:=F.lm
  have mb:=F.mb
  have bX:=F.bX
  have lX:=(Array.getElem?_eq_some_iff.1 F.blk).1
  rcases NwF.mem q k hk with ⟨_,hk | hk | hk | hk⟩ | ⟨_,hk | hk⟩ | ⟨_,hk⟩ | ⟨_,hk⟩
  ·omega
  ·exact F.r0.lt k hk
  ·exact F.r1.lt k hk
  ·exact F.rc.lt k hk
  ·omega
  ·omega
  ·have:=(F.lh k hk).1
   have:=HV.ult F.hv k hk
   omega
  ·have:=F.ld k hk
   have:=DV.ult F.dv k hk
   omega
 ·have mb:=F.mb
  have bX:=F.bX
  rcases NwF.mem p k hp with ⟨e1,hp | hp | hp | hp⟩ | ⟨e1,hp | hp⟩ | ⟨e1,hp⟩ | ⟨e1,hp⟩
  all_goals rcases NwF.mem q k hq with ⟨e2,hq | hq | hq | hq⟩ | ⟨e2,hq | hq⟩ | ⟨e2,hq⟩ | ⟨e2,hq⟩
  all_goals first
   | exact hpq (by omega)
   | omega
   | (have:=F.l0 k hp;omega)
   | (have:=F.l1 k hp;omega)
   | (have:=F.l0 k hq;omega)
   | (have:=F.l1 k hq;omega)
   | (have:=(F.lc k hp).1;omega)
   | (have:=(F.lc k hq).1;omega)
   | (have:=(F.lh k hp).1;omega)
   | (have:=(F.lh k hq).1;omega)
   | (have:=F.ld k hp;omega)
   | (have:=F.ld k hq;omega)
   | exact (F.lc k hp).2.1 hq
   | exact (F.lc k hq).2.1 hp
   | exact (F.lc k hp).2.2 hq
   | exact (F.lc k hq).2.2 hp
   | exact (F.lh k hp).2 hq
   | exact (F.lh k hq).2 hp
   | (have:=F.l0 k hp;have:=(F.lh k hq).1;omega)
   | (have:=F.l1 k hp;have:=(F.lh k hq).1;omega)
   | (have:=F.l0 k hq;have:=(F.lh k hp).1;omega)
   | (have:=F.l1 k hq;have:=(F.lh k hp).1;omega)
   | (have:=F.l0 k hp;have:=F.ld k hq;omega)
   | (have:=F.l1 k hp;have:=F.ld k hq;omega)
   | (have:=F.l0 k hq;have:=F.ld k hp;omega)
   | (have:=F.l1 k hq;have:=F.ld k hp;omega)
theorem wh (P Q:Pm) (hP:Pok P) (hQ:Pok Q) (q0 q1 mx:Nat) (hmx:mx<4294967296) (h0:mx≠0) (w:World) (k0:w.heap[q0]?=some (.cells #[.int .u32 (P.c:Nat),.int .i64 (P.o:Nat),.int .i64 (P.i:Nat),.int .i64 (P.t:Nat),.int .u32 (P.n:Nat)] 42 (0,0))) (k1:w.heap[q1]?=some (.cells #[.int .u32 (Q.c:Nat),.int .i64 (Q.o:Nat),.int .i64 (Q.i:Nat),.int .i64 (Q.t:Nat),.int .u32 (Q.n:Nat)] 42 (0,0))):Calls prog 11 #[.agg #[.slice (af q0 0) 1 1,.slice (af q1 0) 1 1,.int .u32 (mx:Nat)]] w fun r w'=>∃ L:Pw,r=.returned (.tuple #[ac L.x 0,.int .i64 0])∧Hid (PW ev w w' (oc L) L∧L.S=s0 P Q mx):=by
 refine (yc P Q hP hQ q0 q1 mx hmx h0 w k0 k1).mono ?_
 rintro r w' ⟨X,b,m,a0,c0,a1,c1,h,d,dm,g,av,cv,hU,dU,rfl,H⟩
 exact⟨uc P Q mx X b m a0 c0 a1 c1 h d dm g av cv hU dU,rfl,H.out.pw,rfl⟩
theorem wJ (w:World):Calls prog 28 #[] w fun r w'=>r=.returned (.agg bV)∧Below w.heap.size w w':=by
 go_enter func28,ntmps28
 go_wp2_with fail
 refine bodyPost_ret (v:=.agg bV) (by simp[results,results28,go_sem]) rfl ⟨rfl,?_⟩
 exact aJ (Below.refl _ _) _
theorem yn (w:World):Calls prog 12 #[] w fun r w'=>∃ q0 q1,r=.returned (.agg #[.slice (af q0 0) 1 1,.slice (af q1 0) 1 1,.int .u32 50])∧Hid (w'.heap[q0]?=some (.cells bV 42 (0,0))∧w'.heap[q1]?=some (.cells bV 42 (0,0))∧Below w.heap.size w w'):=by
 have hS:=fun wx=>wJ wx
 have b1:Below w.heap.size w (w.alloc (.cells #[.slice none 0 0,.slice none 0 0,.int .u32 0] 37)):=aJ (Below.refl _ _) _
 have hk:=aC w (.cells #[.slice none 0 0,.slice none 0 0,.int .u32 0] 37)
 have z1:=gU w (.cells #[.slice none 0 0,.slice none 0 0,.int .u32 0] 37)
 go_enter func12,ntmps12
 go_wp2_with fail
 refine (hS _).mono ?_
 rintro r w3 ⟨rfl,b3⟩
 have k3:=(b3.block w.heap.size (by rw[z1];omega)).trans hk
 have b5:Below w3.heap.size w3 (((w3.alloc (.cells bV 42)).alloc (.cells bV 42)).alloc (.cells bV 42)):=aJ (aJ (aJ (Below.refl _ _) _) _) _
 have l3:w.heap.size<w3.heap.size:=by have:=b3.size;rw[z1]at this;omega
 have k5:=(b5.block w.heap.size l3).trans k3
 have y0:=ae (((w3.alloc (.cells bV 42)).alloc (.cells bV 42)).alloc (.cells bV 42)) _ 0 _ _ _ k5
 have y1:=ae (((w3.alloc (.cells bV 42)).alloc (.cells bV 42)).alloc (.cells bV 42)) _ 1 _ _ _ k5
 have y2:=ae (((w3.alloc (.cells bV 42)).alloc (.cells bV 42)).alloc (.cells bV 42)) _ 2 _ _ _ k5
 have yz:=fun k=>frozen_of_row (((w3.alloc (.cells bV 42)).alloc (.cells bV 42)).alloc (.cells bV 42)) _ k _ _ k5
 have u1:=gU w3 (.cells bV 42)
 have u2:=xX w3 (.cells bV 42) (.cells bV 42)
 have n1:(((w3.alloc (.cells bV 42)).alloc (.cells bV 42)).alloc (.cells bV 42)).heap[w3.heap.size+1]?=some (.cells bV 42 (0,0)):=(Below.heap_alloc _ _ _ (by rw[u2];omega)).trans (by rw[← u1];exact aC _ _)
 have n2:(((w3.alloc (.cells bV 42)).alloc (.cells bV 42)).alloc (.cells bV 42)).heap[w3.heap.size+1+1]?=some (.cells bV 42 (0,0)):=by rw[show w3.heap.size+1+1=w3.heap.size+2 by omega,← u2];exact aC _ _
 have HN:Hid (_):=And.intro n1 (And.intro n2 (And.intro b3 (And.intro b5 l3)))
 have HB1:Hid (_):=b1
 have HZ1:Hid (_):=z1
 clear n1 n2 b3 b5 k3 k5 hk b1 z1 u1 u2
 go_wp2_with fail
 refine bodyPost_ret (v:=.agg #[.slice (af (w3.heap.size+1) 0) 1 1,.slice (af (w3.heap.size+1+1) 0) 1 1,.int .u32 50]) (by simp[results,results12,go_sem,y0,y1,y2]) rfl ?_
 obtain⟨n1,n2,b3,b5,l3⟩:=HN.out
 have o:Off [w.heap.size] (((w3.alloc (.cells bV 42)).alloc (.cells bV 42)).alloc (.cells bV 42)) ((((((w3.alloc (.cells bV 42)).alloc (.cells bV 42)).alloc (.cells bV 42)).setCell ⟨w.heap.size,0,none⟩ (.slice (af (w3.heap.size+1) 0) 1 1)).setCell ⟨w.heap.size,1,none⟩ (.slice (af (w3.heap.size+1+1) 0) 1 1)).setCell ⟨w.heap.size,2,none⟩ (.int .u32 50)):=((Off.setCell _ 0 _ _).trans (Off.setCell _ 1 _ _)).trans (Off.setCell _ 2 _ _)
 have s5:=zW w3 (.cells bV 42) (.cells bV 42) (.cells bV 42)
 have m1:=(o.block (w3.heap.size+1) (by omega) (by simp;omega)).trans n1
 have m2:=(o.block (w3.heap.size+1+1) (by omega) (by simp;omega)).trans n2
 have bw:Below w.heap.size w (((w3.alloc (.cells bV 42)).alloc (.cells bV 42)).alloc (.cells bV 42)):=(HB1.out.trans (b3.mono (by rw[HZ1.out];omega))).trans (b5.mono (by omega))
 exact⟨_,_,rfl,m1,m2,o.below bw (fun k hk=>by simp at hk;omega) bw.size⟩
open Go.RowKit
end Go.Proofs.YtfgnmadnmjdbiaaGreat
