/- Part 23: contracts that the proof rests on. -/
import Derived.Test.YtenilkloffnjlaaGreatPkO21
set_option maxHeartbeats 64000000
set_option maxRecDepth 100000
namespace Go.Proofs.YtenilkloffnjlaaGreat
open Tryz
open Go.RowKit Go.Maps
set_option linter.unusedVariables false
theorem ib {w:World} {B e size g n c:Nat} {xs:List Value} (h:w.ownsRow B e size (.slice (af g 0) n c) n xs):∀ j u,xs[j]?=some u→w.cell? ⟨g,j,none⟩=some u:=fun j u hu=>by
 rcases h.2 with ⟨e1,_⟩ | ⟨g',cap,cur,e1,_,hg,_,_,_,hx⟩
 ·cases e1
 ·injection e1 with e2 _ _
  injection e2 with e3
  injection e3 with e4
  subst e4
  rw[ae w g j _ _ _ hg,← hu,← hx]
  have:j<n*size:=by
   have h1:=(List.getElem?_eq_some_iff.1 hu).1
   rw[h.1]at h1
   exact h1
  rw[List.getElem?_take_of_lt this]
  simp
theorem ic {w:World} {B e size n c:Nat} {a:Option Addr} {xs:List Value} (h:w.ownsRow B e size (.slice a n c) n xs) (hn:n≠0):∃ g,a=af g 0∧B≤g:=by
 rcases h.2 with ⟨_,e1⟩ | ⟨g',cap,cur,e1,hb,_⟩
 ·exact absurd e1 hn
 ·injection e1 with e2 _ _
  exact⟨g',e2,hb⟩
theorem cR {w:World} {B B' e size n:Nat} {v:Value} {xs:List Value} (h:w.ownsRow B e size v n xs) (hB:B'≤B):w.ownsRow B' e size v n xs:=by
 refine⟨h.1,?_⟩
 rcases h.2 with h1 | ⟨g,cap,cur,e1,hb,r⟩
 ·exact .inl h1
 ·exact .inr ⟨g,cap,cur,e1,Nat.le_trans hB hb,r⟩
theorem xc (P Q:Pm) (hP:Pok P) (hQ:Pok Q) (q0 q1 mx:Nat) (h0:mx≠0) (w:World) (k0:w.heap[q0]?=some (.cells #[.int .u32 (P.c:Nat),.int .i64 (P.o:Nat),.int .i64 (P.i:Nat),.int .i64 (P.t:Nat),.int .u32 (P.n:Nat)] 83 (0,0))) (k1:w.heap[q1]?=some (.cells #[.int .u32 (Q.c:Nat),.int .i64 (Q.o:Nat),.int .i64 (Q.i:Nat),.int .i64 (Q.t:Nat),.int .u32 (Q.n:Nat)] 83 (0,0))):Calls prog 18 #[.agg #[.slice (af q0 0) 1 1,.slice (af q1 0) 1 1,.int .u32 (mx:Nat)]] w fun r w'=>r=.returned (.int .i64 0)∧Hid (Below w.heap.size w w'):=by
 have kA:=aA w (.cells #[.slice (af q0 0) 1 1,.slice (af q1 0) 1 1,.int .u32 (mx:Nat)] 30)
 have bA:=aC (Below.refl _ w) (.cells #[.slice (af q0 0) 1 1,.slice (af q1 0) 1 1,.int .u32 (mx:Nat)] 30)
 obtain⟨wa,hwa⟩:∃ y,w.alloc (.cells #[.slice (af q0 0) 1 1,.slice (af q1 0) 1 1,.int .u32 (mx:Nat)] 30)=y:=⟨_,rfl⟩
 rw[hwa]at kA bA
 have l0:=(Array.getElem?_eq_some_iff.1 k0).1
 have l1:=(Array.getElem?_eq_some_iff.1 k1).1
 obtain⟨x,hx⟩:∃ y,w.heap.size=y:=⟨_,rfl⟩
 rw[hx]at kA
 have n0:wa.cell? ⟨x,0,none⟩=some (.slice (af q0 0) 1 1):=ae wa x 0 _ _ _ kA
 have n1:wa.cell? ⟨x,1,none⟩=some (.slice (af q1 0) 1 1):=ae wa x 1 _ _ _ kA
 have n2:wa.cell? ⟨x,2,none⟩=some (.int .u32 (mx:Nat)):=ae wa x 2 _ _ _ kA
 have bB:=aC (Below.refl _ wa) (.cells #[.slice (af q0 0) 1 1,.slice (af q1 0) 1 1] 27)
 have kB:=aA wa (.cells #[.slice (af q0 0) 1 1,.slice (af q1 0) 1 1] 27)
 have lxa:=(Array.getElem?_eq_some_iff.1 kA).1
 have lqa0:q0<wa.heap.size:=Nat.lt_of_lt_of_le l0 bA.size
 have lqa1:q1<wa.heap.size:=Nat.lt_of_lt_of_le l1 bA.size
 have hCc:=uH P Q wa.heap.size q0 q1 (wa.alloc (.cells #[.slice (af q0 0) 1 1,.slice (af q1 0) 1 1] 27)) kB ((bB.block q0 lqa0).trans ((bA.block q0 l0).trans k0)) ((bB.block q1 lqa1).trans ((bA.block q1 l1).trans k1))
 have hmx:¬ (((mx:Nat):Int)<1):=by omega
 have HH:Hid (_):=And.intro bA (And.intro bB (And.intro kA (And.intro k0 (And.intro k1 (And.intro l0 (And.intro l1 (And.intro lxa (And.intro lqa0 lqa1))))))))
 have HE:Hid (_=wa):=hwa
 have HS:Hid (w.heap.size=x):=hx
 clear bA bB kA kB k0 k1 l0 l1 lxa lqa0 lqa1 hwa hx h0
 go_enter func18,ntmps18
 go_upto_region 1 with fail
 rw[HE.out,HS.out]
 go_wp2_with fail
 refine hCc.mono ?_
 rintro r w1 ⟨a,c,rfl,H1⟩
 clear hCc n0 n1 n2
 obtain⟨bA,bB,kA,k0,k1,l0,l1,lxa,lqa0,lqa1⟩:=HH.out
 obtain⟨g,rfl,hgB⟩:=ic H1.out.1 (by omega)
 have b1:Below wa.heap.size wa w1:=bB.trans (H1.out.2.mono bB.size)
 have cc:=ib H1.out.1
 have p0:w1.cell? ⟨g,0,none⟩=some (.int .u32 (P.c:Nat)):=cc 0 _ rfl
 have p1:w1.cell? ⟨g,1,none⟩=some (.int .i64 (P.o:Nat)):=cc 1 _ rfl
 have p2:w1.cell? ⟨g,2,none⟩=some (.int .i64 (P.i:Nat)):=cc 2 _ rfl
 have p3:w1.cell? ⟨g,3,none⟩=some (.int .i64 (P.t:Nat)):=cc 3 _ rfl
 have p4:w1.cell? ⟨g,4,none⟩=some (.int .u32 (P.n:Nat)):=cc 4 _ rfl
 have bC:=aC (Below.refl _ w1) (.cells #[.int .u32 (P.c:Nat),.int .i64 (P.o:Nat),.int .i64 (P.i:Nat),.int .i64 (P.t:Nat),.int .u32 (P.n:Nat)] 83)
 have hK1:=dY P.c P.o P.i P.t P.n (w1.alloc (.cells #[.int .u32 (P.c:Nat),.int .i64 (P.o:Nat),.int .i64 (P.i:Nat),.int .i64 (P.t:Nat),.int .u32 (P.n:Nat)] 83)) 0 (if_pos hP.ok)
 have HG:Hid (_):=And.intro b1 (And.intro cc bC)
 clear bA bB kA k0 k1 l0 l1 lxa lqa0 lqa1 b1 cc bC
 go_wp2_with fail
 refine wp_loop_rounds 3 ?_
 rw[rounds_succ]
 go_wp2_with fail
 refine hK1.mono ?_
 rintro r w2 ⟨rfl,b2⟩
 clear hK1 p0 p1 p2 p3 p4
 obtain⟨b1,cc,bC⟩:=HG.out
 have b12:Below w1.heap.size w1 w2:=bC.trans (b2.mono bC.size)
 have p0:w2.cell? ⟨g,5,none⟩=some (.int .u32 (Q.c:Nat)):=ag (cc 5 _ rfl) b12
 have p1:w2.cell? ⟨g,6,none⟩=some (.int .i64 (Q.o:Nat)):=ag (cc 6 _ rfl) b12
 have p2:w2.cell? ⟨g,7,none⟩=some (.int .i64 (Q.i:Nat)):=ag (cc 7 _ rfl) b12
 have p3:w2.cell? ⟨g,8,none⟩=some (.int .i64 (Q.t:Nat)):=ag (cc 8 _ rfl) b12
 have p4:w2.cell? ⟨g,9,none⟩=some (.int .u32 (Q.n:Nat)):=ag (cc 9 _ rfl) b12
 have bD:=aC (Below.refl _ w2) (.cells #[.int .u32 (Q.c:Nat),.int .i64 (Q.o:Nat),.int .i64 (Q.i:Nat),.int .i64 (Q.t:Nat),.int .u32 (Q.n:Nat)] 83)
 have hK2:=dY Q.c Q.o Q.i Q.t Q.n (w2.alloc (.cells #[.int .u32 (Q.c:Nat),.int .i64 (Q.o:Nat),.int .i64 (Q.i:Nat),.int .i64 (Q.t:Nat),.int .u32 (Q.n:Nat)] 83)) 0 (if_pos hQ.ok)
 have HG2:Hid (_):=And.intro b12 bD
 clear b1 cc bC b2 b12 bD
 go_wp2_with fail
 rw[rounds_succ]
 go_wp2_with fail
 refine hK2.mono ?_
 rintro r w3 ⟨rfl,b3⟩
 clear hK2 p0 p1 p2 p3 p4
 obtain⟨b1,cc,bC⟩:=HG.out
 obtain⟨b12,bD⟩:=HG2.out
 obtain⟨bA,bB,kA,k0,k1,l0,l1,lxa,lqa0,lqa1⟩:=HH.out
 have b13:Below wa.heap.size wa w3:=(b1.trans (b12.mono b1.size)).trans ((bD.trans (b3.mono bD.size)).mono (Nat.le_trans b1.size b12.size))
 have kx:=(b13.block x lxa).trans kA
 have n0:w3.cell? ⟨x,0,none⟩=some (.slice (af q0 0) 1 1):=ae w3 x 0 _ _ _ kx
 have n1:w3.cell? ⟨x,1,none⟩=some (.slice (af q1 0) 1 1):=ae w3 x 1 _ _ _ kx
 have n2:w3.cell? ⟨x,2,none⟩=some (.int .u32 (mx:Nat)):=ae w3 x 2 _ _ _ kx
 have hD1:=lV P q0 w3 ((b13.block q0 lqa0).trans ((bA.block q0 l0).trans k0))
 have HG3:Hid (_):=b13
 clear b1 cc bC b12 bD bA bB kA k0 k1 l0 l1 lxa lqa0 lqa1 b3 b13 kx
 go_wp2_with fail
 rw[rounds_succ]
 go_wp2_with fail
 refine hD1.mono ?_
 rintro r w4 ⟨rfl,b4⟩
 clear hD1 n0 n1 n2
 obtain⟨bA,bB,kA,k0,k1,l0,l1,lxa,lqa0,lqa1⟩:=HH.out
 have b14:Below wa.heap.size wa w4:=HG3.out.trans (b4.mono HG3.out.size)
 have kx:=(b14.block x lxa).trans kA
 have n0:w4.cell? ⟨x,0,none⟩=some (.slice (af q0 0) 1 1):=ae w4 x 0 _ _ _ kx
 have n1:w4.cell? ⟨x,1,none⟩=some (.slice (af q1 0) 1 1):=ae w4 x 1 _ _ _ kx
 have n2:w4.cell? ⟨x,2,none⟩=some (.int .u32 (mx:Nat)):=ae w4 x 2 _ _ _ kx
 have hD2:=lV Q q1 w4 ((b14.block q1 lqa1).trans ((bA.block q1 l1).trans k1))
 have HG4:Hid (_):=And.intro b14 bA
 clear bA bB kA k0 k1 l0 l1 lxa lqa0 lqa1 b4 b14 kx
 go_wp2_with fail
 refine hD2.mono ?_
 rintro r w5 ⟨rfl,b5⟩
 clear hD2
 go_wp2_with fail
 go_ret
 exact⟨rfl,HG4.out.2.trans ((HG4.out.1.trans (b5.mono HG4.out.1.size)).mono HG4.out.2.size)⟩
theorem rp (P:Pm) (q:Nat) (w:World) (h:w.heap[q]?=some (.cells #[.int .u32 (P.c:Nat),.int .i64 (P.o:Nat),.int .i64 (P.i:Nat),.int .i64 (P.t:Nat),.int .u32 (P.n:Nat)] 83 (0,0))):Calls prog 41 #[.slice (af q 0) 1 1] w fun r w'=>∃ a' c',r=.returned (.slice a' 1 c')∧Hid (w'.ownsRow w.heap.size 83 5 (.slice a' 1 c') 1 P.cs∧Below w.heap.size w w'):=by
 have hnn:∀ w,(binOp .eql 27 (.slice (af q 0) 1 1) (.slice none 0 0)).run prog w=.ok (.bool false) w:=fun _=>rfl
 obtain⟨i0,hI,hz0,hz1,hz2⟩:=info_parts dH
 have bA:=aC (Below.refl _ w) (.cells #[] 83)
 have oA:(w.alloc (.cells #[] 83)).ownsRow w.heap.size 83 5 (.slice (af w.heap.size 0) 0 0) 0 []:=World.ownsRow_made w #[] 0 (Nat.le_refl _) (Nat.zero_le _) rfl
 have sA:=Pm.cells ((bA.block q (Array.getElem?_eq_some_iff.1 h).1).trans h)
 have HB:Hid (_):=bA
 have zA:w.heap.size ≤ (w.alloc (.cells #[] 83)).heap.size:=bA.size
 clear h bA
 go_enter func41,ntmps41
 go_wp2_with (at_builtin;refine wpList_append_own_at _ rfl _ _ 27 rfl w.heap.size 83 i0 (.agg #[.int .u32 0,.int .i64 0,.int .i64 0,.int .i64 0,.int .u32 0]) 5 40 underlying27 hI hz0 hz1 hz2 rfl (by decide) (.slice (af w.heap.size 0) 0 0) 0 [] rfl oA ⟨q,0,none⟩ 1 1 P.cs rfl rfl sA P.cs_one (by unfold maxLen;omega) (by omega) zA ?_)
 intro v' w' o' g' _ _
 obtain⟨a',c',rfl⟩:=bk o'
 have HF:Hid (_):=And.intro o' (HB.out.grown g' HB.out.size (fun k hk=>(oA.lt k hk).1))
 clear o' g' oA sA zA hnn
 go_wp2_with fail
 go_ret
 exact⟨_,_,rfl,HF.out.1,HF.out.2⟩
theorem uJ (P Q:Pm) (q0 q1 mx:Nat) (w:World) (k0:w.heap[q0]?=some (.cells #[.int .u32 (P.c:Nat),.int .i64 (P.o:Nat),.int .i64 (P.i:Nat),.int .i64 (P.t:Nat),.int .u32 (P.n:Nat)] 83 (0,0))) (k1:w.heap[q1]?=some (.cells #[.int .u32 (Q.c:Nat),.int .i64 (Q.o:Nat),.int .i64 (Q.i:Nat),.int .i64 (Q.t:Nat),.int .u32 (Q.n:Nat)] 83 (0,0))):Calls prog 19 #[.agg #[.slice (af q0 0) 1 1,.slice (af q1 0) 1 1,.int .u32 (mx:Nat)]] w fun r w'=>∃ a0 c0 a1 c1,r=.returned (.agg #[.slice a0 1 c0,.slice a1 1 c1,.int .u32 (mx:Nat)])∧Hid (w'.ownsRow w.heap.size 83 5 (.slice a0 1 c0) 1 P.cs∧w'.ownsRow w.heap.size 83 5 (.slice a1 1 c1) 1 Q.cs∧Below w.heap.size w w'∧∀ k,(Value.slice a0 1 c0).ownBlock=some k→(Value.slice a1 1 c1).ownBlock≠some k):=by
 have kA0:=aA w (.cells #[.slice (af q0 0) 1 1,.slice (af q1 0) 1 1,.int .u32 (mx:Nat)] 30)
 have bA:=aC (aC (Below.refl _ w) (.cells #[.slice (af q0 0) 1 1,.slice (af q1 0) 1 1,.int .u32 (mx:Nat)] 30)) (.cells #[.slice none 0 0,.slice none 0 0,.int .u32 0] 30)
 have s1:(w.alloc (.cells #[.slice (af q0 0) 1 1,.slice (af q1 0) 1 1,.int .u32 (mx:Nat)] 30)).heap.size=w.heap.size+1:=gD _ _
 have kA:((w.alloc (.cells #[.slice (af q0 0) 1 1,.slice (af q1 0) 1 1,.int .u32 (mx:Nat)] 30)).alloc (.cells #[.slice none 0 0,.slice none 0 0,.int .u32 0] 30)).heap[w.heap.size]?=_:=(Below.heap_alloc _ _ _ (by omega)).trans kA0
 have kB:=aA (w.alloc (.cells #[.slice (af q0 0) 1 1,.slice (af q1 0) 1 1,.int .u32 (mx:Nat)] 30)) (.cells #[.slice none 0 0,.slice none 0 0,.int .u32 0] 30)
 rw[s1]at kB
 have s2:((w.alloc (.cells #[.slice (af q0 0) 1 1,.slice (af q1 0) 1 1,.int .u32 (mx:Nat)] 30)).alloc (.cells #[.slice none 0 0,.slice none 0 0,.int .u32 0] 30)).heap.size=w.heap.size+2:=zC _ _ _
 obtain⟨wa,hwa⟩:∃ y,(w.alloc (.cells #[.slice (af q0 0) 1 1,.slice (af q1 0) 1 1,.int .u32 (mx:Nat)] 30)).alloc (.cells #[.slice none 0 0,.slice none 0 0,.int .u32 0] 30)=y:=⟨_,rfl⟩
 rw[hwa]at kA bA kB s2
 have l0:=(Array.getElem?_eq_some_iff.1 k0).1
 have l1:=(Array.getElem?_eq_some_iff.1 k1).1
 have j0:=(bA.block q0 l0).trans k0
 have j1:=(bA.block q1 l1).trans k1
 obtain⟨x,hx⟩:∃ y,w.heap.size=y:=⟨_,rfl⟩
 have HBa:Hid (Below w.heap.size w wa):=bA
 rw[hx]at kA kB s2
 have hS:∀ w',Below wa.heap.size wa w'→w'.cell? ⟨x,0,none⟩=some (Value.slice (af q0 0) 1 1)∧w'.cell? ⟨x,1,none⟩=some (Value.slice (af q1 0) 1 1)∧w'.cell? ⟨x,2,none⟩=some (Value.int .u32 (mx:Nat)):=fun w' b=>⟨ag (ae wa x 0 _ _ _ kA) b,ag (ae wa x 1 _ _ _ kA) b,ag (ae wa x 2 _ _ _ kA) b⟩
 have HS0:=hS wa.drew (Below.drew (Below.refl _ _))
 have HSS:Hid (_):=hS
 have HJ:Hid (_):=And.intro j0 (And.intro j1 (And.intro kB s2))
 have HE:Hid (_=wa):=hwa
 have HS:Hid (w.heap.size=x):=hx
 clear kA0 kA kB bA s1 s2 hwa hx l0 l1 j0 j1 k0 k1 hS
 go_enter func19,ntmps19
 go_upto_region 1 with fail
 rw[HE.out,HS.out]
 refine wp_region_held_drew (S:=fun w'=>w'.cell? ⟨x,0,none⟩=some (Value.slice (af q0 0) 1 1)∧w'.cell? ⟨x,1,none⟩=some (Value.slice (af q1 0) 1 1)∧w'.cell? ⟨x,2,none⟩=some (Value.int .u32 (mx:Nat))) (by kernel_rfl) HS0 (fun _=>?_)
 refine an (i:=0) (v:=ac x 0) ?_
 refine an (i:=1) (v:=Value.slice (af q0 0) 1 1) ?_
 refine an (i:=3) (v:=ac x 1) ?_
 refine an (i:=4) (v:=Value.slice (af q1 0) 1 1) ?_
 refine an (i:=6) (v:=ac x 2) ?_
 refine an (i:=7) (v:=Value.int .u32 (mx:Nat)) ?_
 have bd:Below wa.heap.size wa wa.drew:=Below.drew (Below.refl _ _)
 refine aE (i:=2) 41 #[Value.slice (af q0 0) 1 1] (by kernel_rfl) rfl (by kernel_rfl) (by go_simp) ?_
 refine (rp P q0 wa.drew HJ.out.1).mono ?_
 rintro r w1 ⟨a0,c0,rfl,H1⟩
 have b1:Below wa.heap.size wa w1:=bd.trans H1.out.2
 refine⟨_,rfl,HSS.out w1 b1,?_⟩
 have HSa:=HSS.out w1 b1
 refine aE (i:=5) 41 #[Value.slice (af q1 0) 1 1] (by kernel_rfl) rfl (by kernel_rfl) (by go_simp) ?_
 refine (rp Q q1 w1 ((b1.block q1 (Array.getElem?_eq_some_iff.1 HJ.out.2.1).1).trans HJ.out.2.1)).mono ?_
 rintro r w2 ⟨a1,c1,rfl,H2⟩
 have b2:Below wa.heap.size wa w2:=b1.trans (H2.out.2.mono b1.size)
 have HSb:=HSS.out w2 b2
 refine⟨_,rfl,HSb,?_⟩
 refine an (i:=8) (v:=Value.agg #[Value.slice a0 1 c0,Value.slice a1 1 c1,Value.int .u32 (mx:Nat)]) ?_
 obtain⟨_,_,kB,s2⟩:=HJ.out
 have kB2:=(b2.block (x+1) (by omega)).trans kB
 have y0:=ae w2 (x+1) 0 _ _ _ kB2
 have y1:=ae w2 (x+1) 1 _ _ _ kB2
 have y2:=ae w2 (x+1) 2 _ _ _ kB2
 have yz:=fun k=>frozen_of_row w2 (x+1) k _ _ kB2
 have kB3:(((w2.setCell ⟨x+1,0,none⟩ (Value.slice a0 1 c0)).setCell ⟨x+1,1,none⟩ (Value.slice a1 1 c1)).setCell ⟨x+1,2,none⟩ (Value.int .u32 (mx:Nat))).heap[x+1]?=some (.cells #[Value.slice a0 1 c0,Value.slice a1 1 c1,Value.int .u32 (mx:Nat)] 30 (0,0)):=Joins.block_setCell (Joins.block_setCell (Joins.block_setCell kB2 _) _) _
 have o3:Off [x+1] w2 (((w2.setCell ⟨x+1,0,none⟩ (Value.slice a0 1 c0)).setCell ⟨x+1,1,none⟩ (Value.slice a1 1 c1)).setCell ⟨x+1,2,none⟩ (Value.int .u32 (mx:Nat))):=((Off.setCell (x+1) 0 w2 _).trans (Off.setCell (x+1) 1 _ _)).trans (Off.setCell (x+1) 2 _ _)
 have hS3:(((w2.setCell ⟨x+1,0,none⟩ (Value.slice a0 1 c0)).setCell ⟨x+1,1,none⟩ (Value.slice a1 1 c1)).setCell ⟨x+1,2,none⟩ (Value.int .u32 (mx:Nat))).cell? ⟨x,0,none⟩=some (Value.slice (af q0 0) 1 1)∧(((w2.setCell ⟨x+1,0,none⟩ (Value.slice a0 1 c0)).setCell ⟨x+1,1,none⟩ (Value.slice a1 1 c1)).setCell ⟨x+1,2,none⟩ (Value.int .u32 (mx:Nat))).cell? ⟨x,1,none⟩=some (Value.slice (af q1 0) 1 1)∧(((w2.setCell ⟨x+1,0,none⟩ (Value.slice a0 1 c0)).setCell ⟨x+1,1,none⟩ (Value.slice a1 1 c1)).setCell ⟨x+1,2,none⟩ (Value.int .u32 (mx:Nat))).cell? ⟨x,2,none⟩=some (Value.int .u32 (mx:Nat)):=by
  obtain⟨u0,u1,u2⟩:=HSb
  refine⟨?_,?_,?_⟩
  ·rw[World.cell?_of_block (w:=w2) (o3.block x (by have:=b2.size;omega) (by simp))];exact u0
  ·rw[World.cell?_of_block (w:=w2) (o3.block x (by have:=b2.size;omega) (by simp))];exact u1
  ·rw[World.cell?_of_block (w:=w2) (o3.block x (by have:=b2.size;omega) (by simp))];exact u2
 obtain⟨w3,hw3⟩:∃ z,(((w2.setCell ⟨x+1,0,none⟩ (Value.slice a0 1 c0)).setCell ⟨x+1,1,none⟩ (Value.slice a1 1 c1)).setCell ⟨x+1,2,none⟩ (Value.int .u32 (mx:Nat)))=z:=⟨_,rfl⟩
 rw[hw3]at kB3 o3 hS3
 refine bV (i:=9) w3 (by kernel_rfl) rfl (by kernel_rfl) (by rw[← hw3];go_simp) hS3 ?_
 refine wpAnyH_done (by kernel_rfl) ?_ _
 have z0:=ae w3 (x+1) 0 _ _ _ kB3
 have z1:=ae w3 (x+1) 1 _ _ _ kB3
 have z2:=ae w3 (x+1) 2 _ _ _ kB3
 have HO:Hid (_):=And.intro o3 (And.intro b1 (And.intro b2 s2))
 clear o3 b1 b2 s2 kB kB2 kB3 hS3 HSb HSa hw3 HS0 bd y0 y1 y2 yz
 go_wp2_with fail
 refine bodyPost_ret (v:=.agg #[.slice a0 1 c0,.slice a1 1 c1,.int .u32 (mx:Nat)]) (by simp[results,results19,go_sem,z0,z1,z2]) rfl ?_
 obtain⟨o3,b1,b2,s2⟩:=HO.out
 have hb:=HBa.out
 have hsx:=HS.out
 have hdz:wa.drew.heap.size=wa.heap.size:=rfl
 have lt1:=H1.out.1.lt
 have lt2:=H2.out.1.lt
 have l1:=b1.size
 have u0:w2.ownsRow wa.heap.size 83 5 (.slice a0 1 c0) 1 P.cs:=aN (l:=[]) H1.out.1 (Off.of_below H2.out.2) (by simp)
 have v0:=aN u0 o3 (fun k hk hm=>by have:=(lt1 k hk).1;simp at hm;omega)
 have v1:=aN H2.out.1 o3 (fun k hk hm=>by have:=(lt2 k hk).1;simp at hm;omega)
 refine⟨a0,c0,a1,c1,rfl,cR v0 (by omega),cR v1 (by omega),o3.below (hb.trans (b2.mono hb.size)) (by simp;omega) (Nat.le_trans hb.size b2.size),fun k hk hm=>?_⟩
 have:=(lt1 k hk).2
 have:=(lt2 k hm).1
 omega
theorem eU:(prog.info? 80).map (fun i=>(i.zero,i.size,i.bytes))=some (some (.agg aM),3,24):=by kernel_rfl
theorem iN {P:Program} {md:Region.Mode} {ops:Array Oper} {Q:Exit→Act→World→Prop} {S:World→Prop} {fuel:Nat} {l:Array Bool} {a:Act} {w:World} {i j:Nat} (hr:Region.ready md ops l=[i,j])
  (h1:wpOp P ops Q i (fun a' w'=>S w'∧wpAnyH P md ops Q S fuel (l.setIfInBounds i true) a' w') a w) (h2:wpOp P ops Q j (fun a' w'=>S w'∧wpAnyH P md ops Q S fuel (l.setIfInBounds j true) a' w') a w):wpAnyH P md ops Q S (fuel+1) l a w:=
 wpAnyH_all hr (by simp) (fun k hk=>by
  rcases List.mem_cons.1 hk with rfl | hk
  ·exact h1
  ·obtain rfl:=List.mem_singleton.1 hk
   exact h2)
theorem fO {o:Oper} {a:Act} {w w':World} {v v' u:Value} {s x:Operand} (hop:o.op=Op.call { callee:=Callee.builtin Builtin.append,args:=#[s,x],argTypes:=#[72,72] }) (hty:o.type=72) (hs:a.eval s=v) (hx:a.eval x=u) (hr:(Builtin.append_ #[72,72] 72 #[v,u]).run prog w=.ok v' w'):(execOp a.eval o).run prog w=.ok (.value v') w':=by
 unfold execOp
 simp only[hop,hty,resolve,invoke,builtin,Sem.run_bind,Sem.run_pure,Result.andThen_ok,List.map_toArray,List.map_cons,List.map_nil,hs,hx,hr]
structure NwF (P Q:Pm) (mx:Nat) (w w':World) (X b m:Nat) (a0:Option Addr) (c0:Nat) (a1:Option Addr) (c1:Nat) (h d dm g:Nat) (av:Option Addr) (cv:Nat) (hU dU:List Nat):Prop where
 bel:Below w.heap.size w w'
 blk:w'.heap[X]?=some (.cells #[.slice a0 1 c0,.slice a1 1 c1,.int .u32 (mx:Nat),.slice av 1 cv,ac b 0,.int .i64 0,.slice none 0 0] 75 (0,0))
 r0:w'.ownsRow w.heap.size 83 5 (.slice a0 1 c0) 1 P.cs
 r1:w'.ownsRow w.heap.size 83 5 (.slice a1 1 c1) 1 Q.cs
 rc:w'.ownsRow w.heap.size 80 3 (.slice av 1 cv) 1 [ac h 0,ac d 0,ac dm 0]
 bg:Bg 0 w' b m (.slice none 0 0) [] none []
 hv:HV w' h P hU bN
 dv:DV w' d dm g 16 mx Q dU (cW M0)
 lm:w.heap.size≤m
 mb:b=m+1
 bX:X=m+2
 l0:∀ k,(Value.slice a0 1 c0).ownBlock=some k→k<m
 l1:∀ k,(Value.slice a1 1 c1).ownBlock=some k→k<m
 l01:∀ k,(Value.slice a0 1 c0).ownBlock=some k→(Value.slice a1 1 c1).ownBlock≠some k
 lc:∀ k,(Value.slice av 1 cv).ownBlock=some k→X<k∧k ∉ hU∧k ∉ dU
 lh:∀ k,k ∈ hU→X<k∧k ∉ dU
 ld:∀ k,k ∈ dU→X<k
theorem nwf (P Q:Pm) (mx:Nat) (w w1 w2 w3 wx w5 w7 w8:World) (X b:Nat) (a0:Option Addr) (c0:Nat) (a1:Option Addr) (c1:Nat) (h d dm g:Nat) (av:Option Addr) (cv:Nat) {wa:World} (bA:Below w.heap.size w wa) (b1:Below wa.heap.size wa w1)
  (H2:w2.ownsRow w1.heap.size 83 5 (.slice a0 1 c0) 1 P.cs∧w2.ownsRow w1.heap.size 83 5 (.slice a1 1 c1) 1 Q.cs∧Below w1.heap.size w1 w2∧∀ k,(Value.slice a0 1 c0).ownBlock=some k→(Value.slice a1 1 c1).ownBlock≠some k)
  (H3:Below w2.heap.size w2 w3∧Bg w2.heap.size w3 (w2.heap.size+1) w2.heap.size (.slice none 0 0) [] none []∧w3.heap.size=w2.heap.size+2) (hb:w2.heap.size+1=b) (hX:w3.heap.size=X)
  (kW:wx.heap[X]?=some (.cells #[.slice a0 1 c0,.slice a1 1 c1,.int .u32 (mx:Nat),.slice none 0 0,ac b 0,.int .i64 0,.slice none 0 0] 75 (0,0))) (bW:Below w3.heap.size w3 wx)
  (H5:Below wx.drew.heap.size wx.drew w5∧∃ hU dU,HV w5 h P hU bN∧DV w5 d dm g 16 mx Q dU (cW M0)∧(∀ k,k ∈ hU→wx.drew.heap.size≤k)∧(∀ k,k ∈ dU→wx.drew.heap.size≤k)∧∀ k,k ∈ hU→k ∉ dU) (b5:Below wx.heap.size wx w5)
  (o7:w7.ownsRow wx.heap.size 80 3 (.slice av 1 cv) 1 [ac h 0,ac d 0,ac dm 0]) (g7:(w5.alloc (.cells (au h d dm) 80)).grownBy w7 (Value.slice none 0 0).ownBlock) (p7:(Value.slice av 1 cv).ownBlock=(Value.slice none 0 0).ownBlock∨(Value.slice av 1 cv).ownBlock=some (w5.alloc (.cells (au h d dm) 80)).heap.size) (s6:(w5.alloc (.cells (au h d dm) 80)).heap.size=w5.heap.size+1)
  (o8:Off [X] w7 w8) (k8:w8.heap[X]?=some (.cells #[.slice a0 1 c0,.slice a1 1 c1,.int .u32 (mx:Nat),.slice av 1 cv,ac b 0,.int .i64 0,.slice none 0 0] 75 (0,0))):∃ hU dU,NwF P Q mx w w8 X b w2.heap.size a0 c0 a1 c1 h d dm g av cv hU dU:=by
 obtain⟨r0,r1,b2,d01⟩:=H2
 obtain⟨b3,hg,s3⟩:=H3
 obtain⟨bd5,hU,dU,hv,dv,hUg,dUg,dis⟩:=H5
 have hd:wx.drew.heap.size=wx.heap.size:=rfl
 have lX:=(Array.getElem?_eq_some_iff.1 kW).1
 have b57:Below w5.heap.size w5 w7:=(aC (Below.refl _ w5) (.cells (au h d dm) 80)).grown g7 (by rw[s6];omega) (fun k hk=>by cases hk)
 have b27:Below w2.heap.size w2 w7:=(b3.trans (bW.mono b3.size)).trans ((b5.trans (b57.mono b5.size)).mono (Nat.le_trans b3.size bW.size))
 have b07:Below w.heap.size w w7:=(bA.trans (b1.mono bA.size)).trans ((b2.trans (b27.mono b2.size)).mono (Nat.le_trans bA.size b1.size))
 have s1:=b1.size
 have sA:=bA.size
 have s2:=b2.size
 have s5:=b5.size
 have s35:=bW.size
 have l0:=r0.lt
 have l1:=r1.lt
 have q0:w8.ownsRow w1.heap.size 83 5 (.slice a0 1 c0) 1 P.cs:=aN (aN (l:=[]) r0 (Off.of_below b27) (by simp)) o8 (fun k hk hm=>by have:=(l0 k hk).2;simp at hm;omega)
 have q1:w8.ownsRow w1.heap.size 83 5 (.slice a1 1 c1) 1 Q.cs:=aN (aN (l:=[]) r1 (Off.of_below b27) (by simp)) o8 (fun k hk hm=>by have:=(l1 k hk).2;simp at hm;omega)
 have lc:=o7.lt
 have qc:w8.ownsRow wx.heap.size 80 3 (.slice av 1 cv) 1 [ac h 0,ac d 0,ac dm 0]:=aN o7 o8 (fun k hk hm=>by have:=(lc k hk).1;simp at hm;omega)
 have hw:∀ k,(Value.slice av 1 cv).ownBlock=some k→k=w5.heap.size+1:=fun k hk=>by
  rcases p7 with p | p
  ·rw[hk]at p;cases p
  ·rw[hk,s6]at p;injection p
 have bg8:Bg 0 w8 b w2.heap.size (.slice none 0 0) [] none []:=by
  subst hb
  have hh:Bg 0 w3 (w2.heap.size+1) w2.heap.size (.slice none 0 0) [] none []:=⟨hg.at_,⟨⟨rfl,.inl ⟨rfl,rfl⟩⟩,fun i f hi=>by simp at hi,fun f hf=>by simp at hf,by simp⟩,hg.met,hg.pk,Nat.zero_le _,Nat.zero_le _⟩
  have h4:=hh.below (bW.trans ((b5.trans (b57.mono b5.size)).mono bW.size))
  refine h4.offU o8 (fun k hk hm=>?_)
  simp[jX,Value.ownBlock]at hk hm
  omega
 have hv8:HV w8 h P hU bN:=HV.off (HV.off (l:=[]) hv (Off.of_below b57) (by simp)) o8 (fun k hk hm=>by have:=hUg k hk;simp at hm;omega)
 have dv8:DV w8 d dm g 16 mx Q dU (cW M0):=DV.offY (DV.offY (l:=[]) dv (Off.of_below b57) (by simp)) o8 (fun k hk hm=>by have:=dUg k hk;simp at hm;omega)
 refine⟨hU,dU,o8.below b07 (by simp;omega) b07.size,k8,cR q0 (by omega),cR q1 (by omega),cR qc (by omega),bg8,hv8,dv8,by omega,hb.symm,by omega,fun k hk=>(l0 k hk).2,fun k hk=>(l1 k hk).2,d01,fun k hk=>?_,fun k hk=>⟨by have:=hUg k hk;omega,dis k hk⟩,fun k hk=>by have:=dUg k hk;omega⟩
 have e1:=hw k hk
 refine⟨by omega,fun hm=>?_,fun hm=>?_⟩
 ·have:=HV.ult hv k hm
  omega
 ·have:=DV.ult dv k hm
  omega
theorem aaO (P Q:Pm) (hP:Pok P) (hQ:Pok Q) (q0 q1 mx:Nat) (hmx:mx<4294967296) (h0:mx≠0) (w:World) (k0:w.heap[q0]?=some (.cells #[.int .u32 (P.c:Nat),.int .i64 (P.o:Nat),.int .i64 (P.i:Nat),.int .i64 (P.t:Nat),.int .u32 (P.n:Nat)] 83 (0,0))) (k1:w.heap[q1]?=some (.cells #[.int .u32 (Q.c:Nat),.int .i64 (Q.o:Nat),.int .i64 (Q.i:Nat),.int .i64 (Q.t:Nat),.int .u32 (Q.n:Nat)] 83 (0,0))):Calls prog 7 #[.agg #[.slice (af q0 0) 1 1,.slice (af q1 0) 1 1,.int .u32 (mx:Nat)]] w fun r w'=>∃ X b m a0 c0 a1 c1 h d dm g av cv hU dU,r=.returned (.tuple #[ac X 0,.int .i64 0])∧Hid (NwF P Q mx w w' X b m a0 c0 a1 c1 h d dm g av cv hU dU):=by
 have kA:=aA w (.cells #[.slice (af q0 0) 1 1,.slice (af q1 0) 1 1,.int .u32 (mx:Nat)] 30)
 have bA:=aC (Below.refl _ w) (.cells #[.slice (af q0 0) 1 1,.slice (af q1 0) 1 1,.int .u32 (mx:Nat)] 30)
 obtain⟨wa,hwa⟩:∃ y,w.alloc (.cells #[.slice (af q0 0) 1 1,.slice (af q1 0) 1 1,.int .u32 (mx:Nat)] 30)=y:=⟨_,rfl⟩
 rw[hwa]at kA bA
 have l0:=(Array.getElem?_eq_some_iff.1 k0).1
 have l1:=(Array.getElem?_eq_some_iff.1 k1).1
 obtain⟨x,hx⟩:∃ y,w.heap.size=y:=⟨_,rfl⟩
 rw[hx]at kA
 have n0:wa.cell? ⟨x,0,none⟩=some (.slice (af q0 0) 1 1):=ae wa x 0 _ _ _ kA
 have n1:wa.cell? ⟨x,1,none⟩=some (.slice (af q1 0) 1 1):=ae wa x 1 _ _ _ kA
 have n2:wa.cell? ⟨x,2,none⟩=some (.int .u32 (mx:Nat)):=ae wa x 2 _ _ _ kA
 have lxa:=(Array.getElem?_eq_some_iff.1 kA).1
 have lqa0:q0<wa.heap.size:=Nat.lt_of_lt_of_le l0 bA.size
 have lqa1:q1<wa.heap.size:=Nat.lt_of_lt_of_le l1 bA.size
 have ka0:=(bA.block q0 l0).trans k0
 have ka1:=(bA.block q1 l1).trans k1
 have hCk:=xc P Q hP hQ q0 q1 mx h0 wa ka0 ka1
 have HH:Hid (_):=And.intro bA (And.intro kA (And.intro ka0 (And.intro ka1 (And.intro lxa (And.intro lqa0 lqa1)))))
 have HE:Hid (_=wa):=hwa
 have HS:Hid (w.heap.size=x):=hx
 clear bA kA ka0 ka1 k0 k1 l0 l1 lxa lqa0 lqa1 hwa hx
 go_enter func7,ntmps7
 go_upto_region 1 with fail
 rw[HE.out,HS.out]
 go_wp2_with fail
 refine hCk.mono ?_
 rintro r w1 ⟨rfl,H1⟩
 clear hCk n0 n1 n2
 obtain⟨bA,kA,ka0,ka1,lxa,lqa0,lqa1⟩:=HH.out
 have b1:=H1.out
 have kx:=(b1.block x lxa).trans kA
 have n0:w1.cell? ⟨x,0,none⟩=some (.slice (af q0 0) 1 1):=ae w1 x 0 _ _ _ kx
 have n1:w1.cell? ⟨x,1,none⟩=some (.slice (af q1 0) 1 1):=ae w1 x 1 _ _ _ kx
 have n2:w1.cell? ⟨x,2,none⟩=some (.int .u32 (mx:Nat)):=ae w1 x 2 _ _ _ kx
 have hCo:=uJ P Q q0 q1 mx w1 ((b1.block q0 lqa0).trans ka0) ((b1.block q1 lqa1).trans ka1)
 clear bA kA ka0 ka1 lxa lqa0 lqa1 b1 kx
 go_wp2_with fail
 refine hCo.mono ?_
 rintro r w2 ⟨a0,c0,a1,c1,rfl,H2⟩
 clear hCo n0 n1 n2
 have hBn:=nH w2
 go_wp2_with fail
 refine hBn.mono ?_
 rintro r w3 ⟨rfl,H3⟩
 clear hBn
 obtain⟨b,hb⟩:∃ y,w2.heap.size+1=y:=⟨_,rfl⟩
 rw[hb]
 have kW:=aA w3 (.cells #[.slice a0 1 c0,.slice a1 1 c1,.int .u32 (mx:Nat),.slice none 0 0,ac b 0,.int .i64 0,.slice none 0 0] 75)
 have bW:=aC (Below.refl _ w3) (.cells #[.slice a0 1 c0,.slice a1 1 c1,.int .u32 (mx:Nat),.slice none 0 0,ac b 0,.int .i64 0,.slice none 0 0] 75)
 have sW:=gD w3 (.cells #[.slice a0 1 c0,.slice a1 1 c1,.int .u32 (mx:Nat),.slice none 0 0,ac b 0,.int .i64 0,.slice none 0 0] 75)
 obtain⟨wx,hwx⟩:∃ y,w3.alloc (.cells #[.slice a0 1 c0,.slice a1 1 c1,.int .u32 (mx:Nat),.slice none 0 0,ac b 0,.int .i64 0,.slice none 0 0] 75)=y:=⟨_,rfl⟩
 obtain⟨X,hX⟩:∃ y,w3.heap.size=y:=⟨_,rfl⟩
 rw[hwx]at kW bW sW
 rw[hX]at kW sW
 obtain⟨bA,kA,ka0,ka1,lxa,lqa0,lqa1⟩:=HH.out
 have b1:=H1.out
 have b2:=H2.out.2.2.1
 have b3:=H3.out.1
 have b13:Below wa.heap.size wa wx:=((b1.trans (b2.mono b1.size)).trans (b3.mono (Nat.le_trans b1.size b2.size))).trans (bW.mono (Nat.le_trans (Nat.le_trans b1.size b2.size) b3.size))
 have kx:=(b13.block x lxa).trans kA
 have kq0:=(b13.block q0 lqa0).trans ka0
 have kq1:=(b13.block q1 lqa1).trans ka1
 have n0:wx.cell? ⟨x,0,none⟩=some (.slice (af q0 0) 1 1):=ae wx x 0 _ _ _ kx
 have n1:wx.cell? ⟨x,1,none⟩=some (.slice (af q1 0) 1 1):=ae wx x 1 _ _ _ kx
 have n2:wx.cell? ⟨x,2,none⟩=some (.int .u32 (mx:Nat)):=ae wx x 2 _ _ _ kx
 have hS:∀ w',Below wx.heap.size wx w'→w'.cell? ⟨x,0,none⟩=some (Value.slice (af q0 0) 1 1)∧w'.cell? ⟨x,1,none⟩=some (Value.slice (af q1 0) 1 1)∧w'.cell? ⟨x,2,none⟩=some (Value.int .u32 (mx:Nat))∧w'.cell? ⟨q0,0,none⟩=some (Value.int .u32 (P.c:Nat))∧w'.cell? ⟨q0,1,none⟩=some (Value.int .i64 (P.o:Nat))∧w'.cell? ⟨q0,2,none⟩=some (Value.int .i64 (P.i:Nat))∧w'.cell? ⟨q0,3,none⟩=some (Value.int .i64 (P.t:Nat))∧w'.cell? ⟨q0,4,none⟩=some (Value.int .u32 (P.n:Nat))∧w'.cell? ⟨q1,0,none⟩=some (Value.int .u32 (Q.c:Nat))∧w'.cell? ⟨q1,1,none⟩=some (Value.int .i64 (Q.o:Nat))∧w'.cell? ⟨q1,2,none⟩=some (Value.int .i64 (Q.i:Nat))∧w'.cell? ⟨q1,3,none⟩=some (Value.int .i64 (Q.t:Nat))∧w'.cell? ⟨q1,4,none⟩=some (Value.int .u32 (Q.n:Nat)):=fun w' bb=>⟨ag n0 bb,ag n1 bb,ag n2 bb,ag (ae wx q0 0 _ _ _ kq0) bb,ag (ae wx q0 1 _ _ _ kq0) bb,ag (ae wx q0 2 _ _ _ kq0) bb,ag (ae wx q0 3 _ _ _ kq0) bb,ag (ae wx q0 4 _ _ _ kq0) bb,ag (ae wx q1 0 _ _ _ kq1) bb,ag (ae wx q1 1 _ _ _ kq1) bb,ag (ae wx q1 2 _ _ _ kq1) bb,ag (ae wx q1 3 _ _ _ kq1) bb,ag (ae wx q1 4 _ _ _ kq1) bb⟩
 have HS0:=hS wx.drew (Below.drew (Below.refl _ _))
 have HSS:Hid (_):=hS
 have HX0:Hid (∀ w',Below wx.heap.size wx w'→w'.cell? ⟨X,3,none⟩=some (Value.slice none 0 0)):=fun w' bb=>ag (ae wx X 3 _ _ _ kW) bb
 have HW:Hid (_):=And.intro kW (And.intro bW (And.intro sW (And.intro b13 bA)))
 have HE3:Hid (_=wx):=hwx
 have HXX:Hid (x<X∧q0<X∧q1<X):=by have:=b1.size;have:=b2.size;have:=b3.size;exact⟨by omega,by omega,by omega⟩
 have HX3:Hid (w3.heap.size=X):=hX
 have Hb:Hid (w2.heap.size+1=b):=hb
 clear bA kA ka0 ka1 lxa lqa0 lqa1 b1 b2 b3 b13 kx kq0 kq1 kW bW sW hS hwx hX hb
 go_upto_region 5 with fail
 rw[HE3.out,HX3.out]
 go_wp2_with fail
 refine wp_loop_rounds 2 ?_
 rw[rounds_succ]
 go_wp2_with fail
 refine wp_region_held_drew (S:=fun w'=>w'.cell? ⟨x,0,none⟩=some (Value.slice (af q0 0) 1 1)∧w'.cell? ⟨x,1,none⟩=some (Value.slice (af q1 0) 1 1)∧w'.cell? ⟨x,2,none⟩=some (Value.int .u32 (mx:Nat))∧w'.cell? ⟨q0,0,none⟩=some (Value.int .u32 (P.c:Nat))∧w'.cell? ⟨q0,1,none⟩=some (Value.int .i64 (P.o:Nat))∧w'.cell? ⟨q0,2,none⟩=some (Value.int .i64 (P.i:Nat))∧w'.cell? ⟨q0,3,none⟩=some (Value.int .i64 (P.t:Nat))∧w'.cell? ⟨q0,4,none⟩=some (Value.int .u32 (P.n:Nat))∧w'.cell? ⟨q1,0,none⟩=some (Value.int .u32 (Q.c:Nat))∧w'.cell? ⟨q1,1,none⟩=some (Value.int .i64 (Q.o:Nat))∧w'.cell? ⟨q1,2,none⟩=some (Value.int .i64 (Q.i:Nat))∧w'.cell? ⟨q1,3,none⟩=some (Value.int .i64 (Q.t:Nat))∧w'.cell? ⟨q1,4,none⟩=some (Value.int .u32 (Q.n:Nat))) (by kernel_rfl) HS0 (fun _=>?_)
 refine an (i:=0) (v:=ac X 0) ?_
 refine an (i:=1) (v:=ac X 0) ?_
 refine an (i:=2) (v:=ac X 0) ?_
 refine an (i:=3) (v:=ac X 3) ?_
 refine an (i:=5) (v:=ac x 0) ?_
 refine an (i:=6) (v:=Value.slice (af q0 0) 1 1) ?_
 refine an (i:=7) (v:=Value.int .i64 0) ?_
 refine an (i:=8) (v:=ac q0 0) ?_
 refine an (i:=9) (v:=Value.agg #[Value.int .u32 (P.c:Nat),Value.int .i64 (P.o:Nat),Value.int .i64 (P.i:Nat),Value.int .i64 (P.t:Nat),Value.int .u32 (P.n:Nat)]) ?_
 refine an (i:=10) (v:=ac x 1) ?_
 refine an (i:=11) (v:=Value.slice (af q1 0) 1 1) ?_
 refine an (i:=12) (v:=Value.int .i64 0) ?_
 refine an (i:=13) (v:=ac q1 0) ?_
 refine an (i:=14) (v:=Value.agg #[Value.int .u32 (Q.c:Nat),Value.int .i64 (Q.o:Nat),Value.int .i64 (Q.i:Nat),Value.int .i64 (Q.t:Nat),Value.int .u32 (Q.n:Nat)]) ?_
 refine an (i:=15) (v:=ac x 2) ?_
 refine an (i:=16) (v:=Value.int .u32 (mx:Nat)) ?_
 refine iN (i:=4) (j:=17) (by kernel_rfl) ?_ ?_
 ·have x3:(wx.drew).cell? ⟨X,3,none⟩=some (Value.slice none 0 0):=HX0.out _ (Below.drew (Below.refl wx.heap.size wx))
  refine fw (Value.slice none 0 0) (wx.drew) rfl (by kernel_rfl) (by go_simp) ⟨HSS.out _ (Below.drew (Below.refl wx.heap.size wx)),?_⟩
  have HS0':=HSS.out _ (Below.drew (Below.refl wx.heap.size wx))
  refine aE (i:=17) 21 #[Value.agg #[Value.int .u32 (P.c:Nat),Value.int .i64 (P.o:Nat),Value.int .i64 (P.i:Nat),Value.int .i64 (P.t:Nat),Value.int .u32 (P.n:Nat)],Value.agg #[Value.int .u32 (Q.c:Nat),Value.int .i64 (Q.o:Nat),Value.int .i64 (Q.i:Nat),Value.int .i64 (Q.t:Nat),Value.int .u32 (Q.n:Nat)],Value.int .u32 (mx:Nat)] (by kernel_rfl) rfl (by kernel_rfl) (by go_simp) ?_
  refine (iU P Q hP hQ mx hmx h0 wx.drew).mono ?_
  rintro r w5 ⟨h,d,dm,g,rfl,H5⟩
  have b5:Below wx.heap.size wx w5:=(Below.drew (Below.refl wx.heap.size wx)).trans H5.out.1
  refine⟨_,rfl,HSS.out w5 b5,?_⟩
  have HS5:=HSS.out w5 b5
  have b6:=aC b5 (.cells (au h d dm) 80)
  have k6:=aA w5 (.cells (au h d dm) 80)
  have s6:=gD w5 (.cells (au h d dm) 80)
  refine bu (i:=18) (Value.slice (af w5.heap.size 0) 1 1) (w5.alloc (.cells (au h d dm) 80)) (by kernel_rfl) rfl (by kernel_rfl) (by go_simp) (HSS.out _ b6) ?_
  have HS6:=HSS.out _ b6
  obtain⟨i0,hI,hz0,hz1,hz2⟩:=info_parts eU
  have hcs:∀ j u,([ac h 0,ac d 0,ac dm 0]:List Value)[j]?=some u→(w5.alloc (.cells (au h d dm) 80)).cell? ((⟨w5.heap.size,0,none⟩:Addr).add j)=some u:=fun j u hu=>by
   have e:(Addr.add ⟨w5.heap.size,0,none⟩ j)=⟨w5.heap.size,j,none⟩:=by unfold Addr.add;simp;omega
   rw[e,ae _ _ j _ _ _ k6]
   simpa using hu
  obtain⟨v7,w7,hr7,o7,g7,_,p7⟩:=run_append_own_at (P:=prog) (w5.alloc (.cells (au h d dm) 80)) wx.heap.size 72 72 80 i0 (.agg aM) 3 24 underlying72 hI hz0 hz1 hz2 rfl (by decide) (.slice none 0 0) 0 [] (World.ownsRow_nil _ _ _ _) ⟨w5.heap.size,0,none⟩ 1 1 [ac h 0,ac d 0,ac dm 0] rfl hcs (by intro u hu;simp at hu;rcases hu with rfl | rfl | rfl <;> rfl) (by unfold maxLen;omega) (by omega) (Nat.le_trans b5.size (by rw[s6];omega))
  obtain⟨av,cv,rfl⟩:=bk o7
  have b7:Below wx.heap.size wx w7:=b6.grown g7 b6.size (fun k hk=>by cases hk)
  refine bu (i:=19) (Value.slice av 1 cv) w7 (by kernel_rfl) rfl (by kernel_rfl) (fO (s:=.tmp 27) (x:=.tmp 41) rfl rfl (by kernel_rfl) (by kernel_rfl) hr7) (HSS.out w7 b7) ?_
  have HS7:=HSS.out w7 b7
  refine an (i:=20) (v:=ac X 0) ?_
  refine an (i:=21) (v:=ac X 3) ?_
  obtain⟨kW,bW,sW,b13,bA⟩:=HW.out
  have lX:X<wx.heap.size:=by omega
  have kX7:=(b7.block X lX).trans kW
  have y3:=ae w7 X 3 _ _ _ kX7
  have yz:=frozen_of_row w7 X 3 _ _ kX7
  have o8:Off [X] w7 (w7.setCell ⟨X,3,none⟩ (.slice av 1 cv)):=Off.setCell X 3 w7 _
  have k8:(w7.setCell ⟨X,3,none⟩ (.slice av 1 cv)).heap[X]?=some (.cells #[.slice a0 1 c0,.slice a1 1 c1,.int .u32 (mx:Nat),.slice av 1 cv,ac b 0,.int .i64 0,.slice none 0 0] 75 (0,0)):=Joins.block_setCell kX7 _
  obtain⟨w8,hw8⟩:∃ z,w7.setCell ⟨X,3,none⟩ (.slice av 1 cv)=z:=⟨_,rfl⟩
  rw[hw8]at o8 k8
  have hS8:w8.cell? ⟨x,0,none⟩=some (Value.slice (af q0 0) 1 1)∧w8.cell? ⟨x,1,none⟩=some (Value.slice (af q1 0) 1 1)∧w8.cell? ⟨x,2,none⟩=some (Value.int .u32 (mx:Nat))∧w8.cell? ⟨q0,0,none⟩=some (Value.int .u32 (P.c:Nat))∧w8.cell? ⟨q0,1,none⟩=some (Value.int .i64 (P.o:Nat))∧w8.cell? ⟨q0,2,none⟩=some (Value.int .i64 (P.i:Nat))∧w8.cell? ⟨q0,3,none⟩=some (Value.int .i64 (P.t:Nat))∧w8.cell? ⟨q0,4,none⟩=some (Value.int .u32 (P.n:Nat))∧w8.cell? ⟨q1,0,none⟩=some (Value.int .u32 (Q.c:Nat))∧w8.cell? ⟨q1,1,none⟩=some (Value.int .i64 (Q.o:Nat))∧w8.cell? ⟨q1,2,none⟩=some (Value.int .i64 (Q.i:Nat))∧w8.cell? ⟨q1,3,none⟩=some (Value.int .i64 (Q.t:Nat))∧w8.cell? ⟨q1,4,none⟩=some (Value.int .u32 (Q.n:Nat)):=by
   obtain⟨u0,u1,u2,u3,u4,u5,u6,u7,u8,u9,u10,u11,u12⟩:=HS7
   have nx:x ∉ [X]:=by have:=HXX.out;simp;omega
   have n0':q0 ∉ [X]:=by have:=HXX.out;simp;omega
   have n1':q1 ∉ [X]:=by have:=HXX.out;simp;omega
   have ff:∀ q i v,q ∉ [X]→w7.cell? ⟨q,i,none⟩=some v→w8.cell? ⟨q,i,none⟩=some v:=fun q i v hq hc=>(World.cell?_of_block (w:=w7) (a:=⟨q,i,none⟩) (o8.block q (World.block_lt_of_cell? w7 ⟨q,i,none⟩ hc) hq)).trans hc
   exact⟨ff _ _ _ nx u0,ff _ _ _ nx u1,ff _ _ _ nx u2,ff _ _ _ n0' u3,ff _ _ _ n0' u4,ff _ _ _ n0' u5,ff _ _ _ n0' u6,ff _ _ _ n0' u7,ff _ _ _ n1' u8,ff _ _ _ n1' u9,ff _ _ _ n1' u10,ff _ _ _ n1' u11,ff _ _ _ n1' u12⟩
  refine bV (i:=22) w8 (by kernel_rfl) rfl (by kernel_rfl) (by rw[← hw8];go_simp) hS8 ?_
  refine wpAnyH_done (by kernel_rfl) ?_ _
  have hFin:=nwf P Q mx w w1 w2 w3 wx w5 w7 w8 X b a0 c0 a1 c1 h d dm g av cv bA H1.out H2.out H3.out Hb.out HX3.out kW bW H5.out b5 o7 g7 p7 s6 o8 k8
  have HF:Hid (_):=hFin
  have m0:w8.cell? ⟨x,0,none⟩=_:=hS8.1
  clear o8 k8 b5 b6 b7 o7 g7 p7 s6 sW kW bW b13 bA lX kX7 y3 yz hw8 HS7 HS6 HS5 HS0 k6 hcs hr7 n0 n1 n2 hS8 hFin H5
  go_wp2_with fail
  rw[rounds_succ]
  go_wp2_with fail
  go_ret2
  obtain⟨hU,dU,hF⟩:=HF.out
  exact⟨X,b,w2.heap.size,a0,c0,a1,c1,h,d,dm,g,av,cv,hU,dU,rfl,hF⟩
 ·refine jW 21 #[Value.agg #[Value.int .u32 (P.c:Nat),Value.int .i64 (P.o:Nat),Value.int .i64 (P.i:Nat),Value.int .i64 (P.t:Nat),Value.int .u32 (P.n:Nat)],Value.agg #[Value.int .u32 (Q.c:Nat),Value.int .i64 (Q.o:Nat),Value.int .i64 (Q.i:Nat),Value.int .i64 (Q.t:Nat),Value.int .u32 (Q.n:Nat)],Value.int .u32 (mx:Nat)] rfl (by kernel_rfl) (by go_simp) ?_
  refine (iU P Q hP hQ mx hmx h0 wx.drew).mono ?_
  rintro r w5 ⟨h,d,dm,g,rfl,H5⟩
  have b5:Below wx.heap.size wx w5:=(Below.drew (Below.refl wx.heap.size wx)).trans H5.out.1
  refine⟨_,rfl,HSS.out w5 b5,?_⟩
  have HS5:=HSS.out w5 b5
  refine iN (i:=4) (j:=18) (by kernel_rfl) ?_ ?_
  ·have x3:(w5).cell? ⟨X,3,none⟩=some (Value.slice none 0 0):=HX0.out _ (b5)
   refine fw (Value.slice none 0 0) (w5) rfl (by kernel_rfl) (by go_simp) ⟨HSS.out _ (b5),?_⟩
   have b6:=aC b5 (.cells (au h d dm) 80)
   have k6:=aA w5 (.cells (au h d dm) 80)
   have s6:=gD w5 (.cells (au h d dm) 80)
   refine bu (i:=18) (Value.slice (af w5.heap.size 0) 1 1) (w5.alloc (.cells (au h d dm) 80)) (by kernel_rfl) rfl (by kernel_rfl) (by go_simp) (HSS.out _ b6) ?_
   have HS6:=HSS.out _ b6
   obtain⟨i0,hI,hz0,hz1,hz2⟩:=info_parts eU
   have hcs:∀ j u,([ac h 0,ac d 0,ac dm 0]:List Value)[j]?=some u→(w5.alloc (.cells (au h d dm) 80)).cell? ((⟨w5.heap.size,0,none⟩:Addr).add j)=some u:=fun j u hu=>by
    have e:(Addr.add ⟨w5.heap.size,0,none⟩ j)=⟨w5.heap.size,j,none⟩:=by unfold Addr.add;simp;omega
    rw[e,ae _ _ j _ _ _ k6]
    simpa using hu
   obtain⟨v7,w7,hr7,o7,g7,_,p7⟩:=run_append_own_at (P:=prog) (w5.alloc (.cells (au h d dm) 80)) wx.heap.size 72 72 80 i0 (.agg aM) 3 24 underlying72 hI hz0 hz1 hz2 rfl (by decide) (.slice none 0 0) 0 [] (World.ownsRow_nil _ _ _ _) ⟨w5.heap.size,0,none⟩ 1 1 [ac h 0,ac d 0,ac dm 0] rfl hcs (by intro u hu;simp at hu;rcases hu with rfl | rfl | rfl <;> rfl) (by unfold maxLen;omega) (by omega) (Nat.le_trans b5.size (by rw[s6];omega))
   obtain⟨av,cv,rfl⟩:=bk o7
   have b7:Below wx.heap.size wx w7:=b6.grown g7 b6.size (fun k hk=>by cases hk)
   refine bu (i:=19) (Value.slice av 1 cv) w7 (by kernel_rfl) rfl (by kernel_rfl) (fO (s:=.tmp 27) (x:=.tmp 41) rfl rfl (by kernel_rfl) (by kernel_rfl) hr7) (HSS.out w7 b7) ?_
   have HS7:=HSS.out w7 b7
   refine an (i:=20) (v:=ac X 0) ?_
   refine an (i:=21) (v:=ac X 3) ?_
   obtain⟨kW,bW,sW,b13,bA⟩:=HW.out
   have lX:X<wx.heap.size:=by omega
   have kX7:=(b7.block X lX).trans kW
   have y3:=ae w7 X 3 _ _ _ kX7
   have yz:=frozen_of_row w7 X 3 _ _ kX7
   have o8:Off [X] w7 (w7.setCell ⟨X,3,none⟩ (.slice av 1 cv)):=Off.setCell X 3 w7 _
   have k8:(w7.setCell ⟨X,3,none⟩ (.slice av 1 cv)).heap[X]?=some (.cells #[.slice a0 1 c0,.slice a1 1 c1,.int .u32 (mx:Nat),.slice av 1 cv,ac b 0,.int .i64 0,.slice none 0 0] 75 (0,0)):=Joins.block_setCell kX7 _
   obtain⟨w8,hw8⟩:∃ z,w7.setCell ⟨X,3,none⟩ (.slice av 1 cv)=z:=⟨_,rfl⟩
   rw[hw8]at o8 k8
   have hS8:w8.cell? ⟨x,0,none⟩=some (Value.slice (af q0 0) 1 1)∧w8.cell? ⟨x,1,none⟩=some (Value.slice (af q1 0) 1 1)∧w8.cell? ⟨x,2,none⟩=some (Value.int .u32 (mx:Nat))∧w8.cell? ⟨q0,0,none⟩=some (Value.int .u32 (P.c:Nat))∧w8.cell? ⟨q0,1,none⟩=some (Value.int .i64 (P.o:Nat))∧w8.cell? ⟨q0,2,none⟩=some (Value.int .i64 (P.i:Nat))∧w8.cell? ⟨q0,3,none⟩=some (Value.int .i64 (P.t:Nat))∧w8.cell? ⟨q0,4,none⟩=some (Value.int .u32 (P.n:Nat))∧w8.cell? ⟨q1,0,none⟩=some (Value.int .u32 (Q.c:Nat))∧w8.cell? ⟨q1,1,none⟩=some (Value.int .i64 (Q.o:Nat))∧w8.cell? ⟨q1,2,none⟩=some (Value.int .i64 (Q.i:Nat))∧w8.cell? ⟨q1,3,none⟩=some (Value.int .i64 (Q.t:Nat))∧w8.cell? ⟨q1,4,none⟩=some (Value.int .u32 (Q.n:Nat)):=by
    obtain⟨u0,u1,u2,u3,u4,u5,u6,u7,u8,u9,u10,u11,u12⟩:=HS7
    have nx:x ∉ [X]:=by have:=HXX.out;simp;omega
    have n0':q0 ∉ [X]:=by have:=HXX.out;simp;omega
    have n1':q1 ∉ [X]:=by have:=HXX.out;simp;omega
    have ff:∀ q i v,q ∉ [X]→w7.cell? ⟨q,i,none⟩=some v→w8.cell? ⟨q,i,none⟩=some v:=fun q i v hq hc=>(World.cell?_of_block (w:=w7) (a:=⟨q,i,none⟩) (o8.block q (World.block_lt_of_cell? w7 ⟨q,i,none⟩ hc) hq)).trans hc
    exact⟨ff _ _ _ nx u0,ff _ _ _ nx u1,ff _ _ _ nx u2,ff _ _ _ n0' u3,ff _ _ _ n0' u4,ff _ _ _ n0' u5,ff _ _ _ n0' u6,ff _ _ _ n0' u7,ff _ _ _ n1' u8,ff _ _ _ n1' u9,ff _ _ _ n1' u10,ff _ _ _ n1' u11,ff _ _ _ n1' u12⟩
   refine bV (i:=22) w8 (by kernel_rfl) rfl (by kernel_rfl) (by rw[← hw8];go_simp) hS8 ?_
   refine wpAnyH_done (by kernel_rfl) ?_ _
   have hFin:=nwf P Q mx w w1 w2 w3 wx w5 w7 w8 X b a0 c0 a1 c1 h d dm g av cv bA H1.out H2.out H3.out Hb.out HX3.out kW bW H5.out b5 o7 g7 p7 s6 o8 k8
   have HF:Hid (_):=hFin
   have m0:w8.cell? ⟨x,0,none⟩=_:=hS8.1
   clear o8 k8 b5 b6 b7 o7 g7 p7 s6 sW kW bW b13 bA lX kX7 y3 yz hw8 HS7 HS6 HS5 HS0 k6 hcs hr7 n0 n1 n2 hS8 hFin H5
   go_wp2_with fail
   rw[rounds_succ]
   go_wp2_with fail
   go_ret2
   obtain⟨hU,dU,hF⟩:=HF.out
   exact⟨X,b,w2.heap.size,a0,c0,a1,c1,h,d,dm,g,av,cv,hU,dU,rfl,hF⟩
  ·have b6:=aC b5 (.cells (au h d dm) 80)
   have k6:=aA w5 (.cells (au h d dm) 80)
   have s6:=gD w5 (.cells (au h d dm) 80)
   refine fw (Value.slice (af w5.heap.size 0) 1 1) (w5.alloc (.cells (au h d dm) 80)) rfl (by kernel_rfl) (by go_simp) ⟨HSS.out _ b6,?_⟩
   have x3:((w5.alloc (.cells (au h d dm) 80))).cell? ⟨X,3,none⟩=some (Value.slice none 0 0):=HX0.out _ (b6)
   refine nW (i:=4) (Value.slice none 0 0) (by kernel_rfl) rfl (by kernel_rfl) (by go_simp) (HSS.out _ (b6)) ?_
   have HS6:=HSS.out _ b6
   obtain⟨i0,hI,hz0,hz1,hz2⟩:=info_parts eU
   have hcs:∀ j u,([ac h 0,ac d 0,ac dm 0]:List Value)[j]?=some u→(w5.alloc (.cells (au h d dm) 80)).cell? ((⟨w5.heap.size,0,none⟩:Addr).add j)=some u:=fun j u hu=>by
    have e:(Addr.add ⟨w5.heap.size,0,none⟩ j)=⟨w5.heap.size,j,none⟩:=by unfold Addr.add;simp;omega
    rw[e,ae _ _ j _ _ _ k6]
    simpa using hu
   obtain⟨v7,w7,hr7,o7,g7,_,p7⟩:=run_append_own_at (P:=prog) (w5.alloc (.cells (au h d dm) 80)) wx.heap.size 72 72 80 i0 (.agg aM) 3 24 underlying72 hI hz0 hz1 hz2 rfl (by decide) (.slice none 0 0) 0 [] (World.ownsRow_nil _ _ _ _) ⟨w5.heap.size,0,none⟩ 1 1 [ac h 0,ac d 0,ac dm 0] rfl hcs (by intro u hu;simp at hu;rcases hu with rfl | rfl | rfl <;> rfl) (by unfold maxLen;omega) (by omega) (Nat.le_trans b5.size (by rw[s6];omega))
   obtain⟨av,cv,rfl⟩:=bk o7
   have b7:Below wx.heap.size wx w7:=b6.grown g7 b6.size (fun k hk=>by cases hk)
   refine bu (i:=19) (Value.slice av 1 cv) w7 (by kernel_rfl) rfl (by kernel_rfl) (fO (s:=.tmp 27) (x:=.tmp 41) rfl rfl (by kernel_rfl) (by kernel_rfl) hr7) (HSS.out w7 b7) ?_
   have HS7:=HSS.out w7 b7
   refine an (i:=20) (v:=ac X 0) ?_
   refine an (i:=21) (v:=ac X 3) ?_
   obtain⟨kW,bW,sW,b13,bA⟩:=HW.out
   have lX:X<wx.heap.size:=by omega
   have kX7:=(b7.block X lX).trans kW
   have y3:=ae w7 X 3 _ _ _ kX7
   have yz:=frozen_of_row w7 X 3 _ _ kX7
   have o8:Off [X] w7 (w7.setCell ⟨X,3,none⟩ (.slice av 1 cv)):=Off.setCell X 3 w7 _
   have k8:(w7.setCell ⟨X,3,none⟩ (.slice av 1 cv)).heap[X]?=some (.cells #[.slice a0 1 c0,.slice a1 1 c1,.int .u32 (mx:Nat),.slice av 1 cv,ac b 0,.int .i64 0,.slice none 0 0] 75 (0,0)):=Joins.block_setCell kX7 _
   obtain⟨w8,hw8⟩:∃ z,w7.setCell ⟨X,3,none⟩ (.slice av 1 cv)=z:=⟨_,rfl⟩
   rw[hw8]at o8 k8
   have hS8:w8.cell? ⟨x,0,none⟩=some (Value.slice (af q0 0) 1 1)∧w8.cell? ⟨x,1,none⟩=some (Value.slice (af q1 0) 1 1)∧w8.cell? ⟨x,2,none⟩=some (Value.int .u32 (mx:Nat))∧w8.cell? ⟨q0,0,none⟩=some (Value.int .u32 (P.c:Nat))∧w8.cell? ⟨q0,1,none⟩=some (Value.int .i64 (P.o:Nat))∧w8.cell? ⟨q0,2,none⟩=some (Value.int .i64 (P.i:Nat))∧w8.cell? ⟨q0,3,none⟩=some (Value.int .i64 (P.t:Nat))∧w8.cell? ⟨q0,4,none⟩=some (Value.int .u32 (P.n:Nat))∧w8.cell? ⟨q1,0,none⟩=some (Value.int .u32 (Q.c:Nat))∧w8.cell? ⟨q1,1,none⟩=some (Value.int .i64 (Q.o:Nat))∧w8.cell? ⟨q1,2,none⟩=some (Value.int .i64 (Q.i:Nat))∧w8.cell? ⟨q1,3,none⟩=some (Value.int .i64 (Q.t:Nat))∧w8.cell? ⟨q1,4,none⟩=some (Value.int .u32 (Q.n:Nat)):=by
    obtain⟨u0,u1,u2,u3,u4,u5,u6,u7,u8,u9,u10,u11,u12⟩:=HS7
    have nx:x ∉ [X]:=by have:=HXX.out;simp;omega
    have n0':q0 ∉ [X]:=by have:=HXX.out;simp;omega
    have n1':q1 ∉ [X]:=by have:=HXX.out;simp;omega
    have ff:∀ q i v,q ∉ [X]→w7.cell? ⟨q,i,none⟩=some v→w8.cell? ⟨q,i,none⟩=some v:=fun q i v hq hc=>(World.cell?_of_block (w:=w7) (a:=⟨q,i,none⟩) (o8.block q (World.block_lt_of_cell? w7 ⟨q,i,none⟩ hc) hq)).trans hc
    exact⟨ff _ _ _ nx u0,ff _ _ _ nx u1,ff _ _ _ nx u2,ff _ _ _ n0' u3,ff _ _ _ n0' u4,ff _ _ _ n0' u5,ff _ _ _ n0' u6,ff _ _ _ n0' u7,ff _ _ _ n1' u8,ff _ _ _ n1' u9,ff _ _ _ n1' u10,ff _ _ _ n1' u11,ff _ _ _ n1' u12⟩
   refine bV (i:=22) w8 (by kernel_rfl) rfl (by kernel_rfl) (by rw[← hw8];go_simp) hS8 ?_
   refine wpAnyH_done (by kernel_rfl) ?_ _
   have hFin:=nwf P Q mx w w1 w2 w3 wx w5 w7 w8 X b a0 c0 a1 c1 h d dm g av cv bA H1.out H2.out H3.out Hb.out HX3.out kW bW H5.out b5 o7 g7 p7 s6 o8 k8
   have HF:Hid (_):=hFin
   have m0:w8.cell? ⟨x,0,none⟩=_:=hS8.1
   clear o8 k8 b5 b6 b7 o7 g7 p7 s6 sW kW bW b13 bA lX kX7 y3 yz hw8 HS7 HS6 HS5 HS0 k6 hcs hr7 n0 n1 n2 hS8 hFin H5
   go_wp2_with fail
   rw[rounds_succ]
   go_wp2_with fail
   go_ret2
   obtain⟨hU,dU,hF⟩:=HF.out
   exact⟨X,b,w2.heap.size,a0,c0,a1,c1,h,d,dm,g,av,cv,hU,dU,rfl,hF⟩
def s0 (P Q:Pm) (mx:Nat):Ws:=⟨1,fun _=>P,fun _=>Q,fun _=>bN,fun _=>cW M0,mx,[],0,[]⟩
def ip (L:Pw):Nat→Thing:=fun q=>if q % 2=0 then L.t (q / 2) else mW
def ev (j:Nat):Nat:=2*j
theorem gX (L:Pw):Fre ev (ip L) 0:=fun q _=>⟨fun j=>by unfold ev;omega,by unfold ip;rw[if_neg (by omega)]⟩
theorem rd (L:Pw):Wat ev (ip L) L:=⟨fun i j h=>by unfold ev at h;omega,fun j=>by unfold ip ev;rw[if_pos (by omega),show 2*j / 2=j by omega]⟩
def uY (P Q:Pm) (mx:Nat) (X b m:Nat) (a0:Option Addr) (c0:Nat) (a1:Option Addr) (c1:Nat) (h d dm g:Nat) (av:Option Addr) (cv:Nat) (hU dU:List Nat):Pw:=⟨X,.slice a0 1 c0,.slice a1 1 c1,.slice av 1 cv,.slice none 0 0,[],[],b,m,.slice none 0 0,[],none,fun _=>h,fun _=>hU,fun _=>d,fun _=>dm,fun _=>g,fun _=>dU,s0 P Q mx⟩
theorem NwF.mem {P Q:Pm} {mx X b m:Nat} {a0:Option Addr} {c0:Nat} {a1:Option Addr} {c1 h d dm g:Nat} {av:Option Addr} {cv:Nat} {hU dU:List Nat} (q k:Nat) (hk:k ∈ (ip (uY P Q mx X b m a0 c0 a1 c1 h d dm g av cv hU dU) q).U) :
  (q=0∧(k=X∨(Value.slice a0 1 c0).ownBlock=some k∨(Value.slice a1 1 c1).ownBlock=some k∨(Value.slice av 1 cv).ownBlock=some k))∨(q=2∧(k=b∨k=m))∨(q=4∧k ∈ hU)∨(q=6∧k ∈ dU):=by
 unfold ip at hk
 by_cases h2:q % 2=0
 ·rw[if_pos h2]at hk
  unfold Pw.t at hk
  by_cases z0:q / 2=0
  ·rw[if_pos z0]at hk
   have hk:k ∈ (uY P Q mx X b m a0 c0 a1 c1 h d dm g av cv hU dU).core.U:=hk
   simp only[Wc.U,Pw.core,uY,List.mem_cons,List.mem_append,Option.mem_toList,List.not_mem_nil,or_false]at hk
   refine .inl ⟨by omega,?_⟩
   rcases hk with hk | hk | hk | hk | hk
   ·exact .inl hk
   ·exact .inr (.inl hk)
   ·exact .inr (.inr (.inl hk))
   ·exact .inr (.inr (.inr hk))
   ·cases hk
  rw[if_neg z0]at hk
  by_cases z1:q / 2=1
  ·rw[if_pos z1]at hk
   have hk:k ∈ jX b m (.slice none 0 0) [] none:=hk
   simp[jX,Value.ownBlock]at hk
   exact .inr (.inl ⟨by omega,hk⟩)
  rw[if_neg z1]at hk
  by_cases z2:q / 2-2<2 * (uY P Q mx X b m a0 c0 a1 c1 h d dm g av cv hU dU).S.n
  ·rw[if_pos z2]at hk
   have z2:q / 2-2<2*1:=z2
   by_cases z3:(q / 2-2) % 2=0
   ·rw[if_pos z3]at hk
    exact .inr (.inr (.inl ⟨by omega,hk⟩))
   ·rw[if_neg z3]at hk
    exact .inr (.inr (.inr ⟨by omega,hk⟩))
  ·rw[if_neg z2]at hk
   simp[mW]at hk
 ·rw[if_neg h2]at hk
  simp[mW]at hk
theorem NwF.pw {P Q:Pm} {mx:Nat} {w w':World} {X b m:Nat} {a0:Option Addr} {c0:Nat} {a1:Option Addr} {c1 h d dm g:Nat} {av:Option Addr} {cv:Nat} {hU dU:List Nat} (F:NwF P Q mx w w' X b m a0 c0 a1 c1 h d dm g av cv hU dU):PW ev w w' (ip (uY P Q mx X b m a0 c0 a1 c1 h d dm g av cv hU dU)) (uY P Q mx X b m a0 c0 a1 c1 h d dm g av cv hU dU):=by
 have wb:WB (uY P Q mx X b m a0 c0 a1 c1 h d dm g av cv hU dU).core w':=by
  refine⟨F.blk,?_,?_,?_,⟨rfl,.inl ⟨rfl,rfl⟩⟩,rfl,fun i f d hf=>by simp[uY,Pw.core,s0]at hf,fun k hk=>by simp[uY,Pw.core]at hk⟩
  ·have:=cR F.r0 (Nat.zero_le _)
   show w'.ownsRow 0 83 5 (.slice a0 1 c0) 1 (rh 1 (fun _=>P))
   rw[show rh 1 (fun _=>P)=P.cs by simp[rh]]
   exact this
  ·have:=cR F.r1 (Nat.zero_le _)
   show w'.ownsRow 0 83 5 (.slice a1 1 c1) 1 (rh 1 (fun _=>Q))
   rw[show rh 1 (fun _=>Q)=Q.cs by simp[rh]]
   exact this
  ·have:=cR F.rc (Nat.zero_le _)
   show w'.ownsRow 0 80 3 (.slice av 1 cv) 1 (go 1 (fun _=>h) (fun _=>d) (fun _=>dm))
   rw[show go 1 (fun _=>h) (fun _=>d) (fun _=>dm)=[ac h 0,ac d 0,ac dm 0] by simp[go]]
   exact this
 refine⟨⟨F.bel,fun q=>?_,fun q k hk=>?_,fun p q hpq k hp hq=>?_⟩,rd _⟩
 ·unfold ip
  by_cases h2:q % 2=0
  ·rw[if_pos h2]
   unfold Pw.t
   by_cases z0:q / 2=0
   ·rw[if_pos z0]
    exact wb
   rw[if_neg z0]
   by_cases z1:q / 2=1
   ·rw[if_pos z1]
    exact⟨F.bg,rfl⟩
   rw[if_neg z1]
   by_cases z2:q / 2-2<2 * (uY P Q mx X b m a0 c0 a1 c1 h d dm g av cv hU dU).S.n
   ·rw[if_pos z2]
    by_cases z3:(q / 2-2) % 2=0
    ·rw[if_pos z3]
     exact F.hv
    ·rw[if_neg z3]
     exact F.dv
   ·rw[if_neg z2]
    trivial
  ·rw[if_neg h2]
   trivial
 ·have lm:=F.lm
  have mb:=F.mb
  have bX:=F.bX
  have lX:=(Array.getElem?_eq_some_iff.1 F.blk).1
  rcases NwF.mem q k hk with ⟨_,hk | hk | hk | hk⟩ | ⟨_,hk | hk⟩ | ⟨_,hk⟩ | ⟨_,hk⟩
  ·omega
  ·exact F.r0.lt k hk
  ·exact F.r1.lt k hk
  ·exact F.rc.lt k hk
  ·omega
  ·omega
  ·have:=(F.lh k hk).1
   have:=HV.ult F.hv k hk
   omega
  ·have:=F.ld k hk
   have:=DV.ult F.dv k hk
   omega
 ·have mb:=F.mb
  have bX:=F.bX
  rcases NwF.mem p k hp with ⟨e1,hp | hp | hp | hp⟩ | ⟨e1,hp | hp⟩ | ⟨e1,hp⟩ | ⟨e1,hp⟩
  all_goals rcases NwF.mem q k hq with ⟨e2,hq | hq | hq | hq⟩ | ⟨e2,hq | hq⟩ | ⟨e2,hq⟩ | ⟨e2,hq⟩
  all_goals first
   | exact hpq (by omega)
   | omega
   | (have:=F.l0 k hp;omega)
   | (have:=F.l1 k hp;omega)
   | (have:=F.l0 k hq;omega)
   | (have:=F.l1 k hq;omega)
   | (have:=(F.lc k hp).1;omega)
   | (have:=(F.lc k hq).1;omega)
   | (have:=(F.lh k hp).1;omega)
   | (have:=(F.lh k hq).1;omega)
   | (have:=F.ld k hp;omega)
   | (have:=F.ld k hq;omega)
   | exact (F.lc k hp).2.1 hq
   | exact (F.lc k hq).2.1 hp
   | exact (F.lc k hp).2.2 hq
   | exact (F.lc k hq).2.2 hp
   | exact (F.lh k hp).2 hq
   | exact (F.lh k hq).2 hp
   | (have:=F.l0 k hp;have:=(F.lh k hq).1;omega)
   | (have:=F.l1 k hp;have:=(F.lh k hq).1;omega)
   | (have:=F.l0 k hq;have:=(F.lh k hp).1;omega)
   | (have:=F.l1 k hq;have:=(F.lh k hp).1;omega)
   | (have:=F.l0 k hp;have:=F.ld k hq;omega)
   | (have:=F.l1 k hp;have:=F.ld k hq;omega)
   | (have:=F.l0 k hq;have:=F.ld k hp;omega)
   | (have:=F.l1 k hq;have:=F.ld k hp;omega)
theorem aay (P Q:Pm) (hP:Pok P) (hQ:Pok Q) (q0 q1 mx:Nat) (hmx:mx<4294967296) (h0:mx≠0) (w:World) (k0:w.heap[q0]?=some (.cells #[.int .u32 (P.c:Nat),.int .i64 (P.o:Nat),.int .i64 (P.i:Nat),.int .i64 (P.t:Nat),.int .u32 (P.n:Nat)] 83 (0,0))) (k1:w.heap[q1]?=some (.cells #[.int .u32 (Q.c:Nat),.int .i64 (Q.o:Nat),.int .i64 (Q.i:Nat),.int .i64 (Q.t:Nat),.int .u32 (Q.n:Nat)] 83 (0,0))):Calls prog 7 #[.agg #[.slice (af q0 0) 1 1,.slice (af q1 0) 1 1,.int .u32 (mx:Nat)]] w fun r w'=>∃ L:Pw,r=.returned (.tuple #[ac L.x 0,.int .i64 0])∧Hid (PW ev w w' (ip L) L∧L.S=s0 P Q mx):=by
 refine (aaO P Q hP hQ q0 q1 mx hmx h0 w k0 k1).mono ?_
 rintro r w' ⟨X,b,m,a0,c0,a1,c1,h,d,dm,g,av,cv,hU,dU,rfl,H⟩
 exact⟨uY P Q mx X b m a0 c0 a1 c1 h d dm g av cv hU dU,rfl,H.out.pw,rfl⟩
theorem uW (w:World):Calls prog 46 #[] w fun r w'=>r=.returned (.agg bF)∧Below w.heap.size w w':=by
 go_enter func46,ntmps46
 go_wp2_with fail
 refine bodyPost_ret (v:=.agg bF) (by simp[results,results46,go_sem]) rfl ⟨rfl,?_⟩
 exact aC (Below.refl _ _) _
theorem aaw (w:World):Calls prog 23 #[] w fun r w'=>∃ q0 q1,r=.returned (.agg #[.slice (af q0 0) 1 1,.slice (af q1 0) 1 1,.int .u32 50])∧Hid (w'.heap[q0]?=some (.cells bF 83 (0,0))∧w'.heap[q1]?=some (.cells bF 83 (0,0))∧Below w.heap.size w w'):=by
 have hS:=fun wx=>uW wx
 have b1:Below w.heap.size w (w.alloc (.cells #[.slice none 0 0,.slice none 0 0,.int .u32 0] 30)):=aC (Below.refl _ _) _
 have hk:=aA w (.cells #[.slice none 0 0,.slice none 0 0,.int .u32 0] 30)
 have z1:=gD w (.cells #[.slice none 0 0,.slice none 0 0,.int .u32 0] 30)
 go_enter func23,ntmps23
 go_wp2_with fail
 refine (hS _).mono ?_
 rintro r w3 ⟨rfl,b3⟩
 have k3:=(b3.block w.heap.size (by rw[z1];omega)).trans hk
 have b5:Below w3.heap.size w3 (((w3.alloc (.cells bF 83)).alloc (.cells bF 83)).alloc (.cells bF 83)):=aC (aC (aC (Below.refl _ _) _) _) _
 have l3:w.heap.size<w3.heap.size:=by have:=b3.size;rw[z1]at this;omega
 have k5:=(b5.block w.heap.size l3).trans k3
 have y0:=ae (((w3.alloc (.cells bF 83)).alloc (.cells bF 83)).alloc (.cells bF 83)) _ 0 _ _ _ k5
 have y1:=ae (((w3.alloc (.cells bF 83)).alloc (.cells bF 83)).alloc (.cells bF 83)) _ 1 _ _ _ k5
 have y2:=ae (((w3.alloc (.cells bF 83)).alloc (.cells bF 83)).alloc (.cells bF 83)) _ 2 _ _ _ k5
 have yz:=fun k=>frozen_of_row (((w3.alloc (.cells bF 83)).alloc (.cells bF 83)).alloc (.cells bF 83)) _ k _ _ k5
 have u1:=gD w3 (.cells bF 83)
 have u2:=zC w3 (.cells bF 83) (.cells bF 83)
 have n1:(((w3.alloc (.cells bF 83)).alloc (.cells bF 83)).alloc (.cells bF 83)).heap[w3.heap.size+1]?=some (.cells bF 83 (0,0)):=(Below.heap_alloc _ _ _ (by rw[u2];omega)).trans (by rw[← u1];exact aA _ _)
 have n2:(((w3.alloc (.cells bF 83)).alloc (.cells bF 83)).alloc (.cells bF 83)).heap[w3.heap.size+1+1]?=some (.cells bF 83 (0,0)):=by rw[show w3.heap.size+1+1=w3.heap.size+2 by omega,← u2];exact aA _ _
 have HN:Hid (_):=And.intro n1 (And.intro n2 (And.intro b3 (And.intro b5 l3)))
 have HB1:Hid (_):=b1
 have HZ1:Hid (_):=z1
 clear n1 n2 b3 b5 k3 k5 hk b1 z1 u1 u2
 go_wp2_with fail
 refine bodyPost_ret (v:=.agg #[.slice (af (w3.heap.size+1) 0) 1 1,.slice (af (w3.heap.size+1+1) 0) 1 1,.int .u32 50]) (by simp[results,results23,go_sem,y0,y1,y2]) rfl ?_
 obtain⟨n1,n2,b3,b5,l3⟩:=HN.out
 have o:Off [w.heap.size] (((w3.alloc (.cells bF 83)).alloc (.cells bF 83)).alloc (.cells bF 83)) ((((((w3.alloc (.cells bF 83)).alloc (.cells bF 83)).alloc (.cells bF 83)).setCell ⟨w.heap.size,0,none⟩ (.slice (af (w3.heap.size+1) 0) 1 1)).setCell ⟨w.heap.size,1,none⟩ (.slice (af (w3.heap.size+1+1) 0) 1 1)).setCell ⟨w.heap.size,2,none⟩ (.int .u32 50)):=((Off.setCell _ 0 _ _).trans (Off.setCell _ 1 _ _)).trans (Off.setCell _ 2 _ _)
 have s5:=sz3 w3 (.cells bF 83) (.cells bF 83) (.cells bF 83)
 have m1:=(o.block (w3.heap.size+1) (by omega) (by simp;omega)).trans n1
 have m2:=(o.block (w3.heap.size+1+1) (by omega) (by simp;omega)).trans n2
 have bw:Below w.heap.size w (((w3.alloc (.cells bF 83)).alloc (.cells bF 83)).alloc (.cells bF 83)):=(HB1.out.trans (b3.mono (by rw[HZ1.out];omega))).trans (b5.mono (by omega))
 exact⟨_,_,rfl,m1,m2,o.below bw (fun k hk=>by simp at hk;omega) bw.size⟩
open Go.RowKit
theorem wm (w:World):(Instr.buildSlice 37 0 #[]).run prog w=.ok (.slice (af w.heap.size 0) 0 0) (w.alloc (.cells #[] 5)):=by kernel_rfl
theorem kK (st ss nm sn dc lat:Int) (rq on:Bool) (a a':Option Addr) (n n' cap cap':Nat) (bs bs':Nat→Nat) (w:World) (R:Row8 w a n cap bs) (R':Row8 w a' n' cap' bs') (hX:BA bs n=BA bs' n') :
  Calls prog 16 #[.agg #[.int .i64 st,.int .u32 ss,.int .u32 nm,.int .u32 sn,.int .i64 dc,.int .i64 lat,.bool rq,.bool on,.slice a n cap],.agg #[.int .i64 st,.int .u32 ss,.int .u32 nm,.int .u32 sn,.int .i64 dc,.int .i64 lat,.bool rq,.bool on,.slice a' n' cap']] w fun e w'=>e=.returned (.bool true)∧Below w.heap.size w w':=by
 have b0:Below w.heap.size w ((w.alloc (.cells #[.int .i64 st,.int .u32 ss,.int .u32 nm,.int .u32 sn,.int .i64 dc,.int .i64 lat,.bool rq,.bool on,.slice a n cap] 43)).alloc (.cells #[.int .i64 st,.int .u32 ss,.int .u32 nm,.int .u32 sn,.int .i64 dc,.int .i64 lat,.bool rq,.bool on,.slice a' n' cap'] 43)):=((Below.refl _ _).alloc (Nat.le_refl _) _).alloc (by simp) _
 obtain⟨X,hX1⟩:∃ X,BA bs n=X:=⟨_,rfl⟩
 have hX2:BA bs' n'=X:=hX ▸ hX1
 have q1:=iJ a n cap bs _ (R.below b0)
 have q2:=iJ a' n' cap' bs' _ (R'.below b0)
 rw[hX1]at q1
 rw[hX2]at q2
 have HB:Hid (_):=b0
 clear R R' hX hX1 hX2 b0
 go_enter func16,ntmps16
 go_wp2_with fail
 go_ret
 exact⟨by simp,HB.out⟩
theorem jt {P:Program} {ops:Array Oper} {rest:List Oper} {op:Oper} {a:Act} {w:World} {Q:Exit→Act→World→Prop} (hw:Region.wanted op (yielded ops a.tmps)=true) (ty:TypeId) (x:Operand) (ho:op.op=.load ty x)
  (b o:Nat) (hx:a.eval x=ac b o) (cs:List Value) (d:TypeDesc) (hc:w.rangeAt b o cs)
  (hu:P.underlying ty=some d) (hd:d.isRow=true) (hi:(P.info? ty).map (·.size)=some cs.length)
  (h:wpList P ops Q rest (a.put op.dst (.agg cs.toArray)) w):wpList P ops Q (op :: rest) a w:=by
 unfold wpList
 rw[if_pos hw]
 exact .inl (wp_load_mid ty x ho b o hx cs d hc hu hd hi h)
theorem gL {P:Program} {ops:Array Oper} {rest:List Oper} {op:Oper} {a:Act} {w:World} {Q:Exit→Act→World→Prop} (hgd:op.guard=none) (v:Value) (hrun:(execOp a.eval op).run P w=.ok (.value v) w) (h:wpList P ops Q rest (a.put op.dst v) w):wpList P ops Q (op :: rest) a w:=
 wpList_plain hgd fun _ hK=>by
  unfold Oper.wp
  rw[hrun]
  exact hK _ _ h
theorem em {P:Program} {w:World} {b o:Nat} {A:Array Value} (ht:w.there b o A.size) (h1:A.all (·.oneCell')=true):(storeCells ⟨b,o,none⟩ A.toList).run P w=.ok () (w.setCells b o A.toList):=by
 have:=run_storeCells_cells (P:=P) b o A.toList 0 w (fun j hj=>by simpa using (ht j (by simpa using hj)).1) (fun j hj=>by simpa using (ht j (by simpa using hj)).2)
  (fun v hv=>(Array.all_eq_true_iff_forall_mem.1 h1) v (by simpa using hv))
 simp only[Nat.add_zero]at this
 exact this
def jM:Mv:=⟨3,0,2,0,0,0,0,false,0,fun _=>0⟩
theorem PWn.dropR {e:Nat→Nat} {w0 w:World} {t:Nat→Thing} {L:Pw} {S:Ws} {i:Nat} {m:Mv} {S':Ws} {k:Nat} {a:Option Addr} {c:Nat} {ah:Option Addr} {ch:Nat} {ad:Option Addr} {cd:Nat} (h:PWn e w0 (xv t i m S' k a c ah ch ad cd) L w S) (F:Fre e t i):PWn e w0 t L w S:=by
 unfold xv at h
 have h1:=h.drop (F (i+3) (by omega)).1 (by rw[al _ _ (by omega),al _ _ (by omega)];exact (F (i+3) (by omega)).2)
 have h2:=h1.drop (F (i+2) (by omega)).1 (by rw[al _ _ (by omega)];exact (F (i+2) (by omega)).2)
 exact h2.drop (F (i+1) (by omega)).1 (F (i+1) (by omega)).2
theorem PWn.layL {e:Nat→Nat} {w0 w:World} {t:Nat→Thing} {L:Pw} {S:Ws} {w1:World} (h:PWn e w0 t L w1 S) (b:Below w1.heap.size w1 w) {i:Nat} (hi:∀ j,i≠e j) {l:List (Nat × Obj)} (R:∀ p,p ∈ l→w.heap[p.1]?=some p.2) (bN:∀ p,p ∈ l→w1.heap.size≤p.1):PWn e w0 (aI t i (dN l)) L w S:=by
 obtain⟨t1,L1,h1,hs,hx,he⟩:=h
 exact⟨_,L1,h1.layL b hi R bN,hs,hx,he.putB _ _⟩
theorem aR (S:Ws) (k s:Nat) (f:Fm):(S.put k s f).n=S.n∧(S.put k s f).ds=S.ds∧(S.put k s f).hs=S.hs∧(S.put k s f).PD=S.PD∧(S.put k s f).PH=S.PH∧(S.put k s f).mx=S.mx∧(S.put k s f).mv=S.mv∧(S.put k s f).fs.length≤S.fs.length+1:=by
 unfold Ws.put
 split
 ·exact⟨rfl,rfl,rfl,rfl,rfl,rfl,rfl,Nat.le_succ _⟩
 ·refine⟨rfl,rfl,rfl,rfl,rfl,rfl,rfl,?_⟩
  show (S.fs ++ dS 1 k s f).length≤_
  rw[List.length_append]
  unfold dS
  split <;> simp
theorem uX (S:Ws) (k s:Nat) (f:Fm) (h:f.1≠0):(S.put k s f).bg=S.bg ++ [f]∧S.putI f=((S.bg.length:Nat):Int):=by
 unfold Ws.put Ws.putI
 rw[if_neg h,if_neg h]
 exact⟨rfl,rfl⟩
def aS1:Ws:=((s0 P0 P0 50).up.snd 0).S
def dR (T:Ws):Ws:=(T.note [oH T 0,oD T 0])
def vZ (T:Ws):Wr:=(dR T).up.dlv jM 0
structure A1 (T:Ws):Prop where
 bg:T.bg=[dJ P0]
 n:T.n=1
 ds:T.ds=(fun _=>cW M0)
 PD:T.PD=(fun _=>P0)
 mx:T.mx=50
 mv:T.mv=1
 fs:T.fs.length≤1
 hs:T.hs 0=aG P0 bN
theorem yk:aB P0 bN=dJ P0:=vO P0 qR
theorem a1:((s0 P0 P0 50).up.snd 0).e=0∧((s0 P0 P0 50).up.snd 0).i=0∧A1 aS1:=by
 obtain⟨p1,p2,p3,p4,p5,p6,p7,p8⟩:=aR ((s0 P0 P0 50).up.setH 0 (aG P0 bN)) 0 1 (aB P0 bN)
 obtain⟨q1,q2⟩:=uX ((s0 P0 P0 50).up.setH 0 (aG P0 bN)) 0 1 (aB P0 bN) (by rw[yk];exact Nat.succ_ne_zero 22)
 refine⟨rfl,q2,?_,p1,p2,p4,p6,p7,p8,?_⟩
 ·show (((s0 P0 P0 50).up.setH 0 (aG P0 bN)).put 0 1 (aB P0 bN)).bg=_
  rw[q1,yk]
  rfl
 ·show (((s0 P0 P0 50).up.setH 0 (aG P0 bN)).put 0 1 (aB P0 bN)).hs 0=_
  rw[p3]
  rfl
theorem zZ:(dE 17 P0.c 1 0 0 4 (jA P0)).1=23:=by
 have e:dE 17 P0.c 1 0 0 4 (jA P0)=(15+4+4,PM.sl (fr 17 P0.c 1 0 0 4 (jA P0)) (15+4)):=if_pos (tH (by decide) (by decide))
 rw[e]
theorem aD {T:Ws} (q:A1 T):ax ((dR T).up.PD 0) (dR T).up.mx 16 ((dR T).up.ds 0) ((dR T).up.fr jM).1 ((dR T).up.fr jM).2=ax P0 50 16 (cW M0) (dJ P0).1 (dJ P0).2:=by
 obtain⟨b1,_,b3,b4,b5,_⟩:=q
 have e1:(dR T).up.PD 0=P0:=by show T.PD 0=P0;rw[b4]
 have e2:(dR T).up.mx=50:=b5
 have e3:(dR T).up.ds 0=cW M0:=by show T.ds 0=_;rw[b3]
 have e4:(dR T).up.fr jM=dJ P0:=by
  unfold Ws.fr
  rw[if_neg (by decide)]
  show T.bg.getD 0 ep=_
  rw[b1]
  rfl
 rw[e1,e2,e3,e4]
theorem a3 {T:Ws} (q:A1 T):(vZ T).e=0∧(vZ T).i=1∧(vZ T).S.bg.length=2∧(vZ T).S.mv=2∧(vZ T).S.n=1∧((vZ T).S.ds 0).st=2∧(vZ T).S.fs.length≤100:=by
 obtain⟨f1,f2,f3⟩:=pV P0 qR 50 (by omega)
 have hd:=aD q
 obtain⟨b1,b2,b3,b4,b5,b6,b7,b8⟩:=q
 have e0:vZ T=(dR T).up.toD 0 ((dR T).up.fr jM):=by
  unfold vZ Ws.dlv
  rw[if_neg (by decide)]
 obtain⟨D,hD⟩:∃ y,ax P0 50 16 (cW M0) (dJ P0).1 (dJ P0).2=y:=⟨_,rfl⟩
 rw[hD]at hd f1 f2 f3
 have fne:D.f.1≠0:=by rw[f3,zZ];decide
 rw[e0]
 unfold Ws.toD
 rw[hd]
 obtain⟨p1,p2,p3,p4,p5,p6,p7,p8⟩:=aR ((dR T).up.toD2 0 ((dR T).up.fr jM)) 0 2 D.f
 obtain⟨q1,q2⟩:=uX ((dR T).up.toD2 0 ((dR T).up.fr jM)) 0 2 D.f fne
 have t1:(dR T).up.toD1 0 ((dR T).up.fr jM)=((dR T).up.setD 0 D.s).note (dZ 0 ((dR T).up.ds 0) D.s):=by unfold Ws.toD1;rw[hd]
 have g:∀ V:Ws,(V=(dR T).up.toD1 0 ((dR T).up.fr jM)∨V=((dR T).up.toD1 0 ((dR T).up.fr jM)).note (cO 0 2 ((dR T).up.fr jM)))→V.bg=T.bg∧V.mv=T.mv+1∧V.n=T.n∧V.ds 0=D.s∧V.fs.length≤10:=by
  have l1:=ke 0 ((dR T).up.ds 0) D.s
  have l2:=fY 0 2 ((dR T).up.fr jM)
  have l0:(dR T).up.fs.length≤3:=by
   show (T.fs ++ [oH T 0,oD T 0]).length≤3
   rw[List.length_append]
   simp
   omega
  intro V hT
  rcases hT with rfl | rfl
  ·rw[t1]
   refine⟨rfl,rfl,rfl,(show bQ (dR T).up.ds 0 D.s 0=D.s from ai _ _ _),?_⟩
   show ((dR T).up.fs ++ dZ 0 ((dR T).up.ds 0) D.s).length≤10
   rw[List.length_append]
   omega
  ·rw[t1]
   refine⟨rfl,rfl,rfl,(show bQ (dR T).up.ds 0 D.s 0=D.s from ai _ _ _),?_⟩
   show (((dR T).up.fs ++ dZ 0 ((dR T).up.ds 0) D.s) ++ cO 0 2 ((dR T).up.fr jM)).length≤10
   rw[List.length_append,List.length_append]
   omega
 have h2:(dR T).up.toD2 0 ((dR T).up.fr jM)=(dR T).up.toD1 0 ((dR T).up.fr jM)∨(dR T).up.toD2 0 ((dR T).up.fr jM)=((dR T).up.toD1 0 ((dR T).up.fr jM)).note (cO 0 2 ((dR T).up.fr jM)):=by
  unfold Ws.toD2
  split
  ·exact .inr rfl
  ·exact .inl rfl
 obtain⟨g1,g2,g3,g4,g5⟩:=g _ h2
 refine⟨f1,?_,?_,?_,?_,?_,?_⟩
 ·show ((dR T).up.toD2 0 ((dR T).up.fr jM)).putI D.f=1
  rw[q2,g1,b1]
  rfl
 ·show (((dR T).up.toD2 0 ((dR T).up.fr jM)).put 0 2 D.f).bg.length=2
  rw[q1,g1,b1]
  rfl
 ·show (((dR T).up.toD2 0 ((dR T).up.fr jM)).put 0 2 D.f).mv=2
  rw[p7,g2,b6]
 ·show (((dR T).up.toD2 0 ((dR T).up.fr jM)).put 0 2 D.f).n=1
  rw[p1,g3,b2]
 ·show ((((dR T).up.toD2 0 ((dR T).up.fr jM)).put 0 2 D.f).ds 0).st=2
  rw[p2,g4]
  exact f2
 ·show (((dR T).up.toD2 0 ((dR T).up.fr jM)).put 0 2 D.f).fs.length≤100
  omega
section
variable {w wr w':World} {g:Nat} {fs:List Fa}
end
end Go.Proofs.YtenilkloffnjlaaGreat
namespace Go.Proofs.YtenilkloffnjlaaGreat
open Tryz
open Go.RowKit
section
variable {P:Pm} {s:Sh}
theorem uh (s:Sh) (x:Int):(bn s x).v=dW s.v x:=by unfold bn fC;split <;> rfl
theorem gu (s:Sh) (x:Int):(bn s x).st=s.st∧(bn s x).ss=s.ss∧(bn s x).nm=s.nm∧(bn s x).sn=s.sn∧(bn s x).wt=s.wt∧(bn s x).ms=s.ms∧(bn s x).ap=s.ap∧(bn s x).hd=s.hd∧(bn s x).dc=s.dc:=by unfold bn fC;split <;> exact⟨rfl,rfl,rfl,rfl,rfl,rfl,rfl,rfl,rfl⟩
theorem iz (s:Sh) (x:Int):(bn s x).L.length≤s.L.length+1:=by unfold bn fC;split <;> simp
theorem tC {v:Vs} {x:Int} (hx:x≠0):(dW v x).lat≠0:=by
 unfold dW
 rw[if_neg hx]
 show (if v.lat=0 then x else v.lat)≠0
 split <;> assumption
theorem kZ {v:Vs} {x:Int} (h:v.lat≠0):(dW v x).lat≠0:=by
 unfold dW
 by_cases hx:x=0
 ·rw[if_pos hx];exact h
 ·rw[if_neg hx]
  show (if v.lat=0 then x else v.lat)≠0
  rw[if_neg h];exact h
theorem eV (v:Vs) (o:Bool):(dQ v o).lat=v.lat:=by unfold dQ;split <;> rfl
theorem Ih.new_ (P:Pm):Ih P bN:=⟨by show 1≤1;omega,by show 1≤5;omega,by show 0<_;omega,by show 0<_;omega,by show 0<_;omega,by show 0<4;omega,fun e=>by have e:(1:Nat)=2∨(1:Nat)=3∨(1:Nat)=4:=e;omega,fun _ _=>⟨rfl,rfl⟩,fun e=>by have e:(1:Nat)=4:=e;omega,rfl,fun e=>by have e:(1:Nat)=5:=e;omega⟩
theorem Ih.life (P:Pm) (s:Sh):Ih P (gi s):=⟨by show 1≤1;omega,by show 1≤5;omega,by show 0<_;omega,by show 0<_;omega,by show 0<_;omega,by show 0<4;omega,fun e=>by have e:(1:Nat)=2∨(1:Nat)=3∨(1:Nat)=4:=e;omega,fun _ _=>⟨rfl,rfl⟩,fun e=>by have e:(1:Nat)=4:=e;omega,rfl,fun e=>by have e:(1:Nat)=5:=e;omega⟩
theorem Ih.note (h:Ih P s) (x:Int):Ih P (fC s x):=⟨h.st1,h.st5,h.ss,h.nm,h.sn,h.ms,h.s4,h.hs,h.run,h.vr,h.lat5⟩
theorem Ih.latch (h:Ih P s) (x:Int):Ih P (bn s x):=by
 unfold bn fC
 split
 ·exact⟨h.st1,h.st5,h.ss,h.nm,h.sn,h.ms,h.s4,h.hs,h.run,(il _ _).trans h.vr,fun e=>kZ (h.lat5 e)⟩
 ·exact⟨h.st1,h.st5,h.ss,h.nm,h.sn,h.ms,h.s4,h.hs,h.run,(il _ _).trans h.vr,fun e=>kZ (h.lat5 e)⟩
theorem Ih.give_of (h:s.ss<4294967296):Ih P (iO s):=⟨by show 1≤1;omega,by show 1≤5;omega,h,by show 0<_;omega,by show 0<_;omega,by show 0<4;omega,fun e=>by have e:(1:Nat)=2∨(1:Nat)=3∨(1:Nat)=4:=e;omega,fun _ _=>⟨rfl,rfl⟩,fun e=>by have e:(1:Nat)=4:=e;omega,ft _ _,fun e=>by have e:(1:Nat)=5:=e;omega⟩
theorem Ih.miss (h:Ih P s):Ih P (cC s):=by
 unfold cC
 split
 ·exact h
 ·split
  ·rename_i h4
   exact⟨h.st1,h.st5,h.ss,h.nm,h.sn,h4,h.s4,h.hs,h.run,h.vr,h.lat5⟩
  ·refine Ih.give_of ?_
   split
   ·rw[(gu _ _).2.1];exact h.ss
   ·exact h.ss
theorem Ih.exh (h1:s.ss<4294967296) (h2:s.nm<4294967296) (h3:s.sn<4294967296) (h4:s.ms<4):Ih P (kf s):=by
 obtain⟨_,f2,f3,f4,_,f6,_⟩:=gu s 80
 refine⟨by show 1≤5;omega,by show 5≤5;omega,by show (bn s 80).ss<_;omega,by show (bn s 80).nm<_;omega,by show (bn s 80).sn<_;omega,by show (bn s 80).ms<4;omega,fun e=>by have e:(5:Nat)=2∨(5:Nat)=3∨(5:Nat)=4:=e;omega,fun _ e=>absurd rfl e,fun e=>by have e:(5:Nat)=4:=e;omega,ft _ _,fun _=>?_⟩
 show (dQ (bn s 80).v false).lat≠0
 rw[eV,uh]
 exact tC (by omega)
theorem Ih.next (hP:Pok P) (h:Ih P s) (h5:s.st≠5):Ih P (bI P s).1:=by
 unfold bI
 by_cases c1:s.st=1
 ·rw[if_pos c1];exact h
 ·rw[if_neg c1]
  by_cases c2:s.st=2
  ·rw[if_pos c2];exact h
  ·rw[if_neg c2]
   by_cases c3:s.st=3
   ·rw[if_pos c3];exact h
   ·rw[if_neg c3]
    have h4:s.st=4:=by have:=h.st1;have:=h.st5;omega
    have hr:=h.run h4
    have hn:=hP.n
    by_cases c4:s.sn+1=P.n
    ·rw[if_pos c4]
     exact Ih.exh (s:={ s with sn:=s.sn+1 }) h.ss h.nm (by show s.sn+1<_;omega) h.ms
    ·rw[if_neg c4]
     exact⟨h.st1,h.st5,h.ss,h.nm,by show s.sn+1<_;omega,h.ms,h.s4,fun e=>absurd h4 e,fun _=>⟨by show s.sn+1<P.n;omega,hr.2⟩,h.vr,h.lat5⟩
theorem sI (h:s.st≠5):(cC s).st≠5:=by
 unfold cC
 split
 ·exact h
 ·split
  ·exact h
  ·show (1:Nat)≠5;omega
theorem Ih.wait (h:Ih P s):Ih P { s with wt:=true }:=⟨h.st1,h.st5,h.ss,h.nm,h.sn,h.ms,h.s4,h.hs,h.run,h.vr,h.lat5⟩
theorem Ih.send (hP:Pok P) (h:Ih P s):Ih P (aG P s):=by
 unfold aG
 by_cases c:s.st=5
 ·rw[if_pos c];exact h
 ·rw[if_neg c];exact (h.miss.next hP (sI c)).wait
theorem Ih.on_ (h:Ih P s):Ih P (pE s):=⟨h.st1,h.st5,h.ss,h.nm,h.sn,by show 0<4;omega,h.s4,h.hs,h.run,h.vr,h.lat5⟩
theorem Ih.recv (hP:Pok P) (h:Ih P s) (len:Nat) (bs:Nat→Nat) (hb:∀ i,i<len→bs i<256):Ih P (cH P s len bs):=by
 unfold cH
 by_cases hE:dF P s len bs≠0
 ·rw[if_pos hE];exact h.note _
 ·rw[if_neg hE]
  have hE:dF P s len bs=0:=by omega
  unfold dF at hE
  by_cases hD:DE bs len≠0
  ·rw[if_pos hD]at hE;exact absurd hE hD
  ·rw[if_neg hD]at hE
   have hD:DE bs len=0:=by omega
   have hl:19≤len:=(jF hD).1
   have hs5:aX bs 5<4294967296:=vL fun j hj=>hb _ (by omega)
   have hs9:aX bs 9<4294967296:=vL fun j hj=>hb _ (by omega)
   generalize aX bs 5=ss at *
   generalize aX bs 9=num at *
   generalize (fun i=>bs (15+i))=ds at *
   generalize bs 13=fl at *
   generalize bs 0=k at *
   have hn2:2≤P.n:=by have:=hP.ok.2.2.2.2;omega
   have hn:=hP.n
   unfold cX at hE
   by_cases hK:iK (k:Int)=false
   ·rw[if_pos hK]at hE;omega
   ·rw[if_neg hK]at hE
    by_cases hC:aX bs 1≠P.c
    ·rw[if_pos hC]at hE;omega
    ·rw[if_neg hC]at hE
     by_cases h1:s.st=1
     ·rw[if_pos h1]at hE
      unfold jx at hE
      by_cases hk:k≠17∨ss≤s.ss
      ·rw[if_pos hk]at hE;omega
      ·obtain rfl:k=17:=by omega
       have h0:=h.hs (by omega) (by omega)
       unfold bZ
       rw[if_pos rfl]
       refine Ih.on_ ⟨by show 1≤2;omega,by show 2≤5;omega,hs5,h.nm,h.sn,h.ms,fun _=>by show ss≠0;omega,fun _ _=>h0,fun e=>by have e:(2:Nat)=4:=e;omega,?_,fun e=>by have e:(2:Nat)=5:=e;omega⟩
       show s.v.run=decide ((2:Nat)=4)
       rw[h.vr,h1];rfl
     ·rw[if_neg h1]at hE
      by_cases ha:ss≠s.ss∨cj P s k num (len-19)=false
      ·rw[if_pos ha]at hE;omega
      ·have ha2:cj P s k num (len-19)=true:=by
        cases hh:cj P s k num (len-19) with
        | true=>rfl
        | false=>exact absurd (.inr hh) ha
       unfold cj at ha2
       have ha3:=of_decide_eq_true ha2
       unfold bZ
       rcases ha3 with ⟨rfl,h2⟩ | ⟨rfl,h3⟩ | ⟨rfl,⟨⟨h4,hm⟩,hp⟩,_⟩ | ⟨rfl,⟨h4,hm⟩,rfl⟩
       ·rw[if_neg (by omega),if_pos rfl]
        have h0:=h.hs (by omega) (by omega)
        refine Ih.on_ ⟨by show 1≤3;omega,by show 3≤5;omega,h.ss,h.nm,h.sn,h.ms,fun _=>h.s4 (.inl h2),fun _ _=>h0,fun e=>by have e:(3:Nat)=4:=e;omega,?_,fun e=>by have e:(3:Nat)=5:=e;omega⟩
        show s.v.run=decide ((3:Nat)=4)
        rw[h.vr,h2];rfl
       ·rw[if_neg (by omega),if_neg (by omega),if_pos rfl]
        have h0:=h.hs (by omega) (by omega)
        refine Ih.on_ ⟨by show 1≤4;omega,by show 4≤5;omega,h.ss,h.nm,h.sn,h.ms,fun _=>h.s4 (.inr (.inl h3)),fun e=>absurd rfl e,fun _=>⟨by show s.sn<P.n;omega,by show s.nm<P.n;omega⟩,ft _ _,fun e=>by have e:(4:Nat)=5:=e;omega⟩
       ·rw[if_neg (by omega),if_neg (by omega),if_neg (by omega),if_pos rfl]
        have hr:=h.run h4
        refine⟨h.st1,h.st5,h.ss,hs9,h.sn,by show 0<4;omega,h.s4,fun e=>absurd h4 e,fun _=>⟨hr.1,hp⟩,?_,fun e=>by have e:s.st=5:=e;omega⟩
        show (dI (fH (dM s.v) (decide (8≤fl))) ds).run=decide (s.st=4)
        rw[mn];exact h.vr
       ·rw[if_neg (by omega),if_neg (by omega),if_neg (by omega),if_neg (by omega),if_pos rfl]
        exact Ih.exh (s:=pE { s with nm:=P.n }) h.ss (by show P.n<_;omega) h.sn (by show 0<4;omega)
theorem Ih.tick (h:Ih P s) (k:Int):Ih P (fc P s k):=by
 unfold fc
 by_cases c:k<0
 ·rw[if_pos c];exact h
 ·rw[if_neg c]
  have h':Ih P { s with dc:=tk P.t s.dc k.toNat }:=⟨h.st1,h.st5,h.ss,h.nm,h.sn,h.ms,h.s4,h.hs,h.run,h.vr,h.lat5⟩
  split
  ·exact h'.latch 100
  ·exact h'
theorem Ih.ack (h:Ih P s):Ih P (eM s):=by
 refine⟨h.st1,h.st5,h.ss,h.nm,h.sn,h.ms,h.s4,h.hs,h.run,(pq _).trans h.vr,fun e=>?_⟩
 have e:s.st=5:=e
 have hr:s.v.run=false:=by rw[h.vr,e];rfl
 show (gG s.v).lat≠0
 unfold gG aq
 rw[hr,if_neg (by simp)]
 exact h.lat5 e
theorem Ih.write (h:Ih P s) (len:Nat) (bs:Nat→Nat) (o:Bool):Ih P (eu P s len bs o):=by
 unfold eu
 split
 ·exact⟨h.st1,h.st5,h.ss,h.nm,h.sn,h.ms,h.s4,h.hs,h.run,h.vr,h.lat5⟩
 ·exact h
theorem nZ (s:Sh):(kf s).L.length≤s.L.length+1:=iz s 80
theorem sH (s:Sh):(cC s).L.length≤s.L.length+1:=by
 unfold cC
 split
 ·omega
 ·split
  ·show s.L.length≤_;omega
  ·show (iO _).L.length≤_
   unfold iO
   split
   ·exact iz { s with ms:=s.ms+1 } 131
   ·show s.L.length≤_;omega
theorem sK (P:Pm) (s:Sh):(bI P s).1.L.length≤s.L.length+1:=by
 unfold bI
 by_cases c1:s.st=1
 ·rw[if_pos c1];show s.L.length≤_;omega
 ·rw[if_neg c1]
  by_cases c2:s.st=2
  ·rw[if_pos c2];show s.L.length≤_;omega
  ·rw[if_neg c2]
   by_cases c3:s.st=3
   ·rw[if_pos c3];show s.L.length≤_;omega
   ·rw[if_neg c3]
    by_cases c4:s.sn+1=P.n
    ·rw[if_pos c4];exact nZ { s with sn:=s.sn+1 }
    ·rw[if_neg c4];show s.L.length≤_;omega
theorem sM (P:Pm) (s:Sh):(aG P s).L.length≤s.L.length+2:=by
 unfold aG
 by_cases c:s.st=5
 ·rw[if_pos c];omega
 ·rw[if_neg c]
  show (bI P (cC s)).1.L.length≤_
  have:=sK P (cC s)
  have:=sH s
  omega
end
end Go.Proofs.YtenilkloffnjlaaGreat
