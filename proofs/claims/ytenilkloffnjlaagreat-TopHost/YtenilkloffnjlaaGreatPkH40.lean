/- Part 41: contracts that the proof rests on. -/
import Derived.Test.YtenilkloffnjlaaGreatPkH38
import Derived.Test.YtenilkloffnjlaaGreatPkH39
set_option maxHeartbeats 64000000
set_option maxRecDepth 100000
namespace Go.Proofs.YtenilkloffnjlaaGreat
open Tryz
open Go.RowKit Go.Maps
set_option linter.unusedVariables false
def s0 (P Q:Pm) (mx:Nat):Ws:=⟨1,fun _=>P,fun _=>Q,fun _=>bV,fun _=>dD M0,mx,[],0,[]⟩
def gw (L:Pw):Nat→Thing:=fun q=>if q % 2=0 then L.t (q / 2) else pQ
def ev (j:Nat):Nat:=2*j
theorem jY (L:Pw):Fre ev (gw L) 0:=fun q _=>⟨fun j=>by unfold ev;omega,by unfold gw;rw[if_neg (by omega)]⟩
theorem ys (L:Pw):Wat ev (gw L) L:=⟨fun i j h=>by unfold ev at h;omega,fun j=>by unfold gw ev;rw[if_pos (by omega),show 2*j / 2=j by omega]⟩
theorem wI (w:World):Calls prog 46 #[] w fun r w'=>r=.returned (.agg bC)∧Below w.heap.size w w':=by
 go_enter func46,ntmps46
 go_wp2_with fail
 refine bodyPost_ret (v:=.agg bC) (by simp[results,results46,go_sem]) rfl ⟨rfl,?_⟩
 exact aF (Below.refl _ _) _
theorem ab7 (w:World):Calls prog 23 #[] w fun r w'=>∃ q0 q1,r=.returned (.agg #[.slice (af q0 0) 1 1,.slice (af q1 0) 1 1,.int .u32 50])∧Hid (w'.heap[q0]?=some (.cells bC 83 (0,0))∧w'.heap[q1]?=some (.cells bC 83 (0,0))∧Below w.heap.size w w'):=by
 have hS:=fun wx=>wI wx
 have b1:Below w.heap.size w (w.alloc (.cells #[.slice none 0 0,.slice none 0 0,.int .u32 0] 30)):=aF (Below.refl _ _) _
 have hk:=aB w (.cells #[.slice none 0 0,.slice none 0 0,.int .u32 0] 30)
 have z1:=io w (.cells #[.slice none 0 0,.slice none 0 0,.int .u32 0] 30)
 go_enter func23,ntmps23
 go_wp2_with fail
 refine (hS _).mono ?_
 rintro r w3 ⟨rfl,b3⟩
 have k3:=(b3.block w.heap.size (by rw[z1];omega)).trans hk
 have b5:Below w3.heap.size w3 (((w3.alloc (.cells bC 83)).alloc (.cells bC 83)).alloc (.cells bC 83)):=aF (aF (aF (Below.refl _ _) _) _) _
 have l3:w.heap.size<w3.heap.size:=by have:=b3.size;rw[z1]at this;omega
 have k5:=(b5.block w.heap.size l3).trans k3
 have y0:=ae (((w3.alloc (.cells bC 83)).alloc (.cells bC 83)).alloc (.cells bC 83)) _ 0 _ _ _ k5
 have y1:=ae (((w3.alloc (.cells bC 83)).alloc (.cells bC 83)).alloc (.cells bC 83)) _ 1 _ _ _ k5
 have y2:=ae (((w3.alloc (.cells bC 83)).alloc (.cells bC 83)).alloc (.cells bC 83)) _ 2 _ _ _ k5
 have yz:=fun k=>frozen_of_row (((w3.alloc (.cells bC 83)).alloc (.cells bC 83)).alloc (.cells bC 83)) _ k _ _ k5
 have u1:=io w3 (.cells bC 83)
 have u2:=sz2 w3 (.cells bC 83) (.cells bC 83)
 have n1:(((w3.alloc (.cells bC 83)).alloc (.cells bC 83)).alloc (.cells bC 83)).heap[w3.heap.size+1]?=some (.cells bC 83 (0,0)):=(Below.heap_alloc _ _ _ (by rw[u2];omega)).trans (by rw[← u1];exact aB _ _)
 have n2:(((w3.alloc (.cells bC 83)).alloc (.cells bC 83)).alloc (.cells bC 83)).heap[w3.heap.size+1+1]?=some (.cells bC 83 (0,0)):=by rw[show w3.heap.size+1+1=w3.heap.size+2 by omega,← u2];exact aB _ _
 have HN:Hid (_):=And.intro n1 (And.intro n2 (And.intro b3 (And.intro b5 l3)))
 have HB1:Hid (_):=b1
 have HZ1:Hid (_):=z1
 clear n1 n2 b3 b5 k3 k5 hk b1 z1 u1 u2
 go_wp2_with fail
 refine bodyPost_ret (v:=.agg #[.slice (af (w3.heap.size+1) 0) 1 1,.slice (af (w3.heap.size+1+1) 0) 1 1,.int .u32 50]) (by simp[results,results23,go_sem,y0,y1,y2]) rfl ?_
 obtain⟨n1,n2,b3,b5,l3⟩:=HN.out
 have o:Off [w.heap.size] (((w3.alloc (.cells bC 83)).alloc (.cells bC 83)).alloc (.cells bC 83)) ((((((w3.alloc (.cells bC 83)).alloc (.cells bC 83)).alloc (.cells bC 83)).setCell ⟨w.heap.size,0,none⟩ (.slice (af (w3.heap.size+1) 0) 1 1)).setCell ⟨w.heap.size,1,none⟩ (.slice (af (w3.heap.size+1+1) 0) 1 1)).setCell ⟨w.heap.size,2,none⟩ (.int .u32 50)):=((Off.setCell _ 0 _ _).trans (Off.setCell _ 1 _ _)).trans (Off.setCell _ 2 _ _)
 have s5:=sz3 w3 (.cells bC 83) (.cells bC 83) (.cells bC 83)
 have m1:=(o.block (w3.heap.size+1) (by omega) (by simp;omega)).trans n1
 have m2:=(o.block (w3.heap.size+1+1) (by omega) (by simp;omega)).trans n2
 have bw:Below w.heap.size w (((w3.alloc (.cells bC 83)).alloc (.cells bC 83)).alloc (.cells bC 83)):=(HB1.out.trans (b3.mono (by rw[HZ1.out];omega))).trans (b5.mono (by omega))
 exact⟨_,_,rfl,m1,m2,o.below bw (fun k hk=>by simp at hk;omega) bw.size⟩
open Go.RowKit
theorem ya (w:World):(Instr.buildSlice 37 0 #[]).run prog w=.ok (.slice (af w.heap.size 0) 0 0) (w.alloc (.cells #[] 5)):=by kernel_rfl
theorem jG {P:Program} {ops:Array Oper} {rest:List Oper} {op:Oper} {a:Act} {w:World} {Q:Exit→Act→World→Prop} (hw:Region.wanted op (yielded ops a.tmps)=true) (ty:TypeId) (x:Operand) (ho:op.op=.load ty x)
  (b o:Nat) (hx:a.eval x=ac b o) (cs:List Value) (d:TypeDesc) (hc:w.rangeAt b o cs)
  (hu:P.underlying ty=some d) (hd:d.isRow=true) (hi:(P.info? ty).map (·.size)=some cs.length)
  (h:wpList P ops Q rest (a.put op.dst (.agg cs.toArray)) w):wpList P ops Q (op :: rest) a w:=by
 unfold wpList
 rw[if_pos hw]
 exact .inl (wp_load_mid ty x ho b o hx cs d hc hu hd hi h)
theorem gL {P:Program} {ops:Array Oper} {rest:List Oper} {op:Oper} {a:Act} {w:World} {Q:Exit→Act→World→Prop} (hgd:op.guard=none) (v:Value) (hrun:(execOp a.eval op).run P w=.ok (.value v) w) (h:wpList P ops Q rest (a.put op.dst v) w):wpList P ops Q (op :: rest) a w:=
 wpList_plain hgd fun _ hK=>by
  unfold Oper.wp
  rw[hrun]
  exact hK _ _ h
theorem iD {P:Program} {w:World} {b o:Nat} {A:Array Value} (ht:w.there b o A.size) (h1:A.all (·.oneCell')=true):(storeCells ⟨b,o,none⟩ A.toList).run P w=.ok () (w.setCells b o A.toList):=by
 have:=run_storeCells_cells (P:=P) b o A.toList 0 w (fun j hj=>by simpa using (ht j (by simpa using hj)).1) (fun j hj=>by simpa using (ht j (by simpa using hj)).2)
  (fun v hv=>(Array.all_eq_true_iff_forall_mem.1 h1) v (by simpa using hv))
 simp only[Nat.add_zero]at this
 exact this
def mv1:Mv:=⟨2,0,0,0,0,0,0,false,0,fun _=>0⟩
def iT:Mv:=⟨3,0,2,0,0,0,0,false,0,fun _=>0⟩
theorem PWn.dropR {e:Nat→Nat} {w0 w:World} {t:Nat→Thing} {L:Pw} {S:Ws} {i:Nat} {m:Mv} {S':Ws} {k:Nat} {a:Option Addr} {c:Nat} {ah:Option Addr} {ch:Nat} {ad:Option Addr} {cd:Nat} (h:PWn e w0 (zh t i m S' k a c ah ch ad cd) L w S) (F:Fre e t i):PWn e w0 t L w S:=by
 unfold zh at h
 have h1:=h.drop (F (i+3) (by omega)).1 (by rw[an _ _ (by omega),an _ _ (by omega)];exact (F (i+3) (by omega)).2)
 have h2:=h1.drop (F (i+2) (by omega)).1 (by rw[an _ _ (by omega)];exact (F (i+2) (by omega)).2)
 exact h2.drop (F (i+1) (by omega)).1 (F (i+1) (by omega)).2
theorem PWn.layL {e:Nat→Nat} {w0 w:World} {t:Nat→Thing} {L:Pw} {S:Ws} {w1:World} (h:PWn e w0 t L w1 S) (b:Below w1.heap.size w1 w) {i:Nat} (hi:∀ j,i≠e j) {l:List (Nat × Obj)} (R:∀ p,p ∈ l→w.heap[p.1]?=some p.2) (bV:∀ p,p ∈ l→w1.heap.size≤p.1):PWn e w0 (aJ t i (fC l)) L w S:=by
 obtain⟨t1,L1,h1,hs,hx,he⟩:=h
 exact⟨_,L1,h1.layL b hi R bV,hs,hx,he.putB _ _⟩
theorem aa5 {e:Nat→Nat} {w0 w:World} {t:Nat→Thing} {L:Pw} {S:Ws} (h:PWn e w0 t L w S):Calls prog 25 #[ac L.x 0] w fun r w'=>r=.returned (.int .i64 (S.mv:Nat))∧w'=w:=by
 obtain⟨t1,L1,h1,hs,hx,he⟩:=h
 subst hs
 have hb:=(h1.2.wb h1.1).blk
 have c4:w.cell? ⟨L1.x,4,none⟩=some (ac L1.b 0):=ae w L1.x 4 _ _ _ hb
 have c5:w.cell? ⟨L1.x,5,none⟩=some (.int .i64 (L1.S.mv:Nat)):=ae w L1.x 5 _ _ _ hb
 rw[hx.x]at c4 c5
 have hN:=pX L.x L1.b w c4
 obtain⟨X,hX⟩:∃ y,L.x=y:=⟨_,rfl⟩
 obtain⟨v,hv⟩:∃ y,L1.S.mv=y:=⟨_,rfl⟩
 rw[hX]at c5 hN ⊢
 rw[hv]at c5 ⊢
 clear h1 hx he hb c4 hX hv
 go_enter func25,ntmps25
 go_wp2_with fail
 refine hN.mono ?_
 rintro r w2 ⟨rfl,rfl⟩
 go_wp2_with fail
 go_ret
 exact⟨rfl,rfl⟩
theorem yS {e:Nat→Nat} {w0 w:World} {t:Nat→Thing} {L:Pw} {S:Ws} (h:PWn e w0 t L w S):Calls prog 24 #[ac L.x 0] w fun r w'=>r=.returned (.int .i64 (S.bg.length:Nat))∧w'=w:=by
 obtain⟨t1,L1,h1,hs,hx,he⟩:=h
 subst hs
 have hb:=(h1.2.wb h1.1).blk
 have c4:w.cell? ⟨L1.x,4,none⟩=some (ac L1.b 0):=ae w L1.x 4 _ _ _ hb
 have hL:=uN 0 L1.b L1.m L1.bv L1.bs L1.bp L1.S.bg w (h1.2.bg h1.1).1
 rw[hx.x]at c4
 have hN:=pX L.x L1.b w c4
 obtain⟨X,hX⟩:∃ y,L.x=y:=⟨_,rfl⟩
 obtain⟨b,hbb⟩:∃ y,L1.b=y:=⟨_,rfl⟩
 obtain⟨v,hv⟩:∃ y,L1.S.bg.length=y:=⟨_,rfl⟩
 rw[hX,hbb]at c4
 rw[hX]at hN
 rw[hbb,hv]at hL
 rw[hX,hv]
 clear h1 hx he hb hX hv hbb
 go_enter func24,ntmps24
 go_wp2_with fail
 refine hN.mono ?_
 rintro r w2 ⟨rfl,rfl⟩
 go_wp2_with fail
 refine hL.mono ?_
 rintro r w2 ⟨rfl,rfl⟩
 go_wp2_with fail
 go_ret
 exact⟨rfl,rfl⟩
theorem aV (S:Ws) (k s:Nat) (f:Fm):(S.put k s f).n=S.n∧(S.put k s f).ds=S.ds∧(S.put k s f).hs=S.hs∧(S.put k s f).PD=S.PD∧(S.put k s f).PH=S.PH∧(S.put k s f).mx=S.mx∧(S.put k s f).mv=S.mv∧(S.put k s f).fs.length≤S.fs.length+1:=by
 unfold Ws.put
 split
 ·exact⟨rfl,rfl,rfl,rfl,rfl,rfl,rfl,Nat.le_succ _⟩
 ·refine⟨rfl,rfl,rfl,rfl,rfl,rfl,rfl,?_⟩
  show (S.fs ++ dW 1 k s f).length≤_
  rw[List.length_append]
  unfold dW
  split <;> simp
theorem wJ (S:Ws) (k s:Nat) (f:Fm) (h:f.1≠0):(S.put k s f).bg=S.bg ++ [f]∧S.putI f=((S.bg.length:Nat):Int):=by
 unfold Ws.put Ws.putI
 rw[if_neg h,if_neg h]
 exact⟨rfl,rfl⟩
def aS1:Ws:=((s0 P0 P0 50).up.snd 0).S
def dN (T:Ws):Ws:=(T.note [oH T 0,oD T 0])
def qO (T:Ws):Wr:=(dN T).up.dlv iT 0
structure A1 (T:Ws):Prop where
 bg:T.bg=[dJ P0]
 n:T.n=1
 ds:T.ds=(fun _=>dD M0)
 PD:T.PD=(fun _=>P0)
 mx:T.mx=50
 mv:T.mv=1
 fs:T.fs.length≤1
 hs:T.hs 0=aM P0 bV
theorem xA:aL P0 bV=dJ P0:=xC P0 oJ
theorem a1:((s0 P0 P0 50).up.snd 0).e=0∧((s0 P0 P0 50).up.snd 0).i=0∧A1 aS1:=by
 obtain⟨p1,p2,p3,p4,p5,p6,p7,p8⟩:=aV ((s0 P0 P0 50).up.setH 0 (aM P0 bV)) 0 1 (aL P0 bV)
 obtain⟨q1,q2⟩:=wJ ((s0 P0 P0 50).up.setH 0 (aM P0 bV)) 0 1 (aL P0 bV) (by rw[xA];exact Nat.succ_ne_zero 22)
 refine⟨rfl,q2,?_,p1,p2,p4,p6,p7,p8,?_⟩
 ·show (((s0 P0 P0 50).up.setH 0 (aM P0 bV)).put 0 1 (aL P0 bV)).bg=_
  rw[q1,xA]
  rfl
 ·show (((s0 P0 P0 50).up.setH 0 (aM P0 bV)).put 0 1 (aL P0 bV)).hs 0=_
  rw[p3]
  rfl
theorem zP:(cS 17 P0.c 1 0 0 4 (lL P0)).1=23:=by
 have e:cS 17 P0.c 1 0 0 4 (lL P0)=(15+4+4,PM.sl (fr 17 P0.c 1 0 0 4 (lL P0)) (15+4)):=if_pos (uE (by decide) (by decide))
 rw[e]
theorem aD {T:Ws} (q:A1 T):ay ((dN T).up.PD 0) (dN T).up.mx 16 ((dN T).up.ds 0) ((dN T).up.fr iT).1 ((dN T).up.fr iT).2=ay P0 50 16 (dD M0) (dJ P0).1 (dJ P0).2:=by
 obtain⟨b1,_,b3,b4,b5,_⟩:=q
 have e1:(dN T).up.PD 0=P0:=by show T.PD 0=P0;rw[b4]
 have e2:(dN T).up.mx=50:=b5
 have e3:(dN T).up.ds 0=dD M0:=by show T.ds 0=_;rw[b3]
 have e4:(dN T).up.fr iT=dJ P0:=by
  unfold Ws.fr
  rw[if_neg (by decide)]
  show T.bg.getD 0 cZ=_
  rw[b1]
  rfl
 rw[e1,e2,e3,e4]
theorem a3 {T:Ws} (q:A1 T):(qO T).e=0∧(qO T).i=1∧(qO T).S.bg.length=2∧(qO T).S.mv=2∧(qO T).S.n=1∧((qO T).S.ds 0).st=2∧(qO T).S.fs.length≤100:=by
 obtain⟨f1,f2,f3⟩:=kO P0 oJ 50 (by omega)
 have hd:=aD q
 obtain⟨b1,b2,b3,b4,b5,b6,b7,b8⟩:=q
 have e0:qO T=(dN T).up.toD 0 ((dN T).up.fr iT):=by
  unfold qO Ws.dlv
  rw[if_neg (by decide)]
 obtain⟨D,hD⟩:∃ y,ay P0 50 16 (dD M0) (dJ P0).1 (dJ P0).2=y:=⟨_,rfl⟩
 rw[hD]at hd f1 f2 f3
 have fne:D.f.1≠0:=by rw[f3,zP];decide
 rw[e0]
 unfold Ws.toD
 rw[hd]
 obtain⟨p1,p2,p3,p4,p5,p6,p7,p8⟩:=aV ((dN T).up.toD2 0 ((dN T).up.fr iT)) 0 2 D.f
 obtain⟨q1,q2⟩:=wJ ((dN T).up.toD2 0 ((dN T).up.fr iT)) 0 2 D.f fne
 have t1:(dN T).up.toD1 0 ((dN T).up.fr iT)=((dN T).up.setD 0 D.s).note (ee 0 ((dN T).up.ds 0) D.s):=by unfold Ws.toD1;rw[hd]
 have g:∀ V:Ws,(V=(dN T).up.toD1 0 ((dN T).up.fr iT)∨V=((dN T).up.toD1 0 ((dN T).up.fr iT)).note (cO 0 2 ((dN T).up.fr iT)))→V.bg=T.bg∧V.mv=T.mv+1∧V.n=T.n∧V.ds 0=D.s∧V.fs.length≤10:=by
  have l1:=kN 0 ((dN T).up.ds 0) D.s
  have l2:=fV 0 2 ((dN T).up.fr iT)
  have l0:(dN T).up.fs.length≤3:=by
   show (T.fs ++ [oH T 0,oD T 0]).length≤3
   rw[List.length_append]
   simp
   omega
  intro V hT
  rcases hT with rfl | rfl
  ·rw[t1]
   refine⟨rfl,rfl,rfl,(show aG (dN T).up.ds 0 D.s 0=D.s from ai _ _ _),?_⟩
   show ((dN T).up.fs ++ ee 0 ((dN T).up.ds 0) D.s).length≤10
   rw[List.length_append]
   omega
  ·rw[t1]
   refine⟨rfl,rfl,rfl,(show aG (dN T).up.ds 0 D.s 0=D.s from ai _ _ _),?_⟩
   show (((dN T).up.fs ++ ee 0 ((dN T).up.ds 0) D.s) ++ cO 0 2 ((dN T).up.fr iT)).length≤10
   rw[List.length_append,List.length_append]
   omega
 have h2:(dN T).up.toD2 0 ((dN T).up.fr iT)=(dN T).up.toD1 0 ((dN T).up.fr iT)∨(dN T).up.toD2 0 ((dN T).up.fr iT)=((dN T).up.toD1 0 ((dN T).up.fr iT)).note (cO 0 2 ((dN T).up.fr iT)):=by
  unfold Ws.toD2
  split
  ·exact .inr rfl
  ·exact .inl rfl
 obtain⟨g1,g2,g3,g4,g5⟩:=g _ h2
 refine⟨f1,?_,?_,?_,?_,?_,?_⟩
 ·show ((dN T).up.toD2 0 ((dN T).up.fr iT)).putI D.f=1
  rw[q2,g1,b1]
  rfl
 ·show (((dN T).up.toD2 0 ((dN T).up.fr iT)).put 0 2 D.f).bg.length=2
  rw[q1,g1,b1]
  rfl
 ·show (((dN T).up.toD2 0 ((dN T).up.fr iT)).put 0 2 D.f).mv=2
  rw[p7,g2,b6]
 ·show (((dN T).up.toD2 0 ((dN T).up.fr iT)).put 0 2 D.f).n=1
  rw[p1,g3,b2]
 ·show ((((dN T).up.toD2 0 ((dN T).up.fr iT)).put 0 2 D.f).ds 0).st=2
  rw[p2,g4]
  exact f2
 ·show (((dN T).up.toD2 0 ((dN T).up.fr iT)).put 0 2 D.f).fs.length≤100
  omega
theorem acN:(s0 P0 P0 50).Ok mv1:=⟨by decide,by decide,by decide,by decide,by decide,fun h=>absurd h (by decide),fun h=>absurd h (by decide),fun h=>absurd h (by decide)⟩
theorem acO {T:Ws} (q:A1 T):(dN T).Ok iT:=by
 obtain⟨b1,b2,_,_,_,b6,_⟩:=q
 refine⟨by show T.mv<4096;omega,by decide,by decide,by decide,?_,fun _=>.inr rfl,fun _=>⟨by decide,?_⟩,fun h=>absurd h (by decide)⟩
 ·show (0:Int) < ((T.n:Nat):Int)
  rw[b2]
  decide
 ·show (0:Int) < ((T.bg.length:Nat):Int)
  rw[b1]
  decide
theorem aw1 {w0 w:World} {t:Nat→Thing} {L:Pw} (h:PW ev w0 w t L) (F:Fre ev t 0) (hS:L.S=s0 P0 P0 50):Calls prog 11 #[ac L.x 0,.agg #[.int .i64 2,.int .i64 0,.int .i64 0,.int .i64 0,.int .i64 0,.int .u32 0,.int .i64 0,.bool false,.slice none 0 0]] w fun r w'=>∃ A:Array Value,r=.returned (.tuple #[.agg A,.int .i64 0])∧A.size=29∧A.all (·.oneCell')=true∧A.toList[10]?=some (.int .i64 0)∧Hid (PWn ev w0 t L w' (dN aS1)):=by
 obtain⟨b0,bi,b1,b2,b3,b4,b5,b6,b7,b8⟩:=a1
 have hk:L.S.Ok mv1:=by rw[hS];exact acN
 have hP:=wD ev w0 w t L 0 0 mv1 none 0 ((s0 P0 P0 50).up.snd 0).e ((s0 P0 P0 50).up.snd 0).i aS1 h F (by rw[hS];decide) (by rw[hS];decide) ⟨fun i hi=>absurd hi (Nat.not_lt_zero i),fun _=>⟨rfl,rfl⟩,fun x hx=>(by cases hx),Nat.le_refl _⟩ (fun y hy=>by cases hy) (by decide) (by rw[b2,hS];rfl) (by omega)
  (wG ev w0 w t L mv1 none 0 h hk (by decide) (by decide) (by decide) (by decide))
  (fun a' c' w1 t1 q F1 _=>by
    rw[hS]at q
    exact zV 0 2 mv1 a' c' q F1 rfl (by decide) (by decide) (by decide) (by decide) (by decide) (fun e=>absurd e (by decide)) (by decide) (by intro j hj;exact dH 1 P0.c 0 0 0 4 (lL P0) (fF P0) j hj) (by show (aL P0 bV).1≤27;rw[xA];exact (by decide:(23:Nat)≤27)))
 refine hP.mono ?_
 rintro r w' ⟨a',c',ah,ch,ad,cd,rfl,H⟩
 rw[b0,bi]
 exact⟨_,rfl,rfl,by kernel_rfl,rfl,H.out.dropR F⟩
theorem aw2 {T:Ws} (q:A1 T) {w0 w:World} {t:Nat→Thing} {L:Pw} {i:Nat} (h:PWn ev w0 t L w (dN T)) (F:Fre ev t i):Calls prog 11 #[ac L.x 0,.agg #[.int .i64 3,.int .i64 0,.int .i64 2,.int .i64 0,.int .i64 0,.int .u32 0,.int .i64 0,.bool false,.slice none 0 0]] w fun r w'=>∃ A:Array Value,r=.returned (.tuple #[.agg A,.int .i64 0])∧A.size=29∧A.all (·.oneCell')=true∧A.toList[10]?=some (.int .i64 1)∧A.toList[20]?=some (.int .i64 2)∧Hid (PWn ev w0 t L w' ((qO T).S.note [oH (qO T).S 0,oD (qO T).S 0])):=by
 have hd:=aD q
 have hkk:=acO q
 obtain⟨c0,ci,c1,c2,c3,c4,c5⟩:=a3 q
 obtain⟨b1,b2,b3,b4,b5,b6,b7,b8⟩:=q
 obtain⟨f1,f2,f3⟩:=kO P0 oJ 50 (by omega)
 obtain⟨t1,L1,h1,hs,hx,he⟩:=h
 have F1:=F.els he
 have hk:L1.S.Ok iT:=by rw[hs];exact hkk
 have hP:=wD ev w0 w t1 L1 i 0 iT none 0 (qO T).e (qO T).i (qO T).S h1 F1 (by rw[hs];show 0<T.n;omega) (by rw[hs];show T.mv<4096;omega) ⟨fun i hi=>absurd hi (Nat.not_lt_zero i),fun _=>⟨rfl,rfl⟩,fun x hx=>(by cases hx),Nat.le_refl _⟩ (fun y hy=>by cases hy) (by decide) (by rw[c3,hs];exact b2.symm) (by omega)
  (wG ev w0 w t1 L1 iT none 0 h1 hk (by decide) (by decide) (by decide) (by decide))
  (fun a' c' w1 t2 q F2 _=>by
    rw[hs]at q
    exact zX 0 (i+2) iT a' c' q F2 (.inl rfl) rfl (by show 0<T.n;omega) (by show (T.fs ++ [oH T 0,oD T 0]).length≤80000;rw[List.length_append];simp;omega) (by show T.bg.length<4096;rw[b1];decide) (by decide) (by show (0:Int) < ((T.bg.length:Nat):Int);rw[b1];decide) (by decide) (fun e=>absurd e (by decide))
     (by show (T.hs 0).L.length<800000;rw[b8];decide) (by show (T.ds 0).st=4→_;rw[b3];intro e;exact absurd e (by decide)) (by show (T.ds 0).od<4;rw[b3];decide) (by show (T.ds 0).L.length<800000;rw[b3];decide) (by show (T.ds 0).ms.t<9223372036854774000;rw[b3];decide)
     (by rw[hd,f3];exact dH 17 P0.c 1 0 0 4 (lL P0) (fF P0)) (by rw[hd,f3,zP];decide))
 rw[hx.x]at hP
 refine hP.mono ?_
 rintro r w' ⟨a',c',ah,ch,ad,cd,rfl,H⟩
 rw[c0,ci,c4]
 exact⟨_,rfl,rfl,by kernel_rfl,rfl,rfl,PWn.bind hx he (H.out.dropR F1)⟩
section
variable {w wr w':World} {g:Nat} {fs:List Fa}
end
end Go.Proofs.YtenilkloffnjlaaGreat
namespace Go.Proofs.YtenilkloffnjlaaGreat
open Tryz
open Go.RowKit
section
variable {P:Pm} {s:Sh}
theorem iP (s:Sh) (x:Int):(be s x).v=du s.v x:=by unfold be eX;split <;> rfl
theorem cD (s:Sh) (x:Int):(be s x).st=s.st∧(be s x).ss=s.ss∧(be s x).nm=s.nm∧(be s x).sn=s.sn∧(be s x).wt=s.wt∧(be s x).ms=s.ms∧(be s x).ap=s.ap∧(be s x).hd=s.hd∧(be s x).dc=s.dc:=by unfold be eX;split <;> exact⟨rfl,rfl,rfl,rfl,rfl,rfl,rfl,rfl,rfl⟩
theorem iy (s:Sh) (x:Int):(be s x).L.length≤s.L.length+1:=by unfold be eX;split <;> simp
theorem mV {v:Vs} {x:Int} (hx:x≠0):(du v x).lat≠0:=by
 unfold du
 rw[if_neg hx]
 show (if v.lat=0 then x else v.lat)≠0
 split <;> assumption
theorem lF {v:Vs} {x:Int} (h:v.lat≠0):(du v x).lat≠0:=by
 unfold du
 by_cases hx:x=0
 ·rw[if_pos hx];exact h
 ·rw[if_neg hx]
  show (if v.lat=0 then x else v.lat)≠0
  rw[if_neg h];exact h
theorem mR (v:Vs) (o:Bool):(dS v o).lat=v.lat:=by unfold dS;split <;> rfl
theorem Ih.new_ (P:Pm):Ih P bV:=⟨by show 1≤1;omega,by show 1≤5;omega,by show 0<_;omega,by show 0<_;omega,by show 0<_;omega,by show 0<4;omega,fun e=>by have e:(1:Nat)=2∨(1:Nat)=3∨(1:Nat)=4:=e;omega,fun _ _=>⟨rfl,rfl⟩,fun e=>by have e:(1:Nat)=4:=e;omega,rfl,fun e=>by have e:(1:Nat)=5:=e;omega⟩
theorem Ih.life (P:Pm) (s:Sh):Ih P (eW s):=⟨by show 1≤1;omega,by show 1≤5;omega,by show 0<_;omega,by show 0<_;omega,by show 0<_;omega,by show 0<4;omega,fun e=>by have e:(1:Nat)=2∨(1:Nat)=3∨(1:Nat)=4:=e;omega,fun _ _=>⟨rfl,rfl⟩,fun e=>by have e:(1:Nat)=4:=e;omega,rfl,fun e=>by have e:(1:Nat)=5:=e;omega⟩
theorem Ih.note (h:Ih P s) (x:Int):Ih P (eX s x):=⟨h.st1,h.st5,h.ss,h.nm,h.sn,h.ms,h.s4,h.hs,h.run,h.vr,h.lat5⟩
theorem Ih.latch (h:Ih P s) (x:Int):Ih P (be s x):=by
 unfold be eX
 split
 ·exact⟨h.st1,h.st5,h.ss,h.nm,h.sn,h.ms,h.s4,h.hs,h.run,(ie _ _).trans h.vr,fun e=>lF (h.lat5 e)⟩
 ·exact⟨h.st1,h.st5,h.ss,h.nm,h.sn,h.ms,h.s4,h.hs,h.run,(ie _ _).trans h.vr,fun e=>lF (h.lat5 e)⟩
theorem Ih.give_of (h:s.ss<4294967296):Ih P (iO s):=⟨by show 1≤1;omega,by show 1≤5;omega,h,by show 0<_;omega,by show 0<_;omega,by show 0<4;omega,fun e=>by have e:(1:Nat)=2∨(1:Nat)=3∨(1:Nat)=4:=e;omega,fun _ _=>⟨rfl,rfl⟩,fun e=>by have e:(1:Nat)=4:=e;omega,eE _ _,fun e=>by have e:(1:Nat)=5:=e;omega⟩
theorem Ih.miss (h:Ih P s):Ih P (aR s):=by
 unfold aR
 split
 ·exact h
 ·split
  ·rename_i h4
   exact⟨h.st1,h.st5,h.ss,h.nm,h.sn,h4,h.s4,h.hs,h.run,h.vr,h.lat5⟩
  ·refine Ih.give_of ?_
   split
   ·rw[(cD _ _).2.1];exact h.ss
   ·exact h.ss
theorem Ih.exh (h1:s.ss<4294967296) (h2:s.nm<4294967296) (h3:s.sn<4294967296) (h4:s.ms<4):Ih P (fZ s):=by
 obtain⟨_,f2,f3,f4,_,f6,_⟩:=cD s 80
 refine⟨by show 1≤5;omega,by show 5≤5;omega,by show (be s 80).ss<_;omega,by show (be s 80).nm<_;omega,by show (be s 80).sn<_;omega,by show (be s 80).ms<4;omega,fun e=>by have e:(5:Nat)=2∨(5:Nat)=3∨(5:Nat)=4:=e;omega,fun _ e=>absurd rfl e,fun e=>by have e:(5:Nat)=4:=e;omega,eE _ _,fun _=>?_⟩
 show (dS (be s 80).v false).lat≠0
 rw[mR,iP]
 exact mV (by omega)
theorem Ih.next (hP:Pok P) (h:Ih P s) (h5:s.st≠5):Ih P (bj P s).1:=by
 unfold bj
 by_cases c1:s.st=1
 ·rw[if_pos c1];exact h
 ·rw[if_neg c1]
  by_cases c2:s.st=2
  ·rw[if_pos c2];exact h
  ·rw[if_neg c2]
   by_cases c3:s.st=3
   ·rw[if_pos c3];exact h
   ·rw[if_neg c3]
    have h4:s.st=4:=by have:=h.st1;have:=h.st5;omega
    have hr:=h.run h4
    have hn:=hP.n
    by_cases c4:s.sn+1=P.n
    ·rw[if_pos c4]
     exact Ih.exh (s:={ s with sn:=s.sn+1 }) h.ss h.nm (by show s.sn+1<_;omega) h.ms
    ·rw[if_neg c4]
     exact⟨h.st1,h.st5,h.ss,h.nm,by show s.sn+1<_;omega,h.ms,h.s4,fun e=>absurd h4 e,fun _=>⟨by show s.sn+1<P.n;omega,hr.2⟩,h.vr,h.lat5⟩
theorem mj (h:s.st≠5):(aR s).st≠5:=by
 unfold aR
 split
 ·exact h
 ·split
  ·exact h
  ·show (1:Nat)≠5;omega
theorem Ih.wait (h:Ih P s):Ih P { s with wt:=true }:=⟨h.st1,h.st5,h.ss,h.nm,h.sn,h.ms,h.s4,h.hs,h.run,h.vr,h.lat5⟩
theorem Ih.send (hP:Pok P) (h:Ih P s):Ih P (aM P s):=by
 unfold aM
 by_cases c:s.st=5
 ·rw[if_pos c];exact h
 ·rw[if_neg c];exact (h.miss.next hP (mj c)).wait
theorem Ih.on_ (h:Ih P s):Ih P (lM s):=⟨h.st1,h.st5,h.ss,h.nm,h.sn,by show 0<4;omega,h.s4,h.hs,h.run,h.vr,h.lat5⟩
theorem Ih.recv (hP:Pok P) (h:Ih P s) (len:Nat) (bs:Nat→Nat) (hb:∀ i,i<len→bs i<256):Ih P (bu P s len bs):=by
 unfold bu
 by_cases hE:cP P s len bs≠0
 ·rw[if_pos hE];exact h.note _
 ·rw[if_neg hE]
  have hE:cP P s len bs=0:=by omega
  unfold cP at hE
  by_cases hD:DE bs len≠0
  ·rw[if_pos hD]at hE;exact absurd hE hD
  ·rw[if_neg hD]at hE
   have hD:DE bs len=0:=by omega
   have hl:19≤len:=(gN hD).1
   have hs5:aC bs 5<4294967296:=xx fun j hj=>hb _ (by omega)
   have hs9:aC bs 9<4294967296:=xx fun j hj=>hb _ (by omega)
   generalize aC bs 5=ss at *
   generalize aC bs 9=num at *
   generalize (fun i=>bs (15+i))=ds at *
   generalize bs 13=fl at *
   generalize bs 0=k at *
   have hn2:2≤P.n:=by have:=hP.ok.2.2.2.2;omega
   have hn:=hP.n
   unfold gh at hE
   by_cases hK:fE (k:Int)=false
   ·rw[if_pos hK]at hE;omega
   ·rw[if_neg hK]at hE
    by_cases hC:aC bs 1≠P.c
    ·rw[if_pos hC]at hE;omega
    ·rw[if_neg hC]at hE
     by_cases h1:s.st=1
     ·rw[if_pos h1]at hE
      unfold jN at hE
      by_cases hk:k≠17∨ss≤s.ss
      ·rw[if_pos hk]at hE;omega
      ·obtain rfl:k=17:=by omega
       have h0:=h.hs (by omega) (by omega)
       unfold cr
       rw[if_pos rfl]
       refine Ih.on_ ⟨by show 1≤2;omega,by show 2≤5;omega,hs5,h.nm,h.sn,h.ms,fun _=>by show ss≠0;omega,fun _ _=>h0,fun e=>by have e:(2:Nat)=4:=e;omega,?_,fun e=>by have e:(2:Nat)=5:=e;omega⟩
       show s.v.run=decide ((2:Nat)=4)
       rw[h.vr,h1];rfl
     ·rw[if_neg h1]at hE
      by_cases ha:ss≠s.ss∨bY P s k num (len-19)=false
      ·rw[if_pos ha]at hE;omega
      ·have ha2:bY P s k num (len-19)=true:=by
        cases hh:bY P s k num (len-19) with
        | true=>rfl
        | false=>exact absurd (.inr hh) ha
       unfold bY at ha2
       have ha3:=of_decide_eq_true ha2
       unfold cr
       rcases ha3 with ⟨rfl,h2⟩ | ⟨rfl,h3⟩ | ⟨rfl,⟨⟨h4,hm⟩,hp⟩,_⟩ | ⟨rfl,⟨h4,hm⟩,rfl⟩
       ·rw[if_neg (by omega),if_pos rfl]
        have h0:=h.hs (by omega) (by omega)
        refine Ih.on_ ⟨by show 1≤3;omega,by show 3≤5;omega,h.ss,h.nm,h.sn,h.ms,fun _=>h.s4 (.inl h2),fun _ _=>h0,fun e=>by have e:(3:Nat)=4:=e;omega,?_,fun e=>by have e:(3:Nat)=5:=e;omega⟩
        show s.v.run=decide ((3:Nat)=4)
        rw[h.vr,h2];rfl
       ·rw[if_neg (by omega),if_neg (by omega),if_pos rfl]
        have h0:=h.hs (by omega) (by omega)
        refine Ih.on_ ⟨by show 1≤4;omega,by show 4≤5;omega,h.ss,h.nm,h.sn,h.ms,fun _=>h.s4 (.inr (.inl h3)),fun e=>absurd rfl e,fun _=>⟨by show s.sn<P.n;omega,by show s.nm<P.n;omega⟩,eE _ _,fun e=>by have e:(4:Nat)=5:=e;omega⟩
       ·rw[if_neg (by omega),if_neg (by omega),if_neg (by omega),if_pos rfl]
        have hr:=h.run h4
        refine⟨h.st1,h.st5,h.ss,hs9,h.sn,by show 0<4;omega,h.s4,fun e=>absurd h4 e,fun _=>⟨hr.1,hp⟩,?_,fun e=>by have e:s.st=5:=e;omega⟩
        show (dY (fL (dF s.v) (decide (8≤fl))) ds).run=decide (s.st=4)
        rw[mT];exact h.vr
       ·rw[if_neg (by omega),if_neg (by omega),if_neg (by omega),if_neg (by omega),if_pos rfl]
        exact Ih.exh (s:=lM { s with nm:=P.n }) h.ss (by show P.n<_;omega) h.sn (by show 0<4;omega)
theorem Ih.tick (h:Ih P s) (k:Int):Ih P (dP P s k):=by
 unfold dP
 by_cases c:k<0
 ·rw[if_pos c];exact h
 ·rw[if_neg c]
  have h':Ih P { s with dc:=tk P.t s.dc k.toNat }:=⟨h.st1,h.st5,h.ss,h.nm,h.sn,h.ms,h.s4,h.hs,h.run,h.vr,h.lat5⟩
  split
  ·exact h'.latch 100
  ·exact h'
theorem Ih.ack (h:Ih P s):Ih P (jL s):=by
 refine⟨h.st1,h.st5,h.ss,h.nm,h.sn,h.ms,h.s4,h.hs,h.run,(qy _).trans h.vr,fun e=>?_⟩
 have e:s.st=5:=e
 have hr:s.v.run=false:=by rw[h.vr,e];rfl
 show (ja s.v).lat≠0
 unfold ja au
 rw[hr,if_neg (by simp)]
 exact h.lat5 e
theorem Ih.write (h:Ih P s) (len:Nat) (bs:Nat→Nat) (o:Bool):Ih P (di P s len bs o):=by
 unfold di
 split
 ·exact⟨h.st1,h.st5,h.ss,h.nm,h.sn,h.ms,h.s4,h.hs,h.run,h.vr,h.lat5⟩
 ·exact h
theorem pj (s:Sh):(fZ s).L.length≤s.L.length+1:=iy s 80
theorem tK (s:Sh):(aR s).L.length≤s.L.length+1:=by
 unfold aR
 split
 ·omega
 ·split
  ·show s.L.length≤_;omega
  ·show (iO _).L.length≤_
   unfold iO
   split
   ·exact iy { s with ms:=s.ms+1 } 131
   ·show s.L.length≤_;omega
theorem tM (P:Pm) (s:Sh):(bj P s).1.L.length≤s.L.length+1:=by
 unfold bj
 by_cases c1:s.st=1
 ·rw[if_pos c1];show s.L.length≤_;omega
 ·rw[if_neg c1]
  by_cases c2:s.st=2
  ·rw[if_pos c2];show s.L.length≤_;omega
  ·rw[if_neg c2]
   by_cases c3:s.st=3
   ·rw[if_pos c3];show s.L.length≤_;omega
   ·rw[if_neg c3]
    by_cases c4:s.sn+1=P.n
    ·rw[if_pos c4];exact pj { s with sn:=s.sn+1 }
    ·rw[if_neg c4];show s.L.length≤_;omega
theorem tO (P:Pm) (s:Sh):(aM P s).L.length≤s.L.length+2:=by
 unfold aM
 by_cases c:s.st=5
 ·rw[if_pos c];omega
 ·rw[if_neg c]
  show (bj P (aR s)).1.L.length≤_
  have:=tM P (aR s)
  have:=tK s
  omega
end
end Go.Proofs.YtenilkloffnjlaaGreat
namespace Go.Proofs.YtenilkloffnjlaaGreat
open Tryz
open Go.RowKit
set_option linter.unusedVariables false
theorem cM (P:Pm) (s:Sd) (k num fl len:Nat) (bs:Nat→Nat) (hb:∀ i,i<len→bs i<256):∀ i,i < (dK P s k num fl len bs).1→(dK P s k num fl len bs).2 i<256:=dH _ _ _ _ _ _ _ hb
theorem mf (k c s n:Nat) (f:Int) (len:Nat) (bs:Nat→Nat):(abL k c s n f len bs).1≤27:=by
 unfold abL
 by_cases h:LW k c s n f len len=0
 ·rw[if_pos h]
  have:=(fO h).2.2.2.1
  show 15+len+4≤27
  omega
 ·rw[if_neg h];show 0≤27;omega
theorem eu {bs:Nat→Nat}:∀ i,i<0→bs i<256:=fun i hi=>absurd hi (Nat.not_lt_zero i)
theorem eM:∀ i,i<cZ.1→cZ.2 i<256:=fun i hi=>absurd hi (Nat.not_lt_zero i)
theorem ns (P:Pm) (mx n:Nat) (s:Sd):∀ i,i < (bL P mx n s).f.1→(bL P mx n s).f.2 i<256:=by
 unfold bL
 split
 ·exact cM _ _ _ _ _ _ _ eu
 ·split
  ·exact eM
  ·exact cM _ _ _ _ _ _ _ (fF P)
theorem oZ (P:Pm) (mx n:Nat) (s:Sd):∀ i,i < (cj P mx n s).f.1→(cj P mx n s).f.2 i<256:=by
 unfold cj
 split
 ·exact cM _ _ _ _ _ _ _ (fF P)
 ·split
  ·exact cM _ _ _ _ _ _ _ eu
  ·exact ns P mx n _
theorem ft (P:Pm) (s:Sd) (e:Int):∀ i,i < (aW P s e).f.1→(aW P s e).f.2 i<256:=cM _ _ _ _ _ _ _ eu
theorem oW (P:Pm) (mx n:Nat) (s:Sd) (hap:∀ i,i<P.i→s.ap i<256) (k ss num fl len:Nat) (bs:Nat→Nat):∀ i,i < (bc P mx n s k ss num fl len bs).f.1→(bc P mx n s k ss num fl len bs).f.2 i<256:=by
 unfold bc
 split
 ·split
  ·exact oZ P mx n s
  ·exact ft P s _
 ·split
  ·split
   ·exact cM _ _ _ _ _ _ _ eu
   ·exact ft P s _
  ·split
   ·exact cM _ _ _ _ _ _ _ eu
   ·split
    ·exact cM _ _ _ _ _ _ _ hap
    ·split
     ·exact cM _ _ _ _ _ _ _ eu
     ·exact ft P s _
theorem oU (P:Pm) (mx n:Nat) (s:Sd) (hap:∀ i,i<P.i→s.ap i<256) (len:Nat) (bs:Nat→Nat):∀ i,i < (ay P mx n s len bs).f.1→(ay P mx n s len bs).f.2 i<256:=by
 have hh:∀ i,i < (bR P mx n s len bs).f.1→(bR P mx n s len bs).f.2 i<256:=by
  unfold bR
  split
  ·exact eM
  ·split
   ·exact eM
   ·split
    ·exact eM
    ·exact oW P mx n s hap _ _ _ _ _ _
 unfold ay
 split
 ·exact eM
 ·split
  ·exact hh
  ·exact hh
theorem pl (P:Pm) (s:Sh) (hap:∀ i,i<P.o→s.ap i<256):∀ i,i < (bj P s).2.1→(bj P s).2.2 i<256:=by
 unfold bj
 split
 ·exact dH _ _ _ _ _ _ _ (fF P)
 ·split
  ·exact dH _ _ _ _ _ _ _ (fF P)
  ·split
   ·exact dH _ _ _ _ _ _ _ eu
   ·split
    ·exact dH _ _ _ _ _ _ _ eu
    ·exact dH _ _ _ _ _ _ _ hap
theorem tJ (s:Sh):(aR s).ap=s.ap:=by
 unfold aR
 split
 ·rfl
 ·split
  ·rfl
  ·show (iO _).ap=_
   unfold iO
   split
   ·exact (cD _ _).2.2.2.2.2.2.1
   ·rfl
theorem pq (P:Pm) (s:Sh) (hap:∀ i,i<P.o→s.ap i<256):∀ i,i < (aL P s).1→(aL P s).2 i<256:=by
 unfold aL
 split
 ·exact eM
 ·exact pl P _ (by rw[tJ];exact hap)
theorem Ih.sentY {P:Pm} {s:Sh} (hP:Pok P) (h:Ih P s):s.st=4→s.sn+1<4294967296:=fun e=>by
 have:=(h.run e).1
 have:=hP.n
 omega
theorem rt (s:Sh) (k ss num fl:Nat) (bs:Nat→Nat):(cr s k ss num fl bs).L.length≤s.L.length+1:=by
 unfold cr
 split
 ·show s.L.length≤_;omega
 ·split
  ·show s.L.length≤_;omega
  ·split
   ·show s.L.length≤_;omega
   ·split
    ·show s.L.length≤_;omega
    ·split
     ·exact pj (lM { s with nm:=num })
     ·show s.L.length≤_;omega
theorem rp (P:Pm) (s:Sh) (len:Nat) (bs:Nat→Nat):(bu P s len bs).L.length≤s.L.length+1:=by
 unfold bu
 split
 ·show (s.L ++ [_]).length≤_;simp
 ·exact rt _ _ _ _ _ _
theorem ru (P:Pm) (s:Sh) (k:Int):(dP P s k).L.length≤s.L.length+1:=by
 unfold dP
 split
 ·omega
 ·split
  ·exact iy { s with dc:=tk P.t s.dc k.toNat } 100
  ·show s.L.length≤_;omega
theorem pF (P:Pm) (s:Sh) (len:Nat) (bs:Nat→Nat) (o:Bool):(di P s len bs o).L.length≤s.L.length:=by
 unfold di
 split
 ·show s.L.length≤_;omega
 ·omega
theorem pp (P:Pm) (s:Sh):(aL P s).1≤27:=by
 have he:∀ k c s n f len bs,(cS k c s n f len bs).1≤27:=fun k c s n f len bs=>mf k c s n f len bs
 unfold aL bj
 split
 ·show 0≤27;omega
 ·split
  ·exact he _ _ _ _ _ _ _
  ·split
   ·exact he _ _ _ _ _ _ _
   ·split
    ·exact he _ _ _ _ _ _ _
    ·split
     ·exact he _ _ _ _ _ _ _
     ·exact he _ _ _ _ _ _ _
theorem nC (P:Pm) (mx n:Nat) (s:Sd) (len:Nat) (bs:Nat→Nat):(ay P mx n s len bs).f.1≤27:=by
 have he:∀ k c s n f len bs,(cS k c s n f len bs).1≤27:=fun k c s n f len bs=>mf k c s n f len bs
 have h0:cZ.1≤27:=by show 0≤27;omega
 have hb:∀ s,(bL P mx n s).f.1≤27:=fun s=>by
  unfold bL
  split
  ·exact he _ _ _ _ _ _ _
  ·split
   ·exact h0
   ·exact he _ _ _ _ _ _ _
 have ht:∀ k ss num fl len bs,(bc P mx n s k ss num fl len bs).f.1≤27:=fun k ss num fl len bs=>by
  unfold bc cj aW
  repeat' split
  all_goals first | exact he _ _ _ _ _ _ _ | exact hb _
 have hh:(bR P mx n s len bs).f.1≤27:=by
  unfold bR
  repeat' split
  all_goals first | exact h0 | exact ht _ _ _ _ _ _
 unfold ay
 split
 ·exact h0
 ·split <;> exact hh
end Go.Proofs.YtenilkloffnjlaaGreat
