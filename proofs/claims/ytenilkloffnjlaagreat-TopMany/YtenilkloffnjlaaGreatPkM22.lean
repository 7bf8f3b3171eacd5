/- Part 23: contracts that the proof rests on. -/
import Derived.Lib.AppendZerosOnto
import Derived.LoopN
import Derived.Test.YtenilkloffnjlaaGreatPkM21
set_option maxHeartbeats 64000000
set_option maxRecDepth 100000
namespace Go.Proofs.YtenilkloffnjlaaGreat
open Tryz
open Go.RowKit Go.Maps
set_option linter.unusedVariables false
theorem dV:(prog.info? 83).map (fun i=>(i.zero,i.size,i.bytes))=some (some (.agg #[.int .u32 0,.int .i64 0,.int .i64 0,.int .i64 0,.int .u32 0]),5,40):=by kernel_rfl
theorem iI {w:World} {B e size g n c:Nat} {xs:List Value} (h:w.ownsRow B e size (.slice (af g 0) n c) n xs):∀ j u,xs[j]?=some u→w.cell? ⟨g,j,none⟩=some u:=fun j u hu=>by
 rcases h.2 with ⟨e1,_⟩ | ⟨g',cap,cur,e1,_,hg,_,_,_,hx⟩
 ·cases e1
 ·injection e1 with e2 _ _
  injection e2 with e3
  injection e3 with e4
  subst e4
  rw[ae w g j _ _ _ hg,← hu,← hx]
  have:j<n*size:=by
   have h1:=(List.getElem?_eq_some_iff.1 hu).1
   rw[h.1]at h1
   exact h1
  rw[List.getElem?_take_of_lt this]
  simp
theorem iJ {w:World} {B e size n c:Nat} {a:Option Addr} {xs:List Value} (h:w.ownsRow B e size (.slice a n c) n xs) (hn:n≠0):∃ g,a=af g 0∧B≤g:=by
 rcases h.2 with ⟨_,e1⟩ | ⟨g',cap,cur,e1,hb,_⟩
 ·exact absurd e1 hn
 ·injection e1 with e2 _ _
  exact⟨g',e2,hb⟩
theorem il {w:World} {B B' e size n:Nat} {v:Value} {xs:List Value} (h:w.ownsRow B e size v n xs) (hB:B'≤B):w.ownsRow B' e size v n xs:=by
 refine⟨h.1,?_⟩
 rcases h.2 with h1 | ⟨g,cap,cur,e1,hb,r⟩
 ·exact .inl h1
 ·exact .inr ⟨g,cap,cur,e1,Nat.le_trans hB hb,r⟩
theorem iH:(prog.info? 80).map (fun i=>(i.zero,i.size,i.bytes))=some (some (.agg aK),3,24):=by kernel_rfl
theorem nz {P:Program} {md:Region.Mode} {ops:Array Oper} {Q:Exit→Act→World→Prop} {S:World→Prop} {fuel:Nat} {l:Array Bool} {a:Act} {w:World} {i j:Nat} (hr:Region.ready md ops l=[i,j])
  (h1:wpOp P ops Q i (fun a' w'=>S w'∧wpAnyH P md ops Q S fuel (l.setIfInBounds i true) a' w') a w) (h2:wpOp P ops Q j (fun a' w'=>S w'∧wpAnyH P md ops Q S fuel (l.setIfInBounds j true) a' w') a w):wpAnyH P md ops Q S (fuel+1) l a w:=
 wpAnyH_all hr (by simp) (fun k hk=>by
  rcases List.mem_cons.1 hk with rfl | hk
  ·exact h1
  ·obtain rfl:=List.mem_singleton.1 hk
   exact h2)
theorem jt {o:Oper} {a:Act} {w w':World} {v v' u:Value} {s x:Operand} (hop:o.op=Op.call { callee:=Callee.builtin Builtin.append,args:=#[s,x],argTypes:=#[72,72] }) (hty:o.type=72) (hs:a.eval s=v) (hx:a.eval x=u) (hr:(Builtin.append_ #[72,72] 72 #[v,u]).run prog w=.ok v' w'):(execOp a.eval o).run prog w=.ok (.value v') w':=by
 unfold execOp
 simp only[hop,hty,resolve,invoke,builtin,Sem.run_bind,Sem.run_pure,Result.andThen_ok,List.map_toArray,List.map_cons,List.map_nil,hs,hx,hr]
def s0 (P Q:Pm) (mx:Nat):Ws:=⟨1,fun _=>P,fun _=>Q,fun _=>bu,fun _=>cW M0,mx,[],0,[]⟩
def mR (L:Pw):Nat→Thing:=fun q=>if q % 2=0 then L.t (q / 2) else di
def ev (j:Nat):Nat:=2*j
theorem qN (L:Pw):Fre ev (mR L) 0:=fun q _=>⟨fun j=>by unfold ev;omega,by unfold mR;rw[if_neg (by omega)]⟩
theorem wo (L:Pw):Wat ev (mR L) L:=⟨fun i j h=>by unfold ev at h;omega,fun j=>by unfold mR ev;rw[if_pos (by omega),show 2*j / 2=j by omega]⟩
theorem uB (w:World):Calls prog 46 #[] w fun r w'=>r=.returned (.agg aZ)∧Below w.heap.size w w':=by
 go_enter func46,ntmps46
 go_wp2_with fail
 refine bodyPost_ret (v:=.agg aZ) (by simp[results,results46,go_sem]) rfl ⟨rfl,?_⟩
 exact aC (Below.refl _ _) _
theorem aak (w:World):Calls prog 23 #[] w fun r w'=>∃ q0 q1,r=.returned (.agg #[.slice (af q0 0) 1 1,.slice (af q1 0) 1 1,.int .u32 50])∧Hid (w'.heap[q0]?=some (.cells aZ 83 (0,0))∧w'.heap[q1]?=some (.cells aZ 83 (0,0))∧Below w.heap.size w w'):=by
 have hS:=fun wx=>uB wx
 have b1:Below w.heap.size w (w.alloc (.cells #[.slice none 0 0,.slice none 0 0,.int .u32 0] 30)):=aC (Below.refl _ _) _
 have hk:=aA w (.cells #[.slice none 0 0,.slice none 0 0,.int .u32 0] 30)
 have z1:=iQ w (.cells #[.slice none 0 0,.slice none 0 0,.int .u32 0] 30)
 go_enter func23,ntmps23
 go_wp2_with fail
 refine (hS _).mono ?_
 rintro r w3 ⟨rfl,b3⟩
 have k3:=(b3.block w.heap.size (by rw[z1];omega)).trans hk
 have b5:Below w3.heap.size w3 (((w3.alloc (.cells aZ 83)).alloc (.cells aZ 83)).alloc (.cells aZ 83)):=aC (aC (aC (Below.refl _ _) _) _) _
 have l3:w.heap.size<w3.heap.size:=by have:=b3.size;rw[z1]at this;omega
 have k5:=(b5.block w.heap.size l3).trans k3
 have y0:=ae (((w3.alloc (.cells aZ 83)).alloc (.cells aZ 83)).alloc (.cells aZ 83)) _ 0 _ _ _ k5
 have y1:=ae (((w3.alloc (.cells aZ 83)).alloc (.cells aZ 83)).alloc (.cells aZ 83)) _ 1 _ _ _ k5
 have y2:=ae (((w3.alloc (.cells aZ 83)).alloc (.cells aZ 83)).alloc (.cells aZ 83)) _ 2 _ _ _ k5
 have yz:=fun k=>frozen_of_row (((w3.alloc (.cells aZ 83)).alloc (.cells aZ 83)).alloc (.cells aZ 83)) _ k _ _ k5
 have u1:=iQ w3 (.cells aZ 83)
 have u2:=zo w3 (.cells aZ 83) (.cells aZ 83)
 have n1:(((w3.alloc (.cells aZ 83)).alloc (.cells aZ 83)).alloc (.cells aZ 83)).heap[w3.heap.size+1]?=some (.cells aZ 83 (0,0)):=(Below.heap_alloc _ _ _ (by rw[u2];omega)).trans (by rw[← u1];exact aA _ _)
 have n2:(((w3.alloc (.cells aZ 83)).alloc (.cells aZ 83)).alloc (.cells aZ 83)).heap[w3.heap.size+1+1]?=some (.cells aZ 83 (0,0)):=by rw[show w3.heap.size+1+1=w3.heap.size+2 by omega,← u2];exact aA _ _
 have HN:Hid (_):=And.intro n1 (And.intro n2 (And.intro b3 (And.intro b5 l3)))
 have HB1:Hid (_):=b1
 have HZ1:Hid (_):=z1
 clear n1 n2 b3 b5 k3 k5 hk b1 z1 u1 u2
 go_wp2_with fail
 refine bodyPost_ret (v:=.agg #[.slice (af (w3.heap.size+1) 0) 1 1,.slice (af (w3.heap.size+1+1) 0) 1 1,.int .u32 50]) (by simp[results,results23,go_sem,y0,y1,y2]) rfl ?_
 obtain⟨n1,n2,b3,b5,l3⟩:=HN.out
 have o:Off [w.heap.size] (((w3.alloc (.cells aZ 83)).alloc (.cells aZ 83)).alloc (.cells aZ 83)) ((((((w3.alloc (.cells aZ 83)).alloc (.cells aZ 83)).alloc (.cells aZ 83)).setCell ⟨w.heap.size,0,none⟩ (.slice (af (w3.heap.size+1) 0) 1 1)).setCell ⟨w.heap.size,1,none⟩ (.slice (af (w3.heap.size+1+1) 0) 1 1)).setCell ⟨w.heap.size,2,none⟩ (.int .u32 50)):=((Off.setCell _ 0 _ _).trans (Off.setCell _ 1 _ _)).trans (Off.setCell _ 2 _ _)
 have s5:=sz3 w3 (.cells aZ 83) (.cells aZ 83) (.cells aZ 83)
 have m1:=(o.block (w3.heap.size+1) (by omega) (by simp;omega)).trans n1
 have m2:=(o.block (w3.heap.size+1+1) (by omega) (by simp;omega)).trans n2
 have bw:Below w.heap.size w (((w3.alloc (.cells aZ 83)).alloc (.cells aZ 83)).alloc (.cells aZ 83)):=(HB1.out.trans (b3.mono (by rw[HZ1.out];omega))).trans (b5.mono (by omega))
 exact⟨_,_,rfl,m1,m2,o.below bw (fun k hk=>by simp at hk;omega) bw.size⟩
def mv1:Mv:=⟨2,0,0,0,0,0,0,false,0,fun _=>0⟩
def ij:Mv:=⟨3,0,2,0,0,0,0,false,0,fun _=>0⟩
theorem PWn.dropR {e:Nat→Nat} {w0 w:World} {t:Nat→Thing} {L:Pw} {S:Ws} {i:Nat} {m:Mv} {S':Ws} {k:Nat} {a:Option Addr} {c:Nat} {ah:Option Addr} {ch:Nat} {ad:Option Addr} {cd:Nat} (h:PWn e w0 (vL t i m S' k a c ah ch ad cd) L w S) (F:Fre e t i):PWn e w0 t L w S:=by
 unfold vL at h
 have h1:=h.drop (F (i+3) (by omega)).1 (by rw[ag _ _ (by omega),ag _ _ (by omega)];exact (F (i+3) (by omega)).2)
 have h2:=h1.drop (F (i+2) (by omega)).1 (by rw[ag _ _ (by omega)];exact (F (i+2) (by omega)).2)
 exact h2.drop (F (i+1) (by omega)).1 (F (i+1) (by omega)).2
theorem PWn.layL {e:Nat→Nat} {w0 w:World} {t:Nat→Thing} {L:Pw} {S:Ws} {w1:World} (h:PWn e w0 t L w1 S) (b:Below w1.heap.size w1 w) {i:Nat} (hi:∀ j,i≠e j) {l:List (Nat × Obj)} (R:∀ p,p ∈ l→w.heap[p.1]?=some p.2) (bu:∀ p,p ∈ l→w1.heap.size≤p.1):PWn e w0 (aF t i (cS l)) L w S:=by
 obtain⟨t1,L1,h1,hs,hx,he⟩:=h
 exact⟨_,L1,h1.layL b hi R bu,hs,hx,he.putB _ _⟩
theorem zc {e:Nat→Nat} {w0 w:World} {t:Nat→Thing} {L:Pw} {S:Ws} (h:PWn e w0 t L w S):Calls prog 25 #[ac L.x 0] w fun r w'=>r=.returned (.int .i64 (S.mv:Nat))∧w'=w:=by
 obtain⟨t1,L1,h1,hs,hx,he⟩:=h
 subst hs
 have hb:=(h1.2.wb h1.1).blk
 have c4:w.cell? ⟨L1.x,4,none⟩=some (ac L1.b 0):=ae w L1.x 4 _ _ _ hb
 have c5:w.cell? ⟨L1.x,5,none⟩=some (.int .i64 (L1.S.mv:Nat)):=ae w L1.x 5 _ _ _ hb
 rw[hx.x]at c4 c5
 have hN:=ut L.x L1.b w c4
 obtain⟨X,hX⟩:∃ y,L.x=y:=⟨_,rfl⟩
 obtain⟨v,hv⟩:∃ y,L1.S.mv=y:=⟨_,rfl⟩
 rw[hX]at c5 hN ⊢
 rw[hv]at c5 ⊢
 clear h1 hx he hb c4 hX hv
 go_enter func25,ntmps25
 go_wp2_with fail
 refine hN.mono ?_
 rintro r w2 ⟨rfl,rfl⟩
 go_wp2_with fail
 go_ret
 exact⟨rfl,rfl⟩
theorem wY {e:Nat→Nat} {w0 w:World} {t:Nat→Thing} {L:Pw} {S:Ws} (h:PWn e w0 t L w S):Calls prog 24 #[ac L.x 0] w fun r w'=>r=.returned (.int .i64 (S.bg.length:Nat))∧w'=w:=by
 obtain⟨t1,L1,h1,hs,hx,he⟩:=h
 subst hs
 have hb:=(h1.2.wb h1.1).blk
 have c4:w.cell? ⟨L1.x,4,none⟩=some (ac L1.b 0):=ae w L1.x 4 _ _ _ hb
 have hL:=tr 0 L1.b L1.m L1.bv L1.bs L1.bp L1.S.bg w (h1.2.bg h1.1).1
 rw[hx.x]at c4
 have hN:=ut L.x L1.b w c4
 obtain⟨X,hX⟩:∃ y,L.x=y:=⟨_,rfl⟩
 obtain⟨b,hbb⟩:∃ y,L1.b=y:=⟨_,rfl⟩
 obtain⟨v,hv⟩:∃ y,L1.S.bg.length=y:=⟨_,rfl⟩
 rw[hX,hbb]at c4
 rw[hX]at hN
 rw[hbb,hv]at hL
 rw[hX,hv]
 clear h1 hx he hb hX hv hbb
 go_enter func24,ntmps24
 go_wp2_with fail
 refine hN.mono ?_
 rintro r w2 ⟨rfl,rfl⟩
 go_wp2_with fail
 refine hL.mono ?_
 rintro r w2 ⟨rfl,rfl⟩
 go_wp2_with fail
 go_ret
 exact⟨rfl,rfl⟩
theorem aM (S:Ws) (k s:Nat) (f:Fm):(S.put k s f).n=S.n∧(S.put k s f).ds=S.ds∧(S.put k s f).hs=S.hs∧(S.put k s f).PD=S.PD∧(S.put k s f).PH=S.PH∧(S.put k s f).mx=S.mx∧(S.put k s f).mv=S.mv∧(S.put k s f).fs.length≤S.fs.length+1:=by
 unfold Ws.put
 split
 ·exact⟨rfl,rfl,rfl,rfl,rfl,rfl,rfl,Nat.le_succ _⟩
 ·refine⟨rfl,rfl,rfl,rfl,rfl,rfl,rfl,?_⟩
  show (S.fs ++ dq 1 k s f).length≤_
  rw[List.length_append]
  unfold dq
  split <;> simp
theorem uC (S:Ws) (k s:Nat) (f:Fm) (h:f.1≠0):(S.put k s f).bg=S.bg ++ [f]∧S.putI f=((S.bg.length:Nat):Int):=by
 unfold Ws.put Ws.putI
 rw[if_neg h,if_neg h]
 exact⟨rfl,rfl⟩
def zL:Ws:=((s0 P0 P0 50).up.snd 0).S
def dj (T:Ws):Ws:=(T.note [oH T 0,oD T 0])
def px (T:Ws):Wr:=(dj T).up.dlv ij 0
structure A1 (T:Ws):Prop where
 bg:T.bg=[de P0]
 n:T.n=1
 ds:T.ds=(fun _=>cW M0)
 PD:T.PD=(fun _=>P0)
 mx:T.mx=50
 mv:T.mv=1
 fs:T.fs.length≤1
 hs:T.hs 0=cF P0 bu
theorem vx:aP P0 bu=de P0:=vC P0 mW
theorem a1:((s0 P0 P0 50).up.snd 0).e=0∧((s0 P0 P0 50).up.snd 0).i=0∧A1 zL:=by
 obtain⟨p1,p2,p3,p4,p5,p6,p7,p8⟩:=aM ((s0 P0 P0 50).up.setH 0 (cF P0 bu)) 0 1 (aP P0 bu)
 obtain⟨q1,q2⟩:=uC ((s0 P0 P0 50).up.setH 0 (cF P0 bu)) 0 1 (aP P0 bu) (by rw[vx];exact Nat.succ_ne_zero 22)
 refine⟨rfl,q2,?_,p1,p2,p4,p6,p7,p8,?_⟩
 ·show (((s0 P0 P0 50).up.setH 0 (cF P0 bu)).put 0 1 (aP P0 bu)).bg=_
  rw[q1,vx]
  rfl
 ·show (((s0 P0 P0 50).up.setH 0 (cF P0 bu)).put 0 1 (aP P0 bu)).hs 0=_
  rw[p3]
  rfl
theorem xN:(dN 17 P0.c 1 0 0 4 (kR P0)).1=23:=by
 have e:dN 17 P0.c 1 0 0 4 (kR P0)=(15+4+4,PM.sl (fr 17 P0.c 1 0 0 4 (kR P0)) (15+4)):=if_pos (th (by decide) (by decide))
 rw[e]
theorem aD {T:Ws} (q:A1 T):az ((dj T).up.PD 0) (dj T).up.mx 16 ((dj T).up.ds 0) ((dj T).up.fr ij).1 ((dj T).up.fr ij).2=az P0 50 16 (cW M0) (de P0).1 (de P0).2:=by
 obtain⟨b1,_,b3,b4,b5,_⟩:=q
 have e1:(dj T).up.PD 0=P0:=by show T.PD 0=P0;rw[b4]
 have e2:(dj T).up.mx=50:=b5
 have e3:(dj T).up.ds 0=cW M0:=by show T.ds 0=_;rw[b3]
 have e4:(dj T).up.fr ij=de P0:=by
  unfold Ws.fr
  rw[if_neg (by decide)]
  show T.bg.getD 0 cG=_
  rw[b1]
  rfl
 rw[e1,e2,e3,e4]
theorem a3 {T:Ws} (q:A1 T):(px T).e=0∧(px T).i=1∧(px T).S.bg.length=2∧(px T).S.mv=2∧(px T).S.n=1∧((px T).S.ds 0).st=2∧(px T).S.fs.length≤100:=by
 obtain⟨f1,f2,f3⟩:=jF P0 mW 50 (by omega)
 have hd:=aD q
 obtain⟨b1,b2,b3,b4,b5,b6,b7,b8⟩:=q
 have e0:px T=(dj T).up.toD 0 ((dj T).up.fr ij):=by
  unfold px Ws.dlv
  rw[if_neg (by decide)]
 obtain⟨D,hD⟩:∃ y,az P0 50 16 (cW M0) (de P0).1 (de P0).2=y:=⟨_,rfl⟩
 rw[hD]at hd f1 f2 f3
 have fne:D.f.1≠0:=by rw[f3,xN];decide
 rw[e0]
 unfold Ws.toD
 rw[hd]
 obtain⟨p1,p2,p3,p4,p5,p6,p7,p8⟩:=aM ((dj T).up.toD2 0 ((dj T).up.fr ij)) 0 2 D.f
 obtain⟨q1,q2⟩:=uC ((dj T).up.toD2 0 ((dj T).up.fr ij)) 0 2 D.f fne
 have t1:(dj T).up.toD1 0 ((dj T).up.fr ij)=((dj T).up.setD 0 D.s).note (dy 0 ((dj T).up.ds 0) D.s):=by unfold Ws.toD1;rw[hd]
 have g:∀ V:Ws,(V=(dj T).up.toD1 0 ((dj T).up.fr ij)∨V=((dj T).up.toD1 0 ((dj T).up.fr ij)).note (cy 0 2 ((dj T).up.fr ij)))→V.bg=T.bg∧V.mv=T.mv+1∧V.n=T.n∧V.ds 0=D.s∧V.fs.length≤10:=by
  have l1:=jE 0 ((dj T).up.ds 0) D.s
  have l2:=fd 0 2 ((dj T).up.fr ij)
  have l0:(dj T).up.fs.length≤3:=by
   show (T.fs ++ [oH T 0,oD T 0]).length≤3
   rw[List.length_append]
   simp
   omega
  intro V hT
  rcases hT with rfl | rfl
  ·rw[t1]
   refine⟨rfl,rfl,rfl,(show bf (dj T).up.ds 0 D.s 0=D.s from aj _ _ _),?_⟩
   show ((dj T).up.fs ++ dy 0 ((dj T).up.ds 0) D.s).length≤10
   rw[List.length_append]
   omega
  ·rw[t1]
   refine⟨rfl,rfl,rfl,(show bf (dj T).up.ds 0 D.s 0=D.s from aj _ _ _),?_⟩
   show (((dj T).up.fs ++ dy 0 ((dj T).up.ds 0) D.s) ++ cy 0 2 ((dj T).up.fr ij)).length≤10
   rw[List.length_append,List.length_append]
   omega
 have h2:(dj T).up.toD2 0 ((dj T).up.fr ij)=(dj T).up.toD1 0 ((dj T).up.fr ij)∨(dj T).up.toD2 0 ((dj T).up.fr ij)=((dj T).up.toD1 0 ((dj T).up.fr ij)).note (cy 0 2 ((dj T).up.fr ij)):=by
  unfold Ws.toD2
  split
  ·exact .inr rfl
  ·exact .inl rfl
 obtain⟨g1,g2,g3,g4,g5⟩:=g _ h2
 refine⟨f1,?_,?_,?_,?_,?_,?_⟩
 ·show ((dj T).up.toD2 0 ((dj T).up.fr ij)).putI D.f=1
  rw[q2,g1,b1]
  rfl
 ·show (((dj T).up.toD2 0 ((dj T).up.fr ij)).put 0 2 D.f).bg.length=2
  rw[q1,g1,b1]
  rfl
 ·show (((dj T).up.toD2 0 ((dj T).up.fr ij)).put 0 2 D.f).mv=2
  rw[p7,g2,b6]
 ·show (((dj T).up.toD2 0 ((dj T).up.fr ij)).put 0 2 D.f).n=1
  rw[p1,g3,b2]
 ·show ((((dj T).up.toD2 0 ((dj T).up.fr ij)).put 0 2 D.f).ds 0).st=2
  rw[p2,g4]
  exact f2
 ·show (((dj T).up.toD2 0 ((dj T).up.fr ij)).put 0 2 D.f).fs.length≤100
  omega
theorem aa0:(s0 P0 P0 50).Ok mv1:=⟨by decide,by decide,by decide,by decide,by decide,fun h=>absurd h (by decide),fun h=>absurd h (by decide),fun h=>absurd h (by decide)⟩
theorem aa1 {T:Ws} (q:A1 T):(dj T).Ok ij:=by
 obtain⟨b1,b2,_,_,_,b6,_⟩:=q
 refine⟨by show T.mv<4096;omega,by decide,by decide,by decide,?_,fun _=>.inr rfl,fun _=>⟨by decide,?_⟩,fun h=>absurd h (by decide)⟩
 ·show (0:Int) < ((T.n:Nat):Int)
  rw[b2]
  decide
 ·show (0:Int) < ((T.bg.length:Nat):Int)
  rw[b1]
  decide
theorem aw1 {w0 w:World} {t:Nat→Thing} {L:Pw} (h:PW ev w0 w t L) (F:Fre ev t 0) (hS:L.S=s0 P0 P0 50):Calls prog 11 #[ac L.x 0,.agg #[.int .i64 2,.int .i64 0,.int .i64 0,.int .i64 0,.int .i64 0,.int .u32 0,.int .i64 0,.bool false,.slice none 0 0]] w fun r w'=>∃ A:Array Value,r=.returned (.tuple #[.agg A,.int .i64 0])∧A.size=29∧A.all (·.oneCell')=true∧A.toList[10]?=some (.int .i64 0)∧Hid (PWn ev w0 t L w' (dj zL)):=by
 obtain⟨b0,bi,b1,b2,b3,b4,b5,b6,b7,b8⟩:=a1
 have hk:L.S.Ok mv1:=by rw[hS];exact aa0
 have hP:=uw ev w0 w t L 0 0 mv1 none 0 ((s0 P0 P0 50).up.snd 0).e ((s0 P0 P0 50).up.snd 0).i zL h F (by rw[hS];decide) (by rw[hS];decide) ⟨fun i hi=>absurd hi (Nat.not_lt_zero i),fun _=>⟨rfl,rfl⟩,fun x hx=>(by cases hx),Nat.le_refl _⟩ (fun y hy=>by cases hy) (by decide) (by rw[b2,hS];rfl) (by omega)
  (uz ev w0 w t L mv1 none 0 h hk (by decide) (by decide) (by decide) (by decide))
  (fun a' c' w1 t1 q F1 _=>by
    rw[hS]at q
    exact xV 0 2 mv1 a' c' q F1 rfl (by decide) (by decide) (by decide) (by decide) (by decide) (fun e=>absurd e (by decide)) (by decide) (by intro j hj;exact cY 1 P0.c 0 0 0 4 (kR P0) (eK P0) j hj) (by show (aP P0 bu).1≤27;rw[vx];exact (by decide:(23:Nat)≤27)))
 refine hP.mono ?_
 rintro r w' ⟨a',c',ah,ch,ad,cd,rfl,H⟩
 rw[b0,bi]
 exact⟨_,rfl,rfl,by kernel_rfl,rfl,H.out.dropR F⟩
theorem aw2 {T:Ws} (q:A1 T) {w0 w:World} {t:Nat→Thing} {L:Pw} {i:Nat} (h:PWn ev w0 t L w (dj T)) (F:Fre ev t i):Calls prog 11 #[ac L.x 0,.agg #[.int .i64 3,.int .i64 0,.int .i64 2,.int .i64 0,.int .i64 0,.int .u32 0,.int .i64 0,.bool false,.slice none 0 0]] w fun r w'=>∃ A:Array Value,r=.returned (.tuple #[.agg A,.int .i64 0])∧A.size=29∧A.all (·.oneCell')=true∧A.toList[10]?=some (.int .i64 1)∧A.toList[20]?=some (.int .i64 2)∧Hid (PWn ev w0 t L w' ((px T).S.note [oH (px T).S 0,oD (px T).S 0])):=by
 have hd:=aD q
 have hkk:=aa1 q
 obtain⟨c0,ci,c1,c2,c3,c4,c5⟩:=a3 q
 obtain⟨b1,b2,b3,b4,b5,b6,b7,b8⟩:=q
 obtain⟨f1,f2,f3⟩:=jF P0 mW 50 (by omega)
 obtain⟨t1,L1,h1,hs,hx,he⟩:=h
 have F1:=F.els he
 have hk:L1.S.Ok ij:=by rw[hs];exact hkk
 have hP:=uw ev w0 w t1 L1 i 0 ij none 0 (px T).e (px T).i (px T).S h1 F1 (by rw[hs];show 0<T.n;omega) (by rw[hs];show T.mv<4096;omega) ⟨fun i hi=>absurd hi (Nat.not_lt_zero i),fun _=>⟨rfl,rfl⟩,fun x hx=>(by cases hx),Nat.le_refl _⟩ (fun y hy=>by cases hy) (by decide) (by rw[c3,hs];exact b2.symm) (by omega)
  (uz ev w0 w t1 L1 ij none 0 h1 hk (by decide) (by decide) (by decide) (by decide))
  (fun a' c' w1 t2 q F2 _=>by
    rw[hs]at q
    exact xW 0 (i+2) ij a' c' q F2 (.inl rfl) rfl (by show 0<T.n;omega) (by show (T.fs ++ [oH T 0,oD T 0]).length≤80000;rw[List.length_append];simp;omega) (by show T.bg.length<4096;rw[b1];decide) (by decide) (by show (0:Int) < ((T.bg.length:Nat):Int);rw[b1];decide) (by decide) (fun e=>absurd e (by decide))
     (by show (T.hs 0).L.length<800000;rw[b8];decide) (by show (T.ds 0).st=4→_;rw[b3];intro e;exact absurd e (by decide)) (by show (T.ds 0).od<4;rw[b3];decide) (by show (T.ds 0).L.length<800000;rw[b3];decide) (by show (T.ds 0).ms.t<9223372036854774000;rw[b3];decide)
     (by rw[hd,f3];exact cY 17 P0.c 1 0 0 4 (kR P0) (eK P0)) (by rw[hd,f3,xN];decide))
 rw[hx.x]at hP
 refine hP.mono ?_
 rintro r w' ⟨a',c',ah,ch,ad,cd,rfl,H⟩
 rw[c0,ci,c4]
 exact⟨_,rfl,rfl,by kernel_rfl,rfl,rfl,PWn.bind hx he (H.out.dropR F1)⟩
end Go.Proofs.YtenilkloffnjlaaGreat
