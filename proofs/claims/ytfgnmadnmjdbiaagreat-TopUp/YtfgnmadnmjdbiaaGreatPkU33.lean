/- Part 34: contracts that the proof rests on. -/
import Derived.Test.YtfgnmadnmjdbiaaGreatPkU32
set_option maxHeartbeats 64000000
set_option maxRecDepth 100000
namespace Go.Proofs.YtfgnmadnmjdbiaaGreat
open Go.RowKit Go.Maps
set_option linter.unusedVariables false
theorem iC {P:Program} {ops:Array Oper} {rest:List Oper} {op:Oper} {a:Act} {w:World} {Q:Exit→Act→World→Prop} (hw:Region.wanted op (yielded ops a.tmps)=true) (ty:TypeId) (x:Operand) (ho:op.op=.load ty x)
  (b o:Nat) (hx:a.eval x=ac b o) (cs:List Value) (d:TypeDesc) (hc:w.rangeAt b o cs)
  (hu:P.underlying ty=some d) (hd:d.isRow=true) (hi:(P.info? ty).map (·.size)=some cs.length)
  (h:wpList P ops Q rest (a.put op.dst (.agg cs.toArray)) w):wpList P ops Q (op :: rest) a w:=by
 unfold wpList
 rw[if_pos hw]
 exact .inl (wp_load_mid ty x ho b o hx cs d hc hu hd hi h)
theorem gc {P:Program} {ops:Array Oper} {rest:List Oper} {op:Oper} {a:Act} {w:World} {Q:Exit→Act→World→Prop} (hgd:op.guard=none) (v:Value) (hrun:(execOp a.eval op).run P w=.ok (.value v) w) (h:wpList P ops Q rest (a.put op.dst v) w):wpList P ops Q (op :: rest) a w:=
 wpList_plain hgd fun _ hK=>by
  unfold Oper.wp
  rw[hrun]
  exact hK _ _ h
theorem fD {P:Program} {w:World} {b o:Nat} {A:Array Value} (ht:w.there b o A.size) (h1:A.all (·.oneCell')=true):(storeCells ⟨b,o,none⟩ A.toList).run P w=.ok () (w.setCells b o A.toList):=by
 have:=run_storeCells_cells (P:=P) b o A.toList 0 w (fun j hj=>by simpa using (ht j (by simpa using hj)).1) (fun j hj=>by simpa using (ht j (by simpa using hj)).2)
  (fun v hv=>(Array.all_eq_true_iff_forall_mem.1 h1) v (by simpa using hv))
 simp only[Nat.add_zero]at this
 exact this
def jj:Mv:=⟨3,0,2,0,0,0,0,false,0,fun _=>0⟩
theorem PWn.dropR {e:Nat→Nat} {w0 w:World} {t:Nat→Thing} {L:Pw} {S:Ws} {i:Nat} {m:Mv} {S':Ws} {k:Nat} {a:Option Addr} {c:Nat} {ah:Option Addr} {ch:Nat} {ad:Option Addr} {cd:Nat} (h:PWn e w0 (uz t i m S' k a c ah ch ad cd) L w S) (F:Fre e t i):PWn e w0 t L w S:=by
 unfold uz at h
 have h1:=h.drop (F (i+3) (by omega)).1 (by rw[an _ _ (by omega),an _ _ (by omega)];exact (F (i+3) (by omega)).2)
 have h2:=h1.drop (F (i+2) (by omega)).1 (by rw[an _ _ (by omega)];exact (F (i+2) (by omega)).2)
 exact h2.drop (F (i+1) (by omega)).1 (F (i+1) (by omega)).2
theorem PWn.layL {e:Nat→Nat} {w0 w:World} {t:Nat→Thing} {L:Pw} {S:Ws} {w1:World} (h:PWn e w0 t L w1 S) (b:Below w1.heap.size w1 w) {i:Nat} (hi:∀ j,i≠e j) {l:List (Nat × Obj)} (R:∀ p,p ∈ l→w.heap[p.1]?=some p.2) (bG:∀ p,p ∈ l→w1.heap.size≤p.1):PWn e w0 (aG t i (eZ l)) L w S:=by
 obtain⟨t1,L1,h1,hs,hx,he⟩:=h
 exact⟨_,L1,h1.layL b hi R bG,hs,hx,he.putB _ _⟩
theorem aM (S:Ws) (k s:Nat) (f:Fm):(S.put k s f).n=S.n∧(S.put k s f).ds=S.ds∧(S.put k s f).hs=S.hs∧(S.put k s f).PD=S.PD∧(S.put k s f).PH=S.PH∧(S.put k s f).mx=S.mx∧(S.put k s f).mv=S.mv∧(S.put k s f).fs.length≤S.fs.length+1:=by
 unfold Ws.put
 split
 ·exact⟨rfl,rfl,rfl,rfl,rfl,rfl,rfl,Nat.le_succ _⟩
 ·refine⟨rfl,rfl,rfl,rfl,rfl,rfl,rfl,?_⟩
  show (S.fs ++ dA 1 k s f).length≤_
  rw[List.length_append]
  unfold dA
  split <;> simp
theorem uh (S:Ws) (k s:Nat) (f:Fm) (h:f.1≠0):(S.put k s f).bg=S.bg ++ [f]∧S.putI f=((S.bg.length:Nat):Int):=by
 unfold Ws.put Ws.putI
 rw[if_neg h,if_neg h]
 exact⟨rfl,rfl⟩
def aS1:Ws:=((s0 P0 P0 50).up.snd 0).S
def dy (T:Ws):Ws:=(T.note [oH T 0,oD T 0])
def uY (T:Ws):Wr:=(dy T).up.dlv jj 0
structure A1 (T:Ws):Prop where
 bg:T.bg=[dq P0]
 n:T.n=1
 ds:T.ds=(fun _=>dw M0)
 PD:T.PD=(fun _=>P0)
 mx:T.mx=50
 mv:T.mv=1
 fs:T.fs.length≤1
 hs:T.hs 0=aB P0 bG
theorem wm:az P0 bG=dq P0:=tl P0 qd
theorem a1:((s0 P0 P0 50).up.snd 0).e=0∧((s0 P0 P0 50).up.snd 0).i=0∧A1 aS1:=by
 obtain⟨p1,p2,p3,p4,p5,p6,p7,p8⟩:=aM ((s0 P0 P0 50).up.setH 0 (aB P0 bG)) 0 1 (az P0 bG)
 obtain⟨q1,q2⟩:=uh ((s0 P0 P0 50).up.setH 0 (aB P0 bG)) 0 1 (az P0 bG) (by rw[wm];exact Nat.succ_ne_zero 22)
 refine⟨rfl,q2,?_,p1,p2,p4,p6,p7,p8,?_⟩
 ·show (((s0 P0 P0 50).up.setH 0 (aB P0 bG)).put 0 1 (az P0 bG)).bg=_
  rw[q1,wm]
  rfl
 ·show (((s0 P0 P0 50).up.setH 0 (aB P0 bG)).put 0 1 (az P0 bG)).hs 0=_
  rw[p3]
  rfl
theorem yi:(dj 17 P0.c 1 0 0 4 (iY P0)).1=23:=by
 have e:dj 17 P0.c 1 0 0 4 (iY P0)=(15+4+4,PM.sl (fr 17 P0.c 1 0 0 4 (iY P0)) (15+4)):=if_pos (s7 (by decide) (by decide))
 rw[e]
theorem aD {T:Ws} (q:A1 T):au ((dy T).up.PD 0) (dy T).up.mx 16 ((dy T).up.ds 0) ((dy T).up.fr jj).1 ((dy T).up.fr jj).2=au P0 50 16 (dw M0) (dq P0).1 (dq P0).2:=by
 obtain⟨b1,_,b3,b4,b5,_⟩:=q
 have e1:(dy T).up.PD 0=P0:=by show T.PD 0=P0;rw[b4]
 have e2:(dy T).up.mx=50:=b5
 have e3:(dy T).up.ds 0=dw M0:=by show T.ds 0=_;rw[b3]
 have e4:(dy T).up.fr jj=dq P0:=by
  unfold Ws.fr
  rw[if_neg (by decide)]
  show T.bg.getD 0 dK=_
  rw[b1]
  rfl
 rw[e1,e2,e3,e4]
theorem a3 {T:Ws} (q:A1 T):(uY T).e=0∧(uY T).i=1∧(uY T).S.bg.length=2∧(uY T).S.mv=2∧(uY T).S.n=1∧((uY T).S.ds 0).st=2∧(uY T).S.fs.length≤100:=by
 obtain⟨f1,f2,f3⟩:=oU P0 qd 50 (by omega)
 have hd:=aD q
 obtain⟨b1,b2,b3,b4,b5,b6,b7,b8⟩:=q
 have e0:uY T=(dy T).up.toD 0 ((dy T).up.fr jj):=by
  unfold uY Ws.dlv
  rw[if_neg (by decide)]
 obtain⟨D,hD⟩:∃ y,au P0 50 16 (dw M0) (dq P0).1 (dq P0).2=y:=⟨_,rfl⟩
 rw[hD]at hd f1 f2 f3
 have fne:D.f.1≠0:=by rw[f3,yi];decide
 rw[e0]
 unfold Ws.toD
 rw[hd]
 obtain⟨p1,p2,p3,p4,p5,p6,p7,p8⟩:=aM ((dy T).up.toD2 0 ((dy T).up.fr jj)) 0 2 D.f
 obtain⟨q1,q2⟩:=uh ((dy T).up.toD2 0 ((dy T).up.fr jj)) 0 2 D.f fne
 have t1:(dy T).up.toD1 0 ((dy T).up.fr jj)=((dy T).up.setD 0 D.s).note (dF 0 ((dy T).up.ds 0) D.s):=by unfold Ws.toD1;rw[hd]
 have g:∀ V:Ws,(V=(dy T).up.toD1 0 ((dy T).up.fr jj)∨V=((dy T).up.toD1 0 ((dy T).up.fr jj)).note (cD 0 2 ((dy T).up.fr jj)))→V.bg=T.bg∧V.mv=T.mv+1∧V.n=T.n∧V.ds 0=D.s∧V.fs.length≤10:=by
  have l1:=jo 0 ((dy T).up.ds 0) D.s
  have l2:=fw 0 2 ((dy T).up.fr jj)
  have l0:(dy T).up.fs.length≤3:=by
   show (T.fs ++ [oH T 0,oD T 0]).length≤3
   rw[List.length_append]
   simp
   omega
  intro V hT
  rcases hT with rfl | rfl
  ·rw[t1]
   refine⟨rfl,rfl,rfl,(show ep (dy T).up.ds 0 D.s 0=D.s from ai _ _ _),?_⟩
   show ((dy T).up.fs ++ dF 0 ((dy T).up.ds 0) D.s).length≤10
   rw[List.length_append]
   omega
  ·rw[t1]
   refine⟨rfl,rfl,rfl,(show ep (dy T).up.ds 0 D.s 0=D.s from ai _ _ _),?_⟩
   show (((dy T).up.fs ++ dF 0 ((dy T).up.ds 0) D.s) ++ cD 0 2 ((dy T).up.fr jj)).length≤10
   rw[List.length_append,List.length_append]
   omega
 have h2:(dy T).up.toD2 0 ((dy T).up.fr jj)=(dy T).up.toD1 0 ((dy T).up.fr jj)∨(dy T).up.toD2 0 ((dy T).up.fr jj)=((dy T).up.toD1 0 ((dy T).up.fr jj)).note (cD 0 2 ((dy T).up.fr jj)):=by
  unfold Ws.toD2
  split
  ·exact .inr rfl
  ·exact .inl rfl
 obtain⟨g1,g2,g3,g4,g5⟩:=g _ h2
 refine⟨f1,?_,?_,?_,?_,?_,?_⟩
 ·show ((dy T).up.toD2 0 ((dy T).up.fr jj)).putI D.f=1
  rw[q2,g1,b1]
  rfl
 ·show (((dy T).up.toD2 0 ((dy T).up.fr jj)).put 0 2 D.f).bg.length=2
  rw[q1,g1,b1]
  rfl
 ·show (((dy T).up.toD2 0 ((dy T).up.fr jj)).put 0 2 D.f).mv=2
  rw[p7,g2,b6]
 ·show (((dy T).up.toD2 0 ((dy T).up.fr jj)).put 0 2 D.f).n=1
  rw[p1,g3,b2]
 ·show ((((dy T).up.toD2 0 ((dy T).up.fr jj)).put 0 2 D.f).ds 0).st=2
  rw[p2,g4]
  exact f2
 ·show (((dy T).up.toD2 0 ((dy T).up.fr jj)).put 0 2 D.f).fs.length≤100
  omega
section
variable {w wr w':World} {g:Nat} {fs:List Fa}
end
end Go.Proofs.YtfgnmadnmjdbiaaGreat
namespace Go.Proofs.YtfgnmadnmjdbiaaGreat
open Go.RowKit
section
variable {P:Pm} {s:Sh}
theorem uj (s:Sh) (x:Int):(aZ s x).v=dz s.v x:=by unfold aZ eI;split <;> rfl
theorem fM (s:Sh) (x:Int):(aZ s x).st=s.st∧(aZ s x).ss=s.ss∧(aZ s x).nm=s.nm∧(aZ s x).sn=s.sn∧(aZ s x).wt=s.wt∧(aZ s x).ms=s.ms∧(aZ s x).ap=s.ap∧(aZ s x).hd=s.hd∧(aZ s x).dc=s.dc:=by unfold aZ eI;split <;> exact⟨rfl,rfl,rfl,rfl,rfl,rfl,rfl,rfl,rfl⟩
theorem gR (s:Sh) (x:Int):(aZ s x).L.length≤s.L.length+1:=by unfold aZ eI;split <;> simp
theorem rB {v:Vs} {x:Int} (hx:x≠0):(dz v x).lat≠0:=by
 unfold dz
 rw[if_neg hx]
 show (if v.lat=0 then x else v.lat)≠0
 split <;> assumption
theorem jv {v:Vs} {x:Int} (h:v.lat≠0):(dz v x).lat≠0:=by
 unfold dz
 by_cases hx:x=0
 ·rw[if_pos hx];exact h
 ·rw[if_neg hx]
  show (if v.lat=0 then x else v.lat)≠0
  rw[if_neg h];exact h
theorem ee (v:Vs) (o:Bool):(dx v o).lat=v.lat:=by unfold dx;split <;> rfl
theorem Ih.new_ (P:Pm):Ih P bG:=⟨by show 1≤1;omega,by show 1≤5;omega,by show 0<_;omega,by show 0<_;omega,by show 0<_;omega,by show 0<4;omega,fun e=>by have e:(1:Nat)=2∨(1:Nat)=3∨(1:Nat)=4:=e;omega,fun _ _=>⟨rfl,rfl⟩,fun e=>by have e:(1:Nat)=4:=e;omega,rfl,fun e=>by have e:(1:Nat)=5:=e;omega⟩
theorem Ih.life (P:Pm) (s:Sh):Ih P (fF s):=⟨by show 1≤1;omega,by show 1≤5;omega,by show 0<_;omega,by show 0<_;omega,by show 0<_;omega,by show 0<4;omega,fun e=>by have e:(1:Nat)=2∨(1:Nat)=3∨(1:Nat)=4:=e;omega,fun _ _=>⟨rfl,rfl⟩,fun e=>by have e:(1:Nat)=4:=e;omega,rfl,fun e=>by have e:(1:Nat)=5:=e;omega⟩
theorem Ih.note (h:Ih P s) (x:Int):Ih P (eI s x):=⟨h.st1,h.st5,h.ss,h.nm,h.sn,h.ms,h.s4,h.hs,h.run,h.vr,h.lat5⟩
theorem Ih.latch (h:Ih P s) (x:Int):Ih P (aZ s x):=by
 unfold aZ eI
 split
 ·exact⟨h.st1,h.st5,h.ss,h.nm,h.sn,h.ms,h.s4,h.hs,h.run,(gt _ _).trans h.vr,fun e=>jv (h.lat5 e)⟩
 ·exact⟨h.st1,h.st5,h.ss,h.nm,h.sn,h.ms,h.s4,h.hs,h.run,(gt _ _).trans h.vr,fun e=>jv (h.lat5 e)⟩
theorem Ih.give_of (h:s.ss<4294967296):Ih P (ii s):=⟨by show 1≤1;omega,by show 1≤5;omega,h,by show 0<_;omega,by show 0<_;omega,by show 0<4;omega,fun e=>by have e:(1:Nat)=2∨(1:Nat)=3∨(1:Nat)=4:=e;omega,fun _ _=>⟨rfl,rfl⟩,fun e=>by have e:(1:Nat)=4:=e;omega,eC _ _,fun e=>by have e:(1:Nat)=5:=e;omega⟩
theorem Ih.miss (h:Ih P s):Ih P (bT s):=by
 unfold bT
 split
 ·exact h
 ·split
  ·rename_i h4
   exact⟨h.st1,h.st5,h.ss,h.nm,h.sn,h4,h.s4,h.hs,h.run,h.vr,h.lat5⟩
  ·refine Ih.give_of ?_
   split
   ·rw[(fM _ _).2.1];exact h.ss
   ·exact h.ss
theorem Ih.exh (h1:s.ss<4294967296) (h2:s.nm<4294967296) (h3:s.sn<4294967296) (h4:s.ms<4):Ih P (jU s):=by
 obtain⟨_,f2,f3,f4,_,f6,_⟩:=fM s 80
 refine⟨by show 1≤5;omega,by show 5≤5;omega,by show (aZ s 80).ss<_;omega,by show (aZ s 80).nm<_;omega,by show (aZ s 80).sn<_;omega,by show (aZ s 80).ms<4;omega,fun e=>by have e:(5:Nat)=2∨(5:Nat)=3∨(5:Nat)=4:=e;omega,fun _ e=>absurd rfl e,fun e=>by have e:(5:Nat)=4:=e;omega,eC _ _,fun _=>?_⟩
 show (dx (aZ s 80).v false).lat≠0
 rw[ee,uj]
 exact rB (by omega)
theorem Ih.next (hP:Pok P) (h:Ih P s) (h5:s.st≠5):Ih P (a7 P s).1:=by
 unfold a7
 by_cases c1:s.st=1
 ·rw[if_pos c1];exact h
 ·rw[if_neg c1]
  by_cases c2:s.st=2
  ·rw[if_pos c2];exact h
  ·rw[if_neg c2]
   by_cases c3:s.st=3
   ·rw[if_pos c3];exact h
   ·rw[if_neg c3]
    have h4:s.st=4:=by have:=h.st1;have:=h.st5;omega
    have hr:=h.run h4
    have hn:=hP.n
    by_cases c4:s.sn+1=P.n
    ·rw[if_pos c4]
     exact Ih.exh (s:={ s with sn:=s.sn+1 }) h.ss h.nm (by show s.sn+1<_;omega) h.ms
    ·rw[if_neg c4]
     exact⟨h.st1,h.st5,h.ss,h.nm,by show s.sn+1<_;omega,h.ms,h.s4,fun e=>absurd h4 e,fun _=>⟨by show s.sn+1<P.n;omega,hr.2⟩,h.vr,h.lat5⟩
theorem qM (h:s.st≠5):(bT s).st≠5:=by
 unfold bT
 split
 ·exact h
 ·split
  ·exact h
  ·show (1:Nat)≠5;omega
theorem Ih.wait (h:Ih P s):Ih P { s with wt:=true }:=⟨h.st1,h.st5,h.ss,h.nm,h.sn,h.ms,h.s4,h.hs,h.run,h.vr,h.lat5⟩
theorem Ih.send (hP:Pok P) (h:Ih P s):Ih P (aB P s):=by
 unfold aB
 by_cases c:s.st=5
 ·rw[if_pos c];exact h
 ·rw[if_neg c];exact (h.miss.next hP (qM c)).wait
theorem Ih.on_ (h:Ih P s):Ih P (n6 s):=⟨h.st1,h.st5,h.ss,h.nm,h.sn,by show 0<4;omega,h.s4,h.hs,h.run,h.vr,h.lat5⟩
theorem Ih.recv (hP:Pok P) (h:Ih P s) (len:Nat) (bs:Nat→Nat) (hb:∀ i,i<len→bs i<256):Ih P (cw P s len bs):=by
 unfold cw
 by_cases hE:di P s len bs≠0
 ·rw[if_pos hE];exact h.note _
 ·rw[if_neg hE]
  have hE:di P s len bs=0:=by omega
  unfold di at hE
  by_cases hD:DE bs len≠0
  ·rw[if_pos hD]at hE;exact absurd hE hD
  ·rw[if_neg hD]at hE
   have hD:DE bs len=0:=by omega
   have hl:19≤len:=(jc hD).1
   have hs5:aT bs 5<4294967296:=tF fun j hj=>hb _ (by omega)
   have hs9:aT bs 9<4294967296:=tF fun j hj=>hb _ (by omega)
   generalize aT bs 5=ss at *
   generalize aT bs 9=num at *
   generalize (fun i=>bs (15+i))=ds at *
   generalize bs 13=fl at *
   generalize bs 0=k at *
   have hn2:2≤P.n:=by have:=hP.ok.2.2.2.2;omega
   have hn:=hP.n
   unfold cL at hE
   by_cases hK:ip (k:Int)=false
   ·rw[if_pos hK]at hE;omega
   ·rw[if_neg hK]at hE
    by_cases hC:aT bs 1≠P.c
    ·rw[if_pos hC]at hE;omega
    ·rw[if_neg hC]at hE
     by_cases h1:s.st=1
     ·rw[if_pos h1]at hE
      unfold iS at hE
      by_cases hk:k≠17∨ss≤s.ss
      ·rw[if_pos hk]at hE;omega
      ·obtain rfl:k=17:=by omega
       have h0:=h.hs (by omega) (by omega)
       unfold bE
       rw[if_pos rfl]
       refine Ih.on_ ⟨by show 1≤2;omega,by show 2≤5;omega,hs5,h.nm,h.sn,h.ms,fun _=>by show ss≠0;omega,fun _ _=>h0,fun e=>by have e:(2:Nat)=4:=e;omega,?_,fun e=>by have e:(2:Nat)=5:=e;omega⟩
       show s.v.run=decide ((2:Nat)=4)
       rw[h.vr,h1];rfl
     ·rw[if_neg h1]at hE
      by_cases ha:ss≠s.ss∨bF P s k num (len-19)=false
      ·rw[if_pos ha]at hE;omega
      ·have ha2:bF P s k num (len-19)=true:=by
        cases hh:bF P s k num (len-19) with
        | true=>rfl
        | false=>exact absurd (.inr hh) ha
       unfold bF at ha2
       have ha3:=of_decide_eq_true ha2
       unfold bE
       rcases ha3 with ⟨rfl,h2⟩ | ⟨rfl,h3⟩ | ⟨rfl,⟨⟨h4,hm⟩,hp⟩,_⟩ | ⟨rfl,⟨h4,hm⟩,rfl⟩
       ·rw[if_neg (by omega),if_pos rfl]
        have h0:=h.hs (by omega) (by omega)
        refine Ih.on_ ⟨by show 1≤3;omega,by show 3≤5;omega,h.ss,h.nm,h.sn,h.ms,fun _=>h.s4 (.inl h2),fun _ _=>h0,fun e=>by have e:(3:Nat)=4:=e;omega,?_,fun e=>by have e:(3:Nat)=5:=e;omega⟩
        show s.v.run=decide ((3:Nat)=4)
        rw[h.vr,h2];rfl
       ·rw[if_neg (by omega),if_neg (by omega),if_pos rfl]
        have h0:=h.hs (by omega) (by omega)
        refine Ih.on_ ⟨by show 1≤4;omega,by show 4≤5;omega,h.ss,h.nm,h.sn,h.ms,fun _=>h.s4 (.inr (.inl h3)),fun e=>absurd rfl e,fun _=>⟨by show s.sn<P.n;omega,by show s.nm<P.n;omega⟩,eC _ _,fun e=>by have e:(4:Nat)=5:=e;omega⟩
       ·rw[if_neg (by omega),if_neg (by omega),if_neg (by omega),if_pos rfl]
        have hr:=h.run h4
        refine⟨h.st1,h.st5,h.ss,hs9,h.sn,by show 0<4;omega,h.s4,fun e=>absurd h4 e,fun _=>⟨hr.1,hp⟩,?_,fun e=>by have e:s.st=5:=e;omega⟩
        show (bH (cJ (bk s.v) (decide (8≤fl))) ds).run=decide (s.st=4)
        rw[kD];exact h.vr
       ·rw[if_neg (by omega),if_neg (by omega),if_neg (by omega),if_neg (by omega),if_pos rfl]
        exact Ih.exh (s:=n6 { s with nm:=P.n }) h.ss (by show P.n<_;omega) h.sn (by show 0<4;omega)
theorem Ih.tick (h:Ih P s) (k:Int):Ih P (eu P s k):=by
 unfold eu
 by_cases c:k<0
 ·rw[if_pos c];exact h
 ·rw[if_neg c]
  have h':Ih P { s with dc:=tk P.t s.dc k.toNat }:=⟨h.st1,h.st5,h.ss,h.nm,h.sn,h.ms,h.s4,h.hs,h.run,h.vr,h.lat5⟩
  split
  ·exact h'.latch 100
  ·exact h'
theorem Ih.ack (h:Ih P s):Ih P (fc s):=by
 refine⟨h.st1,h.st5,h.ss,h.nm,h.sn,h.ms,h.s4,h.hs,h.run,(mK _).trans h.vr,fun e=>?_⟩
 have e:s.st=5:=e
 have hr:s.v.run=false:=by rw[h.vr,e];rfl
 show (dY s.v).lat≠0
 unfold dY aq
 rw[hr,if_neg (by simp)]
 exact h.lat5 e
theorem Ih.write (h:Ih P s) (len:Nat) (bs:Nat→Nat) (o:Bool):Ih P (cX P s len bs o):=by
 unfold cX
 split
 ·exact⟨h.st1,h.st5,h.ss,h.nm,h.sn,h.ms,h.s4,h.hs,h.run,h.vr,h.lat5⟩
 ·exact h
theorem nt (s:Sh):(jU s).L.length≤s.L.length+1:=gR s 80
theorem ro (s:Sh):(bT s).L.length≤s.L.length+1:=by
 unfold bT
 split
 ·omega
 ·split
  ·show s.L.length≤_;omega
  ·show (ii _).L.length≤_
   unfold ii
   split
   ·exact gR { s with ms:=s.ms+1 } 131
   ·show s.L.length≤_;omega
theorem rp (P:Pm) (s:Sh):(a7 P s).1.L.length≤s.L.length+1:=by
 unfold a7
 by_cases c1:s.st=1
 ·rw[if_pos c1];show s.L.length≤_;omega
 ·rw[if_neg c1]
  by_cases c2:s.st=2
  ·rw[if_pos c2];show s.L.length≤_;omega
  ·rw[if_neg c2]
   by_cases c3:s.st=3
   ·rw[if_pos c3];show s.L.length≤_;omega
   ·rw[if_neg c3]
    by_cases c4:s.sn+1=P.n
    ·rw[if_pos c4];exact nt { s with sn:=s.sn+1 }
    ·rw[if_neg c4];show s.L.length≤_;omega
theorem rU (P:Pm) (s:Sh):(aB P s).L.length≤s.L.length+2:=by
 unfold aB
 by_cases c:s.st=5
 ·rw[if_pos c];omega
 ·rw[if_neg c]
  show (a7 P (bT s)).1.L.length≤_
  have:=rp P (bT s)
  have:=ro s
  omega
end
end Go.Proofs.YtfgnmadnmjdbiaaGreat
namespace Go.Proofs.YtfgnmadnmjdbiaaGreat
open Go.RowKit
set_option linter.unusedVariables false
theorem cE (P:Pm) (s:Sd) (k num fl len:Nat) (bs:Nat→Nat) (hb:∀ i,i<len→bs i<256):∀ i,i < (cj P s k num fl len bs).1→(cj P s k num fl len bs).2 i<256:=d9 _ _ _ _ _ _ _ hb
theorem kZ (k c s n:Nat) (f:Int) (len:Nat) (bs:Nat→Nat):(yH k c s n f len bs).1≤27:=by
 unfold yH
 by_cases h:LW k c s n f len len=0
 ·rw[if_pos h]
  have:=(gu h).2.2.2.1
  show 15+len+4≤27
  omega
 ·rw[if_neg h];show 0≤27;omega
theorem dO {bs:Nat→Nat}:∀ i,i<0→bs i<256:=fun i hi=>absurd hi (Nat.not_lt_zero i)
theorem dZ:∀ i,i<dK.1→dK.2 i<256:=fun i hi=>absurd hi (Nat.not_lt_zero i)
theorem lH (P:Pm) (mx n:Nat) (s:Sd):∀ i,i < (bi P mx n s).f.1→(bi P mx n s).f.2 i<256:=by
 unfold bi
 split
 ·exact cE _ _ _ _ _ _ _ dO
 ·split
  ·exact dZ
  ·exact cE _ _ _ _ _ _ _ (g9 P)
theorem nV (P:Pm) (mx n:Nat) (s:Sd):∀ i,i < (bI P mx n s).f.1→(bI P mx n s).f.2 i<256:=by
 unfold bI
 split
 ·exact cE _ _ _ _ _ _ _ (g9 P)
 ·split
  ·exact cE _ _ _ _ _ _ _ dO
  ·exact lH P mx n _
theorem eT (P:Pm) (s:Sd) (e:Int):∀ i,i < (aR P s e).f.1→(aR P s e).f.2 i<256:=cE _ _ _ _ _ _ _ dO
theorem mD (P:Pm) (mx n:Nat) (s:Sd) (hap:∀ i,i<P.i→s.ap i<256) (k ss num fl len:Nat) (bs:Nat→Nat):∀ i,i < (aL P mx n s k ss num fl len bs).f.1→(aL P mx n s k ss num fl len bs).f.2 i<256:=by
 unfold aL
 split
 ·split
  ·exact nV P mx n s
  ·exact eT P s _
 ·split
  ·split
   ·exact cE _ _ _ _ _ _ _ dO
   ·exact eT P s _
  ·split
   ·exact cE _ _ _ _ _ _ _ dO
   ·split
    ·exact cE _ _ _ _ _ _ _ hap
    ·split
     ·exact cE _ _ _ _ _ _ _ dO
     ·exact eT P s _
theorem mI (P:Pm) (mx n:Nat) (s:Sd) (hap:∀ i,i<P.i→s.ap i<256) (len:Nat) (bs:Nat→Nat):∀ i,i < (au P mx n s len bs).f.1→(au P mx n s len bs).f.2 i<256:=by
 have hh:∀ i,i < (bu P mx n s len bs).f.1→(bu P mx n s len bs).f.2 i<256:=by
  unfold bu
  split
  ·exact dZ
  ·split
   ·exact dZ
   ·split
    ·exact dZ
    ·exact mD P mx n s hap _ _ _ _ _ _
 unfold au
 split
 ·exact dZ
 ·split
  ·exact hh
  ·exact hh
theorem nE (P:Pm) (s:Sh) (hap:∀ i,i<P.o→s.ap i<256):∀ i,i < (a7 P s).2.1→(a7 P s).2.2 i<256:=by
 unfold a7
 split
 ·exact d9 _ _ _ _ _ _ _ (g9 P)
 ·split
  ·exact d9 _ _ _ _ _ _ _ (g9 P)
  ·split
   ·exact d9 _ _ _ _ _ _ _ dO
   ·split
    ·exact d9 _ _ _ _ _ _ _ dO
    ·exact d9 _ _ _ _ _ _ _ hap
theorem qR (s:Sh):(bT s).ap=s.ap:=by
 unfold bT
 split
 ·rfl
 ·split
  ·rfl
  ·show (ii _).ap=_
   unfold ii
   split
   ·exact (fM _ _).2.2.2.2.2.2.1
   ·rfl
theorem nw (P:Pm) (s:Sh) (hap:∀ i,i<P.o→s.ap i<256):∀ i,i < (az P s).1→(az P s).2 i<256:=by
 unfold az
 split
 ·exact dZ
 ·exact nE P _ (by rw[qR];exact hap)
theorem Ih.sentY {P:Pm} {s:Sh} (hP:Pok P) (h:Ih P s):s.st=4→s.sn+1<4294967296:=fun e=>by
 have:=(h.run e).1
 have:=hP.n
 omega
theorem oO (s:Sh) (k ss num fl:Nat) (bs:Nat→Nat):(bE s k ss num fl bs).L.length≤s.L.length+1:=by
 unfold bE
 split
 ·show s.L.length≤_;omega
 ·split
  ·show s.L.length≤_;omega
  ·split
   ·show s.L.length≤_;omega
   ·split
    ·show s.L.length≤_;omega
    ·split
     ·exact nt (n6 { s with nm:=num })
     ·show s.L.length≤_;omega
theorem oq (P:Pm) (s:Sh) (len:Nat) (bs:Nat→Nat):(cw P s len bs).L.length≤s.L.length+1:=by
 unfold cw
 split
 ·show (s.L ++ [_]).length≤_;simp
 ·exact oO _ _ _ _ _ _
theorem pv (P:Pm) (s:Sh) (k:Int):(eu P s k).L.length≤s.L.length+1:=by
 unfold eu
 split
 ·omega
 ·split
  ·exact gR { s with dc:=tk P.t s.dc k.toNat } 100
  ·show s.L.length≤_;omega
theorem nI (P:Pm) (s:Sh) (len:Nat) (bs:Nat→Nat) (o:Bool):(cX P s len bs o).L.length≤s.L.length:=by
 unfold cX
 split
 ·show s.L.length≤_;omega
 ·omega
theorem ng (P:Pm) (s:Sh):(az P s).1≤27:=by
 have he:∀ k c s n f len bs,(dj k c s n f len bs).1≤27:=fun k c s n f len bs=>kZ k c s n f len bs
 unfold az a7
 split
 ·show 0≤27;omega
 ·split
  ·exact he _ _ _ _ _ _ _
  ·split
   ·exact he _ _ _ _ _ _ _
   ·split
    ·exact he _ _ _ _ _ _ _
    ·split
     ·exact he _ _ _ _ _ _ _
     ·exact he _ _ _ _ _ _ _
theorem lS (P:Pm) (mx n:Nat) (s:Sd) (len:Nat) (bs:Nat→Nat):(au P mx n s len bs).f.1≤27:=by
 have he:∀ k c s n f len bs,(dj k c s n f len bs).1≤27:=fun k c s n f len bs=>kZ k c s n f len bs
 have h0:dK.1≤27:=by show 0≤27;omega
 have hb:∀ s,(bi P mx n s).f.1≤27:=fun s=>by
  unfold bi
  split
  ·exact he _ _ _ _ _ _ _
  ·split
   ·exact h0
   ·exact he _ _ _ _ _ _ _
 have ht:∀ k ss num fl len bs,(aL P mx n s k ss num fl len bs).f.1≤27:=fun k ss num fl len bs=>by
  unfold aL bI aR
  repeat' split
  all_goals first | exact he _ _ _ _ _ _ _ | exact hb _
 have hh:(bu P mx n s len bs).f.1≤27:=by
  unfold bu
  repeat' split
  all_goals first | exact h0 | exact ht _ _ _ _ _ _
 unfold au
 split
 ·exact h0
 ·split <;> exact hh
end Go.Proofs.YtfgnmadnmjdbiaaGreat
