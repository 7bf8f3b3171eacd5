/- Part 37: contracts that the proof rests on. -/
import Derived.Test.YtddahhlbpcbddaaGreatPkX35
set_option maxHeartbeats 64000000
set_option maxRecDepth 100000
namespace Go.Proofs.YtddahhlbpcbddaaGreat
open Tryz
open Go.RowKit Go.Maps
set_option linter.unusedVariables false
theorem jC {P:Program} {ops:Array Oper} {rest:List Oper} {op:Oper} {a:Act} {w:World} {Q:Exit→Act→World→Prop} (hw:Region.wanted op (yielded ops a.tmps)=true) (ty:TypeId) (x:Operand) (ho:op.op=.load ty x)
  (b o:Nat) (hx:a.eval x=ac b o) (cs:List Value) (d:TypeDesc) (hc:w.rangeAt b o cs)
  (hu:P.underlying ty=some d) (hd:d.isRow=true) (hi:(P.info? ty).map (·.size)=some cs.length)
  (h:wpList P ops Q rest (a.put op.dst (.agg cs.toArray)) w):wpList P ops Q (op :: rest) a w:=by
 unfold wpList
 rw[if_pos hw]
 exact .inl (wp_load_mid ty x ho b o hx cs d hc hu hd hi h)
theorem gJ {P:Program} {ops:Array Oper} {rest:List Oper} {op:Oper} {a:Act} {w:World} {Q:Exit→Act→World→Prop} (hgd:op.guard=none) (v:Value) (hrun:(execOp a.eval op).run P w=.ok (.value v) w) (h:wpList P ops Q rest (a.put op.dst v) w):wpList P ops Q (op :: rest) a w:=
 wpList_plain hgd fun _ hK=>by
  unfold Oper.wp
  rw[hrun]
  exact hK _ _ h
theorem it {P:Program} {w:World} {b o:Nat} {A:Array Value} (ht:w.there b o A.size) (h1:A.all (·.oneCell')=true):(storeCells ⟨b,o,none⟩ A.toList).run P w=.ok () (w.setCells b o A.toList):=by
 have:=run_storeCells_cells (P:=P) b o A.toList 0 w (fun j hj=>by simpa using (ht j (by simpa using hj)).1) (fun j hj=>by simpa using (ht j (by simpa using hj)).2)
  (fun v hv=>(Array.all_eq_true_iff_forall_mem.1 h1) v (by simpa using hv))
 simp only[Nat.add_zero]at this
 exact this
def mv1:Mv:=⟨2,0,0,0,0,0,0,false,0,fun _=>0⟩
def jf:Mv:=⟨3,0,2,0,0,0,0,false,0,fun _=>0⟩
theorem PWn.dropR {e:Nat→Nat} {w0 w:World} {t:Nat→Thing} {L:Pw} {S:Ws} {i:Nat} {m:Mv} {S':Ws} {k:Nat} {a:Option Addr} {c:Nat} {ah:Option Addr} {ch:Nat} {ad:Option Addr} {cd:Nat} (h:PWn e w0 (yo t i m S' k a c ah ch ad cd) L w S) (F:Fre e t i):PWn e w0 t L w S:=by
 unfold yo at h
 have h1:=h.drop (F (i+3) (by omega)).1 (by rw[ak _ _ (by omega),ak _ _ (by omega)];exact (F (i+3) (by omega)).2)
 have h2:=h1.drop (F (i+2) (by omega)).1 (by rw[ak _ _ (by omega)];exact (F (i+2) (by omega)).2)
 exact h2.drop (F (i+1) (by omega)).1 (F (i+1) (by omega)).2
theorem PWn.layL {e:Nat→Nat} {w0 w:World} {t:Nat→Thing} {L:Pw} {S:Ws} {w1:World} (h:PWn e w0 t L w1 S) (b:Below w1.heap.size w1 w) {i:Nat} (hi:∀ j,i≠e j) {l:List (Nat × Obj)} (R:∀ p,p ∈ l→w.heap[p.1]?=some p.2) (bY:∀ p,p ∈ l→w1.heap.size≤p.1):PWn e w0 (aV t i (fI l)) L w S:=by
 obtain⟨t1,L1,h1,hs,hx,he⟩:=h
 exact⟨_,L1,h1.layL b hi R bY,hs,hx,he.putB _ _⟩
theorem zC {e:Nat→Nat} {w0 w:World} {t:Nat→Thing} {L:Pw} {S:Ws} (h:PWn e w0 t L w S):Calls prog 28 #[ac L.x 0] w fun r w'=>r=.returned (.int .i64 (S.mv:Nat))∧w'=w:=by
 obtain⟨t1,L1,h1,hs,hx,he⟩:=h
 subst hs
 have hb:=(h1.2.wb h1.1).blk
 have c4:w.cell? ⟨L1.x,4,none⟩=some (ac L1.b 0):=ae w L1.x 4 _ _ _ hb
 have c5:w.cell? ⟨L1.x,5,none⟩=some (.int .i64 (L1.S.mv:Nat)):=ae w L1.x 5 _ _ _ hb
 rw[hx.x]at c4 c5
 have hN:=pL L.x L1.b w c4
 obtain⟨X,hX⟩:∃ y,L.x=y:=⟨_,rfl⟩
 obtain⟨v,hv⟩:∃ y,L1.S.mv=y:=⟨_,rfl⟩
 rw[hX]at c5 hN ⊢
 rw[hv]at c5 ⊢
 clear h1 hx he hb c4 hX hv
 go_enter func28,ntmps28
 go_wp2_with fail
 refine hN.mono ?_
 rintro r w2 ⟨rfl,rfl⟩
 go_wp2_with fail
 go_ret
 exact⟨rfl,rfl⟩
theorem sb {e:Nat→Nat} {w0 w:World} {t:Nat→Thing} {L:Pw} {S:Ws} (h:PWn e w0 t L w S):Calls prog 16 #[ac L.x 0] w fun r w'=>r=.returned (.int .i64 (S.bg.length:Nat))∧w'=w:=by
 obtain⟨t1,L1,h1,hs,hx,he⟩:=h
 subst hs
 have hb:=(h1.2.wb h1.1).blk
 have c4:w.cell? ⟨L1.x,4,none⟩=some (ac L1.b 0):=ae w L1.x 4 _ _ _ hb
 have hL:=uq 0 L1.b L1.m L1.bv L1.bs L1.bp L1.S.bg w (h1.2.bg h1.1).1
 rw[hx.x]at c4
 have hN:=pL L.x L1.b w c4
 obtain⟨X,hX⟩:∃ y,L.x=y:=⟨_,rfl⟩
 obtain⟨b,hbb⟩:∃ y,L1.b=y:=⟨_,rfl⟩
 obtain⟨v,hv⟩:∃ y,L1.S.bg.length=y:=⟨_,rfl⟩
 rw[hX,hbb]at c4
 rw[hX]at hN
 rw[hbb,hv]at hL
 rw[hX,hv]
 clear h1 hx he hb hX hv hbb
 go_enter func16,ntmps16
 go_wp2_with fail
 refine hN.mono ?_
 rintro r w2 ⟨rfl,rfl⟩
 go_wp2_with fail
 refine hL.mono ?_
 rintro r w2 ⟨rfl,rfl⟩
 go_wp2_with fail
 go_ret
 exact⟨rfl,rfl⟩
theorem aS (S:Ws) (k s:Nat) (f:Fm):(S.put k s f).n=S.n∧(S.put k s f).ds=S.ds∧(S.put k s f).hs=S.hs∧(S.put k s f).PD=S.PD∧(S.put k s f).PH=S.PH∧(S.put k s f).mx=S.mx∧(S.put k s f).mv=S.mv∧(S.put k s f).fs.length≤S.fs.length+1:=by
 unfold Ws.put
 split
 ·exact⟨rfl,rfl,rfl,rfl,rfl,rfl,rfl,Nat.le_succ _⟩
 ·refine⟨rfl,rfl,rfl,rfl,rfl,rfl,rfl,?_⟩
  show (S.fs ++ dR 1 k s f).length≤_
  rw[List.length_append]
  unfold dR
  split <;> simp
theorem wE (S:Ws) (k s:Nat) (f:Fm) (h:f.1≠0):(S.put k s f).bg=S.bg ++ [f]∧S.putI f=((S.bg.length:Nat):Int):=by
 unfold Ws.put Ws.putI
 rw[if_neg h,if_neg h]
 exact⟨rfl,rfl⟩
def aS1:Ws:=((s0 P0 P0 50).up.snd 0).S
def dM (T:Ws):Ws:=(T.note [oH T 0,oD T 0])
def qy (T:Ws):Wr:=(dM T).up.dlv jf 0
structure A1 (T:Ws):Prop where
 bg:T.bg=[dH P0]
 n:T.n=1
 ds:T.ds=(fun _=>dD M0)
 PD:T.PD=(fun _=>P0)
 mx:T.mx=50
 mv:T.mv=1
 fs:T.fs.length≤1
 hs:T.hs 0=aZ P0 bY
theorem uV:aJ P0 bY=dH P0:=uv P0 oK
theorem a1:((s0 P0 P0 50).up.snd 0).e=0∧((s0 P0 P0 50).up.snd 0).i=0∧A1 aS1:=by
 obtain⟨p1,p2,p3,p4,p5,p6,p7,p8⟩:=aS ((s0 P0 P0 50).up.setH 0 (aZ P0 bY)) 0 1 (aJ P0 bY)
 obtain⟨q1,q2⟩:=wE ((s0 P0 P0 50).up.setH 0 (aZ P0 bY)) 0 1 (aJ P0 bY) (by rw[uV];exact Nat.succ_ne_zero 22)
 refine⟨rfl,q2,?_,p1,p2,p4,p6,p7,p8,?_⟩
 ·show (((s0 P0 P0 50).up.setH 0 (aZ P0 bY)).put 0 1 (aJ P0 bY)).bg=_
  rw[q1,uV]
  rfl
 ·show (((s0 P0 P0 50).up.setH 0 (aZ P0 bY)).put 0 1 (aJ P0 bY)).hs 0=_
  rw[p3]
  rfl
theorem zm:(cR 17 P0.c 1 0 0 4 (lE P0)).1=23:=by
 have e:cR 17 P0.c 1 0 0 4 (lE P0)=(15+4+4,PM.sl (fr 17 P0.c 1 0 0 4 (lE P0)) (15+4)):=if_pos (vC (by decide) (by decide))
 rw[e]
theorem aD {T:Ws} (q:A1 T):au ((dM T).up.PD 0) (dM T).up.mx 16 ((dM T).up.ds 0) ((dM T).up.fr jf).1 ((dM T).up.fr jf).2=au P0 50 16 (dD M0) (dH P0).1 (dH P0).2:=by
 obtain⟨b1,_,b3,b4,b5,_⟩:=q
 have e1:(dM T).up.PD 0=P0:=by show T.PD 0=P0;rw[b4]
 have e2:(dM T).up.mx=50:=b5
 have e3:(dM T).up.ds 0=dD M0:=by show T.ds 0=_;rw[b3]
 have e4:(dM T).up.fr jf=dH P0:=by
  unfold Ws.fr
  rw[if_neg (by decide)]
  show T.bg.getD 0 cV=_
  rw[b1]
  rfl
 rw[e1,e2,e3,e4]
theorem a3 {T:Ws} (q:A1 T):(qy T).e=0∧(qy T).i=1∧(qy T).S.bg.length=2∧(qy T).S.mv=2∧(qy T).S.n=1∧((qy T).S.ds 0).st=2∧(qy T).S.fs.length≤100:=by
 obtain⟨f1,f2,f3⟩:=j8 P0 oK 50 (by omega)
 have hd:=aD q
 obtain⟨b1,b2,b3,b4,b5,b6,b7,b8⟩:=q
 have e0:qy T=(dM T).up.toD 0 ((dM T).up.fr jf):=by
  unfold qy Ws.dlv
  rw[if_neg (by decide)]
 obtain⟨D,hD⟩:∃ y,au P0 50 16 (dD M0) (dH P0).1 (dH P0).2=y:=⟨_,rfl⟩
 rw[hD]at hd f1 f2 f3
 have fne:D.f.1≠0:=by rw[f3,zm];decide
 rw[e0]
 unfold Ws.toD
 rw[hd]
 obtain⟨p1,p2,p3,p4,p5,p6,p7,p8⟩:=aS ((dM T).up.toD2 0 ((dM T).up.fr jf)) 0 2 D.f
 obtain⟨q1,q2⟩:=wE ((dM T).up.toD2 0 ((dM T).up.fr jf)) 0 2 D.f fne
 have t1:(dM T).up.toD1 0 ((dM T).up.fr jf)=((dM T).up.setD 0 D.s).note (dY 0 ((dM T).up.ds 0) D.s):=by unfold Ws.toD1;rw[hd]
 have g:∀ V:Ws,(V=(dM T).up.toD1 0 ((dM T).up.fr jf)∨V=((dM T).up.toD1 0 ((dM T).up.fr jf)).note (cO 0 2 ((dM T).up.fr jf)))→V.bg=T.bg∧V.mv=T.mv+1∧V.n=T.n∧V.ds 0=D.s∧V.fs.length≤10:=by
  have l1:=kH 0 ((dM T).up.ds 0) D.s
  have l2:=fY 0 2 ((dM T).up.fr jf)
  have l0:(dM T).up.fs.length≤3:=by
   show (T.fs ++ [oH T 0,oD T 0]).length≤3
   rw[List.length_append]
   simp
   omega
  intro V hT
  rcases hT with rfl | rfl
  ·rw[t1]
   refine⟨rfl,rfl,rfl,(show cj (dM T).up.ds 0 D.s 0=D.s from ai _ _ _),?_⟩
   show ((dM T).up.fs ++ dY 0 ((dM T).up.ds 0) D.s).length≤10
   rw[List.length_append]
   omega
  ·rw[t1]
   refine⟨rfl,rfl,rfl,(show cj (dM T).up.ds 0 D.s 0=D.s from ai _ _ _),?_⟩
   show (((dM T).up.fs ++ dY 0 ((dM T).up.ds 0) D.s) ++ cO 0 2 ((dM T).up.fr jf)).length≤10
   rw[List.length_append,List.length_append]
   omega
 have h2:(dM T).up.toD2 0 ((dM T).up.fr jf)=(dM T).up.toD1 0 ((dM T).up.fr jf)∨(dM T).up.toD2 0 ((dM T).up.fr jf)=((dM T).up.toD1 0 ((dM T).up.fr jf)).note (cO 0 2 ((dM T).up.fr jf)):=by
  unfold Ws.toD2
  split
  ·exact .inr rfl
  ·exact .inl rfl
 obtain⟨g1,g2,g3,g4,g5⟩:=g _ h2
 refine⟨f1,?_,?_,?_,?_,?_,?_⟩
 ·show ((dM T).up.toD2 0 ((dM T).up.fr jf)).putI D.f=1
  rw[q2,g1,b1]
  rfl
 ·show (((dM T).up.toD2 0 ((dM T).up.fr jf)).put 0 2 D.f).bg.length=2
  rw[q1,g1,b1]
  rfl
 ·show (((dM T).up.toD2 0 ((dM T).up.fr jf)).put 0 2 D.f).mv=2
  rw[p7,g2,b6]
 ·show (((dM T).up.toD2 0 ((dM T).up.fr jf)).put 0 2 D.f).n=1
  rw[p1,g3,b2]
 ·show ((((dM T).up.toD2 0 ((dM T).up.fr jf)).put 0 2 D.f).ds 0).st=2
  rw[p2,g4]
  exact f2
 ·show (((dM T).up.toD2 0 ((dM T).up.fr jf)).put 0 2 D.f).fs.length≤100
  omega
theorem abW:(s0 P0 P0 50).Ok mv1:=⟨by decide,by decide,by decide,by decide,by decide,fun h=>absurd h (by decide),fun h=>absurd h (by decide),fun h=>absurd h (by decide)⟩
theorem ab0 {T:Ws} (q:A1 T):(dM T).Ok jf:=by
 obtain⟨b1,b2,_,_,_,b6,_⟩:=q
 refine⟨by show T.mv<4096;omega,by decide,by decide,by decide,?_,fun _=>.inr rfl,fun _=>⟨by decide,?_⟩,fun h=>absurd h (by decide)⟩
 ·show (0:Int) < ((T.n:Nat):Int)
  rw[b2]
  decide
 ·show (0:Int) < ((T.bg.length:Nat):Int)
  rw[b1]
  decide
theorem aw1 {w0 w:World} {t:Nat→Thing} {L:Pw} (h:PW ev w0 w t L) (F:Fre ev t 0) (hS:L.S=s0 P0 P0 50):Calls prog 12 #[ac L.x 0,.agg #[.int .i64 2,.int .i64 0,.int .i64 0,.int .i64 0,.int .i64 0,.int .u32 0,.int .i64 0,.bool false,.slice none 0 0]] w fun r w'=>∃ A:Array Value,r=.returned (.tuple #[.agg A,.int .i64 0])∧A.size=29∧A.all (·.oneCell')=true∧A.toList[10]?=some (.int .i64 0)∧Hid (PWn ev w0 t L w' (dM aS1)):=by
 obtain⟨b0,bi,b1,b2,b3,b4,b5,b6,b7,b8⟩:=a1
 have hk:L.S.Ok mv1:=by rw[hS];exact abW
 have hP:=uI ev w0 w t L 0 0 mv1 none 0 ((s0 P0 P0 50).up.snd 0).e ((s0 P0 P0 50).up.snd 0).i aS1 h F (by rw[hS];decide) (by rw[hS];decide) ⟨fun i hi=>absurd hi (Nat.not_lt_zero i),fun _=>⟨rfl,rfl⟩,fun x hx=>(by cases hx),Nat.le_refl _⟩ (fun y hy=>by cases hy) (by decide) (by rw[b2,hS];rfl) (by omega)
  (vA ev w0 w t L mv1 none 0 h hk (by decide) (by decide) (by decide) (by decide))
  (fun a' c' w1 t1 q F1 _=>by
    rw[hS]at q
    exact zw 0 2 mv1 a' c' q F1 rfl (by decide) (by decide) (by decide) (by decide) (by decide) (fun e=>absurd e (by decide)) (by decide) (by intro j hj;exact dF 1 P0.c 0 0 0 4 (lE P0) (fQ P0) j hj) (by show (aJ P0 bY).1≤27;rw[uV];exact (by decide:(23:Nat)≤27)))
 refine hP.mono ?_
 rintro r w' ⟨a',c',ah,ch,ad,cd,rfl,H⟩
 rw[b0,bi]
 exact⟨_,rfl,rfl,by kernel_rfl,rfl,H.out.dropR F⟩
theorem aw2 {T:Ws} (q:A1 T) {w0 w:World} {t:Nat→Thing} {L:Pw} {i:Nat} (h:PWn ev w0 t L w (dM T)) (F:Fre ev t i):Calls prog 12 #[ac L.x 0,.agg #[.int .i64 3,.int .i64 0,.int .i64 2,.int .i64 0,.int .i64 0,.int .u32 0,.int .i64 0,.bool false,.slice none 0 0]] w fun r w'=>∃ A:Array Value,r=.returned (.tuple #[.agg A,.int .i64 0])∧A.size=29∧A.all (·.oneCell')=true∧A.toList[10]?=some (.int .i64 1)∧A.toList[20]?=some (.int .i64 2)∧Hid (PWn ev w0 t L w' ((qy T).S.note [oH (qy T).S 0,oD (qy T).S 0])):=by
 have hd:=aD q
 have hkk:=ab0 q
 obtain⟨c0,ci,c1,c2,c3,c4,c5⟩:=a3 q
 obtain⟨b1,b2,b3,b4,b5,b6,b7,b8⟩:=q
 obtain⟨f1,f2,f3⟩:=j8 P0 oK 50 (by omega)
 obtain⟨t1,L1,h1,hs,hx,he⟩:=h
 have F1:=F.els he
 have hk:L1.S.Ok jf:=by rw[hs];exact hkk
 have hP:=uI ev w0 w t1 L1 i 0 jf none 0 (qy T).e (qy T).i (qy T).S h1 F1 (by rw[hs];show 0<T.n;omega) (by rw[hs];show T.mv<4096;omega) ⟨fun i hi=>absurd hi (Nat.not_lt_zero i),fun _=>⟨rfl,rfl⟩,fun x hx=>(by cases hx),Nat.le_refl _⟩ (fun y hy=>by cases hy) (by decide) (by rw[c3,hs];exact b2.symm) (by omega)
  (vA ev w0 w t1 L1 jf none 0 h1 hk (by decide) (by decide) (by decide) (by decide))
  (fun a' c' w1 t2 q F2 _=>by
    rw[hs]at q
    exact zb 0 (i+2) jf a' c' q F2 (.inl rfl) rfl (by show 0<T.n;omega) (by show (T.fs ++ [oH T 0,oD T 0]).length≤80000;rw[List.length_append];simp;omega) (by show T.bg.length<4096;rw[b1];decide) (by decide) (by show (0:Int) < ((T.bg.length:Nat):Int);rw[b1];decide) (by decide) (fun e=>absurd e (by decide))
     (by show (T.hs 0).L.length<800000;rw[b8];decide) (by show (T.ds 0).st=4→_;rw[b3];intro e;exact absurd e (by decide)) (by show (T.ds 0).od<4;rw[b3];decide) (by show (T.ds 0).L.length<800000;rw[b3];decide) (by show (T.ds 0).ms.t<9223372036854774000;rw[b3];decide)
     (by rw[hd,f3];exact dF 17 P0.c 1 0 0 4 (lE P0) (fQ P0)) (by rw[hd,f3,zm];decide))
 rw[hx.x]at hP
 refine hP.mono ?_
 rintro r w' ⟨a',c',ah,ch,ad,cd,rfl,H⟩
 rw[c0,ci,c4]
 exact⟨_,rfl,rfl,by kernel_rfl,rfl,rfl,PWn.bind hx he (H.out.dropR F1)⟩
end Go.Proofs.YtddahhlbpcbddaaGreat
