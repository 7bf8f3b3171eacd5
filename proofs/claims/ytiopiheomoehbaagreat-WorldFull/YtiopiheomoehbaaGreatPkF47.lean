/- Part 48 of the texts on which the proof rests: contracts of Go functions. -/
import Derived.Test.YtiopiheomoehbaaGreatPkF07
import Derived.Test.YtiopiheomoehbaaGreatPkF10
import Derived.Test.YtiopiheomoehbaaGreatPkF16
import Derived.Test.YtiopiheomoehbaaGreatPkF24
import Derived.Test.YtiopiheomoehbaaGreatPkF38
import Derived.Test.YtiopiheomoehbaaGreatPkF43
import Derived.Test.YtiopiheomoehbaaGreatPkF46
namespace Go.Proofs.YtiopiheomoehbaaGreat
set_option maxRecDepth 100000
open Go.RowKit Go.Maps
set_option linter.unusedVariables false
def mv1:Mv:=⟨2,0,0,0,0,0,0,false,0,fun _=>0⟩
def mv2:Mv:=⟨3,0,2,0,0,0,0,false,0,fun _=>0⟩
theorem PWn.dropR {e:Nat→Nat} {w0 w:World} {t:Nat→Thing} {L:Pw} {S:Ws} {i:Nat} {m:Mv} {S':Ws} {k:Nat} {a:Option Addr} {c:Nat} {ah:Option Addr} {ch:Nat} {ad:Option Addr} {cd:Nat} (h:PWn e w0 (rwT t i m S' k a c ah ch ad cd) L w S) (F:Fre e t i):PWn e w0 t L w S:=by
 unfold rwT at h
 have h1:=h.drop (F (i+3) (by omega)).1 (by rw[putT_ne _ _ (by omega),putT_ne _ _ (by omega)];exact (F (i+3) (by omega)).2)
 have h2:=h1.drop (F (i+2) (by omega)).1 (by rw[putT_ne _ _ (by omega)];exact (F (i+2) (by omega)).2)
 exact h2.drop (F (i+1) (by omega)).1 (F (i+1) (by omega)).2
theorem PWn.layL {e:Nat→Nat} {w0 w:World} {t:Nat→Thing} {L:Pw} {S:Ws} {w1:World} (h:PWn e w0 t L w1 S) (b:Below w1.heap.size w1 w) {i:Nat} (hi:∀ j,i≠e j) {l:List (Nat × Obj)} (R:∀ p,p ∈ l→w.heap[p.1]?=some p.2) (hnew:∀ p,p ∈ l→w1.heap.size≤p.1):PWn e w0 (putT t i (blT l)) L w S:=by
 obtain⟨t1,L1,h1,hs,hx,he⟩:=h
 exact⟨_,L1,h1.layL b hi R hnew,hs,hx,he.putB _ _⟩
set_option maxHeartbeats 1000000 in
theorem pmoves {e:Nat→Nat} {w0 w:World} {t:Nat→Thing} {L:Pw} {S:Ws} (h:PWn e w0 t L w S):Calls Tryz.prog 10 #[.pointer (some ⟨L.x,0,none⟩)] w fun r w'=>r=.returned (.int .i64 (S.mv:Nat))∧w'=w:=by
 obtain⟨t1,L1,h1,hs,hx,he⟩:=h
 subst hs
 have hb:=(h1.2.wb h1.1).blk
 have c4:w.cell? ⟨L1.x,4,none⟩=some (.pointer (some ⟨L1.b,0,none⟩)):=cell_of_row w L1.x 4 _ _ _ hb
 have c5:w.cell? ⟨L1.x,5,none⟩=some (.int .i64 (L1.S.mv:Nat)):=cell_of_row w L1.x 5 _ _ _ hb
 rw[hx.x]at c4 c5
 have hN:=pnone L.x L1.b w c4
 obtain⟨X,hX⟩:∃ y,L.x=y:=⟨_,rfl⟩
 obtain⟨v,hv⟩:∃ y,L1.S.mv=y:=⟨_,rfl⟩
 rw[hX]at c5 hN ⊢
 rw[hv]at c5 ⊢
 clear h1 hx he hb c4 hX hv
 go_enter Tryz.func10,Tryz.ntmps10
 go_wp2_with fail
 refine hN.mono ?_
 rintro r w2 ⟨rfl,rfl⟩
 go_wp2_with fail
 go_ret
 exact⟨rfl,rfl⟩
set_option maxHeartbeats 1000000 in
theorem pframes {e:Nat→Nat} {w0 w:World} {t:Nat→Thing} {L:Pw} {S:Ws} (h:PWn e w0 t L w S):Calls Tryz.prog 15 #[.pointer (some ⟨L.x,0,none⟩)] w fun r w'=>r=.returned (.int .i64 (S.bg.length:Nat))∧w'=w:=by
 obtain⟨t1,L1,h1,hs,hx,he⟩:=h
 subst hs
 have hb:=(h1.2.wb h1.1).blk
 have c4:w.cell? ⟨L1.x,4,none⟩=some (.pointer (some ⟨L1.b,0,none⟩)):=cell_of_row w L1.x 4 _ _ _ hb
 have hL:=blen_any 0 L1.b L1.m L1.bv L1.bs L1.bp L1.S.bg w (h1.2.bg h1.1).1
 rw[hx.x]at c4
 have hN:=pnone L.x L1.b w c4
 obtain⟨X,hX⟩:∃ y,L.x=y:=⟨_,rfl⟩
 obtain⟨b,hbb⟩:∃ y,L1.b=y:=⟨_,rfl⟩
 obtain⟨v,hv⟩:∃ y,L1.S.bg.length=y:=⟨_,rfl⟩
 rw[hX,hbb]at c4
 rw[hX]at hN
 rw[hbb,hv]at hL
 rw[hX,hv]
 clear h1 hx he hb hX hv hbb
 go_enter Tryz.func15,Tryz.ntmps15
 go_wp2_with fail
 refine hN.mono ?_
 rintro r w2 ⟨rfl,rfl⟩
 go_wp2_with fail
 refine hL.mono ?_
 rintro r w2 ⟨rfl,rfl⟩
 go_wp2_with fail
 go_ret
 exact⟨rfl,rfl⟩
theorem put_n (S:Ws) (k s:Nat) (f:Fm):(S.put k s f).n=S.n∧(S.put k s f).ds=S.ds∧(S.put k s f).hs=S.hs∧(S.put k s f).PD=S.PD∧(S.put k s f).PH=S.PH∧(S.put k s f).mx=S.mx∧(S.put k s f).mv=S.mv∧(S.put k s f).fs.length≤S.fs.length+1:=by
 unfold Ws.put
 split
 ·exact⟨rfl,rfl,rfl,rfl,rfl,rfl,rfl,Nat.le_succ _⟩
 ·refine⟨rfl,rfl,rfl,rfl,rfl,rfl,rfl,?_⟩
  show (S.fs ++ fData 1 k s f).length≤_
  rw[List.length_append]
  unfold fData
  split <;> simp
theorem put_bg (S:Ws) (k s:Nat) (f:Fm) (h:f.1≠0):(S.put k s f).bg=S.bg ++ [f]∧S.putI f=((S.bg.length:Nat):Int):=by
 unfold Ws.put Ws.putI
 rw[if_neg h,if_neg h]
 exact⟨rfl,rfl⟩
def aS1:Ws:=((s0 P0 P0 50).up.snd 0).S
def aS2 (T:Ws):Ws:=(T.note [oH T 0,oD T 0])
def aR3 (T:Ws):Wr:=(aS2 T).up.dlv mv2 0
structure A1 (T:Ws):Prop where
 bg:T.bg=[wishF P0]
 n:T.n=1
 ds:T.ds=(fun _=>dnew M0)
 PD:T.PD=(fun _=>P0)
 mx:T.mx=50
 mv:T.mv=1
 fs:T.fs.length≤1
 hs:T.hs 0=hsendS P0 hnew
theorem wish0:hsendF P0 hnew=wishF P0:=wish_enc P0 P0_ok
theorem a1:((s0 P0 P0 50).up.snd 0).e=0∧((s0 P0 P0 50).up.snd 0).i=0∧A1 aS1:=by
 obtain⟨p1,p2,p3,p4,p5,p6,p7,p8⟩:=put_n ((s0 P0 P0 50).up.setH 0 (hsendS P0 hnew)) 0 1 (hsendF P0 hnew)
 obtain⟨q1,q2⟩:=put_bg ((s0 P0 P0 50).up.setH 0 (hsendS P0 hnew)) 0 1 (hsendF P0 hnew) (by rw[wish0];exact Nat.succ_ne_zero 22)
 refine⟨rfl,q2,?_,p1,p2,p4,p6,p7,p8,?_⟩
 ·show (((s0 P0 P0 50).up.setH 0 (hsendS P0 hnew)).put 0 1 (hsendF P0 hnew)).bg=_
  rw[q1,wish0]
  rfl
 ·show (((s0 P0 P0 50).up.setH 0 (hsendS P0 hnew)).put 0 1 (hsendF P0 hnew)).hs 0=_
  rw[p3]
  rfl
theorem enc17:(encF 17 P0.c 1 0 0 4 (dsg P0)).1=23:=by
 have e:encF 17 P0.c 1 0 0 4 (dsg P0)=(15+4+4,PM.sl (fr 17 P0.c 1 0 0 4 (dsg P0)) (15+4)):=if_pos (LW_offer (by decide) (by decide))
 rw[e]
theorem aD {T:Ws} (q:A1 T):drecv ((aS2 T).up.PD 0) (aS2 T).up.mx 16 ((aS2 T).up.ds 0) ((aS2 T).up.fr mv2).1 ((aS2 T).up.fr mv2).2=drecv P0 50 16 (dnew M0) (wishF P0).1 (wishF P0).2:=by
 obtain⟨b1,_,b3,b4,b5,_⟩:=q
 have e1:(aS2 T).up.PD 0=P0:=by show T.PD 0=P0;rw[b4]
 have e2:(aS2 T).up.mx=50:=b5
 have e3:(aS2 T).up.ds 0=dnew M0:=by show T.ds 0=_;rw[b3]
 have e4:(aS2 T).up.fr mv2=wishF P0:=by
  unfold Ws.fr
  rw[if_neg (by decide)]
  show T.bg.getD 0 fm0=_
  rw[b1]
  rfl
 rw[e1,e2,e3,e4]
theorem a3 {T:Ws} (q:A1 T):(aR3 T).e=0∧(aR3 T).i=1∧(aR3 T).S.bg.length=2∧(aR3 T).S.mv=2∧(aR3 T).S.n=1∧((aR3 T).S.ds 0).st=2∧(aR3 T).S.fs.length≤100:=by
 obtain⟨f1,f2,f3⟩:=first_wish P0 P0_ok 50 (by omega)
 have hd:=aD q
 obtain⟨b1,b2,b3,b4,b5,b6,b7,b8⟩:=q
 have e0:aR3 T=(aS2 T).up.toD 0 ((aS2 T).up.fr mv2):=by
  unfold aR3 Ws.dlv
  rw[if_neg (by decide)]
 obtain⟨D,hD⟩:∃ y,drecv P0 50 16 (dnew M0) (wishF P0).1 (wishF P0).2=y:=⟨_,rfl⟩
 rw[hD]at hd f1 f2 f3
 have fne:D.f.1≠0:=by rw[f3,enc17];decide
 rw[e0]
 unfold Ws.toD
 rw[hd]
 obtain⟨p1,p2,p3,p4,p5,p6,p7,p8⟩:=put_n ((aS2 T).up.toD2 0 ((aS2 T).up.fr mv2)) 0 2 D.f
 obtain⟨q1,q2⟩:=put_bg ((aS2 T).up.toD2 0 ((aS2 T).up.fr mv2)) 0 2 D.f fne
 have t1:(aS2 T).up.toD1 0 ((aS2 T).up.fr mv2)=((aS2 T).up.setD 0 D.s).note (fChg 0 ((aS2 T).up.ds 0) D.s):=by unfold Ws.toD1;rw[hd]
 have g:∀ V:Ws,(V=(aS2 T).up.toD1 0 ((aS2 T).up.fr mv2)∨V=((aS2 T).up.toD1 0 ((aS2 T).up.fr mv2)).note (fFresh 0 2 ((aS2 T).up.fr mv2)))→V.bg=T.bg∧V.mv=T.mv+1∧V.n=T.n∧V.ds 0=D.s∧V.fs.length≤10:=by
  have l1:=fChg_len 0 ((aS2 T).up.ds 0) D.s
  have l2:=fFresh_len 0 2 ((aS2 T).up.fr mv2)
  have l0:(aS2 T).up.fs.length≤3:=by
   show (T.fs ++ [oH T 0,oD T 0]).length≤3
   rw[List.length_append]
   simp
   omega
  intro V hT
  rcases hT with rfl | rfl
  ·rw[t1]
   refine⟨rfl,rfl,rfl,(show putF (aS2 T).up.ds 0 D.s 0=D.s from putF_same _ _ _),?_⟩
   show ((aS2 T).up.fs ++ fChg 0 ((aS2 T).up.ds 0) D.s).length≤10
   rw[List.length_append]
   omega
  ·rw[t1]
   refine⟨rfl,rfl,rfl,(show putF (aS2 T).up.ds 0 D.s 0=D.s from putF_same _ _ _),?_⟩
   show (((aS2 T).up.fs ++ fChg 0 ((aS2 T).up.ds 0) D.s) ++ fFresh 0 2 ((aS2 T).up.fr mv2)).length≤10
   rw[List.length_append,List.length_append]
   omega
 have h2:(aS2 T).up.toD2 0 ((aS2 T).up.fr mv2)=(aS2 T).up.toD1 0 ((aS2 T).up.fr mv2)∨(aS2 T).up.toD2 0 ((aS2 T).up.fr mv2)=((aS2 T).up.toD1 0 ((aS2 T).up.fr mv2)).note (fFresh 0 2 ((aS2 T).up.fr mv2)):=by
  unfold Ws.toD2
  split
  ·exact .inr rfl
  ·exact .inl rfl
 obtain⟨g1,g2,g3,g4,g5⟩:=g _ h2
 refine⟨f1,?_,?_,?_,?_,?_,?_⟩
 ·show ((aS2 T).up.toD2 0 ((aS2 T).up.fr mv2)).putI D.f=1
  rw[q2,g1,b1]
  rfl
 ·show (((aS2 T).up.toD2 0 ((aS2 T).up.fr mv2)).put 0 2 D.f).bg.length=2
  rw[q1,g1,b1]
  rfl
 ·show (((aS2 T).up.toD2 0 ((aS2 T).up.fr mv2)).put 0 2 D.f).mv=2
  rw[p7,g2,b6]
 ·show (((aS2 T).up.toD2 0 ((aS2 T).up.fr mv2)).put 0 2 D.f).n=1
  rw[p1,g3,b2]
 ·show ((((aS2 T).up.toD2 0 ((aS2 T).up.fr mv2)).put 0 2 D.f).ds 0).st=2
  rw[p2,g4]
  exact f2
 ·show (((aS2 T).up.toD2 0 ((aS2 T).up.fr mv2)).put 0 2 D.f).fs.length≤100
  omega
theorem okM1:(s0 P0 P0 50).Ok mv1:=⟨by decide,by decide,by decide,by decide,by decide,fun h=>absurd h (by decide),fun h=>absurd h (by decide),fun h=>absurd h (by decide)⟩
theorem okM2 {T:Ws} (q:A1 T):(aS2 T).Ok mv2:=by
 obtain⟨b1,b2,_,_,_,b6,_⟩:=q
 refine⟨by show T.mv<4096;omega,by decide,by decide,by decide,?_,fun _=>.inr rfl,fun _=>⟨by decide,?_⟩,fun h=>absurd h (by decide)⟩
 ·show (0:Int) < ((T.n:Nat):Int)
  rw[b2]
  decide
 ·show (0:Int) < ((T.bg.length:Nat):Int)
  rw[b1]
  decide
theorem aw1 {w0 w:World} {t:Nat→Thing} {L:Pw} (h:PW ev w0 w t L) (F:Fre ev t 0) (hS:L.S=s0 P0 P0 50):Calls Tryz.prog 8 #[.pointer (some ⟨L.x,0,none⟩),.agg #[.int .i64 2,.int .i64 0,.int .i64 0,.int .i64 0,.int .i64 0,.int .u32 0,.int .i64 0,.bool false,.slice none 0 0]] w fun r w'=>∃ A:Array Value,r=.returned (.tuple #[.agg A,.int .i64 0])∧A.size=29∧A.all (·.oneCell')=true∧A.toList[10]?=some (.int .i64 0)∧Hid (PWn ev w0 t L w' (aS2 aS1)):=by
 obtain⟨b0,bi,b1,b2,b3,b4,b5,b6,b7,b8⟩:=a1
 have hk:L.S.Ok mv1:=by rw[hS];exact okM1
 have hP:=pplay ev w0 w t L 0 0 mv1 none 0 ((s0 P0 P0 50).up.snd 0).e ((s0 P0 P0 50).up.snd 0).i aS1 h F (by rw[hS];decide) (by rw[hS];decide) ⟨fun i hi=>absurd hi (Nat.not_lt_zero i),fun _=>⟨rfl,rfl⟩,fun x hx=>(by cases hx),Nat.le_refl _⟩ (fun y hy=>by cases hy) (by decide) (by rw[b2,hS];rfl) (by omega)
  (prefOK ev w0 w t L mv1 none 0 h hk (by decide) (by decide) (by decide) (by decide))
  (fun a' c' w1 t1 q F1 _=>by
    rw[hS]at q
    exact pact2 0 2 mv1 a' c' q F1 rfl (by decide) (by decide) (by decide) (by decide) (by decide) (fun e=>absurd e (by decide)) (by decide) (by intro j hj;exact encF_byte 1 P0.c 0 0 0 4 (dsg P0) (dsg_byte P0) j hj) (by show (hsendF P0 hnew).1≤27;rw[wish0];exact (by decide:(23:Nat)≤27)))
 refine hP.mono ?_
 rintro r w' ⟨a',c',ah,ch,ad,cd,rfl,H⟩
 rw[b0,bi]
 exact⟨_,rfl,rfl,by kernel_rfl,rfl,H.out.dropR F⟩
theorem aw2 {T:Ws} (q:A1 T) {w0 w:World} {t:Nat→Thing} {L:Pw} {i:Nat} (h:PWn ev w0 t L w (aS2 T)) (F:Fre ev t i):Calls Tryz.prog 8 #[.pointer (some ⟨L.x,0,none⟩),.agg #[.int .i64 3,.int .i64 0,.int .i64 2,.int .i64 0,.int .i64 0,.int .u32 0,.int .i64 0,.bool false,.slice none 0 0]] w fun r w'=>∃ A:Array Value,r=.returned (.tuple #[.agg A,.int .i64 0])∧A.size=29∧A.all (·.oneCell')=true∧A.toList[10]?=some (.int .i64 1)∧A.toList[20]?=some (.int .i64 2)∧Hid (PWn ev w0 t L w' ((aR3 T).S.note [oH (aR3 T).S 0,oD (aR3 T).S 0])):=by
 have hd:=aD q
 have hkk:=okM2 q
 obtain⟨c0,ci,c1,c2,c3,c4,c5⟩:=a3 q
 obtain⟨b1,b2,b3,b4,b5,b6,b7,b8⟩:=q
 obtain⟨f1,f2,f3⟩:=first_wish P0 P0_ok 50 (by omega)
 obtain⟨t1,L1,h1,hs,hx,he⟩:=h
 have F1:=F.els he
 have hk:L1.S.Ok mv2:=by rw[hs];exact hkk
 have hP:=pplay ev w0 w t1 L1 i 0 mv2 none 0 (aR3 T).e (aR3 T).i (aR3 T).S h1 F1 (by rw[hs];show 0<T.n;omega) (by rw[hs];show T.mv<4096;omega) ⟨fun i hi=>absurd hi (Nat.not_lt_zero i),fun _=>⟨rfl,rfl⟩,fun x hx=>(by cases hx),Nat.le_refl _⟩ (fun y hy=>by cases hy) (by decide) (by rw[c3,hs];exact b2.symm) (by omega)
  (prefOK ev w0 w t1 L1 mv2 none 0 h1 hk (by decide) (by decide) (by decide) (by decide))
  (fun a' c' w1 t2 q F2 _=>by
    rw[hs]at q
    exact pact3 0 (i+2) mv2 a' c' q F2 (.inl rfl) rfl (by show 0<T.n;omega) (by show (T.fs ++ [oH T 0,oD T 0]).length≤80000;rw[List.length_append];simp;omega) (by show T.bg.length<4096;rw[b1];decide) (by decide) (by show (0:Int) < ((T.bg.length:Nat):Int);rw[b1];decide) (by decide) (fun e=>absurd e (by decide))
     (by show (T.hs 0).L.length<800000;rw[b8];decide) (by show (T.ds 0).st=4→_;rw[b3];intro e;exact absurd e (by decide)) (by show (T.ds 0).od<4;rw[b3];decide) (by show (T.ds 0).L.length<800000;rw[b3];decide) (by show (T.ds 0).ms.t<9223372036854774000;rw[b3];decide)
     (by rw[hd,f3];exact encF_byte 17 P0.c 1 0 0 4 (dsg P0) (dsg_byte P0)) (by rw[hd,f3,enc17];decide))
 rw[hx.x]at hP
 refine hP.mono ?_
 rintro r w' ⟨a',c',ah,ch,ad,cd,rfl,H⟩
 rw[c0,ci,c4]
 exact⟨_,rfl,rfl,by kernel_rfl,rfl,rfl,PWn.bind hx he (H.out.dropR F1)⟩
theorem mvY_cells (w:World) (o:Array Value) (wx:World) (hb:Below (w.alloc (.cells o 27)).heap.size (w.alloc (.cells o 27)) wx) (i:Nat):wx.cell? ⟨w.heap.size,i,none⟩=o[i]?:=by
 rw[hb.cell (p:=⟨w.heap.size,i,none⟩) (by simp)]
 exact cell_of_row _ _ _ _ _ _ (heap_alloc_new _ _)
theorem mvY_frozen (w:World) (o:Array Value) (i:Nat) (wx:World) (hb:Below (w.alloc (.cells o 27)).heap.size (w.alloc (.cells o 27)) wx):wx.frozen? ⟨w.heap.size,i,none⟩=false:=by
 rw[hb.frozen (p:=⟨w.heap.size,i,none⟩) (by simp)]
 simp
set_option maxHeartbeats 2000000 in
theorem pcopyY (m:Mv) (d:Option Addr) (e:Nat) (w:World) (hr:Row8 w d m.l e m.b) (hlen:m.l≤140737488351232):Calls Tryz.prog 9 #[.agg #[.int .i64 m.k,.int .i64 m.c,.int .i64 m.s,.int .i64 m.f,.int .i64 m.a,.int .u32 (m.w:Nat),.int .i64 m.n,.bool m.h,.slice d m.l e]] w fun r w'=>∃ a' c',r=.returned (.agg #[.int .i64 m.k,.int .i64 m.c,.int .i64 m.s,.int .i64 m.f,.int .i64 m.a,.int .u32 (m.w:Nat),.int .i64 m.n,.bool m.h,.slice a' m.l c'])∧Hid (Row8 w' a' m.l c' m.b∧Below w.heap.size w w'∧∀ y,a'=some y→0<m.l→w.heap.size≤y.block):=by
 obtain⟨i0,hi,hz0,hz1,hz2⟩:=info_parts info_u8
 have hbd:=build0D
 have hX:=fun wx hb=>mvY_cells w #[.int .i64 m.k,.int .i64 m.c,.int .i64 m.s,.int .i64 m.f,.int .i64 m.a,.int .u32 (m.w:Nat),.int .i64 m.n,.bool m.h,.slice d m.l e] wx hb
 have hXf:=fun i wx hb=>mvY_frozen w #[.int .i64 m.k,.int .i64 m.c,.int .i64 m.s,.int .i64 m.f,.int .i64 m.a,.int .u32 (m.w:Nat),.int .i64 m.n,.bool m.h,.slice d m.l e] i wx hb
 obtain⟨wa,hwa⟩:∃ x,x=w.alloc (.cells #[.int .i64 m.k,.int .i64 m.c,.int .i64 m.s,.int .i64 m.f,.int .i64 m.a,.int .u32 (m.w:Nat),.int .i64 m.n,.bool m.h,.slice d m.l e] 27):=⟨_,rfl⟩
 rw[← hwa]at hX hXf
 have hA:Below w.heap.size w wa:=by rw[hwa];exact (Below.refl _ _).alloc (Nat.le_refl _) _
 have hAs:wa.heap.size=w.heap.size+1:=by rw[hwa];simp
 have hY:=fun wx hb=>mvY_cells wa #[.int .i64 0,.int .i64 0,.int .i64 0,.int .i64 0,.int .i64 0,.int .u32 0,.int .i64 0,.bool false,.slice none 0 0] wx hb
 have hYf:=fun i wx hb=>mvY_frozen wa #[.int .i64 0,.int .i64 0,.int .i64 0,.int .i64 0,.int .i64 0,.int .u32 0,.int .i64 0,.bool false,.slice none 0 0] i wx hb
 obtain⟨wb,hwb⟩:∃ x,x=wa.alloc (.cells #[.int .i64 0,.int .i64 0,.int .i64 0,.int .i64 0,.int .i64 0,.int .u32 0,.int .i64 0,.bool false,.slice none 0 0] 27):=⟨_,rfl⟩
 rw[← hwb]at hY hYf
 have hB:Below wa.heap.size wa wb:=by rw[hwb];exact (Below.refl _ _).alloc (Nat.le_refl _) _
 have hBs:wb.heap.size=w.heap.size+1+1:=by rw[hwb,hwa];simp
 have hC:Below wb.heap.size wb (wb.alloc (.cells #[] 5)):=(Below.refl _ _).alloc (Nat.le_refl _) _
 have O0:(wb.alloc (.cells #[] 5)).ownsRow wb.heap.size 5 1 (.slice (some ⟨wb.heap.size,0,none⟩) 0 0) 0 (CB m.b 0):=World.ownsRow_made wb #[] 0 (Nat.le_refl _) (Nat.zero_le _) rfl
 have hszC:=hC.size
 have R0:=((hr.below hA).below hB).below hC
 rw[hAs]at hY hYf
 go_enter Tryz.func9,Tryz.ntmps9
 go_upto_region 1 with fail
 try rw[← hwa]
 try rw[← hwb]
 have H0:Hid (_):=And.intro hwa (And.intro hwb (And.intro hAs hBs))
 clear hwa hwb
 have x8:(wb.alloc (.cells #[] 5)).cell? ⟨w.heap.size,8,none⟩=some (.slice d m.l e):=hX (wb.alloc (.cells #[] 5)) (hB.trans (hC.mono (by omega))) 8
 clear hAs hBs
 go_wp2_with (at_builtin;refine wpList_append_row8 rfl (.tmp 3) (.tmp 5) 25 rfl wb.heap.size 5 i0 (.int .u8 0) Tryz.underlying25 hi hz0 hz1 hz2 rfl _ 0 _ rfl O0 d m.l e m.b rfl R0 (by unfold maxLen;omega) (by omega) hszC ?_)
 intro v2 w2 hown2 hgrow2
 have hbel2:Below wb.heap.size wb w2:=hC.grown hgrow2 hszC (fun j hj=>(O0.lt j hj).1)
 rw[show CB m.b 0=[] from rfl,List.nil_append]at hown2
 have hlt:w.heap.size<wb.heap.size∧w.heap.size+1<wb.heap.size:=by have:=H0.out;omega
 have hbelA:Below wa.heap.size wa w2:=hB.trans (hbel2.mono (by have:=H0.out;omega))
 have x0:w2.cell? ⟨w.heap.size,0,none⟩=some ((.int .i64 m.k)):=hX w2 hbelA 0
 have x1:w2.cell? ⟨w.heap.size,1,none⟩=some ((.int .i64 m.c)):=hX w2 hbelA 1
 have x2:w2.cell? ⟨w.heap.size,2,none⟩=some ((.int .i64 m.s)):=hX w2 hbelA 2
 have x3:w2.cell? ⟨w.heap.size,3,none⟩=some ((.int .i64 m.f)):=hX w2 hbelA 3
 have x4:w2.cell? ⟨w.heap.size,4,none⟩=some ((.int .i64 m.a)):=hX w2 hbelA 4
 have x5:w2.cell? ⟨w.heap.size,5,none⟩=some ((.int .u32 (m.w:Nat))):=hX w2 hbelA 5
 have x6:w2.cell? ⟨w.heap.size,6,none⟩=some ((.int .i64 m.n)):=hX w2 hbelA 6
 have x7:w2.cell? ⟨w.heap.size,7,none⟩=some ((.bool m.h)):=hX w2 hbelA 7
 have x8:w2.cell? ⟨w.heap.size,8,none⟩=some ((.slice d m.l e)):=hX w2 hbelA 8
 have y0:w2.cell? ⟨w.heap.size+1,0,none⟩=some (.int .i64 0):=hY w2 hbel2 0
 have y1:w2.cell? ⟨w.heap.size+1,1,none⟩=some (.int .i64 0):=hY w2 hbel2 1
 have y2:w2.cell? ⟨w.heap.size+1,2,none⟩=some (.int .i64 0):=hY w2 hbel2 2
 have y3:w2.cell? ⟨w.heap.size+1,3,none⟩=some (.int .i64 0):=hY w2 hbel2 3
 have y4:w2.cell? ⟨w.heap.size+1,4,none⟩=some (.int .i64 0):=hY w2 hbel2 4
 have y5:w2.cell? ⟨w.heap.size+1,5,none⟩=some (.int .u32 0):=hY w2 hbel2 5
 have y6:w2.cell? ⟨w.heap.size+1,6,none⟩=some (.int .i64 0):=hY w2 hbel2 6
 have y7:w2.cell? ⟨w.heap.size+1,7,none⟩=some (.bool false):=hY w2 hbel2 7
 have y8:w2.cell? ⟨w.heap.size+1,8,none⟩=some (.slice none 0 0):=hY w2 hbel2 8
 have xf:=fun i=>hXf i w2 hbelA
 have yf:=fun i=>hYf i w2 hbel2
 obtain⟨a2,c2,rfl,R2⟩:=own_row8 hown2 hr.byte
 have HR:Hid (w2.ownsRow wb.heap.size 5 1 (.slice a2 m.l c2) m.l (CB m.b m.l)∧Below wb.heap.size wb w2):=⟨hown2,hbel2⟩
 clear hgrow2 O0 R0 hC hszC hX hY hXf hYf hown2 R2 hbel2 hbelA hbd
 go_wp2_with fail
 refine bodyPost_ret (v:=.agg #[.int .i64 m.k,.int .i64 m.c,.int .i64 m.s,.int .i64 m.f,.int .i64 m.a,.int .u32 (m.w:Nat),.int .i64 m.n,.bool m.h,.slice a2 m.l c2]) (by simp[results,Tryz.results9,go_sem,y0,y1,y2,y3,y4,y5,y6,y7,y8]) rfl ⟨a2,c2,rfl,?_,?_,?_⟩
 ·obtain⟨a3,c3,e,R3⟩:=own_row8 (ownsRow_setCell_below (ownsRow_setCell_below (ownsRow_setCell_below (ownsRow_setCell_below (ownsRow_setCell_below (ownsRow_setCell_below (ownsRow_setCell_below (ownsRow_setCell_below (ownsRow_setCell_below (ownsRow_setCell_below HR.out.1 (a:=⟨w.heap.size,8,none⟩) hlt.1 _) (a:=⟨w.heap.size+1,0,none⟩) hlt.2 _) (a:=⟨w.heap.size+1,1,none⟩) hlt.2 _) (a:=⟨w.heap.size+1,2,none⟩) hlt.2 _) (a:=⟨w.heap.size+1,3,none⟩) hlt.2 _) (a:=⟨w.heap.size+1,4,none⟩) hlt.2 _) (a:=⟨w.heap.size+1,5,none⟩) hlt.2 _) (a:=⟨w.heap.size+1,6,none⟩) hlt.2 _) (a:=⟨w.heap.size+1,7,none⟩) hlt.2 _) (a:=⟨w.heap.size+1,8,none⟩) hlt.2 _) hr.byte
  simp only[Value.slice.injEq,true_and]at e
  obtain⟨rfl,rfl⟩:=e
  exact R3
 ·have hb:Below w.heap.size w w2:=(hA.trans (hB.mono (by have:=H0.out;omega))).trans (HR.out.2.mono (by omega))
  exact ((((((((((hb.setCell (p:=⟨w.heap.size,8,none⟩) (Nat.le_refl _) _).setCell (p:=⟨w.heap.size+1,0,none⟩) (Nat.le_succ _) _).setCell (p:=⟨w.heap.size+1,1,none⟩) (Nat.le_succ _) _).setCell (p:=⟨w.heap.size+1,2,none⟩) (Nat.le_succ _) _).setCell (p:=⟨w.heap.size+1,3,none⟩) (Nat.le_succ _) _).setCell (p:=⟨w.heap.size+1,4,none⟩) (Nat.le_succ _) _).setCell (p:=⟨w.heap.size+1,5,none⟩) (Nat.le_succ _) _).setCell (p:=⟨w.heap.size+1,6,none⟩) (Nat.le_succ _) _).setCell (p:=⟨w.heap.size+1,7,none⟩) (Nat.le_succ _) _).setCell (p:=⟨w.heap.size+1,8,none⟩) (Nat.le_succ _) _)
 ·intro y hy hn
  rcases HR.out.1.2 with ⟨e,_⟩ | ⟨g,cap,cur,e,hg,_⟩
  ·simp only[Value.slice.injEq]at e
   rw[e.1]at hy
   cases hy
  ·simp only[Value.slice.injEq]at e
   rw[e.1]at hy
   cases hy
   have:=hlt.1
   show w.heap.size≤g
   omega
theorem note_bg (S:Ws) (l:List Fa):(S.note l).bg=S.bg:=rfl
theorem note_mv (S:Ws) (l:List Fa):(S.note l).mv=S.mv:=rfl
set_option maxHeartbeats 4000000 in
theorem awake17 (w:World):Calls Tryz.prog 5 #[] w fun r w'=>r=.returned (.bool true)∧Below w.heap.size w w':=by
 have hLo:=plone w
 go_enter Tryz.func5,Tryz.ntmps5
 go_wp2_with fail
 refine hLo.mono ?_
 rintro r w1 ⟨q0,q1,rfl,H1⟩
 clear hLo
 have hN:Calls Tryz.prog 6 #[.agg #[.slice (some ⟨q0,0,none⟩) 1 1,.slice (some ⟨q1,0,none⟩) 1 1,.int .u32 50]] w1 fun r w'=>∃ L:Pw,r=.returned (.tuple #[.pointer (some ⟨L.x,0,none⟩),.int .i64 0])∧Hid (PW ev w1 w' (evT L) L∧L.S=s0 P0 P0 50):=pnewL P0 P0 P0_ok P0_ok q0 q1 50 (by decide) (by decide) w1 H1.out.1 H1.out.2.1
 go_wp2_with fail
 refine hN.mono ?_
 rintro r w2 ⟨L,rfl,H2⟩
 clear hN
 have hP1:=aw1 H2.out.1 (evT_fre L) H2.out.2
 obtain⟨X,hX⟩:∃ y,L.x=y:=⟨_,rfl⟩
 rw[hX]at hP1 ⊢
 have HX:Hid (L.x=X):=hX
 clear hX
 go_wp2_with fail
 refine hP1.mono ?_
 rintro r w3 ⟨A,rfl,hsA,hoA,hA10,H3⟩
 clear hP1
 have kr1:=heap_alloc_new w3 (.cells #[.int .i64 0,.int .i64 0,.int .i64 0,.int .i64 0,.int .i64 0,.int .u32 0,.int .i64 0,.bool false,.slice none 0 0,.int .i64 0,.int .i64 0,.int .i64 0,.int .u32 0,.int .u32 0,.int .u32 0,.int .i64 0,.int .i64 0,.bool false,.bool false,.slice none 0 0,.int .i64 0,.int .u32 0,.int .u32 0,.int .u32 0,.int .i64 0,.int .i64 0,.bool false,.bool false,.slice none 0 0] 41)
 have hth1:(w3.alloc (.cells #[.int .i64 0,.int .i64 0,.int .i64 0,.int .i64 0,.int .i64 0,.int .u32 0,.int .i64 0,.bool false,.slice none 0 0,.int .i64 0,.int .i64 0,.int .i64 0,.int .u32 0,.int .u32 0,.int .u32 0,.int .i64 0,.int .i64 0,.bool false,.bool false,.slice none 0 0,.int .i64 0,.int .u32 0,.int .u32 0,.int .u32 0,.int .i64 0,.int .i64 0,.bool false,.bool false,.slice none 0 0] 41)).there w3.heap.size 0 A.size:=there_row kr1 (by rw[hsA];rfl)
 have hrg1:=World.rangeAt_setCells_same (w3.alloc (.cells #[.int .i64 0,.int .i64 0,.int .i64 0,.int .i64 0,.int .i64 0,.int .u32 0,.int .i64 0,.bool false,.slice none 0 0,.int .i64 0,.int .i64 0,.int .i64 0,.int .u32 0,.int .u32 0,.int .u32 0,.int .i64 0,.int .i64 0,.bool false,.bool false,.slice none 0 0,.int .i64 0,.int .u32 0,.int .u32 0,.int .u32 0,.int .i64 0,.int .i64 0,.bool false,.bool false,.slice none 0 0] 41)) w3.heap.size 0 A.toList (by simpa using hth1)
 have hof1:=off_setCells (w3.alloc (.cells #[.int .i64 0,.int .i64 0,.int .i64 0,.int .i64 0,.int .i64 0,.int .u32 0,.int .i64 0,.bool false,.slice none 0 0,.int .i64 0,.int .i64 0,.int .i64 0,.int .u32 0,.int .u32 0,.int .u32 0,.int .i64 0,.int .i64 0,.bool false,.bool false,.slice none 0 0,.int .i64 0,.int .u32 0,.int .u32 0,.int .u32 0,.int .i64 0,.int .i64 0,.bool false,.bool false,.slice none 0 0] 41)) w3.heap.size 0 A.toList
 have hst1:(storeCells ⟨w3.heap.size,0,none⟩ A.toList).run Tryz.prog (w3.alloc (.cells #[.int .i64 0,.int .i64 0,.int .i64 0,.int .i64 0,.int .i64 0,.int .u32 0,.int .i64 0,.bool false,.slice none 0 0,.int .i64 0,.int .i64 0,.int .i64 0,.int .u32 0,.int .u32 0,.int .u32 0,.int .i64 0,.int .i64 0,.bool false,.bool false,.slice none 0 0,.int .i64 0,.int .u32 0,.int .u32 0,.int .u32 0,.int .i64 0,.int .i64 0,.bool false,.bool false,.slice none 0 0] 41))=.ok () ((w3.alloc (.cells #[.int .i64 0,.int .i64 0,.int .i64 0,.int .i64 0,.int .i64 0,.int .u32 0,.int .i64 0,.bool false,.slice none 0 0,.int .i64 0,.int .i64 0,.int .i64 0,.int .u32 0,.int .u32 0,.int .u32 0,.int .i64 0,.int .i64 0,.bool false,.bool false,.slice none 0 0,.int .i64 0,.int .u32 0,.int .u32 0,.int .u32 0,.int .i64 0,.int .i64 0,.bool false,.bool false,.slice none 0 0] 41)).setCells w3.heap.size 0 A.toList):=storeY_run hth1 hoA
 have hbl1:Below w3.heap.size w3 ((w3.alloc (.cells #[.int .i64 0,.int .i64 0,.int .i64 0,.int .i64 0,.int .i64 0,.int .u32 0,.int .i64 0,.bool false,.slice none 0 0,.int .i64 0,.int .i64 0,.int .i64 0,.int .u32 0,.int .u32 0,.int .u32 0,.int .i64 0,.int .i64 0,.bool false,.bool false,.slice none 0 0,.int .i64 0,.int .u32 0,.int .u32 0,.int .u32 0,.int .i64 0,.int .i64 0,.bool false,.bool false,.slice none 0 0] 41)).setCells w3.heap.size 0 A.toList):=hof1.below (belY (Below.refl _ _) _) (by simp) (by rw[sz1];omega)
 obtain⟨wz,hw1⟩:∃ z,(w3.alloc (.cells #[.int .i64 0,.int .i64 0,.int .i64 0,.int .i64 0,.int .i64 0,.int .u32 0,.int .i64 0,.bool false,.slice none 0 0,.int .i64 0,.int .i64 0,.int .i64 0,.int .u32 0,.int .u32 0,.int .u32 0,.int .i64 0,.int .i64 0,.bool false,.bool false,.slice none 0 0,.int .i64 0,.int .u32 0,.int .u32 0,.int .u32 0,.int .i64 0,.int .i64 0,.bool false,.bool false,.slice none 0 0] 41)).setCells w3.heap.size 0 A.toList=z:=⟨_,rfl⟩
 rw[hw1]at hst1 hrg1 hbl1
 have cb:wz.cell? ⟨w3.heap.size,10,none⟩=some (.int .i64 0):=hrg1 10 _ hA10
 have lb:=World.block_lt_of_cell? wz _ cb
 obtain⟨ob,hob⟩:∃ ob,wz.heap[w3.heap.size]?=some ob:=⟨_,Array.getElem?_eq_getElem lb⟩
 have F0:=evT_fre L
 have hp2:=H3.out.layL hbl1 (i:=2*0+1) (F0 0 (Nat.le_refl _)).1 (l:=[(w3.heap.size,ob)]) (fun p hp=>by
  simp only[List.mem_cons,List.not_mem_nil,or_false]at hp
  subst hp
  exact hob) (fun p hp=>by
  simp only[List.mem_cons,List.not_mem_nil,or_false]at hp
  subst hp
  exact Nat.le_refl _)
 have F1:Fre ev (putT (evT L) (2*0+1) (blT [(w3.heap.size,ob)])) 1:=F0.put _
 have hP2:=aw2 (T:=aS1) a1.2.2 hp2 F1
 rw[HX.out]at hP2
 have HB:Hid (_):=And.intro cb (And.intro hob (And.intro hbl1 F0))
 clear kr1 hth1 hrg1 hof1 hbl1 hw1 cb lb hob hp2 F1 F0
 go_wp2_with fail
 refine hP2.mono ?_
 rintro r w4 ⟨A2,rfl,hsA2,hoA2,hB10,hB20,H4⟩
 clear hP2 hst1
 have kr2:=heap_alloc_new w4 (.cells #[.int .i64 0,.int .i64 0,.int .i64 0,.int .i64 0,.int .i64 0,.int .u32 0,.int .i64 0,.bool false,.slice none 0 0,.int .i64 0,.int .i64 0,.int .i64 0,.int .u32 0,.int .u32 0,.int .u32 0,.int .i64 0,.int .i64 0,.bool false,.bool false,.slice none 0 0,.int .i64 0,.int .u32 0,.int .u32 0,.int .u32 0,.int .i64 0,.int .i64 0,.bool false,.bool false,.slice none 0 0] 41)
 have hth2:(w4.alloc (.cells #[.int .i64 0,.int .i64 0,.int .i64 0,.int .i64 0,.int .i64 0,.int .u32 0,.int .i64 0,.bool false,.slice none 0 0,.int .i64 0,.int .i64 0,.int .i64 0,.int .u32 0,.int .u32 0,.int .u32 0,.int .i64 0,.int .i64 0,.bool false,.bool false,.slice none 0 0,.int .i64 0,.int .u32 0,.int .u32 0,.int .u32 0,.int .i64 0,.int .i64 0,.bool false,.bool false,.slice none 0 0] 41)).there w4.heap.size 0 A2.size:=there_row kr2 (by rw[hsA2];rfl)
 have hrg2:=World.rangeAt_setCells_same (w4.alloc (.cells #[.int .i64 0,.int .i64 0,.int .i64 0,.int .i64 0,.int .i64 0,.int .u32 0,.int .i64 0,.bool false,.slice none 0 0,.int .i64 0,.int .i64 0,.int .i64 0,.int .u32 0,.int .u32 0,.int .u32 0,.int .i64 0,.int .i64 0,.bool false,.bool false,.slice none 0 0,.int .i64 0,.int .u32 0,.int .u32 0,.int .u32 0,.int .i64 0,.int .i64 0,.bool false,.bool false,.slice none 0 0] 41)) w4.heap.size 0 A2.toList (by simpa using hth2)
 have hof2:=off_setCells (w4.alloc (.cells #[.int .i64 0,.int .i64 0,.int .i64 0,.int .i64 0,.int .i64 0,.int .u32 0,.int .i64 0,.bool false,.slice none 0 0,.int .i64 0,.int .i64 0,.int .i64 0,.int .u32 0,.int .u32 0,.int .u32 0,.int .i64 0,.int .i64 0,.bool false,.bool false,.slice none 0 0,.int .i64 0,.int .u32 0,.int .u32 0,.int .u32 0,.int .i64 0,.int .i64 0,.bool false,.bool false,.slice none 0 0] 41)) w4.heap.size 0 A2.toList
 have hst2:(storeCells ⟨w4.heap.size,0,none⟩ A2.toList).run Tryz.prog (w4.alloc (.cells #[.int .i64 0,.int .i64 0,.int .i64 0,.int .i64 0,.int .i64 0,.int .u32 0,.int .i64 0,.bool false,.slice none 0 0,.int .i64 0,.int .i64 0,.int .i64 0,.int .u32 0,.int .u32 0,.int .u32 0,.int .i64 0,.int .i64 0,.bool false,.bool false,.slice none 0 0,.int .i64 0,.int .u32 0,.int .u32 0,.int .u32 0,.int .i64 0,.int .i64 0,.bool false,.bool false,.slice none 0 0] 41))=.ok () ((w4.alloc (.cells #[.int .i64 0,.int .i64 0,.int .i64 0,.int .i64 0,.int .i64 0,.int .u32 0,.int .i64 0,.bool false,.slice none 0 0,.int .i64 0,.int .i64 0,.int .i64 0,.int .u32 0,.int .u32 0,.int .u32 0,.int .i64 0,.int .i64 0,.bool false,.bool false,.slice none 0 0,.int .i64 0,.int .u32 0,.int .u32 0,.int .u32 0,.int .i64 0,.int .i64 0,.bool false,.bool false,.slice none 0 0] 41)).setCells w4.heap.size 0 A2.toList):=storeY_run hth2 hoA2
 have hbl2:Below w4.heap.size w4 ((w4.alloc (.cells #[.int .i64 0,.int .i64 0,.int .i64 0,.int .i64 0,.int .i64 0,.int .u32 0,.int .i64 0,.bool false,.slice none 0 0,.int .i64 0,.int .i64 0,.int .i64 0,.int .u32 0,.int .u32 0,.int .u32 0,.int .i64 0,.int .i64 0,.bool false,.bool false,.slice none 0 0,.int .i64 0,.int .u32 0,.int .u32 0,.int .u32 0,.int .i64 0,.int .i64 0,.bool false,.bool false,.slice none 0 0] 41)).setCells w4.heap.size 0 A2.toList):=hof2.below (belY (Below.refl _ _) _) (by simp) (by rw[sz1];omega)
 obtain⟨wy,hw2⟩:∃ z,(w4.alloc (.cells #[.int .i64 0,.int .i64 0,.int .i64 0,.int .i64 0,.int .i64 0,.int .u32 0,.int .i64 0,.bool false,.slice none 0 0,.int .i64 0,.int .i64 0,.int .i64 0,.int .u32 0,.int .u32 0,.int .u32 0,.int .i64 0,.int .i64 0,.bool false,.bool false,.slice none 0 0,.int .i64 0,.int .u32 0,.int .u32 0,.int .u32 0,.int .i64 0,.int .i64 0,.bool false,.bool false,.slice none 0 0] 41)).setCells w4.heap.size 0 A2.toList=z:=⟨_,rfl⟩
 rw[hw2]at hst2 hrg2 hbl2
 have c1:wy.cell? ⟨w4.heap.size,10,none⟩=some (.int .i64 1):=hrg2 10 _ hB10
 have c2:wy.cell? ⟨w4.heap.size,20,none⟩=some (.int .i64 2):=hrg2 20 _ hB20
 obtain⟨cb,hob,hbl1,F0⟩:=HB.out
 have hb4:=H4.out.box (q:=2*0+1) (F0 0 (Nat.le_refl _)).1 (putT_same _ _ _) _ (List.mem_cons_self ..)
 have hb5:=(hbl2.block w3.heap.size (Array.getElem?_eq_some_iff.1 hb4).1).trans hb4
 have c0:wy.cell? ⟨w3.heap.size,10,none⟩=some (.int .i64 0):=(World.cell?_of_block (w:=wz) (a:=⟨w3.heap.size,10,none⟩) (hb5.trans hob.symm)).trans cb
 have hp5:=H4.out.below hbl2
 have hFr:=pframes hp5
 have hMo:=pmoves hp5
 obtain⟨_,_,e1,e2,_⟩:=a3 (T:=aS1) a1.2.2
 rw[HX.out,note_bg,e1]at hFr
 rw[HX.out,note_mv,e2]at hMo
 have hbw:Below w1.heap.size w1 wy:=by
  obtain⟨t9,L9,h9,_⟩:=hp5
  exact h9.1.bel
 have HE:Hid (Below w.heap.size w wy):=H1.out.2.2.trans (hbw.mono H1.out.2.2.size)
 clear kr2 hth2 hrg2 hof2 hbl2 hw2 cb hob hbl1 F0 hb4 hb5 hp5 e1 e2 hbw HB H4 H3 H2 HX
 go_wp2_with fail
 refine hFr.mono ?_
 rintro r w6 ⟨rfl,rfl⟩
 go_wp2_with fail
 refine hMo.mono ?_
 rintro r w6 ⟨rfl,rfl⟩
 go_wp2_with fail
 go_ret
 exact⟨rfl,HE.out⟩
theorem wpList_loadAG {P:Program} {ops:Array Oper} {rest:List Oper} {op:Oper} {a:Act} {w:World} {Q:Exit→Act→World→Prop} (hw:Region.wanted op (yielded ops a.tmps)=true) (ty:TypeId) (x:Operand) (ho:op.op=.load ty x)
  (b o:Nat) (hx:a.eval x=.pointer (some ⟨b,o,none⟩)) (A:Array Value) (d:TypeDesc) (hc:w.rangeAt b o A.toList)
  (hu:P.underlying ty=some d) (hd:d.isRow=true) (hi:(P.info? ty).map (·.size)=some A.size)
  (h:wpList P ops Q rest (a.put op.dst (.agg A)) w):wpList P ops Q (op :: rest) a w:=
 wpList_load_midG hw ty x ho b o hx A.toList d hc hu hd (by simpa using hi) (by simpa using h)
open Go.RowKit
theorem nx_vz {mx n:Nat} {s:Ms} (hn:10≤n) (ho:s.off=false) (hl:0≤s.l) (hmx:mx<4294967296) :
  ((nx mx n s.bs false s).e=0→(nx mx n s.bs false s).v=vz s.bs+1∧vz (nx mx n s.bs false s).s.bs=vz s.bs+1∧vz s.bs<mx)∧((nx mx n s.bs false s).e≠0→vz (nx mx n s.bs false s).s.bs=vz s.bs):=by
 unfold nx
 rw[if_neg (by simp[ho])]
 by_cases hm:mx≤vz s.bs
 ·rw[if_pos hm]
  exact⟨fun e=>(by cases e),fun _=>rfl⟩
 ·rw[if_neg hm]
  rcases sq_all n (six (tg s.bs) (vz s.bs+1)) s (fun x hx=>(six_in _ _ n (tg_lt _) hn x hx).1) ho hl with ⟨h1,h2,_⟩ | ⟨h1,h2,_,h4⟩
  ·rw[if_pos h1]
   refine⟨fun _=>⟨rfl,?_,by omega⟩,fun e=>absurd rfl e⟩
   show vz (sqS n (six (tg s.bs) (vz s.bs+1)) s).bs=_
   rw[h2]
   exact vz_next _ _ (by omega) (by omega)
  ·rw[if_neg (by omega)]
   refine⟨fun e=>(by cases e),fun _=>?_⟩
   show vz (sqS n (six (tg s.bs) (vz s.bs+1)) s).bs=_
   rw[h2]
   refine vz_cut _ _ _ ?_
   have:(six (tg s.bs) (vz s.bs+1)).length=6:=rfl
   omega
theorem opS_vz {mx n:Nat} {s:Ms} (hl:0≤s.l) (hz:Bz s.bs):vz (opS mx n s).bs=vz s.bs:=by
 unfold opS
 by_cases h1:mx=0∨n<10
 ·rw[if_pos h1]
 ·rw[if_neg h1]
  by_cases h2:s.off=true
  ·rw[if_pos h2]
  ·rw[if_neg h2]
   rcases sq_all n (mend s.bs) s (fun x hx=>(mend_in s.bs n (by omega) x hx).1) (by simpa using h2) hl with ⟨_,e,_⟩ | ⟨_,e,_⟩
   ·rw[e]
    have:=vz_mend s.bs (mend s.bs).length hz
    rwa [List.take_length]at this
   ·rw[e]
    exact vz_mend s.bs _ hz
theorem reset_vz {mx n:Nat} (s:Sd) (k:Int) (hz:Bz s.ms.bs) (hl:0≤s.ms.l):vz (dresetS mx n s k).ms.bs=vz s.ms.bs∧(dresetS mx n s k).ms.t≤s.ms.t+6∧(dresetS mx n s k).L=s.L:=by
 unfold dresetS
 by_cases hk:k<0
 ·rw[if_pos hk];exact⟨rfl,by omega,rfl⟩
 ·rw[if_neg hk]
  have hb:(rsM s.ms k).bs=s.ms.bs∧(rsM s.ms k).t=s.ms.t∧0 ≤ (rsM s.ms k).l:=by
   unfold rsM arS
   split
   ·split
    ·exact⟨rfl,rfl,hl⟩
    ·exact⟨rfl,rfl,by show 0≤k-1;omega⟩
   ·exact⟨rfl,rfl,hl⟩
  refine⟨?_,?_,rfl⟩
  ·show vz (opS mx n (rsM s.ms k)).bs=_
   rw[opS_vz hb.2.2 (by rw[hb.1];exact hz),hb.1]
  ·have:=opS_t mx n (rsM s.ms k) hb.2.2
   show (opS mx n (rsM s.ms k)).t≤_
   omega
theorem DV.facts {w:World} {d m g n mx:Nat} {P:Pm} {U:List Nat} {s:Sd} (h:DV w d m g n mx P U s):Bz s.ms.bs∧0≤s.ms.l∧10≤n∧mx≠0∧mx<4294967296∧(s.st≠6→s.ms.off=false):=by
 obtain⟨B,x⟩:=h
 exact⟨fun i hi=>x.mem.byte i (by have:=x.n10;omega),x.mem.l0,x.n10,x.mx0,x.mxl,fun hs=>(x.cel hs).2.2⟩
theorem dvarm_any (d m g n mx:Nat) (P:Pm) (U:List Nat) (s:Sd) (p:Int) (w:World) (h:DV w d m g n mx P U s) (hp:p≤9223372036854775807) :
  Calls Tryz.prog 50 #[.pointer (some ⟨m,0,none⟩),.int .i64 p] w fun e w'=>e=.returned (.int .i64 (arE p))∧Hid (∃ U',Gr U w U' w'∧DV w' d m g n mx P U' { s with ms:=arS s.ms p }):=by
 obtain⟨B,x⟩:=h
 refine (arm_any m g n s.ms p w x.mem hp).mono ?_
 rintro e w' ⟨rfl,o,m'⟩
 refine⟨rfl,U,Gr.same (o.more (m:=[m,g,B.c]) (by simp)) x.memU,B,x.memd (o.more (by simp)) m' (A':=s.st≠6) (fun hs=>?_)⟩
 obtain⟨c1,c2,c3⟩:=x.cel hs
 have hne:B.c ∉ [m]:=fun hm=>by simp at hm;have:=x.kc.1;rw[hm,x.km.1]at this;omega
 have e1:(arS s.ms p).bs=s.ms.bs:=by unfold arS;split <;> rfl
 have e2:(arS s.ms p).off=s.ms.off:=by unfold arS;split <;> rfl
 rw[e1,e2]
 exact⟨c1,c2.off o hne,c3⟩
structure Vok (s:Vs):Prop where
 fr:s.lat=0→s.fr=false
 sm:s.sm=true→s.lat=0
theorem Vok.new:Vok vnew:=⟨fun _=>rfl,fun h=>by cases h⟩
theorem Vok.trip {s:Vs} (h:Vok s) (x:Int):Vok (vtrip s x):=by
 unfold vtrip
 split
 ·exact h
 ·exact⟨fun _=>rfl,fun h=>by cases h⟩
theorem Vok.run {s:Vs} (h:Vok s) (o:Bool):Vok (vrun s o):=by
 unfold vrun
 split
 ·exact h
 ·exact⟨h.fr,fun h=>by cases h⟩
theorem Vok.hold {s:Vs} (h:Vok s) (o:Bool):Vok (vhold s o):=⟨h.fr,h.sm⟩
theorem Vok.fresh {s:Vs} (h:Vok s):Vok (vfresh s):=⟨fun e=>by show (s.lat != 0)=false;rw[show s.lat=0 from e];rfl,h.sm⟩
theorem Vok.take {s:Vs} (h:Vok s) (bs:Nat→Nat):Vok (vtake s bs):=by
 unfold vtake
 split
 ·rename_i k
  exact⟨h.fr,fun _=>k.2⟩
 ·exact h
theorem Vok.ack {s:Vs} (h:Vok s):Vok (vack s):=by
 unfold vack
 split
 ·exact⟨fun _=>rfl,fun _=>rfl⟩
 ·exact h
structure Bk2 where
 c:Nat
 M:List Nat
 cp:Value
 lv:Value
 vv:Value
 av:Value
 col:Nat→Nat
section
variable {w w':World} {d m g n mx:Nat} {P:Pm} {U:List Nat} {s s':Sd} {B:Bk2} {A A':Prop}
end
end Go.Proofs.YtiopiheomoehbaaGreat
namespace Go.Proofs.YtiopiheomoehbaaGreat
set_option maxRecDepth 100000
open Go.RowKit
structure Iv (P:Pm) (s:Sd):Prop where
 st1:1≤s.st
 st6:s.st≤6
 ss:s.ss<4294967296
 nm:s.nm<4294967296
 sn:s.sn<4294967296
 hs:s.st=2∨s.st=3→s.sn=0∧s.nm=0∧s.ss≠0
 run:s.st=4→s.sn≤s.nm∧s.nm<P.n∧s.ss≠0
 od:s.od<4
 vr:s.v.run=decide (s.st=4)
 vok:Vok s.v
 s0:s.ss=0→s.nm=0
 z:s.ss=0∨s.ss=vz s.ms.bs
 d6:s.st=6→s.ap=(fun _=>0)∧s.hd=false
structure Mo (mx n:Nat) (s:Sd):Prop where
 n10:10≤n
 mx0:mx≠0
 mxl:mx<4294967296
 l0:0≤s.ms.l
 bz:Bz s.ms.bs
 off:s.st≠6→s.ms.off=false
theorem Mo.of {w:World} {d m g n mx:Nat} {P:Pm} {U:List Nat} {s:Sd} (h:DV w d m g n mx P U s):Mo mx n s:=by
 obtain⟨a,b,c,e,f,g⟩:=h.facts
 exact⟨c,e,f,b,a,g⟩
section
variable {P:Pm} {mx n:Nat} {s:Sd}
theorem vtrip_run (v:Vs) (x:Int):(vtrip v x).run=v.run:=by unfold vtrip;split <;> rfl
theorem vrun_run (v:Vs) (o:Bool):(vrun v o).run=o:=by
 unfold vrun
 split
 ·assumption
 ·rfl
theorem vtake_run (v:Vs) (bs:Nat→Nat):(vtake v bs).run=v.run:=by unfold vtake;split <;> rfl
theorem vack_run (v:Vs):(vack v).run=v.run:=by unfold vack;split <;> rfl
theorem dlatch_v (s:Sd) (x:Int):(dlatch s x).v=vtrip s.v x:=by unfold dlatch dnote;split <;> rfl
theorem dlatch_flds (s:Sd) (x:Int):(dlatch s x).st=s.st∧(dlatch s x).ss=s.ss∧(dlatch s x).nm=s.nm∧(dlatch s x).sn=s.sn∧(dlatch s x).od=s.od∧(dlatch s x).ms=s.ms∧(dlatch s x).ap=s.ap∧(dlatch s x).hd=s.hd:=by unfold dlatch dnote;split <;> exact⟨rfl,rfl,rfl,rfl,rfl,rfl,rfl,rfl⟩
theorem Iv.latch (h:Iv P s) (x:Int):Iv P (dlatch s x):=by
 unfold dlatch dnote
 split
 ·exact⟨h.st1,h.st6,h.ss,h.nm,h.sn,h.hs,h.run,h.od,(vtrip_run _ _).trans h.vr,h.vok.trip x,h.s0,h.z,h.d6⟩
 ·exact⟨h.st1,h.st6,h.ss,h.nm,h.sn,h.hs,h.run,h.od,(vtrip_run _ _).trans h.vr,h.vok.trip x,h.s0,h.z,h.d6⟩
theorem Iv.note (h:Iv P s) (x:Int):Iv P (dnote s x):=⟨h.st1,h.st6,h.ss,h.nm,h.sn,h.hs,h.run,h.od,h.vr,h.vok,h.s0,h.z,h.d6⟩
theorem Iv.leave (hv:Vok s.v) {k:Nat} (h1:1≤k) (h5:k≤5) (h4:k≠4) (h2:k≠2) (h3:k≠3):Iv P (dleave s k):=
 ⟨h1,Nat.le_succ_of_le h5,by show (0:Nat)<_;omega,by show (0:Nat)<_;omega,by show (0:Nat)<_;omega,fun e=>by have e:k=2∨k=3:=e;omega,fun e=>absurd e h4,by show (0:Nat)<4;omega,by
  show (vrun s.v false).run=decide (k=4)
  rw[vrun_run,decide_eq_false h4],hv.run false,fun _=>rfl,.inl rfl,fun e=>by have e:k=6:=e;omega⟩
theorem Iv.life {k:Nat} (h1:1≤k) (h6:k≤6) (h4:k≠4) (h2:k≠2) (h3:k≠3):Iv P (dlife s k):=
 ⟨h1,h6,by show (0:Nat)<_;omega,by show (0:Nat)<_;omega,by show (0:Nat)<_;omega,fun e=>by have e:k=2∨k=3:=e;omega,fun e=>absurd e h4,by show (0:Nat)<4;omega,(decide_eq_false h4).symm,Vok.new,fun _=>rfl,.inl rfl,fun _=>⟨rfl,rfl⟩⟩
theorem Iv.odd (h:Iv P s):Iv P (dodd s):=by
 unfold dodd
 split
 ·split
  ·rename_i h4
   exact⟨h.st1,h.st6,h.ss,h.nm,h.sn,h.hs,h.run,h4,h.vr,h.vok,h.s0,h.z,h.d6⟩
  ·refine Iv.leave ?_ (by omega) (by omega) (by omega) (by omega) (by omega)
   split
   ·rw[dlatch_v];exact h.vok.trip _
   ·exact h.vok
 ·exact h
theorem Iv.begin_ (h:Iv P s) (M:Mo mx n s) (hu:s.st≠6):Iv P (dbegin P mx n s).s:=by
 have hv:=nx_vz (mx:=mx) (n:=n) (s:=s.ms) M.n10 (M.off hu) M.l0 M.mxl
 unfold dbegin
 generalize nx mx n s.ms.bs false s.ms=X at *
 have hm:=M.mxl
 split
 ·refine Iv.leave ?_ (by omega) (by omega) (by omega) (by omega) (by omega)
  rw[dlatch_v];exact h.vok.trip _
 ·split
  ·exact Iv.life (by omega) (by omega) (by omega) (by omega) (by omega)
  ·rename_i e0
   have e0:X.e=0:=by simpa using e0
   obtain⟨v1,v2,v3⟩:=hv.1 e0
   refine⟨by show 1≤2;omega,by show 2≤6;omega,by show X.v<_;omega,by show (0:Nat)<_;omega,by show (0:Nat)<_;omega,fun _=>⟨rfl,rfl,by show X.v≠0;omega⟩,fun e=>by have e:(2:Nat)=4:=e;omega,by show (0:Nat)<4;omega,?_,h.vok.run false,fun _=>rfl,.inr ?_,fun e=>by have e:(2:Nat)=6:=e;omega⟩
   ·show (vrun s.v false).run=decide ((2:Nat)=4)
    rw[vrun_run];rfl
   ·show X.v=vz X.s.bs
    omega
theorem Mo.odd (M:Mo mx n s):Mo mx n (dodd s):=by
 refine⟨M.n10,M.mx0,M.mxl,by rw[dodd_ms];exact M.l0,by rw[dodd_ms];exact M.bz,fun _=>?_⟩
 rw[dodd_ms]
 by_cases h6:s.st=6
 ·exfalso
  have:dodd s=s:=by unfold dodd dbusy;rw[h6];rfl
  rename_i hh
  rw[this]at hh
  exact hh h6
 ·exact M.off h6
theorem Iv.wish (h:Iv P s) (M:Mo mx n s) (hu:s.st≠6):Iv P (dwish P mx n s).s:=by
 unfold dwish
 split
 ·exact h.odd
 ·split
  ·exact h.odd
  ·exact h.odd.begin_ M.odd (dodd_up hu)
theorem Iv.echo (h:Iv P s):Iv P (dechoS s):=by
 unfold dechoS
 split
 ·rename_i h2
  have hq:=h.hs (.inl h2)
  refine⟨by show 1≤3;omega,by show 3≤6;omega,h.ss,h.nm,h.sn,fun _=>hq,fun e=>by have e:(3:Nat)=4:=e;omega,by show (0:Nat)<4;omega,?_,h.vok.fresh,h.s0,h.z,fun e=>by have e:(3:Nat)=6:=e;omega⟩
  show s.v.run=decide ((3:Nat)=4)
  rw[h.vr,h2];rfl
 ·exact h
theorem Iv.start (h:Iv P s) (hP:Pok P):Iv P (dstartS s):=by
 unfold dstartS
 split
 ·rename_i h3
  have hq:=h.hs (.inr h3)
  have:=hP.n2
  refine⟨by show 1≤4;omega,by show 4≤6;omega,h.ss,h.nm,h.sn,fun e=>by have e:(4:Nat)=2∨(4:Nat)=3:=e;omega,fun _=>⟨by show s.sn≤s.nm;omega,by show s.nm<_;omega,hq.2.2⟩,by show (0:Nat)<4;omega,?_,(h.vok.run true).fresh,h.s0,h.z,fun e=>by have e:(4:Nat)=6:=e;omega⟩
  show (vrun s.v true).run=decide ((4:Nat)=4)
  rw[vrun_run];rfl
 ·exact h
theorem Iv.data (h:Iv P s) (hP:Pok P) {num fl:Nat} {bs:Nat→Nat} (h4:s.st=4) (hn:s.nm<num) (hc:num<P.n):Iv P (ddataS s num fl bs):=by
 have hq:=h.run h4
 have hp:=hP.n
 refine⟨h.st1,h.st6,h.ss,by show num<_;omega,by show s.sn+1<_;omega,fun e=>by have e:s.st=2∨s.st=3:=e;omega,fun _=>⟨by show s.sn+1≤num;omega,hc,hq.2.2⟩,by show (0:Nat)<4;omega,?_,(h.vok.fresh.hold _).take _,fun e=>absurd e hq.2.2,h.z,fun e=>by have e:s.st=6:=e;omega⟩
 show (vtake (vhold (vfresh s.v) (decide (8≤fl))) bs).run=decide (s.st=4)
 rw[vtake_run];exact h.vr
theorem Iv.last (h:Iv P s) (hP:Pok P) (h4:s.st=4):Iv P (dendS (dlastS P s)):=by
 have hq:=h.run h4
 have hp:=hP.n
 obtain⟨l1,l2,l3,l4,l5,l6,l7,l8⟩:=dlatch_flds (don { s with nm:=P.n }) 80
 refine⟨by show 1≤5;omega,by show 5≤6;omega,?_,?_,hp,fun e=>by have e:(5:Nat)=2∨(5:Nat)=3:=e;omega,fun e=>by have e:(5:Nat)=4:=e;omega,?_,?_,?_,?_,?_,fun e=>by have e:(5:Nat)=6:=e;omega⟩
 ·show (dlatch (don { s with nm:=P.n }) 80).ss<_
  rw[l2];exact h.ss
 ·show (dlatch (don { s with nm:=P.n }) 80).nm<_
  rw[l3];exact hp
 ·show (dlatch (don { s with nm:=P.n }) 80).od<4
  rw[l5];show (0:Nat)<4;omega
 ·show (vrun (dlatch (don { s with nm:=P.n }) 80).v false).run=decide ((5:Nat)=4)
  rw[vrun_run];rfl
 ·show Vok (vrun (dlatch (don { s with nm:=P.n }) 80).v false)
  rw[dlatch_v]
  exact (h.vok.fresh.trip _).run _
 ·intro e
  have e:(dlatch (don { s with nm:=P.n }) 80).ss=0:=e
  rw[l2]at e
  exact absurd e hq.2.2
 ·show (dlatch (don { s with nm:=P.n }) 80).ss=0∨(dlatch (don { s with nm:=P.n }) 80).ss=vz (dlatch (don { s with nm:=P.n }) 80).ms.bs
  rw[l2,l6];exact h.z
theorem Iv.take (h:Iv P s) (hP:Pok P) (M:Mo mx n s) (hu:s.st≠6) (k ss num fl len:Nat) (bs:Nat→Nat):Iv P (dtake P mx n s k ss num fl len bs).s:=by
 unfold dtake
 split
 ·split
  ·exact h.wish M hu
  ·exact h.odd
 ·split
  ·split
   ·exact h.echo
   ·exact h.odd
  ·split
   ·exact h.start hP
   ·split
    ·rename_i hh
     exact h.data hP hh.2.1.2.1 hh.2.1.2.2 hh.2.2.1
    ·split
     ·rename_i hh
      exact h.last hP hh.2.1.2.1
     ·exact h.odd
theorem Iv.hear (h:Iv P s) (hP:Pok P) (M:Mo mx n s) (hu:s.st≠6) (len:Nat) (bs:Nat→Nat):Iv P (dhear P mx n s len bs).s:=by
 unfold dhear
 split
 ·exact h
 ·split
  ·exact h
  ·split
   ·exact h
   ·exact h.take hP M hu _ _ _ _ _ _
theorem Iv.recv (h:Iv P s) (hP:Pok P) (M:Mo mx n s) (len:Nat) (bs:Nat→Nat):Iv P (drecv P mx n s len bs).s:=by
 unfold drecv
 split
 ·exact h
 ·rename_i hu
  split
  ·exact (h.hear hP M hu len bs).note _
  ·exact h.hear hP M hu len bs
theorem Iv.write (h:Iv P s) (len:Nat) (bs:Nat→Nat) (o:Bool):Iv P (dwriteS P s len bs o):=by
 unfold dwriteS
 split
 ·exact h
 ·rename_i h6
  split
  ·exact⟨h.st1,h.st6,h.ss,h.nm,h.sn,h.hs,h.run,h.od,h.vr,h.vok,h.s0,h.z,fun e=>absurd e h6⟩
  ·exact h
theorem Iv.tick (h:Iv P s) (k:Int):Iv P (dtickS P s k):=by
 unfold dtickS
 split
 ·exact h
 ·split
  ·exact h
  ·have h':Iv P { s with dc:=tk P.t s.dc k.toNat }:=⟨h.st1,h.st6,h.ss,h.nm,h.sn,h.hs,h.run,h.od,h.vr,h.vok,h.s0,h.z,h.d6⟩
   split
   ·exact h'.latch _
   ·exact h'
theorem Iv.ack (h:Iv P s):Iv P (dackS s):=by
 unfold dackS
 split
 ·exact h
 ·exact⟨h.st1,h.st6,h.ss,h.nm,h.sn,h.hs,h.run,h.od,(vack_run _).trans h.vr,h.vok.ack,h.s0,h.z,h.d6⟩
theorem Iv.reset (h:Iv P s) (k:Int):Iv P (dresetS mx n s k):=by
 unfold dresetS
 split
 ·exact h
 ·split
  ·exact Iv.life (by omega) (by omega) (by omega) (by omega) (by omega)
  ·exact Iv.life (by omega) (by omega) (by omega) (by omega) (by omega)
theorem Iv.arm (h:Iv P s) (p:Int):Iv P { s with ms:=arS s.ms p }:=
 ⟨h.st1,h.st6,h.ss,h.nm,h.sn,h.hs,h.run,h.od,h.vr,h.vok,h.s0,by
  have:(arS s.ms p).bs=s.ms.bs:=by unfold arS;split <;> rfl
  show s.ss=0∨s.ss=vz (arS s.ms p).bs
  rw[this];exact h.z,h.d6⟩
theorem Iv.new_ (ms:Ms):Iv P (dnew ms):=
 ⟨by show 1≤1;omega,by show 1≤6;omega,by show (0:Nat)<_;omega,by show (0:Nat)<_;omega,by show (0:Nat)<_;omega,fun e=>by have e:(1:Nat)=2∨(1:Nat)=3:=e;omega,fun e=>by have e:(1:Nat)=4:=e;omega,by show (0:Nat)<4;omega,rfl,Vok.new,fun _=>rfl,.inl rfl,fun e=>by have e:(1:Nat)=6:=e;omega⟩
theorem Iv.sent (h:Iv P s) (hP:Pok P):s.st=4→s.sn+1<4294967296:=fun e=>by
 have:=h.run e
 have:=hP.n
 omega
def Gw (a b:Sd):Prop:=b.L.length≤a.L.length+3∧b.ms.t≤a.ms.t+6
theorem dbegin_t (M:Mo mx n s):(dbegin P mx n s).s.ms.t≤s.ms.t+6:=by
 have ht:=nx_t mx n s.ms.bs false s.ms M.n10 M.l0
 unfold dbegin
 generalize nx mx n s.ms.bs false s.ms=X at *
 split
 ·show (dlatch { s with ms:=X.s } 80).ms.t≤_
  rw[dlatch_ms];exact ht
 ·split
  ·exact ht
  ·exact ht
theorem dwish_t (M:Mo mx n s):(dwish P mx n s).s.ms.t≤s.ms.t+6:=by
 have e:=dodd_ms s
 unfold dwish
 split
 ·show (dodd s).ms.t≤_;rw[e];omega
 ·split
  ·show (dodd s).ms.t≤_;rw[e];omega
  ·have:=dbegin_t (P:=P) M.odd
   rw[e]at this;exact this
theorem dtake_t (M:Mo mx n s) (k ss num fl len:Nat) (bs:Nat→Nat):(dtake P mx n s k ss num fl len bs).s.ms.t≤s.ms.t+6:=by
 have e:=dodd_ms s
 have r:∀ x:Int,(drefuse P s x).s.ms.t≤s.ms.t+6:=fun x=>by show (dodd s).ms.t≤_;rw[e];omega
 unfold dtake
 split
 ·split
  ·exact dwish_t M
  ·exact r _
 ·split
  ·split
   ·show (dechoS s).ms.t≤_;unfold dechoS;split <;> (show s.ms.t≤_;omega)
   ·exact r _
  ·split
   ·show (dstartS s).ms.t≤_;unfold dstartS;split <;> (show s.ms.t≤_;omega)
   ·split
    ·show s.ms.t≤_;omega
    ·split
     ·show (dlatch (don { s with nm:=P.n }) 80).ms.t≤_
      rw[dlatch_ms];show s.ms.t≤_;omega
     ·exact r _
theorem gw_recv (M:Mo mx n s) (len:Nat) (bs:Nat→Nat):Gw s (drecv P mx n s len bs).s:=by
 have h1:=dhear_len P mx n s len bs
 have h2:(dhear P mx n s len bs).s.ms.t≤s.ms.t+6:=by
  unfold dhear
  split
  ·show s.ms.t≤_;omega
  ·split
   ·show s.ms.t≤_;omega
   ·split
    ·show s.ms.t≤_;omega
    ·exact dtake_t M _ _ _ _ _ _
 unfold drecv
 split
 ·exact⟨by show s.L.length≤_;omega,by show s.ms.t≤_;omega⟩
 ·split
  ·exact⟨by show ((dhear P mx n s len bs).s.L ++ [_]).length≤_;simp;omega,h2⟩
  ·exact⟨by omega,h2⟩
theorem gw_tick (k:Int):Gw s (dtickS P s k):=by
 unfold dtickS
 split
 ·exact⟨by omega,by omega⟩
 ·split
  ·exact⟨by omega,by omega⟩
  ·split
   ·refine⟨?_,?_⟩
    ·have:=dlatch_len { s with dc:=tk P.t s.dc k.toNat } 100
     have e:({ s with dc:=tk P.t s.dc k.toNat }:Sd).L.length=s.L.length:=rfl
     omega
    ·rw[dlatch_ms];show s.ms.t≤_;omega
   ·exact⟨by show s.L.length≤_;omega,by show s.ms.t≤_;omega⟩
theorem gw_ack:Gw s (dackS s):=by
 unfold dackS
 split <;> exact⟨by show s.L.length≤_;omega,by show s.ms.t≤_;omega⟩
theorem gw_write (len:Nat) (bs:Nat→Nat) (o:Bool):Gw s (dwriteS P s len bs o):=by
 unfold dwriteS
 split
 ·exact⟨by omega,by omega⟩
 ·split <;> exact⟨by show s.L.length≤_;omega,by show s.ms.t≤_;omega⟩
theorem gw_reset (M:Mo mx n s) (k:Int):Gw s (dresetS mx n s k):=by
 obtain⟨_,h2,h3⟩:=reset_vz (mx:=mx) (n:=n) s k M.bz M.l0
 exact⟨by rw[h3];omega,h2⟩
theorem gw_arm (p:Int):Gw s { s with ms:=arS s.ms p }:=⟨by show s.L.length≤_;omega,by
 have:(arS s.ms p).t=s.ms.t:=by unfold arS;split <;> rfl
 show (arS s.ms p).t≤_;omega⟩
end
end Go.Proofs.YtiopiheomoehbaaGreat
namespace Go.Proofs.YtiopiheomoehbaaGreat
set_option maxRecDepth 100000
open Go.RowKit
section
variable {P:Pm} {s:Sh}
theorem hlatch_v (s:Sh) (x:Int):(hlatch s x).v=vtrip s.v x:=by unfold hlatch hnote;split <;> rfl
theorem hlatch_flds (s:Sh) (x:Int):(hlatch s x).st=s.st∧(hlatch s x).ss=s.ss∧(hlatch s x).nm=s.nm∧(hlatch s x).sn=s.sn∧(hlatch s x).wt=s.wt∧(hlatch s x).ms=s.ms∧(hlatch s x).ap=s.ap∧(hlatch s x).hd=s.hd∧(hlatch s x).dc=s.dc:=by unfold hlatch hnote;split <;> exact⟨rfl,rfl,rfl,rfl,rfl,rfl,rfl,rfl,rfl⟩
theorem hlatch_len (s:Sh) (x:Int):(hlatch s x).L.length≤s.L.length+1:=by unfold hlatch hnote;split <;> simp
theorem vtrip_lat {v:Vs} {x:Int} (hx:x≠0):(vtrip v x).lat≠0:=by
 unfold vtrip
 rw[if_neg hx]
 show (if v.lat=0 then x else v.lat)≠0
 split <;> assumption
theorem vtrip_lat' {v:Vs} {x:Int} (h:v.lat≠0):(vtrip v x).lat≠0:=by
 unfold vtrip
 by_cases hx:x=0
 ·rw[if_pos hx];exact h
 ·rw[if_neg hx]
  show (if v.lat=0 then x else v.lat)≠0
  rw[if_neg h];exact h
theorem vrun_latH (v:Vs) (o:Bool):(vrun v o).lat=v.lat:=by unfold vrun;split <;> rfl
theorem Ih.new_ (P:Pm):Ih P hnew:=⟨by show 1≤1;omega,by show 1≤5;omega,by show 0<_;omega,by show 0<_;omega,by show 0<_;omega,by show 0<4;omega,fun e=>by have e:(1:Nat)=2∨(1:Nat)=3∨(1:Nat)=4:=e;omega,fun _ _=>⟨rfl,rfl⟩,fun e=>by have e:(1:Nat)=4:=e;omega,rfl,fun e=>by have e:(1:Nat)=5:=e;omega⟩
theorem Ih.life (P:Pm) (s:Sh):Ih P (hlife s):=⟨by show 1≤1;omega,by show 1≤5;omega,by show 0<_;omega,by show 0<_;omega,by show 0<_;omega,by show 0<4;omega,fun e=>by have e:(1:Nat)=2∨(1:Nat)=3∨(1:Nat)=4:=e;omega,fun _ _=>⟨rfl,rfl⟩,fun e=>by have e:(1:Nat)=4:=e;omega,rfl,fun e=>by have e:(1:Nat)=5:=e;omega⟩
theorem Ih.note (h:Ih P s) (x:Int):Ih P (hnote s x):=⟨h.st1,h.st5,h.ss,h.nm,h.sn,h.ms,h.s4,h.hs,h.run,h.vr,h.lat5⟩
theorem Ih.latch (h:Ih P s) (x:Int):Ih P (hlatch s x):=by
 unfold hlatch hnote
 split
 ·exact⟨h.st1,h.st5,h.ss,h.nm,h.sn,h.ms,h.s4,h.hs,h.run,(vtrip_run _ _).trans h.vr,fun e=>vtrip_lat' (h.lat5 e)⟩
 ·exact⟨h.st1,h.st5,h.ss,h.nm,h.sn,h.ms,h.s4,h.hs,h.run,(vtrip_run _ _).trans h.vr,fun e=>vtrip_lat' (h.lat5 e)⟩
theorem Ih.give_of (h:s.ss<4294967296):Ih P (hgive s):=⟨by show 1≤1;omega,by show 1≤5;omega,h,by show 0<_;omega,by show 0<_;omega,by show 0<4;omega,fun e=>by have e:(1:Nat)=2∨(1:Nat)=3∨(1:Nat)=4:=e;omega,fun _ _=>⟨rfl,rfl⟩,fun e=>by have e:(1:Nat)=4:=e;omega,vrun_run _ _,fun e=>by have e:(1:Nat)=5:=e;omega⟩
theorem Ih.miss (h:Ih P s):Ih P (hmiss s):=by
 unfold hmiss
 split
 ·exact h
 ·split
  ·rename_i h4
   exact⟨h.st1,h.st5,h.ss,h.nm,h.sn,h4,h.s4,h.hs,h.run,h.vr,h.lat5⟩
  ·refine Ih.give_of ?_
   split
   ·rw[(hlatch_flds _ _).2.1];exact h.ss
   ·exact h.ss
theorem Ih.exh (h1:s.ss<4294967296) (h2:s.nm<4294967296) (h3:s.sn<4294967296) (h4:s.ms<4):Ih P (hexh s):=by
 obtain⟨_,f2,f3,f4,_,f6,_⟩:=hlatch_flds s 80
 refine⟨by show 1≤5;omega,by show 5≤5;omega,by show (hlatch s 80).ss<_;omega,by show (hlatch s 80).nm<_;omega,by show (hlatch s 80).sn<_;omega,by show (hlatch s 80).ms<4;omega,fun e=>by have e:(5:Nat)=2∨(5:Nat)=3∨(5:Nat)=4:=e;omega,fun _ e=>absurd rfl e,fun e=>by have e:(5:Nat)=4:=e;omega,vrun_run _ _,fun _=>?_⟩
 show (vrun (hlatch s 80).v false).lat≠0
 rw[vrun_latH,hlatch_v]
 exact vtrip_lat (by omega)
theorem Ih.next (hP:Pok P) (h:Ih P s) (h5:s.st≠5):Ih P (hnext P s).1:=by
 unfold hnext
 by_cases c1:s.st=1
 ·rw[if_pos c1];exact h
 ·rw[if_neg c1]
  by_cases c2:s.st=2
  ·rw[if_pos c2];exact h
  ·rw[if_neg c2]
   by_cases c3:s.st=3
   ·rw[if_pos c3];exact h
   ·rw[if_neg c3]
    have h4:s.st=4:=by have:=h.st1;have:=h.st5;omega
    have hr:=h.run h4
    have hn:=hP.n
    by_cases c4:s.sn+1=P.n
    ·rw[if_pos c4]
     exact Ih.exh (s:={ s with sn:=s.sn+1 }) h.ss h.nm (by show s.sn+1<_;omega) h.ms
    ·rw[if_neg c4]
     exact⟨h.st1,h.st5,h.ss,h.nm,by show s.sn+1<_;omega,h.ms,h.s4,fun e=>absurd h4 e,fun _=>⟨by show s.sn+1<P.n;omega,hr.2⟩,h.vr,h.lat5⟩
theorem hmiss_st5 (h:s.st≠5):(hmiss s).st≠5:=by
 unfold hmiss
 split
 ·exact h
 ·split
  ·exact h
  ·show (1:Nat)≠5;omega
theorem Ih.wait (h:Ih P s):Ih P { s with wt:=true }:=⟨h.st1,h.st5,h.ss,h.nm,h.sn,h.ms,h.s4,h.hs,h.run,h.vr,h.lat5⟩
theorem Ih.send (hP:Pok P) (h:Ih P s):Ih P (hsendS P s):=by
 unfold hsendS
 by_cases c:s.st=5
 ·rw[if_pos c];exact h
 ·rw[if_neg c];exact (h.miss.next hP (hmiss_st5 c)).wait
theorem Ih.on_ (h:Ih P s):Ih P (hon s):=⟨h.st1,h.st5,h.ss,h.nm,h.sn,by show 0<4;omega,h.s4,h.hs,h.run,h.vr,h.lat5⟩
theorem Ih.recv (hP:Pok P) (h:Ih P s) (len:Nat) (bs:Nat→Nat) (hb:∀ i,i<len→bs i<256):Ih P (hrecvS P s len bs):=by
 unfold hrecvS
 by_cases hE:hrecvE P s len bs≠0
 ·rw[if_pos hE];exact h.note _
 ·rw[if_neg hE]
  have hE:hrecvE P s len bs=0:=by omega
  unfold hrecvE at hE
  by_cases hD:DE bs len≠0
  ·rw[if_pos hD]at hE;exact absurd hE hD
  ·rw[if_neg hD]at hE
   have hD:DE bs len=0:=by omega
   have hl:19≤len:=(DE_zero hD).1
   have hs5:w4v bs 5<4294967296:=w4v_lt fun j hj=>hb _ (by omega)
   have hs9:w4v bs 9<4294967296:=w4v_lt fun j hj=>hb _ (by omega)
   generalize w4v bs 5=ss at *
   generalize w4v bs 9=num at *
   generalize (fun i=>bs (15+i))=ds at *
   generalize bs 13=fl at *
   generalize bs 0=k at *
   have hn2:2≤P.n:=by have:=hP.ok.2.2.2.2;omega
   have hn:=hP.n
   unfold hrefE at hE
   by_cases hK:devK (k:Int)=false
   ·rw[if_pos hK]at hE;omega
   ·rw[if_neg hK]at hE
    by_cases hC:w4v bs 1≠P.c
    ·rw[if_pos hC]at hE;omega
    ·rw[if_neg hC]at hE
     by_cases h1:s.st=1
     ·rw[if_pos h1]at hE
      unfold hoffE at hE
      by_cases hk:k≠17∨ss≤s.ss
      ·rw[if_pos hk]at hE;omega
      ·obtain rfl:k=17:=by omega
       have h0:=h.hs (by omega) (by omega)
       unfold htake
       rw[if_pos rfl]
       refine Ih.on_ ⟨by show 1≤2;omega,by show 2≤5;omega,hs5,h.nm,h.sn,h.ms,fun _=>by show ss≠0;omega,fun _ _=>h0,fun e=>by have e:(2:Nat)=4:=e;omega,?_,fun e=>by have e:(2:Nat)=5:=e;omega⟩
       show s.v.run=decide ((2:Nat)=4)
       rw[h.vr,h1];rfl
     ·rw[if_neg h1]at hE
      by_cases ha:ss≠s.ss∨hawaits P s k num (len-19)=false
      ·rw[if_pos ha]at hE;omega
      ·have ha2:hawaits P s k num (len-19)=true:=by
        cases hh:hawaits P s k num (len-19) with
        | true=>rfl
        | false=>exact absurd (.inr hh) ha
       unfold hawaits at ha2
       have ha3:=of_decide_eq_true ha2
       unfold htake
       rcases ha3 with ⟨rfl,h2⟩ | ⟨rfl,h3⟩ | ⟨rfl,⟨⟨h4,hm⟩,hp⟩,_⟩ | ⟨rfl,⟨h4,hm⟩,rfl⟩
       ·rw[if_neg (by omega),if_pos rfl]
        have h0:=h.hs (by omega) (by omega)
        refine Ih.on_ ⟨by show 1≤3;omega,by show 3≤5;omega,h.ss,h.nm,h.sn,h.ms,fun _=>h.s4 (.inl h2),fun _ _=>h0,fun e=>by have e:(3:Nat)=4:=e;omega,?_,fun e=>by have e:(3:Nat)=5:=e;omega⟩
        show s.v.run=decide ((3:Nat)=4)
        rw[h.vr,h2];rfl
       ·rw[if_neg (by omega),if_neg (by omega),if_pos rfl]
        have h0:=h.hs (by omega) (by omega)
        refine Ih.on_ ⟨by show 1≤4;omega,by show 4≤5;omega,h.ss,h.nm,h.sn,h.ms,fun _=>h.s4 (.inr (.inl h3)),fun e=>absurd rfl e,fun _=>⟨by show s.sn<P.n;omega,by show s.nm<P.n;omega⟩,vrun_run _ _,fun e=>by have e:(4:Nat)=5:=e;omega⟩
       ·rw[if_neg (by omega),if_neg (by omega),if_neg (by omega),if_pos rfl]
        have hr:=h.run h4
        refine⟨h.st1,h.st5,h.ss,hs9,h.sn,by show 0<4;omega,h.s4,fun e=>absurd h4 e,fun _=>⟨hr.1,hp⟩,?_,fun e=>by have e:s.st=5:=e;omega⟩
        show (vtake (vhold (vfresh s.v) (decide (8≤fl))) ds).run=decide (s.st=4)
        rw[vtake_run];exact h.vr
       ·rw[if_neg (by omega),if_neg (by omega),if_neg (by omega),if_neg (by omega),if_pos rfl]
        exact Ih.exh (s:=hon { s with nm:=P.n }) h.ss (by show P.n<_;omega) h.sn (by show 0<4;omega)
theorem Ih.tick (h:Ih P s) (k:Int):Ih P (htickS P s k):=by
 unfold htickS
 by_cases c:k<0
 ·rw[if_pos c];exact h
 ·rw[if_neg c]
  have h':Ih P { s with dc:=tk P.t s.dc k.toNat }:=⟨h.st1,h.st5,h.ss,h.nm,h.sn,h.ms,h.s4,h.hs,h.run,h.vr,h.lat5⟩
  split
  ·exact h'.latch 100
  ·exact h'
theorem Ih.ack (h:Ih P s):Ih P (hackS s):=by
 refine⟨h.st1,h.st5,h.ss,h.nm,h.sn,h.ms,h.s4,h.hs,h.run,(vack_run _).trans h.vr,fun e=>?_⟩
 have e:s.st=5:=e
 have hr:s.v.run=false:=by rw[h.vr,e];rfl
 show (vack s.v).lat≠0
 unfold vack vreq
 rw[hr,if_neg (by simp)]
 exact h.lat5 e
theorem Ih.write (h:Ih P s) (len:Nat) (bs:Nat→Nat) (o:Bool):Ih P (hwriteS P s len bs o):=by
 unfold hwriteS
 split
 ·exact⟨h.st1,h.st5,h.ss,h.nm,h.sn,h.ms,h.s4,h.hs,h.run,h.vr,h.lat5⟩
 ·exact h
theorem hexh_len (s:Sh):(hexh s).L.length≤s.L.length+1:=hlatch_len s 80
theorem hmiss_len (s:Sh):(hmiss s).L.length≤s.L.length+1:=by
 unfold hmiss
 split
 ·omega
 ·split
  ·show s.L.length≤_;omega
  ·show (hgive _).L.length≤_
   unfold hgive
   split
   ·exact hlatch_len { s with ms:=s.ms+1 } 131
   ·show s.L.length≤_;omega
theorem hnext_len (P:Pm) (s:Sh):(hnext P s).1.L.length≤s.L.length+1:=by
 unfold hnext
 by_cases c1:s.st=1
 ·rw[if_pos c1];show s.L.length≤_;omega
 ·rw[if_neg c1]
  by_cases c2:s.st=2
  ·rw[if_pos c2];show s.L.length≤_;omega
  ·rw[if_neg c2]
   by_cases c3:s.st=3
   ·rw[if_pos c3];show s.L.length≤_;omega
   ·rw[if_neg c3]
    by_cases c4:s.sn+1=P.n
    ·rw[if_pos c4];exact hexh_len { s with sn:=s.sn+1 }
    ·rw[if_neg c4];show s.L.length≤_;omega
theorem hsend_len (P:Pm) (s:Sh):(hsendS P s).L.length≤s.L.length+2:=by
 unfold hsendS
 by_cases c:s.st=5
 ·rw[if_pos c];omega
 ·rw[if_neg c]
  show (hnext P (hmiss s)).1.L.length≤_
  have:=hnext_len P (hmiss s)
  have:=hmiss_len s
  omega
end
end Go.Proofs.YtiopiheomoehbaaGreat
