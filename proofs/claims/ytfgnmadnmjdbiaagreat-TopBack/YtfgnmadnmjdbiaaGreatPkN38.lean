/- Part 39: contracts that the proof rests on. -/
import Derived.Test.YtfgnmadnmjdbiaaGreatPkN36
set_option maxHeartbeats 64000000
set_option maxRecDepth 100000
namespace Go.Proofs.YtfgnmadnmjdbiaaGreat
open Tryz
open Go.RowKit Go.Maps
set_option linter.unusedVariables false
theorem zr (a:Option Addr) (len cap n:Nat) (bs:Nat→Nat) (w:World) (R:Row8 w a len cap bs) (hn1:1≤n) (hn:n≤8):Calls prog 15 #[.slice a len cap,.int .i64 (n:Nat)] w fun r w'=>r=.returned (.slice (af w.heap.size 0) n n)∧Hid (Row8 w' (af w.heap.size 0) n n (fun i=>if i<len then bs i else 1)∧Below w.heap.size w w'):=by
 obtain⟨i0,hi,hz0,hz1,hz2⟩:=info_parts bY
 have HR:Hid (Row8 w a len cap bs):=R
 clear R
 go_enter func15,ntmps15
 go_wp2_with (at_make;refine aZ _ rfl (.tmp 7) (.tmp 7) 22 rfl w.heap.size 5 i0 underlying22 hi hz0 hz1 hz2 _ _ _ _ n n rfl rfl rfl rfl (Nat.le_refl _) (by omega) (Nat.le_refl _) ?_)
 intro w1 own1 bel1
 have H1:Hid (w1.ownsRow w.heap.size 5 1 (.slice (af w.heap.size 0) n n) n (CB (fun i=>if i<0 then 1 else 0) n)∧Below w.heap.size w w1):=⟨by rw[dw (fun i=>if i<0 then 1 else 0) (fun _=>0) n (fun i _=>if_neg (by omega))];exact own1,bel1⟩
 clear own1 bel1
 go_wp2_with fail
 go_loopw [11,6,12,13,14,15,16,17] (fun c _ _ _ _ _ _ _ wr=>∃ j:Nat,j≤n∧c=.int .i64 ((j:Nat):Int)∧Hid (wr.ownsRow w.heap.size 5 1 (.slice (af w.heap.size 0) n n) n (CB (fun i=>if i<j then 1 else 0) n)∧Below w.heap.size w wr)) (fun c _ _ _ _ _ _ _ _=>n-uy c)
 case atStart=>exact⟨0,by omega,rfl,H1⟩
 case round=>
  obtain⟨j,hj,rfl,HJ⟩:=hrel
  clear H1
  by_cases hlt:j<n
  ·have hlt':((j:Nat):Int) < ((n:Nat):Int):=by omega
   have hcx:=HJ.out.1.cellAt j (by omega)
   have hfx:=HJ.out.1.frozenAt j
   rw[aR _ n _ hlt]at hcx
   have HT:Hid ((wr.setCell ⟨w.heap.size,j,none⟩ (.int .u8 1)).ownsRow w.heap.size 5 1 (.slice (af w.heap.size 0) n n) n (CB (fun i=>if i<j+1 then 1 else 0) n)∧Below w.heap.size w (wr.setCell ⟨w.heap.size,j,none⟩ (.int .u8 1))):=by
    refine⟨?_,HJ.out.2.setCell (p:=⟨w.heap.size,j,none⟩) (Nat.le_refl _) _⟩
    have h:=(HJ.out.1.stored j (.int .u8 ((1:Nat):Int))).1
    rw[fi,dw _ (fun i=>if i<j+1 then 1 else 0) n (fun i _=>by
     by_cases e:i=j
     ·rw[if_pos e,if_pos (by omega)]
     ·rw[if_neg e]
      by_cases q:i<j
      ·rw[if_pos q,if_pos (by omega)]
      ·rw[if_neg q,if_neg (by omega)])]at h
    exact h
   go_wp2_with fail
   refine⟨⟨j+1,by omega,by simp,HT⟩,?_⟩
   have e1:uy (.int .i64 ((j:Nat):Int))=j:=by simp[uy]
   have e2:uy (.int .i64 (((j:Nat):Int)+1))=j+1:=by simp[uy]
   rw[e1,e2]
   omega
  ·have hlt':¬ ((j:Nat):Int) < ((n:Nat):Int):=by omega
   have hjn:j=n:=by omega
   obtain⟨own,bel⟩:=HJ.out
   have hrow:=HR.out.below bel
   clear HJ
   go_wp2_with (refine ik rfl (.tmp 18) (.tmp 19) 22 22 rfl 5 underlying22 jA w.heap.size w.heap.size n n _ rfl own a len cap bs rfl hrow w bel ?_)
   intro w4 own4 bel4
   have hby:∀ i,i<n→(if i<len then bs i else (if i<n then 1 else 0))<256:=fun i hi=>by
    split
    ·next q=>exact HR.out.byte i q
    ·first | omega | (split <;> omega)
   obtain⟨a5,c5,e5,R5⟩:=aX own4 hby
   simp only[Value.slice.injEq,true_and]at e5
   obtain⟨rfl,rfl⟩:=e5
   have HF:Hid (Row8 w4 (af w.heap.size 0) n n (fun i=>if i<len then bs i else 1)∧Below w.heap.size w w4):=⟨R5.congr (fun i hi=>by
    split
    ·rfl
    ·first | rfl | rw[if_pos hi]),bel4⟩
   clear own4 bel4 R5 own bel hrow hby
   go_wp2_with fail
   go_ret
   exact⟨rfl,HF.out⟩
theorem zO {w0 w:World} {t:Nat→Thing} {L:Pw} {S:Ws} {i c l cp:Nat} {d:Option Addr} {bs:Nat→Nat} (h:PWn ev w0 t L w S) (F:Fre ev t i) (I:S.In) (hcn:c<S.n) (hmv:S.mv<4096) (hc2:c≤10000) (hl:l≤8) (R:Row8 w d l cp bs) (hd:∀ y,d=some y→0<l→y.block≠L.x) (he:(S.play (cS c 1 l bs)).e=0):Calls prog 21 #[ac L.x 0,.int .i64 (c:Nat),.int .i64 1,.slice d l cp] w fun r w'=>r=.returned (.tuple #[.bool true,.int .i64 0])∧Hid (PWn ev w0 t L w' (S.play (cS c 1 l bs)).S):=by
 have bd:=jm (S:=S) (c:=c) (s:=1) (l:=l) (b:=bs) hmv hcn (by omega)
 have hPl:=ej (i:=i) (cS c 1 l bs) d cp h F I (gw (k:=1) (s:=1) (f:=0) (n:=0) (by omega) hc2 (by omega) (by omega) (by omega) l bs) (by omega) R hd (by show l≤_;omega)
 obtain⟨X,hX⟩:∃ y,L.x=y:=⟨_,rfl⟩
 have HX:Hid (L.x=X):=hX
 rw[hX]at hPl ⊢
 have HB:Hid (S.bad (cS c 1 l bs)=0):=bd
 have HE:Hid ((S.play (cS c 1 l bs)).e=0):=he
 clear hX bd he h I R hd
 go_enter func21,ntmps21
 go_wp2_with fail
 refine Calls.mono hPl ?_
 rintro r x1 ⟨A,E,rfl,hsA,hoA,H1⟩
 clear hPl
 have hE:E=0:=H1.out.1.trans HB.out
 subst hE
 obtain⟨y1,hst,hrg,hbl⟩:=eJ x1 hsA hoA
 have c9:=hrg 9 _ (H1.out.2.2 HB.out).1
 rw[Nat.zero_add,HE.out]at c9
 have HF:Hid (PWn ev w0 t L y1 (S.play (cS c 1 l bs)).S):=H1.out.2.1.below hbl
 clear hrg hbl H1
 go_wp2_with fail
 go_ret2
 exact⟨rfl,HF.out⟩
theorem za {w0 w:World} {t:Nat→Thing} {L:Pw} {S:Ws} {i c l cp:Nat} {d:Option Addr} {bs:Nat→Nat} (h:PWn ev w0 t L w S) (F:Fre ev t i) (I:S.In) (hcn:c<S.n) (hmv:S.mv<4096) (hc2:c≤10000) (hl:l≤8) (R:Row8 w d l cp bs) (hd:∀ y,d=some y→0<l→y.block≠L.x) (he:(S.play (cS c 2 l bs)).e=0):Calls prog 21 #[ac L.x 0,.int .i64 (c:Nat),.int .i64 2,.slice d l cp] w fun r w'=>r=.returned (.tuple #[.bool true,.int .i64 0])∧Hid (PWn ev w0 t L w' (S.play (cS c 2 l bs)).S):=by
 have bd:=jm (S:=S) (c:=c) (s:=2) (l:=l) (b:=bs) hmv hcn (by omega)
 have hPl:=ej (i:=i) (cS c 2 l bs) d cp h F I (gw (k:=1) (s:=2) (f:=0) (n:=0) (by omega) hc2 (by omega) (by omega) (by omega) l bs) (by omega) R hd (by show l≤_;omega)
 obtain⟨X,hX⟩:∃ y,L.x=y:=⟨_,rfl⟩
 have HX:Hid (L.x=X):=hX
 rw[hX]at hPl ⊢
 have HB:Hid (S.bad (cS c 2 l bs)=0):=bd
 have HE:Hid ((S.play (cS c 2 l bs)).e=0):=he
 clear hX bd he h I R hd
 go_enter func21,ntmps21
 go_wp2_with fail
 refine Calls.mono hPl ?_
 rintro r x1 ⟨A,E,rfl,hsA,hoA,H1⟩
 clear hPl
 have hE:E=0:=H1.out.1.trans HB.out
 subst hE
 obtain⟨y1,hst,hrg,hbl⟩:=eJ x1 hsA hoA
 have c9:=hrg 9 _ (H1.out.2.2 HB.out).1
 rw[Nat.zero_add,HE.out]at c9
 have HF:Hid (PWn ev w0 t L y1 (S.play (cS c 2 l bs)).S):=H1.out.2.1.below hbl
 clear hrg hbl H1
 go_wp2_with fail
 go_ret2
 exact⟨rfl,HF.out⟩
theorem yK {w0 w:World} {t:Nat→Thing} {L:Pw} {S:Ws} {c l cp:Nat} {d:Option Addr} {bs:Nat→Nat} (h:PWn ev w0 t L w S) (hcn:c<S.n) (R:Row8 w d l cp bs):Calls prog 22 #[ac L.x 0,.int .i64 (c:Nat),.int .i64 1,.slice d l cp] w fun r w'=>r=.returned (.bool (aB (S.hs c).v && decide (BA (cG (S.hs c).v) (S.PH c).i=BA bs l)))∧Hid (Below w.heap.size w w'):=by
 have hS:=lI h hcn
 obtain⟨X,hX⟩:∃ y,L.x=y:=⟨_,rfl⟩
 rw[hX]at hS ⊢
 have HR:Hid (Row8 w d l cp bs):=R
 clear hX h R
 obtain⟨q,hq⟩:∃ y,aB (S.hs c).v=y:=⟨_,rfl⟩
 obtain⟨D,hD⟩:∃ y,decide (BA (cG (S.hs c).v) (S.PH c).i=BA bs l)=y:=⟨_,rfl⟩
 rw[hq,hD]
 have HD:Hid (_=D):=hD
 have HQ:Hid (aB (S.hs c).v=q):=hq
 clear hq hD
 go_enter func22,ntmps22
 go_wp2_with fail
 refine hS.mono ?_
 rintro r x1 ⟨A,rfl,hsA,hoA,H1⟩
 clear hS
 obtain⟨y1,hst1,hrg1,hbl1,_⟩:=cD x1 hsA hoA
 obtain⟨_,_,_,_,e7,ea,ec,e8,Ro⟩:=H1.out.1
 have c7:=hrg1 7 _ e7
 have c8:=hrg1 8 _ e8
 rw[Nat.zero_add]at c7 c8
 rw[HQ.out]at c7
 have b1:=H1.out.2.trans (hbl1.mono H1.out.2.size)
 have hEq:=g9 ea d _ ec l cp _ _ y1 (Ro.below hbl1) (HR.out.below b1) D HD.out
 have HB:Hid (Below w.heap.size w y1):=b1
 clear hrg1 hbl1 H1 b1 e7 e8 Ro
 cases q
 ·clear hEq
  go_wp2_with fail
  go_ret
  exact⟨rfl,HB.out⟩
 ·go_wp2_with fail
  refine hEq.mono ?_
  rintro r y2 ⟨rfl,rfl⟩
  clear hEq
  go_wp2_with fail
  go_ret
  exact⟨by simp,HB.out⟩
theorem yY {w0 w:World} {t:Nat→Thing} {L:Pw} {S:Ws} {c l cp:Nat} {d:Option Addr} {bs:Nat→Nat} (h:PWn ev w0 t L w S) (hcn:c<S.n) (R:Row8 w d l cp bs):Calls prog 22 #[ac L.x 0,.int .i64 (c:Nat),.int .i64 2,.slice d l cp] w fun r w'=>r=.returned (.bool (aB (S.ds c).v && decide (BA (cG (S.ds c).v) (S.PD c).o=BA bs l)))∧Hid (Below w.heap.size w w'):=by
 have hS:=mf h hcn
 obtain⟨X,hX⟩:∃ y,L.x=y:=⟨_,rfl⟩
 rw[hX]at hS ⊢
 have HR:Hid (Row8 w d l cp bs):=R
 clear hX h R
 obtain⟨q,hq⟩:∃ y,aB (S.ds c).v=y:=⟨_,rfl⟩
 obtain⟨D,hD⟩:∃ y,decide (BA (cG (S.ds c).v) (S.PD c).o=BA bs l)=y:=⟨_,rfl⟩
 rw[hq,hD]
 have HD:Hid (_=D):=hD
 have HQ:Hid (aB (S.ds c).v=q):=hq
 clear hq hD
 go_enter func22,ntmps22
 go_wp2_with fail
 refine hS.mono ?_
 rintro r x1 ⟨A,rfl,hsA,hoA,H1⟩
 clear hS
 obtain⟨y1,hst1,hrg1,hbl1,_⟩:=cD x1 hsA hoA
 obtain⟨_,_,_,_,e7,ea,ec,e8,Ro⟩:=H1.out.1
 have c7:=hrg1 7 _ e7
 have c8:=hrg1 8 _ e8
 rw[Nat.zero_add]at c7 c8
 rw[HQ.out]at c7
 have b1:=H1.out.2.trans (hbl1.mono H1.out.2.size)
 have hEq:=g9 ea d _ ec l cp _ _ y1 (Ro.below hbl1) (HR.out.below b1) D HD.out
 have HB:Hid (Below w.heap.size w y1):=b1
 clear hrg1 hbl1 H1 b1 e7 e8 Ro
 cases q
 ·clear hEq
  go_wp2_with fail
  go_ret
  exact⟨rfl,HB.out⟩
 ·go_wp2_with fail
  refine hEq.mono ?_
  rintro r y2 ⟨rfl,rfl⟩
  clear hEq
  go_wp2_with fail
  go_ret
  exact⟨by simp,HB.out⟩
structure Tk4 (P:Pm) (S S':Ws) (c a:Nat) (bs bs2:Nat→Nat):Prop where
 sm:Sm S S' 7
 ex:∃ S1,S1.In∧S1.hs c={ S.hs c with ap:=bs,hd:=false }∧S1.ds c={ S.ds c with ap:=bs2,hd:=false }∧Xa P S1 S' c 4 a
def pm (P:Pm) (S':Ws) (c:Nat) (bs bs2:Nat→Nat):Bool:=(aB (S'.hs c).v && decide (BA (cG (S'.hs c).v) P.i=BA bs2 P.i)) && (aB (S'.ds c).v && decide (BA (cG (S'.ds c).v) P.o=BA bs P.o))
theorem zh {h:Sh} {d:Sd} {k a:Nat} (J:Pj h d k a) (b b2:Nat→Nat):Pj { h with ap:=b,hd:=false } { d with ap:=b2,hd:=false } k a:=⟨J.hst,J.dst,J.hss,J.dss,J.hnm,J.hsn,J.dnm,J.dsn,J.wt,J.m0⟩
theorem nV {w0 w:World} {t:Nat→Thing} {L:Pw} {S:Ws} {i c a l cp l2 cp2:Nat} {d d2:Option Addr} {bs bs2:Nat→Nat} {P:Pm} (h:PWn ev w0 (ay (ay t (2*i+1) (bE d l cp bs)) (2 * (i+1)+1) (bE d2 l2 cp2 bs2)) L w S) (F:Fre ev t i) (I:S.In) (hcn:c<S.n) (hmv:S.mv+7≤4096) (hc2:c≤10000) (h1:S.PH c=P) (h2:S.PD c=P) (J:Pj (S.hs c) (S.ds c) 4 a) (ha:a+1<P.n) (hl:l=P.o) (hl2:l2=P.i) (hx:∀ y,d=some y→0<l→y.block≠L.x) (hx2:∀ y,d2=some y→0<l2→y.block≠L.x):Calls prog 9 #[ac L.x 0,.int .i64 (c:Nat),.slice d l cp,.slice d2 l2 cp2] w fun r w'=>∃ b:Bool,r=.returned (.tuple #[.bool b,.int .i64 0])∧Hid (∃ S',PWn ev w0 (ay (ay t (2*i+1) (bE d l cp bs)) (2 * (i+1)+1) (bE d2 l2 cp2 bs2)) L w' S'∧Tk4 P S S' c a bs bs2∧b=pm P S' c bs bs2):=by
 have hP:Pok P:=by rw[← h1];exact h.kn.ph c hcn
 have lo:l≤8:=by have:=hP.o8;omega
 have li:l2≤8:=by have:=hP.i8;omega
 have F2:Fre ev (ay (ay t (2*i+1) (bE d l cp bs)) (2 * (i+1)+1) (bE d2 l2 cp2 bs2)) (i+2):=(F.put _).put _
 have hq1:∀ j,2*i+1≠ev j:=(F i (Nat.le_refl _)).1
 have hq2:∀ j,2 * (i+1)+1≠ev j:=(F (i+1) (Nat.le_succ _)).1
 have HT1:Hid (∀ wx Sx,PWn ev w0 (ay (ay t (2*i+1) (bE d l cp bs)) (2 * (i+1)+1) (bE d2 l2 cp2 bs2)) L wx Sx→Row8 wx d l cp bs∧Row8 wx d2 l2 cp2 bs2):=fun wx Sx q=>⟨q.rowq hq1 (by rw[an _ _ (by omega)];exact ak _ _ _),q.rowq hq2 (ak _ _ _)⟩
 have K:=h.kn
 have b1:=jm (S:=S) (c:=c) (s:=1) (l:=l) (b:=bs) (by omega) hcn (.inl rfl)
 obtain⟨e1,e2,e3⟩:=r9 b1
 have m1:=cO I K (cS c 1 l bs)
 rw[h1]at e1 e3
 have hW1:=zO h F2 I hcn (by omega) hc2 lo (HT1.out _ _ h).1 hx (by rw[e3];unfold eW;rw[if_pos hl])
 obtain⟨Sa,hSa⟩:∃ y,(S.play (cS c 1 l bs)).S=y:=⟨_,rfl⟩
 rw[hSa]at e1 e2 m1 hW1
 have e1:Sa.hs c={ S.hs c with ap:=bs,hd:=false }:=by rw[e1];unfold dx;rw[if_pos hl]
 obtain⟨X,hX⟩:∃ y,L.x=y:=⟨_,rfl⟩
 have HX:Hid (L.x=X):=hX
 rw[hX]at hW1 ⊢
 have HA:Hid (_):=And.intro e1 (And.intro e2 m1)
 have HLL:Hid (l=P.o∧l2=P.i):=⟨hl,hl2⟩
 have HF2:Hid (Fre ev (ay (ay t (2*i+1) (bE d l cp bs)) (2 * (i+1)+1) (bE d2 l2 cp2 bs2)) (i+2)):=F2
 have HXX:Hid (_):=And.intro hx2 hx
 have HJ:Hid (_):=And.intro J (And.intro h1 h2)
 clear hX e1 e2 e3 m1 b1 hSa h F2 I hx hx2 J h1 h2 K hP F hq1 hq2 hl hl2
 go_enter func9,ntmps9
 go_wp2_with fail
 refine hW1.mono ?_
 rintro r x1 ⟨rfl,H1⟩
 clear hW1
 have hnA:c<Sa.n:=by rw[HA.out.2.2.n];exact hcn
 have mA:=HA.out.2.2.mv
 have b2:=jm (S:=Sa) (c:=c) (s:=2) (l:=l2) (b:=bs2) (by omega) hnA (.inr rfl)
 obtain⟨f1,f2,f3⟩:=rB b2
 have m2:=cO HA.out.2.2.I H1.out.kn (cS c 2 l2 bs2)
 rw[HA.out.2.2.pd,HJ.out.2.2,HA.out.2.1]at f2 f3
 have u6:(S.ds c).st≠6:=by rw[HJ.out.1.dst];decide
 have hW2:=za H1.out HF2.out HA.out.2.2.I hnA (by omega) hc2 li (HT1.out _ _ H1.out).2 HXX.out.1 (by rw[f3];unfold fc;rw[if_neg u6,if_pos HLL.out.2])
 obtain⟨Sb,hSb⟩:∃ y,(Sa.play (cS c 2 l2 bs2)).S=y:=⟨_,rfl⟩
 rw[hSb]at f1 f2 m2 hW2
 have f2:Sb.ds c={ S.ds c with ap:=bs2,hd:=false }:=by rw[f2];unfold dz;rw[if_neg u6,if_pos HLL.out.2]
 rw[HA.out.1]at f1
 rw[HX.out]at hW2
 have HBb:Hid (_):=And.intro f1 (And.intro f2 (HA.out.2.2.trans m2))
 clear b2 f1 f2 f3 m2 hSb u6 H1
 go_wp2_with fail
 refine hW2.mono ?_
 rintro r x2 ⟨rfl,H2⟩
 clear hW2
 have hnB:c<Sb.n:=by rw[HBb.out.2.2.n];exact hcn
 have mB:=HBb.out.2.2.mv
 have hE:=qv (P:=P) (a:=a) (k:=4) H2.out HF2.out HBb.out.2.2.I hnB (by omega) hc2 (by rw[HBb.out.2.2.ph];exact HJ.out.2.1) (by rw[HBb.out.2.2.pd];exact HJ.out.2.2) (by rw[HBb.out.1,HBb.out.2.1];exact zh HJ.out.1 _ _) (.inr (.inr (.inr rfl))) (by rw[if_pos rfl];exact ha)
 rw[HX.out]at hE
 clear H2
 go_wp2_with fail
 refine hE.mono ?_
 rintro r x3 ⟨rfl,H3⟩
 clear hE
 obtain⟨S',p3,xa⟩:=H3.out
 have hn3:c<S'.n:=by rw[xa.sm.n];exact hnB
 have HT:Hid (PWn ev w0 (ay (ay t (2*i+1) (bE d l cp bs)) (2 * (i+1)+1) (bE d2 l2 cp2 bs2)) L x3 S'∧Tk4 P S S' c a bs bs2):=⟨p3,⟨HBb.out.2.2.trans xa.sm,Sb,HBb.out.2.2.I,HBb.out.1,HBb.out.2.1,xa⟩⟩
 have hs1:=yK p3 hn3 (HT1.out _ _ p3).2
 have ph3:S'.PH c=P:=by rw[xa.sm.ph,HBb.out.2.2.ph];exact HJ.out.2.1
 have pd3:S'.PD c=P:=by rw[xa.sm.pd,HBb.out.2.2.pd];exact HJ.out.2.2
 rw[HX.out,ph3]at hs1
 simp only[show (BA bs2 l2:ByteArray)=BA bs2 P.i by rw[HLL.out.2]]at hs1
 have HP3:Hid (S'.PD c=P):=pd3
 obtain⟨q1,hq1⟩:∃ y,(aB (S'.hs c).v && decide (BA (cG (S'.hs c).v) P.i=BA bs2 P.i))=y:=⟨_,rfl⟩
 rw[hq1]at hs1
 have HQ1:Hid (_=q1):=hq1
 clear H3 p3 xa ph3 pd3 hq1
 go_wp2_with fail
 refine hs1.mono ?_
 rintro r x4 ⟨rfl,b4⟩
 clear hs1
 cases q1
 ·have HF:Hid (∃ S',PWn ev w0 (ay (ay t (2*i+1) (bE d l cp bs)) (2 * (i+1)+1) (bE d2 l2 cp2 bs2)) L x4 S'∧Tk4 P S S' c a bs bs2∧false=pm P S' c bs bs2):=⟨S',HT.out.1.below b4.out,HT.out.2,by unfold pm;rw[HQ1.out];rfl⟩
  go_wp2_with fail
  go_ret2
  exact⟨false,rfl,HF.out⟩
 ·have p4:=HT.out.1.below b4.out
  have hs2:=yY p4 hn3 (HT1.out _ _ p4).1
  rw[HX.out,HP3.out]at hs2
  simp only[show (BA bs l:ByteArray)=BA bs P.o by rw[HLL.out.1]]at hs2
  obtain⟨q2,hq2⟩:∃ y,(aB (S'.ds c).v && decide (BA (cG (S'.ds c).v) P.o=BA bs P.o))=y:=⟨_,rfl⟩
  rw[hq2]at hs2
  have HQ2:Hid (_=q2):=hq2
  have HP4:Hid (PWn ev w0 (ay (ay t (2*i+1) (bE d l cp bs)) (2 * (i+1)+1) (bE d2 l2 cp2 bs2)) L x4 S'):=p4
  clear p4 hq2 b4
  go_wp2_with fail
  refine hs2.mono ?_
  rintro r x5 ⟨rfl,b5⟩
  clear hs2
  have HF:Hid (∃ S',PWn ev w0 (ay (ay t (2*i+1) (bE d l cp bs)) (2 * (i+1)+1) (bE d2 l2 cp2 bs2)) L x5 S'∧Tk4 P S S' c a bs bs2∧q2=pm P S' c bs bs2):=⟨S',HP4.out.below b5.out,HT.out.2,by unfold pm;rw[HQ1.out,HQ2.out];rfl⟩
  go_wp2_with fail
  go_ret2
  exact⟨q2,rfl,HF.out⟩
theorem mM {v:Vs} (h:aB v=true):cG v=v.bs:=by unfold cG;rw[if_pos h]
theorem jM {v:Vs} (hr:v.run=true) (hl:v.lat=0) (b:Nat→Nat):aB (bP (cP (bH v) false) b)=true∧(bP (cP (bH v) false) b).bs=b:=by
 have e:bP (cP (bH v) false) b={ cP (bH v) false with sm:=true,bs:=b }:=by
  unfold bP
  rw[if_pos ⟨hr,hl⟩]
 rw[e]
 refine⟨?_,rfl⟩
 unfold aB cP bH
 dsimp only
 rw[hr]
 rfl
theorem uq {v:Vs} (hl:v.lat≠0) (hs:v.sm=false) (o:Bool) (b:Nat→Nat):aB (bP (cP (bH v) o) b)=false:=by
 have e:bP (cP (bH v) o) b=cP (bH v) o:=by
  unfold bP
  rw[if_neg (fun z=>hl z.2)]
 rw[e]
 unfold aB cP bH
 dsimp only
 rw[hs]
 simp
theorem mg (v:Vs):aB (ep v)=aB v∧(ep v).bs=v.bs∧(ep v).run=v.run∧(ep v).sm=v.sm:=by
 unfold ep
 split
 ·exact⟨rfl,rfl,rfl,rfl⟩
 ·exact⟨rfl,rfl,rfl,rfl⟩
structure Tend (v v':Vs):Prop where
 ok:v.run=true→v.lat=0→v'.lat=0∧aB v'=true
 no:v.run=true→v.lat≠0→v.sm=false→v'.lat=0∧aB v'=false
theorem qG {v w:Vs} {b:Nat→Nat} (hw:w=bP (cP (bH v) false) b):Tend v (ep w):=by
 have hlat:w.lat=v.lat:=by rw[hw];exact gY _ _
 have hfr:w.fr=(v.lat != 0):=by
  rw[hw]
  unfold bP
  split <;> rfl
 have hrun:w.run=v.run:=by
  rw[hw]
  unfold bP
  split <;> rfl
 obtain⟨a1,a2,a3,a4⟩:=mg w
 refine⟨fun r l=>?_,fun r l s=>?_⟩
 ·have q:aq w=false:=by unfold aq;rw[hlat,l];simp
  rw[jX q]
  exact⟨hlat.trans l,by rw[hw];exact (jM r l b).1⟩
 ·have q:aq w=true:=by
   unfold aq
   rw[hrun,r,hfr,hlat]
   simp[l]
  refine⟨?_,by rw[a1,hw];exact uq l s _ _⟩
  unfold ep
  rw[if_pos q]
structure Tkr (P:Pm) (S S':Ws) (c a:Nat) (bs bs2:Nat→Nat):Prop where
 pj:Pj (S'.hs c) (S'.ds c) 4 (a+1)
 sm:Sm S S' 7
 h:Tend (S.hs c).v (S'.hs c).v
 d:Tend (S.ds c).v (S'.ds c).v
 ho:(S.hs c).v.run=true→(S.hs c).v.lat=0→decide (BA (cG (S'.hs c).v) P.i=BA bs2 P.i)=true
 hdc:(S'.hs c).dc=0
 ddc:(S'.ds c).dc=0
 do_:(S.ds c).v.run=true→(S.ds c).v.lat=0→decide (BA (cG (S'.ds c).v) P.o=BA bs P.o)=true
theorem Tk4.res {P:Pm} {S S':Ws} {c a:Nat} {bs bs2:Nat→Nat} (h:Tk4 P S S' c a bs bs2):Tkr P S S' c a bs bs2:=by
 obtain⟨S1,I1,e1,e2,xa⟩:=h.ex
 have pj:=xa.pj (.inr (.inr (.inr rfl)))
 obtain⟨F,R,h2,ex,g1,g2⟩:=xa.ex
 obtain⟨fh,fd,q1,q2,q3,q4⟩:=ex.on rfl
 have lf:decide (8≤aW (S1.hs c))=false:=pp (by rw[e1])
 have ld:decide (8≤cz R.s)=false:=pi (by rw[ex.da.2,e2])
 rw[lf]at q3
 rw[ld]at q4
 have v1:(S1.hs c).v=(S.hs c).v:=by rw[e1]
 have v2:(S1.ds c).v=(S.ds c).v:=by rw[e2]
 rw[v1]at q4
 rw[v2]at q3
 have w1:(S'.hs c).v=ep h2.v:=by rw[g1];rfl
 have w2:(S'.ds c).v=ep R.s.v:=by
  rw[g2]
  unfold cY
  rw[if_neg (by rw[ex.pj.dst];decide)]
 have p1:(S1.hs c).ap=bs:=by rw[e1]
 have p2:(S1.ds c).ap=bs2:=by rw[e2]
 refine⟨by simpa using pj,h.sm,by rw[w1];exact qG q4,by rw[w2];exact qG q3,fun r l=>?_,by rw[g1];exact ex.hdc,by rw[g2];unfold cY;rw[if_neg (by rw[ex.pj.dst];decide)];exact ex.ddc (by omega),fun r l=>?_⟩
 ·obtain⟨t1,t2⟩:=jM r l fd
  rw[← q4]at t1 t2
  obtain⟨a1,a2,_,_⟩:=mg h2.v
  rw[w1,mM (a1.trans t1),a2,t2]
  exact decide_eq_true (iF _ _ _ (fun i hi=>by rw[q2 i hi,p2]))
 ·obtain⟨t1,t2⟩:=jM r l fh
  rw[← q3]at t1 t2
  obtain⟨a1,a2,_,_⟩:=mg R.s.v
  rw[w2,mM (a1.trans t1),a2,t2]
  exact decide_eq_true (iF _ _ _ (fun i hi=>by rw[q1 i hi,p1]))
theorem wQ {S:Ws} {c a:Nat} (I:S.In) (hc:c<S.n) (J:Pj (S.hs c) (S.ds c) 4 a):(S.hs c).v.run=true∧(S.ds c).v.run=true:=by
 have h1:=(I.ih c hc).vr
 have h2:=(I.iv c hc).vr
 rw[J.hst]at h1
 rw[J.dst]at h2
 exact⟨h1,h2⟩
theorem Tkr.good {P:Pm} {S S':Ws} {c a:Nat} {bs bs2:Nat→Nat} (h:Tkr P S S' c a bs bs2) (I:S.In) (hc:c<S.n) (J:Pj (S.hs c) (S.ds c) 4 a) (l1:(S.hs c).v.lat=0) (l2:(S.ds c).v.lat=0):pm P S' c bs bs2=true∧(S'.hs c).v.lat=0∧(S'.ds c).v.lat=0:=by
 obtain⟨r1,r2⟩:=wQ I hc J
 obtain⟨a1,a2⟩:=h.h.ok r1 l1
 obtain⟨b1,b2⟩:=h.d.ok r2 l2
 refine⟨?_,a1,b1⟩
 unfold pm
 rw[a2,b2,h.ho r1 l1,h.do_ r2 l2]
 rfl
theorem Tkr.late {P:Pm} {S S':Ws} {c a:Nat} {bs bs2:Nat→Nat} (h:Tkr P S S' c a bs bs2) (I:S.In) (hc:c<S.n) (J:Pj (S.hs c) (S.ds c) 4 a) (l:((S.hs c).v.lat≠0∧(S.hs c).v.sm=false∧(S.ds c).v.lat=0)∨((S.ds c).v.lat≠0∧(S.ds c).v.sm=false∧(S.hs c).v.lat=0)):pm P S' c bs bs2=false∧(S'.hs c).v.lat=0∧(S'.ds c).v.lat=0:=by
 obtain⟨r1,r2⟩:=wQ I hc J
 rcases l with ⟨x1,x2,x3⟩ | ⟨x1,x2,x3⟩
 ·obtain⟨a1,a2⟩:=h.h.no r1 x1 x2
  obtain⟨b1,b2⟩:=h.d.ok r2 x3
  refine⟨?_,a1,b1⟩
  unfold pm
  rw[a2]
  rfl
 ·obtain⟨a1,a2⟩:=h.h.ok r1 x3
  obtain⟨b1,b2⟩:=h.d.no r2 x1 x2
  refine⟨?_,a1,b1⟩
  unfold pm
  rw[b2]
  simp
theorem qU {S:Ws} {c n:Nat} (hb:S.bad (dq c 1 n)=0):(S.play (dq c 1 n)).S.hs c=dh (S.PH c) (S.hs c) (n:Nat)∧(S.play (dq c 1 n)).S.ds c=S.ds c:=by
 obtain⟨e1,e2,e3⟩:=cX S hb
 have ec:(dq c 1 n).c.toNat=c:=Int.toNat_natCast c
 have h:∀ x:Int,x≠5→¬ (dq c 1 n).k=x:=fun x hx e=>hx (by rw[← e];rfl)
 have h3:¬ ((dq c 1 n).k=3∨(dq c 1 n).k=4):=fun z=>by rcases z with z | z <;> cases z
 have hs:(dq c 1 n).s=1:=rfl
 rw[ec]at e1 e2
 refine⟨e2.trans ?_,e1.trans ?_⟩
 ·unfold Ws.actHF
  rw[if_neg (h 1 (by decide)),if_neg (h 2 (by decide)),if_neg h3,if_pos (show (dq c 1 n).k=5 from rfl),if_pos hs,ec]
  rfl
 ·unfold Ws.actDF
  rw[if_neg (h 1 (by decide)),if_neg (h 2 (by decide)),if_neg h3,if_pos (show (dq c 1 n).k=5 from rfl),if_pos hs,ec]
theorem rt {S:Ws} {c n:Nat} (hb:S.bad (dq c 2 n)=0):(S.play (dq c 2 n)).S.hs c=S.hs c∧(S.play (dq c 2 n)).S.ds c=dk (S.PD c) (S.ds c) (n:Nat):=by
 obtain⟨e1,e2,e3⟩:=cX S hb
 have ec:(dq c 2 n).c.toNat=c:=Int.toNat_natCast c
 have h:∀ x:Int,x≠5→¬ (dq c 2 n).k=x:=fun x hx e=>hx (by rw[← e];rfl)
 have h3:¬ ((dq c 2 n).k=3∨(dq c 2 n).k=4):=fun z=>by rcases z with z | z <;> cases z
 have hs:¬ (dq c 2 n).s=1:=by show ¬ ((2:Nat):Int)=1;decide
 rw[ec]at e1 e2
 refine⟨e2.trans ?_,e1.trans ?_⟩
 ·unfold Ws.actHF
  rw[if_neg (h 1 (by decide)),if_neg (h 2 (by decide)),if_neg h3,if_pos (show (dq c 2 n).k=5 from rfl),if_neg hs,ec]
 ·unfold Ws.actDF
  rw[if_neg (h 1 (by decide)),if_neg (h 2 (by decide)),if_neg h3,if_pos (show (dq c 2 n).k=5 from rfl),if_neg hs,ec]
  rfl
structure Vf (v:Vs):Prop where
 lat:v.lat=100
 sm:v.sm=false
 on:aB v=false
 rq:aq v=false
theorem pT {v:Vs} (h:v.lat=0):Vf (du v 100):=by
 have e:du v 100={ v with fr:=false,sm:=false,lat:=100 }:=by
  unfold du
  rw[if_neg (by decide),if_pos h]
 rw[e]
 refine⟨rfl,rfl,?_,?_⟩
 ·unfold aB
  simp
 ·unfold aq
  simp
theorem zb {P:Pm} {h:Sh} {d:Sd} {a n:Nat} (J:Pj h d 4 a) (h0:h.dc=0) (hl:h.v.lat=0) (ht:P.t≤n) (t1:1≤P.t):Pj (dh P h (n:Nat)) d 4 a∧Vf (dh P h (n:Nat)).v:=by
 have e:dh P h (n:Nat)=a6 { h with dc:=tk P.t h.dc n } 100:=by
  unfold dh
  rw[if_neg (by omega),Int.toNat_natCast,if_pos (by unfold ji;rw[h0];exact decide_eq_true ⟨by omega,by omega⟩)]
 obtain⟨f1,f2,f3,f4,f5,f6,f7,f8,f9⟩:=fa { h with dc:=tk P.t h.dc n } 100
 rw[e]
 exact⟨⟨f1.trans J.hst,J.dst,f2.trans J.hss,J.dss,f3.trans J.hnm,f4.trans J.hsn,J.dnm,J.dsn,f5.trans J.wt,fun z=>by cases z⟩,by rw[nR];exact pT hl⟩
theorem yJ {P:Pm} {h:Sh} {d:Sd} {a n:Nat} (J:Pj h d 4 a) (h0:d.dc=0) (hl:d.v.lat=0) (ht:P.t≤n) (t1:1≤P.t):Pj h (dk P d (n:Nat)) 4 a∧Vf (dk P d (n:Nat)).v:=by
 have e:dk P d (n:Nat)=aJ { d with dc:=tk P.t d.dc n } 100:=by
  unfold dk
  rw[if_neg (by rw[J.dst];decide),if_neg (by omega),Int.toNat_natCast,if_pos (by unfold ji;rw[h0];exact decide_eq_true ⟨by omega,by omega⟩)]
 obtain⟨f1,f2,f3,f4,f5,f6,f7,f8⟩:=je { d with dc:=tk P.t d.dc n } 100
 rw[e]
 exact⟨⟨J.hst,f1.trans J.dst,J.hss,f2.trans J.dss,J.hnm,J.hsn,f3.trans J.dnm,f4.trans J.dsn,J.wt,fun z=>by cases z⟩,by rw[iJ];exact pT hl⟩
end Go.Proofs.YtfgnmadnmjdbiaaGreat
