/- Part 39: contracts that the proof rests on. -/
import Derived.Test.YtfgnmadnmjdbiaaGreatPkU37
set_option maxHeartbeats 64000000
set_option maxRecDepth 100000
namespace Go.Proofs.YtfgnmadnmjdbiaaGreat
open Tryz
open Go.RowKit Go.Maps
set_option linter.unusedVariables false
theorem rH (w:World) {A:Array Value} (hs:A.size=29) (ho:A.all (·.oneCell')=true):∃ wz,(storeCells ⟨w.heap.size,0,none⟩ A.toList).run prog (w.alloc (.cells cu 56))=.ok () wz∧wz.rangeAt w.heap.size 0 A.toList∧Below w.heap.size w wz∧wz.there w.heap.size 0 29:=by
 have kr:=aC w (.cells cu 56)
 have h9:(w.alloc (.cells cu 56)).there w.heap.size 0 29:=bc kr rfl
 have hth:(w.alloc (.cells cu 56)).there w.heap.size 0 A.size:=by rw[hs];exact h9
 exact⟨_,fD hth ho,World.rangeAt_setCells_same _ w.heap.size 0 A.toList (by simpa using hth),(bN _ w.heap.size 0 A.toList).below (aJ (Below.refl _ _) _) (by simp) (by rw[gU];omega),World.there_setCells h9 _ _ _⟩
theorem pI {w0 w:World} {t:Nat→Thing} {L:Pw} {S:Ws} {i c k a:Nat} {P:Pm} (h:PWn ev w0 t L w S) (F:Fre ev t i) (I:S.In) (hcn:c<S.n) (hmv:S.mv+5≤4096) (hc2:c≤10000) (h1:S.PH c=P) (h2:S.PD c=P) (J:Pj (S.hs c) (S.ds c) k a) (hk:k=1∨k=2∨k=3∨k=4) (ha:if k=4 then a+1<P.n else a=0):Calls prog 7 #[ac L.x 0,.int .i64 (c:Nat)] w fun r w'=>r=.returned (.tuple #[.bool true,.int .i64 0])∧Hid (∃ S',PWn ev w0 t L w' S'∧Xa P S S' c k a):=by
 have Kn:=h.kn
 obtain⟨bd1,i1,q1⟩:=exS I Kn hcn (by omega) h1 h2 J hk ha
 have hN:S.bg.length≤4096:=by have:=I.bg;omega
 have m1:=dM I Kn (cS c)
 have hPl:=gS (i:=i) (cS c) none 0 h F I (jz (k:=2) (s:=0) (f:=0) (n:=0) (by omega) hc2 (by omega) (by omega) (by omega) 0 _) (by omega) (cq _ _) (fun y hy=>by cases hy) (by show (0:Nat)≤_;omega)
 obtain⟨X,hX⟩:∃ y,L.x=y:=⟨_,rfl⟩
 have HX:Hid (L.x=X):=hX
 rw[hX]at hPl ⊢
 obtain⟨N,hNN⟩:∃ y,S.bg.length=y:=⟨_,rfl⟩
 obtain⟨S1,hS1⟩:∃ y,(S.play (cS c)).S=y:=⟨_,rfl⟩
 rw[hNN]at i1 q1 hN
 have q1:=q1 S1 hS1
 have HB1:Hid (S.bad (cS c)=0):=bd1
 have HI1:Hid ((S.play (cS c)).i=((N:Nat):Int)):=i1
 have HQ1:Hid (S1.Kn→_):=q1
 have S1I:Hid (S1.In):=by rw[← hS1];exact m1.I
 have hnS1:c<S1.n:=by rw[← hS1,m1.n];exact hcn
 have HS1:Hid ((S.play (cS c)).S=S1):=hS1
 have HM1:Hid (Sm S S1 1):=by rw[← hS1];exact m1
 have HJ:Hid (_):=And.intro h1 (And.intro h2 (And.intro J (And.intro hk ha)))
 have HII:Hid (S.In∧S.Kn):=⟨I,Kn⟩
 clear bd1 i1 q1 m1 hX hNN hS1 h h1 h2 J hk ha Kn I
 go_enter func7,ntmps7
 go_wp2_with fail
 refine Calls.mono hPl ?_
 rintro r x1 ⟨A1,E1,rfl,hsA1,hoA1,H1⟩
 clear hPl
 have hE1:E1=0:=H1.out.1.trans HB1.out
 subst hE1
 obtain⟨y1,hst1,hrg1,hbl1,th1⟩:=rH x1 hsA1 hoA1
 obtain⟨v0,hv0⟩:=Option.isSome_iff_exists.1 (th1 0 (by decide)).1
 obtain⟨ob1,hob1⟩:∃ o,y1.heap[x1.heap.size]?=some o:=⟨_,Array.getElem?_eq_getElem (World.block_lt_of_cell? _ _ hv0)⟩
 have p1:=H1.out.2.1.layL hbl1 (i:=2*i+1) (F i (Nat.le_refl _)).1 (l:=[(x1.heap.size,ob1)]) (fun p hp=>by
  simp only[List.mem_cons,List.not_mem_nil,or_false]at hp
  subst hp
  exact hob1) (fun p hp=>by
  simp only[List.mem_cons,List.not_mem_nil,or_false]at hp
  subst hp
  exact Nat.le_refl _)
 rw[HS1.out]at p1
 obtain⟨rb,hrb⟩:∃ y,x1.heap.size=y:=⟨_,rfl⟩
 rw[hrb]at hst1 hrg1 th1 hob1 p1
 have hs1:=hrg1 10 _ (H1.out.2.2 HB1.out).2.1
 rw[Nat.zero_add,HI1.out]at hs1
 have HP1:Hid (PWn ev w0 (aG t (2*i+1) (eZ [(rb,ob1)])) L y1 S1):=p1
 have HO1:Hid (y1.heap[rb]?=some ob1):=hob1
 have HT1:Hid (y1.there rb 0 29):=th1
 obtain⟨bd2,i2,q2⟩:=HQ1.out p1.kn
 have HB2:Hid (S1.bad (be c 2 N)=0):=bd2
 have HI2:Hid ((S1.play (be c 2 N)).i=((N+1:Nat):Int)):=i2
 obtain⟨S2,hS2⟩:∃ y,(S1.play (be c 2 N)).S=y:=⟨_,rfl⟩
 have HS2:Hid ((S1.play (be c 2 N)).S=S2):=hS2
 have q2:=q2 S2 hS2
 have HQ2:Hid (S2.Kn→_):=q2
 have m2:=dM S1I.out p1.kn (be c 2 N)
 rw[hS2]at m2
 have S2I:Hid (S2.In):=m2.I
 have hnS2:c<S2.n:=by rw[m2.n];exact hnS1
 have HM2:Hid (Sm S S2 2):=HM1.out.trans m2
 have hN0:¬ ((N:Nat):Int)<0:=by omega
 clear hrg1 hbl1 th1 hv0 hob1 p1 H1 bd2 i2 q2 m2 hS2
 have hD2:=yI (c:=c) (s:=2) (f:=N) HP1.out (F.put _) S1I.out (by have:=hnS1;omega) hc2 (by omega) (by have:=hN;omega)
 rw[HX.out]at hD2
 go_wp2_with fail
 refine hD2.mono ?_
 rintro r x2 ⟨A2,E2,rfl,hsA2,hoA2,H2⟩
 clear hD2
 have hE2:E2=0:=H2.out.1.trans HB2.out
 subst hE2
 have kb2:=H2.out.2.1.box (q:=2*i+1) (F i (Nat.le_refl _)).1 (ak _ _ _) _ (List.mem_cons_self ..)
 obtain⟨y2,ob2,hst2,p2,th2,hrg2,_⟩:=PWn.rowB F H2.out.2.1 (gN HT1.out (kb2.trans (HO1.out).symm)) hsA2 hoA2
 have hr2:=H2.out.2.2 HB2.out
 have kq2:=p2.box (q:=2*i+1) (F i (Nat.le_refl _)).1 (ak _ _ _) _ (List.mem_cons_self ..)
 have HP2:Hid (PWn ev w0 (aG t (2*i+1) (eZ [(rb,ob2)])) L y2 (S1.play (be c 2 (N))).S):=p2
 have HO2:Hid (y2.heap[rb]?=some ob2):=kq2
 have HT2:Hid (y2.there rb 0 29):=th2
 have hs2:=hrg2 10 _ hr2.2
 rw[Nat.zero_add,HI2.out]at hs2
 have HP2':Hid (PWn ev w0 (aG t (2*i+1) (eZ [(rb,ob2)])) L y2 S2):=by rw[← HS2.out];exact p2
 obtain⟨bd3,e3,xs⟩:=HQ2.out HP2'.out.kn
 have HB3:Hid (S2.bad (be c 1 (N+1))=0):=bd3
 have HE3:Hid ((S2.play (be c 1 (N+1))).e=0):=e3
 have HXS:Hid (_):=xs
 have hN1:¬ ((N+1:Nat):Int)<0:=by omega
 clear H2 kb2 p2 th2 hrg2 hr2 kq2 HP2 bd3 e3 xs hst1 hs1
 go_wp2_with fail
 clear hst2
 have hD3:=yI (c:=c) (s:=1) (f:=N+1) HP2'.out (F.put _) S2I.out (by have:=hnS2;omega) hc2 (by omega) (by have:=hN;omega)
 rw[HX.out]at hD3
 go_wp2_with fail
 refine hD3.mono ?_
 rintro r x3 ⟨A3,E3,rfl,hsA3,hoA3,H3⟩
 clear hD3
 have hE3:E3=0:=H3.out.1.trans HB3.out
 subst hE3
 have kb3:=H3.out.2.1.box (q:=2*i+1) (F i (Nat.le_refl _)).1 (ak _ _ _) _ (List.mem_cons_self ..)
 obtain⟨y3,ob3,hst3,p3,th3,hrg3,_⟩:=PWn.rowB F H3.out.2.1 (gN HT2.out (kb3.trans (HO2.out).symm)) hsA3 hoA3
 have hr3:=H3.out.2.2 HB3.out
 have kq3:=p3.box (q:=2*i+1) (F i (Nat.le_refl _)).1 (ak _ _ _) _ (List.mem_cons_self ..)
 have HP3:Hid (PWn ev w0 (aG t (2*i+1) (eZ [(rb,ob3)])) L y3 (S2.play (be c 1 (N+1))).S):=p3
 have HO3:Hid (y3.heap[rb]?=some ob3):=kq3
 have HT3:Hid (y3.there rb 0 29):=th3
 have hs3:=hrg3 9 _ hr3.1
 rw[Nat.zero_add,HE3.out]at hs3
 clear hs2 H3 kb3 p3 th3 hrg3 hr3 kq3
 have hA:=yw (c:=c) HP3.out (F.put _) HXS.out.sm.I (by rw[HXS.out.sm.n];exact hcn) (by have:=HXS.out.sm.mv;omega) hc2
 rw[HX.out]at hA
 go_wp2_with fail
 refine hA.mono ?_
 rintro r y4 ⟨rfl,H4⟩
 clear hA hst3
 obtain⟨S4,p4,sm4,hh4,hd4⟩:=H4.out
 have kq4:=p4.box (q:=2*i+1) (F i (Nat.le_refl _)).1 (ak _ _ _) _ (List.mem_cons_self ..)
 have hs4:y4.cell? ⟨rb,9,none⟩=some (.int .i64 0):=(World.cell?_of_block (a:=⟨rb,9,none⟩) (kq4.trans HO3.out.symm)).trans hs3
 have HF:Hid (∃ S',PWn ev w0 t L y4 S'∧Xa P S S' c k a):=by
  obtain⟨F1,R1,q1,ex,e1,e2⟩:=HXS.out.ex
  exact⟨S4,p4.drop (F i (Nat.le_refl _)).1 (F i (Nat.le_refl _)).2,⟨F1,R1,q1,ex,by rw[hh4,e1],by rw[hd4,e2]⟩,HXS.out.sm.trans sm4⟩
 clear H4 p4 sm4 hh4 hd4 kq4 hs3
 go_wp2_with fail
 go_ret2
 exact⟨rfl,HF.out⟩
theorem vy (s:Sh):(fc s).hd=s.hd:=rfl
theorem uR (s:Sd):(cQ s).hd=s.hd:=by unfold cQ;split <;> rfl
theorem Xa.hd {P:Pm} {S S':Ws} {c k a:Nat} (h:Xa P S S' c k a):(S'.hs c).hd=(S.hs c).hd∧(S'.ds c).hd=(S.ds c).hd:=by
 obtain⟨F,R,q,ex,e1,e2⟩:=h.ex
 rw[e1,e2,vy,uR]
 exact⟨ex.ha.2,ex.da.2⟩
theorem mS {w0 w:World} {t:Nat→Thing} {L:Pw} {S:Ws} {i c:Nat} {P:Pm} (most:Int) (h:PWn ev w0 t L w S) (F:Fre ev t i) (I:S.In) (hcn:c<S.n) (hmv:S.mv+15≤4096) (hc2:c≤10000) (h1:S.PH c=P) (h2:S.PD c=P) (J:Pj (S.hs c) (S.ds c) 1 0) (l1:(S.hs c).v.lat=0) (l2:(S.ds c).v.lat=0) (hm:3≤most) (hm2:most≤9223372036854775807):Calls prog 8 #[ac L.x 0,.int .i64 (c:Nat),.int .i64 most] w fun r w'=>r=.returned (.tuple #[.int .i64 3,.bool true,.int .i64 0])∧Hid (∃ S',PWn ev w0 t L w' S'∧Sm S S' 15∧Pj (S'.hs c) (S'.ds c) 4 0∧(S'.hs c).v.lat=0∧(S'.ds c).v.lat=0∧(S'.hs c).hd=(S.hs c).hd∧(S'.ds c).hd=(S.ds c).hd):=by
 have hS1:=me h hcn
 have hmo0:(0:Int)<most:=by omega
 have hmo1:(1:Int)<most:=by omega
 have hmo2:(2:Int)<most:=by omega
 obtain⟨X,hX⟩:∃ y,L.x=y:=⟨_,rfl⟩
 have HX:Hid (L.x=X):=hX
 rw[hX]at hS1 ⊢
 have HG:Hid (PWn ev w0 t L w S∧S.In∧Pj (S.hs c) (S.ds c) 1 0∧(S.hs c).v.lat=0∧(S.ds c).v.lat=0):=⟨h,I,J,l1,l2⟩
 obtain⟨bh,hbh⟩:∃ y,(S.hs c).hd=y:=⟨_,rfl⟩
 obtain⟨bd,hbd⟩:∃ y,(S.ds c).hd=y:=⟨_,rfl⟩
 rw[hbh,hbd]
 have HBH:Hid ((S.hs c).hd=bh∧(S.ds c).hd=bd):=⟨hbh,hbd⟩
 clear hX h I J l1 l2 hbh hbd
 go_enter func8,ntmps8
 go_wp2_with fail
 refine hS1.mono ?_
 rintro r x1 ⟨A,rfl,hsA,hoA,H1⟩
 clear hS1
 obtain⟨y1,hst1,hrg1,hbl1,_⟩:=dQ x1 hsA hoA
 have HG0:Hid (PWn ev w0 t L y1 S∧Sm S S 0∧Pj (S.hs c) (S.ds c) 1 0∧(S.hs c).v.lat=0∧(S.ds c).v.lat=0∧(S.hs c).hd=bh∧(S.ds c).hd=bd):=⟨(HG.out.1.below H1.out.2).below hbl1,Sm.refl HG.out.2.1,HG.out.2.2.1,HG.out.2.2.2.1,HG.out.2.2.2.2,HBH.out.1,HBH.out.2⟩
 have hn0:=hcn
 clear hrg1 hbl1 H1
 go_wp2_with fail
 clear hst1
 refine wp_loop_rounds 5 ?_
 rw[rounds_succ]
 have hU:=wC HG0.out.1 (c:=c) hn0
 rw[HX.out,iV HG0.out.2.2.1 HG0.out.2.2.2.1 HG0.out.2.2.2.2.1,decide_eq_false (by decide)]at hU
 go_wp2_with fail
 refine hU.mono ?_
 rintro r u0 ⟨rfl,bu0⟩
 clear hU
 have hE:=pI (HG0.out.1.below bu0) F HG0.out.2.1.I hn0 (by have:=HG0.out.2.1.mv;omega) hc2 (HG0.out.2.1.ph ▸ h1) (HG0.out.2.1.pd ▸ h2) HG0.out.2.2.1 (by omega) (by rw[if_neg (by decide)])
 rw[HX.out]at hE
 clear bu0
 go_wp2_with fail
 refine hE.mono ?_
 rintro r w1 ⟨rfl,H1⟩
 clear hE
 obtain⟨S1,p1,xa1⟩:=H1.out
 have HG1:Hid (PWn ev w0 t L w1 S1∧Sm S S1 5∧Pj (S1.hs c) (S1.ds c) 2 0∧(S1.hs c).v.lat=0∧(S1.ds c).v.lat=0∧(S1.hs c).hd=bh∧(S1.ds c).hd=bd):=by
  obtain⟨l1,l2⟩:=xa1.lat HG0.out.2.2.2.1 HG0.out.2.2.2.2.1
  obtain⟨k1,k2⟩:=xa1.hd
  exact⟨p1,HG0.out.2.1.trans xa1.sm,xa1.pj (by omega),l1,l2,k1.trans HG0.out.2.2.2.2.2.1,k2.trans HG0.out.2.2.2.2.2.2⟩
 have hn1:c<S1.n:=by rw[HG1.out.2.1.n];exact hcn
 clear H1 p1 xa1
 go_wp2_with fail
 rw[rounds_succ]
 have hU:=wC HG1.out.1 (c:=c) hn1
 rw[HX.out,iV HG1.out.2.2.1 HG1.out.2.2.2.1 HG1.out.2.2.2.2.1,decide_eq_false (by decide)]at hU
 go_wp2_with fail
 refine hU.mono ?_
 rintro r u1 ⟨rfl,bu1⟩
 clear hU
 have hE:=pI (HG1.out.1.below bu1) F HG1.out.2.1.I hn1 (by have:=HG1.out.2.1.mv;omega) hc2 (HG1.out.2.1.ph ▸ h1) (HG1.out.2.1.pd ▸ h2) HG1.out.2.2.1 (by omega) (by rw[if_neg (by decide)])
 rw[HX.out]at hE
 clear bu1
 go_wp2_with fail
 refine hE.mono ?_
 rintro r w2 ⟨rfl,H2⟩
 clear hE
 obtain⟨S2,p2,xa2⟩:=H2.out
 have HG2:Hid (PWn ev w0 t L w2 S2∧Sm S S2 10∧Pj (S2.hs c) (S2.ds c) 3 0∧(S2.hs c).v.lat=0∧(S2.ds c).v.lat=0∧(S2.hs c).hd=bh∧(S2.ds c).hd=bd):=by
  obtain⟨l1,l2⟩:=xa2.lat HG1.out.2.2.2.1 HG1.out.2.2.2.2.1
  obtain⟨k1,k2⟩:=xa2.hd
  exact⟨p2,HG1.out.2.1.trans xa2.sm,xa2.pj (by omega),l1,l2,k1.trans HG1.out.2.2.2.2.2.1,k2.trans HG1.out.2.2.2.2.2.2⟩
 have hn2:c<S2.n:=by rw[HG2.out.2.1.n];exact hcn
 clear H2 p2 xa2
 go_wp2_with fail
 rw[rounds_succ]
 have hU:=wC HG2.out.1 (c:=c) hn2
 rw[HX.out,iV HG2.out.2.2.1 HG2.out.2.2.2.1 HG2.out.2.2.2.2.1,decide_eq_false (by decide)]at hU
 go_wp2_with fail
 refine hU.mono ?_
 rintro r u2 ⟨rfl,bu2⟩
 clear hU
 have hE:=pI (HG2.out.1.below bu2) F HG2.out.2.1.I hn2 (by have:=HG2.out.2.1.mv;omega) hc2 (HG2.out.2.1.ph ▸ h1) (HG2.out.2.1.pd ▸ h2) HG2.out.2.2.1 (by omega) (by rw[if_neg (by decide)])
 rw[HX.out]at hE
 clear bu2
 go_wp2_with fail
 refine hE.mono ?_
 rintro r w3 ⟨rfl,H3⟩
 clear hE
 obtain⟨S3,p3,xa3⟩:=H3.out
 have HG3:Hid (PWn ev w0 t L w3 S3∧Sm S S3 15∧Pj (S3.hs c) (S3.ds c) 4 0∧(S3.hs c).v.lat=0∧(S3.ds c).v.lat=0∧(S3.hs c).hd=bh∧(S3.ds c).hd=bd):=by
  obtain⟨l1,l2⟩:=xa3.lat HG2.out.2.2.2.1 HG2.out.2.2.2.2.1
  obtain⟨k1,k2⟩:=xa3.hd
  exact⟨p3,HG2.out.2.1.trans xa3.sm,xa3.pj (by omega),l1,l2,k1.trans HG2.out.2.2.2.2.2.1,k2.trans HG2.out.2.2.2.2.2.2⟩
 have hn3:c<S3.n:=by rw[HG3.out.2.1.n];exact hcn
 clear H3 p3 xa3
 go_wp2_with fail
 clear hmo0 hmo1 hmo2
 rw[rounds_succ]
 by_cases h3:(3:Int)<most
 ·have hU:=wC HG3.out.1 (c:=c) hn3
  rw[HX.out,iV HG3.out.2.2.1 HG3.out.2.2.2.1 HG3.out.2.2.2.2.1,decide_eq_true rfl]at hU
  go_wp2_with fail
  refine hU.mono ?_
  rintro r u3 ⟨rfl,bu3⟩
  clear hU
  have hU:=wC (HG3.out.1.below bu3) (c:=c) hn3
  rw[HX.out,iV HG3.out.2.2.1 HG3.out.2.2.2.1 HG3.out.2.2.2.2.1,decide_eq_true rfl]at hU
  have HBu:Hid (Below w3.heap.size w3 u3):=bu3
  clear bu3
  go_wp2_with fail
  refine hU.mono ?_
  rintro r u4 ⟨rfl,bu4⟩
  clear hU
  go_wp2_with fail
  go_ret3
  exact⟨rfl,S3,(HG3.out.1.below HBu.out).below bu4,HG3.out.2⟩
 ·have hU:=wC HG3.out.1 (c:=c) hn3
  rw[HX.out,iV HG3.out.2.2.1 HG3.out.2.2.2.1 HG3.out.2.2.2.2.1,decide_eq_true rfl]at hU
  go_wp2_with fail
  refine hU.mono ?_
  rintro r u4 ⟨rfl,bu4⟩
  clear hU
  go_wp2_with fail
  go_ret3
  exact⟨rfl,S3,HG3.out.1.below bu4,HG3.out.2⟩
theorem zT (a:Option Addr) (len cap n:Nat) (bs:Nat→Nat) (w:World) (R:Row8 w a len cap bs) (hn1:1≤n) (hn:n≤8):Calls prog 15 #[.slice a len cap,.int .i64 (n:Nat)] w fun r w'=>r=.returned (.slice (af w.heap.size 0) n n)∧Hid (Row8 w' (af w.heap.size 0) n n (fun i=>if i<len then bs i else 1)∧Below w.heap.size w w'):=by
 obtain⟨i0,hi,hz0,hz1,hz2⟩:=info_parts bY
 have HR:Hid (Row8 w a len cap bs):=R
 clear R
 go_enter func15,ntmps15
 go_wp2_with (at_make;refine aW _ rfl (.tmp 7) (.tmp 7) 22 rfl w.heap.size 5 i0 underlying22 hi hz0 hz1 hz2 _ _ _ _ n n rfl rfl rfl rfl (Nat.le_refl _) (by omega) (Nat.le_refl _) ?_)
 intro w1 own1 bel1
 have H1:Hid (w1.ownsRow w.heap.size 5 1 (.slice (af w.heap.size 0) n n) n (CB (fun i=>if i<0 then 1 else 0) n)∧Below w.heap.size w w1):=⟨by rw[cV (fun i=>if i<0 then 1 else 0) (fun _=>0) n (fun i _=>if_neg (by omega))];exact own1,bel1⟩
 clear own1 bel1
 go_wp2_with fail
 go_loopw [11,6,12,13,14,15,16,17] (fun c _ _ _ _ _ _ _ wr=>∃ j:Nat,j≤n∧c=.int .i64 ((j:Nat):Int)∧Hid (wr.ownsRow w.heap.size 5 1 (.slice (af w.heap.size 0) n n) n (CB (fun i=>if i<j then 1 else 0) n)∧Below w.heap.size w wr)) (fun c _ _ _ _ _ _ _ _=>n-j7 c)
 case atStart=>exact⟨0,by omega,rfl,H1⟩
 case round=>
  obtain⟨j,hj,rfl,HJ⟩:=hrel
  clear H1
  by_cases hlt:j<n
  ·have hlt':((j:Nat):Int) < ((n:Nat):Int):=by omega
   have hcx:=HJ.out.1.cellAt j (by omega)
   have hfx:=HJ.out.1.frozenAt j
   rw[aQ _ n _ hlt]at hcx
   have HT:Hid ((wr.setCell ⟨w.heap.size,j,none⟩ (.int .u8 1)).ownsRow w.heap.size 5 1 (.slice (af w.heap.size 0) n n) n (CB (fun i=>if i<j+1 then 1 else 0) n)∧Below w.heap.size w (wr.setCell ⟨w.heap.size,j,none⟩ (.int .u8 1))):=by
    refine⟨?_,HJ.out.2.setCell (p:=⟨w.heap.size,j,none⟩) (Nat.le_refl _) _⟩
    have h:=(HJ.out.1.stored j (.int .u8 ((1:Nat):Int))).1
    rw[eV,cV _ (fun i=>if i<j+1 then 1 else 0) n (fun i _=>by
     by_cases e:i=j
     ·rw[if_pos e,if_pos (by omega)]
     ·rw[if_neg e]
      by_cases q:i<j
      ·rw[if_pos q,if_pos (by omega)]
      ·rw[if_neg q,if_neg (by omega)])]at h
    exact h
   go_wp2_with fail
   refine⟨⟨j+1,by omega,by simp,HT⟩,?_⟩
   have e1:j7 (.int .i64 ((j:Nat):Int))=j:=by simp[j7]
   have e2:j7 (.int .i64 (((j:Nat):Int)+1))=j+1:=by simp[j7]
   rw[e1,e2]
   omega
  ·have hlt':¬ ((j:Nat):Int) < ((n:Nat):Int):=by omega
   have hjn:j=n:=by omega
   obtain⟨own,bel⟩:=HJ.out
   have hrow:=HR.out.below bel
   clear HJ
   go_wp2_with (refine ij rfl (.tmp 18) (.tmp 19) 22 22 rfl 5 underlying22 ja w.heap.size w.heap.size n n _ rfl own a len cap bs rfl hrow w bel ?_)
   intro w4 own4 bel4
   have hby:∀ i,i<n→(if i<len then bs i else (if i<n then 1 else 0))<256:=fun i hi=>by
    split
    ·next q=>exact HR.out.byte i q
    ·first | omega | (split <;> omega)
   obtain⟨a5,c5,e5,R5⟩:=aX own4 hby
   simp only[Value.slice.injEq,true_and]at e5
   obtain⟨rfl,rfl⟩:=e5
   have HF:Hid (Row8 w4 (af w.heap.size 0) n n (fun i=>if i<len then bs i else 1)∧Below w.heap.size w w4):=⟨R5.congr (fun i hi=>by
    split
    ·rfl
    ·first | rfl | rw[if_pos hi]),bel4⟩
   clear own4 bel4 R5 own bel hrow hby
   go_wp2_with fail
   go_ret
   exact⟨rfl,HF.out⟩
theorem zg {w0 w:World} {t:Nat→Thing} {L:Pw} {S:Ws} {i c l cp:Nat} {d:Option Addr} {bs:Nat→Nat} (h:PWn ev w0 t L w S) (F:Fre ev t i) (I:S.In) (hcn:c<S.n) (hmv:S.mv<4096) (hc2:c≤10000) (hl:l≤8) (R:Row8 w d l cp bs) (hd:∀ y,d=some y→0<l→y.block≠L.x) (he:(S.play (cK c 1 l bs)).e=0):Calls prog 21 #[ac L.x 0,.int .i64 (c:Nat),.int .i64 1,.slice d l cp] w fun r w'=>r=.returned (.tuple #[.bool true,.int .i64 0])∧Hid (PWn ev w0 t L w' (S.play (cK c 1 l bs)).S):=by
 have bd:=jk (S:=S) (c:=c) (s:=1) (l:=l) (b:=bs) hmv hcn (by omega)
 have hPl:=gS (i:=i) (cK c 1 l bs) d cp h F I (jz (k:=1) (s:=1) (f:=0) (n:=0) (by omega) hc2 (by omega) (by omega) (by omega) l bs) (by omega) R hd (by show l≤_;omega)
 obtain⟨X,hX⟩:∃ y,L.x=y:=⟨_,rfl⟩
 have HX:Hid (L.x=X):=hX
 rw[hX]at hPl ⊢
 have HB:Hid (S.bad (cK c 1 l bs)=0):=bd
 have HE:Hid ((S.play (cK c 1 l bs)).e=0):=he
 clear hX bd he h I R hd
 go_enter func21,ntmps21
 go_wp2_with fail
 refine Calls.mono hPl ?_
 rintro r x1 ⟨A,E,rfl,hsA,hoA,H1⟩
 clear hPl
 have hE:E=0:=H1.out.1.trans HB.out
 subst hE
 obtain⟨y1,hst,hrg,hbl⟩:=fV x1 hsA hoA
 have c9:=hrg 9 _ (H1.out.2.2 HB.out).1
 rw[Nat.zero_add,HE.out]at c9
 have HF:Hid (PWn ev w0 t L y1 (S.play (cK c 1 l bs)).S):=H1.out.2.1.below hbl
 clear hrg hbl H1
 go_wp2_with fail
 go_ret2
 exact⟨rfl,HF.out⟩
theorem yh {w0 w:World} {t:Nat→Thing} {L:Pw} {S:Ws} {i c l cp:Nat} {d:Option Addr} {bs:Nat→Nat} (h:PWn ev w0 t L w S) (F:Fre ev t i) (I:S.In) (hcn:c<S.n) (hmv:S.mv<4096) (hc2:c≤10000) (hl:l≤8) (R:Row8 w d l cp bs) (hd:∀ y,d=some y→0<l→y.block≠L.x) (he:(S.play (cK c 2 l bs)).e=0):Calls prog 21 #[ac L.x 0,.int .i64 (c:Nat),.int .i64 2,.slice d l cp] w fun r w'=>r=.returned (.tuple #[.bool true,.int .i64 0])∧Hid (PWn ev w0 t L w' (S.play (cK c 2 l bs)).S):=by
 have bd:=jk (S:=S) (c:=c) (s:=2) (l:=l) (b:=bs) hmv hcn (by omega)
 have hPl:=gS (i:=i) (cK c 2 l bs) d cp h F I (jz (k:=1) (s:=2) (f:=0) (n:=0) (by omega) hc2 (by omega) (by omega) (by omega) l bs) (by omega) R hd (by show l≤_;omega)
 obtain⟨X,hX⟩:∃ y,L.x=y:=⟨_,rfl⟩
 have HX:Hid (L.x=X):=hX
 rw[hX]at hPl ⊢
 have HB:Hid (S.bad (cK c 2 l bs)=0):=bd
 have HE:Hid ((S.play (cK c 2 l bs)).e=0):=he
 clear hX bd he h I R hd
 go_enter func21,ntmps21
 go_wp2_with fail
 refine Calls.mono hPl ?_
 rintro r x1 ⟨A,E,rfl,hsA,hoA,H1⟩
 clear hPl
 have hE:E=0:=H1.out.1.trans HB.out
 subst hE
 obtain⟨y1,hst,hrg,hbl⟩:=fV x1 hsA hoA
 have c9:=hrg 9 _ (H1.out.2.2 HB.out).1
 rw[Nat.zero_add,HE.out]at c9
 have HF:Hid (PWn ev w0 t L y1 (S.play (cK c 2 l bs)).S):=H1.out.2.1.below hbl
 clear hrg hbl H1
 go_wp2_with fail
 go_ret2
 exact⟨rfl,HF.out⟩
theorem ze {w0 w:World} {t:Nat→Thing} {L:Pw} {S:Ws} {c l cp:Nat} {d:Option Addr} {bs:Nat→Nat} (h:PWn ev w0 t L w S) (hcn:c<S.n) (R:Row8 w d l cp bs):Calls prog 22 #[ac L.x 0,.int .i64 (c:Nat),.int .i64 1,.slice d l cp] w fun r w'=>r=.returned (.bool (aA (S.hs c).v && decide (BA (cF (S.hs c).v) (S.PH c).i=BA bs l)))∧Hid (Below w.heap.size w w'):=by
 have hS:=me h hcn
 obtain⟨X,hX⟩:∃ y,L.x=y:=⟨_,rfl⟩
 rw[hX]at hS ⊢
 have HR:Hid (Row8 w d l cp bs):=R
 clear hX h R
 obtain⟨q,hq⟩:∃ y,aA (S.hs c).v=y:=⟨_,rfl⟩
 obtain⟨D,hD⟩:∃ y,decide (BA (cF (S.hs c).v) (S.PH c).i=BA bs l)=y:=⟨_,rfl⟩
 rw[hq,hD]
 have HD:Hid (_=D):=hD
 have HQ:Hid (aA (S.hs c).v=q):=hq
 clear hq hD
 go_enter func22,ntmps22
 go_wp2_with fail
 refine hS.mono ?_
 rintro r x1 ⟨A,rfl,hsA,hoA,H1⟩
 clear hS
 obtain⟨y1,hst1,hrg1,hbl1,_⟩:=dQ x1 hsA hoA
 obtain⟨_,_,_,_,e7,ea,ec,e8,Ro⟩:=H1.out.1
 have c7:=hrg1 7 _ e7
 have c8:=hrg1 8 _ e8
 rw[Nat.zero_add]at c7 c8
 rw[HQ.out]at c7
 have b1:=H1.out.2.trans (hbl1.mono H1.out.2.size)
 have hEq:=gJ ea d _ ec l cp _ _ y1 (Ro.below hbl1) (HR.out.below b1) D HD.out
 have HB:Hid (Below w.heap.size w y1):=b1
 clear hrg1 hbl1 H1 b1 e7 e8 Ro
 cases q
 ·clear hEq
  go_wp2_with fail
  go_ret
  exact⟨rfl,HB.out⟩
 ·go_wp2_with fail
  refine hEq.mono ?_
  rintro r y2 ⟨rfl,rfl⟩
  clear hEq
  go_wp2_with fail
  go_ret
  exact⟨by simp,HB.out⟩
theorem ys {w0 w:World} {t:Nat→Thing} {L:Pw} {S:Ws} {c l cp:Nat} {d:Option Addr} {bs:Nat→Nat} (h:PWn ev w0 t L w S) (hcn:c<S.n) (R:Row8 w d l cp bs):Calls prog 22 #[ac L.x 0,.int .i64 (c:Nat),.int .i64 2,.slice d l cp] w fun r w'=>r=.returned (.bool (aA (S.ds c).v && decide (BA (cF (S.ds c).v) (S.PD c).o=BA bs l)))∧Hid (Below w.heap.size w w'):=by
 have hS:=l9 h hcn
 obtain⟨X,hX⟩:∃ y,L.x=y:=⟨_,rfl⟩
 rw[hX]at hS ⊢
 have HR:Hid (Row8 w d l cp bs):=R
 clear hX h R
 obtain⟨q,hq⟩:∃ y,aA (S.ds c).v=y:=⟨_,rfl⟩
 obtain⟨D,hD⟩:∃ y,decide (BA (cF (S.ds c).v) (S.PD c).o=BA bs l)=y:=⟨_,rfl⟩
 rw[hq,hD]
 have HD:Hid (_=D):=hD
 have HQ:Hid (aA (S.ds c).v=q):=hq
 clear hq hD
 go_enter func22,ntmps22
 go_wp2_with fail
 refine hS.mono ?_
 rintro r x1 ⟨A,rfl,hsA,hoA,H1⟩
 clear hS
 obtain⟨y1,hst1,hrg1,hbl1,_⟩:=dQ x1 hsA hoA
 obtain⟨_,_,_,_,e7,ea,ec,e8,Ro⟩:=H1.out.1
 have c7:=hrg1 7 _ e7
 have c8:=hrg1 8 _ e8
 rw[Nat.zero_add]at c7 c8
 rw[HQ.out]at c7
 have b1:=H1.out.2.trans (hbl1.mono H1.out.2.size)
 have hEq:=gJ ea d _ ec l cp _ _ y1 (Ro.below hbl1) (HR.out.below b1) D HD.out
 have HB:Hid (Below w.heap.size w y1):=b1
 clear hrg1 hbl1 H1 b1 e7 e8 Ro
 cases q
 ·clear hEq
  go_wp2_with fail
  go_ret
  exact⟨rfl,HB.out⟩
 ·go_wp2_with fail
  refine hEq.mono ?_
  rintro r y2 ⟨rfl,rfl⟩
  clear hEq
  go_wp2_with fail
  go_ret
  exact⟨by simp,HB.out⟩
structure Tk4 (P:Pm) (S S':Ws) (c a:Nat) (bs bs2:Nat→Nat):Prop where
 sm:Sm S S' 7
 ex:∃ S1,S1.In∧S1.hs c={ S.hs c with ap:=bs,hd:=false }∧S1.ds c={ S.ds c with ap:=bs2,hd:=false }∧Xa P S1 S' c 4 a
def vT (P:Pm) (S':Ws) (c:Nat) (bs bs2:Nat→Nat):Bool:=(aA (S'.hs c).v && decide (BA (cF (S'.hs c).v) P.i=BA bs2 P.i)) && (aA (S'.ds c).v && decide (BA (cF (S'.ds c).v) P.o=BA bs P.o))
theorem yS {h:Sh} {d:Sd} {k a:Nat} (J:Pj h d k a) (b b2:Nat→Nat):Pj { h with ap:=b,hd:=false } { d with ap:=b2,hd:=false } k a:=⟨J.hst,J.dst,J.hss,J.dss,J.hnm,J.hsn,J.dnm,J.dsn,J.wt,J.m0⟩
theorem ye {w0 w:World} {t:Nat→Thing} {L:Pw} {S:Ws} {i c a l cp l2 cp2:Nat} {d d2:Option Addr} {bs bs2:Nat→Nat} {P:Pm} (h:PWn ev w0 (aG (aG t (2*i+1) (dn d l cp bs)) (2 * (i+1)+1) (dn d2 l2 cp2 bs2)) L w S) (F:Fre ev t i) (I:S.In) (hcn:c<S.n) (hmv:S.mv+7≤4096) (hc2:c≤10000) (h1:S.PH c=P) (h2:S.PD c=P) (J:Pj (S.hs c) (S.ds c) 4 a) (ha:a+1<P.n) (hl:l=P.o) (hl2:l2=P.i) (hx:∀ y,d=some y→0<l→y.block≠L.x) (hx2:∀ y,d2=some y→0<l2→y.block≠L.x):Calls prog 9 #[ac L.x 0,.int .i64 (c:Nat),.slice d l cp,.slice d2 l2 cp2] w fun r w'=>∃ b:Bool,r=.returned (.tuple #[.bool b,.int .i64 0])∧Hid (∃ S',PWn ev w0 (aG (aG t (2*i+1) (dn d l cp bs)) (2 * (i+1)+1) (dn d2 l2 cp2 bs2)) L w' S'∧Tk4 P S S' c a bs bs2∧b=vT P S' c bs bs2):=by
 have hP:Pok P:=by rw[← h1];exact h.kn.ph c hcn
 have lo:l≤8:=by have:=hP.o8;omega
 have li:l2≤8:=by have:=hP.i8;omega
 have F2:Fre ev (aG (aG t (2*i+1) (dn d l cp bs)) (2 * (i+1)+1) (dn d2 l2 cp2 bs2)) (i+2):=(F.put _).put _
 have hq1:∀ j,2*i+1≠ev j:=(F i (Nat.le_refl _)).1
 have hq2:∀ j,2 * (i+1)+1≠ev j:=(F (i+1) (Nat.le_succ _)).1
 have HT1:Hid (∀ wx Sx,PWn ev w0 (aG (aG t (2*i+1) (dn d l cp bs)) (2 * (i+1)+1) (dn d2 l2 cp2 bs2)) L wx Sx→Row8 wx d l cp bs∧Row8 wx d2 l2 cp2 bs2):=fun wx Sx q=>⟨q.rowq hq1 (by rw[an _ _ (by omega)];exact ak _ _ _),q.rowq hq2 (ak _ _ _)⟩
 have K:=h.kn
 have b1:=jk (S:=S) (c:=c) (s:=1) (l:=l) (b:=bs) (by omega) hcn (.inl rfl)
 obtain⟨e1,e2,e3⟩:=rJ b1
 have m1:=dM I K (cK c 1 l bs)
 rw[h1]at e1 e3
 have hW1:=zg h F2 I hcn (by omega) hc2 lo (HT1.out _ _ h).1 hx (by rw[e3];unfold eJ;rw[if_pos hl])
 obtain⟨Sa,hSa⟩:∃ y,(S.play (cK c 1 l bs)).S=y:=⟨_,rfl⟩
 rw[hSa]at e1 e2 m1 hW1
 have e1:Sa.hs c={ S.hs c with ap:=bs,hd:=false }:=by rw[e1];unfold cX;rw[if_pos hl]
 obtain⟨X,hX⟩:∃ y,L.x=y:=⟨_,rfl⟩
 have HX:Hid (L.x=X):=hX
 rw[hX]at hW1 ⊢
 have HA:Hid (_):=And.intro e1 (And.intro e2 m1)
 have HLL:Hid (l=P.o∧l2=P.i):=⟨hl,hl2⟩
 have HF2:Hid (Fre ev (aG (aG t (2*i+1) (dn d l cp bs)) (2 * (i+1)+1) (dn d2 l2 cp2 bs2)) (i+2)):=F2
 have HXX:Hid (_):=And.intro hx2 hx
 have HJ:Hid (_):=And.intro J (And.intro h1 h2)
 clear hX e1 e2 e3 m1 b1 hSa h F2 I hx hx2 J h1 h2 K hP F hq1 hq2 hl hl2
 go_enter func9,ntmps9
 go_wp2_with fail
 refine hW1.mono ?_
 rintro r x1 ⟨rfl,H1⟩
 clear hW1
 have hnA:c<Sa.n:=by rw[HA.out.2.2.n];exact hcn
 have mA:=HA.out.2.2.mv
 have b2:=jk (S:=Sa) (c:=c) (s:=2) (l:=l2) (b:=bs2) (by omega) hnA (.inr rfl)
 obtain⟨f1,f2,f3⟩:=rh b2
 have m2:=dM HA.out.2.2.I H1.out.kn (cK c 2 l2 bs2)
 rw[HA.out.2.2.pd,HJ.out.2.2,HA.out.2.1]at f2 f3
 have u6:(S.ds c).st≠6:=by rw[HJ.out.1.dst];decide
 have hW2:=yh H1.out HF2.out HA.out.2.2.I hnA (by omega) hc2 li (HT1.out _ _ H1.out).2 HXX.out.1 (by rw[f3];unfold eM;rw[if_neg u6,if_pos HLL.out.2])
 obtain⟨Sb,hSb⟩:∃ y,(Sa.play (cK c 2 l2 bs2)).S=y:=⟨_,rfl⟩
 rw[hSb]at f1 f2 m2 hW2
 have f2:Sb.ds c={ S.ds c with ap:=bs2,hd:=false }:=by rw[f2];unfold cZ;rw[if_neg u6,if_pos HLL.out.2]
 rw[HA.out.1]at f1
 rw[HX.out]at hW2
 have HBb:Hid (_):=And.intro f1 (And.intro f2 (HA.out.2.2.trans m2))
 clear b2 f1 f2 f3 m2 hSb u6 H1
 go_wp2_with fail
 refine hW2.mono ?_
 rintro r x2 ⟨rfl,H2⟩
 clear hW2
 have hnB:c<Sb.n:=by rw[HBb.out.2.2.n];exact hcn
 have mB:=HBb.out.2.2.mv
 have hE:=pI (P:=P) (a:=a) (k:=4) H2.out HF2.out HBb.out.2.2.I hnB (by omega) hc2 (by rw[HBb.out.2.2.ph];exact HJ.out.2.1) (by rw[HBb.out.2.2.pd];exact HJ.out.2.2) (by rw[HBb.out.1,HBb.out.2.1];exact yS HJ.out.1 _ _) (.inr (.inr (.inr rfl))) (by rw[if_pos rfl];exact ha)
 rw[HX.out]at hE
 clear H2
 go_wp2_with fail
 refine hE.mono ?_
 rintro r x3 ⟨rfl,H3⟩
 clear hE
 obtain⟨S',p3,xa⟩:=H3.out
 have hn3:c<S'.n:=by rw[xa.sm.n];exact hnB
 have HT:Hid (PWn ev w0 (aG (aG t (2*i+1) (dn d l cp bs)) (2 * (i+1)+1) (dn d2 l2 cp2 bs2)) L x3 S'∧Tk4 P S S' c a bs bs2):=⟨p3,⟨HBb.out.2.2.trans xa.sm,Sb,HBb.out.2.2.I,HBb.out.1,HBb.out.2.1,xa⟩⟩
 have hs1:=ze p3 hn3 (HT1.out _ _ p3).2
 have ph3:S'.PH c=P:=by rw[xa.sm.ph,HBb.out.2.2.ph];exact HJ.out.2.1
 have pd3:S'.PD c=P:=by rw[xa.sm.pd,HBb.out.2.2.pd];exact HJ.out.2.2
 rw[HX.out,ph3]at hs1
 simp only[show (BA bs2 l2:ByteArray)=BA bs2 P.i by rw[HLL.out.2]]at hs1
 have HP3:Hid (S'.PD c=P):=pd3
 obtain⟨q1,hq1⟩:∃ y,(aA (S'.hs c).v && decide (BA (cF (S'.hs c).v) P.i=BA bs2 P.i))=y:=⟨_,rfl⟩
 rw[hq1]at hs1
 have HQ1:Hid (_=q1):=hq1
 clear H3 p3 xa ph3 pd3 hq1
 go_wp2_with fail
 refine hs1.mono ?_
 rintro r x4 ⟨rfl,b4⟩
 clear hs1
 cases q1
 ·have HF:Hid (∃ S',PWn ev w0 (aG (aG t (2*i+1) (dn d l cp bs)) (2 * (i+1)+1) (dn d2 l2 cp2 bs2)) L x4 S'∧Tk4 P S S' c a bs bs2∧false=vT P S' c bs bs2):=⟨S',HT.out.1.below b4.out,HT.out.2,by unfold vT;rw[HQ1.out];rfl⟩
  go_wp2_with fail
  go_ret2
  exact⟨false,rfl,HF.out⟩
 ·have p4:=HT.out.1.below b4.out
  have hs2:=ys p4 hn3 (HT1.out _ _ p4).1
  rw[HX.out,HP3.out]at hs2
  simp only[show (BA bs l:ByteArray)=BA bs P.o by rw[HLL.out.1]]at hs2
  obtain⟨q2,hq2⟩:∃ y,(aA (S'.ds c).v && decide (BA (cF (S'.ds c).v) P.o=BA bs P.o))=y:=⟨_,rfl⟩
  rw[hq2]at hs2
  have HQ2:Hid (_=q2):=hq2
  have HP4:Hid (PWn ev w0 (aG (aG t (2*i+1) (dn d l cp bs)) (2 * (i+1)+1) (dn d2 l2 cp2 bs2)) L x4 S'):=p4
  clear p4 hq2 b4
  go_wp2_with fail
  refine hs2.mono ?_
  rintro r x5 ⟨rfl,b5⟩
  clear hs2
  have HF:Hid (∃ S',PWn ev w0 (aG (aG t (2*i+1) (dn d l cp bs)) (2 * (i+1)+1) (dn d2 l2 cp2 bs2)) L x5 S'∧Tk4 P S S' c a bs bs2∧q2=vT P S' c bs bs2):=⟨S',HP4.out.below b5.out,HT.out.2,by unfold vT;rw[HQ1.out,HQ2.out];rfl⟩
  go_wp2_with fail
  go_ret2
  exact⟨q2,rfl,HF.out⟩
theorem nM {v:Vs} (h:aA v=true):cF v=v.bs:=by unfold cF;rw[if_pos h]
theorem jE {v:Vs} (hr:v.run=true) (hl:v.lat=0) (b:Nat→Nat):aA (bH (cJ (bk v) false) b)=true∧(bH (cJ (bk v) false) b).bs=b:=by
 have e:bH (cJ (bk v) false) b={ cJ (bk v) false with sm:=true,bs:=b }:=by
  unfold bH
  rw[if_pos ⟨hr,hl⟩]
 rw[e]
 refine⟨?_,rfl⟩
 unfold aA cJ bk
 dsimp only
 rw[hr]
 rfl
theorem sh {v:Vs} (hl:v.lat≠0) (hs:v.sm=false) (o:Bool) (b:Nat→Nat):aA (bH (cJ (bk v) o) b)=false:=by
 have e:bH (cJ (bk v) o) b=cJ (bk v) o:=by
  unfold bH
  rw[if_neg (fun z=>hl z.2)]
 rw[e]
 unfold aA cJ bk
 dsimp only
 rw[hs]
 simp
theorem lI (v:Vs):aA (dY v)=aA v∧(dY v).bs=v.bs∧(dY v).run=v.run∧(dY v).sm=v.sm:=by
 unfold dY
 split
 ·exact⟨rfl,rfl,rfl,rfl⟩
 ·exact⟨rfl,rfl,rfl,rfl⟩
structure Tend (v v':Vs):Prop where
 ok:v.run=true→v.lat=0→v'.lat=0∧aA v'=true
 no:v.run=true→v.lat≠0→v.sm=false→v'.lat=0∧aA v'=false
theorem pU {v w:Vs} {b:Nat→Nat} (hw:w=bH (cJ (bk v) false) b):Tend v (dY w):=by
 have hlat:w.lat=v.lat:=by rw[hw];exact gT _ _
 have hfr:w.fr=(v.lat != 0):=by
  rw[hw]
  unfold bH
  split <;> rfl
 have hrun:w.run=v.run:=by
  rw[hw]
  unfold bH
  split <;> rfl
 obtain⟨a1,a2,a3,a4⟩:=lI w
 refine⟨fun r l=>?_,fun r l s=>?_⟩
 ·have q:aq w=false:=by unfold aq;rw[hlat,l];simp
  rw[jy q]
  exact⟨hlat.trans l,by rw[hw];exact (jE r l b).1⟩
 ·have q:aq w=true:=by
   unfold aq
   rw[hrun,r,hfr,hlat]
   simp[l]
  refine⟨?_,by rw[a1,hw];exact sh l s _ _⟩
  unfold dY
  rw[if_pos q]
structure Tkr (P:Pm) (S S':Ws) (c a:Nat) (bs bs2:Nat→Nat):Prop where
 pj:Pj (S'.hs c) (S'.ds c) 4 (a+1)
 sm:Sm S S' 7
 h:Tend (S.hs c).v (S'.hs c).v
 d:Tend (S.ds c).v (S'.ds c).v
 ho:(S.hs c).v.run=true→(S.hs c).v.lat=0→decide (BA (cF (S'.hs c).v) P.i=BA bs2 P.i)=true
 hdc:(S'.hs c).dc=0
 ddc:(S'.ds c).dc=0
 do_:(S.ds c).v.run=true→(S.ds c).v.lat=0→decide (BA (cF (S'.ds c).v) P.o=BA bs P.o)=true
theorem Tk4.res {P:Pm} {S S':Ws} {c a:Nat} {bs bs2:Nat→Nat} (h:Tk4 P S S' c a bs bs2):Tkr P S S' c a bs bs2:=by
 obtain⟨S1,I1,e1,e2,xa⟩:=h.ex
 have pj:=xa.pj (.inr (.inr (.inr rfl)))
 obtain⟨F,R,h2,ex,g1,g2⟩:=xa.ex
 obtain⟨fh,fd,q1,q2,q3,q4⟩:=ex.on rfl
 have lf:decide (8≤aS (S1.hs c))=false:=pu (by rw[e1])
 have ld:decide (8≤cr R.s)=false:=oG (by rw[ex.da.2,e2])
 rw[lf]at q3
 rw[ld]at q4
 have v1:(S1.hs c).v=(S.hs c).v:=by rw[e1]
 have v2:(S1.ds c).v=(S.ds c).v:=by rw[e2]
 rw[v1]at q4
 rw[v2]at q3
 have w1:(S'.hs c).v=dY h2.v:=by rw[g1];rfl
 have w2:(S'.ds c).v=dY R.s.v:=by
  rw[g2]
  unfold cQ
  rw[if_neg (by rw[ex.pj.dst];decide)]
 have p1:(S1.hs c).ap=bs:=by rw[e1]
 have p2:(S1.ds c).ap=bs2:=by rw[e2]
 refine⟨by simpa using pj,h.sm,by rw[w1];exact pU q4,by rw[w2];exact pU q3,fun r l=>?_,by rw[g1];exact ex.hdc,by rw[g2];unfold cQ;rw[if_neg (by rw[ex.pj.dst];decide)];exact ex.ddc (by omega),fun r l=>?_⟩
 ·obtain⟨t1,t2⟩:=jE r l fd
  rw[← q4]at t1 t2
  obtain⟨a1,a2,_,_⟩:=lI h2.v
  rw[w1,nM (a1.trans t1),a2,t2]
  exact decide_eq_true (ic _ _ _ (fun i hi=>by rw[q2 i hi,p2]))
 ·obtain⟨t1,t2⟩:=jE r l fh
  rw[← q3]at t1 t2
  obtain⟨a1,a2,_,_⟩:=lI R.s.v
  rw[w2,nM (a1.trans t1),a2,t2]
  exact decide_eq_true (ic _ _ _ (fun i hi=>by rw[q1 i hi,p1]))
theorem yU {S:Ws} {c a:Nat} (I:S.In) (hc:c<S.n) (J:Pj (S.hs c) (S.ds c) 4 a):(S.hs c).v.run=true∧(S.ds c).v.run=true:=by
 have h1:=(I.ih c hc).vr
 have h2:=(I.iv c hc).vr
 rw[J.hst]at h1
 rw[J.dst]at h2
 exact⟨h1,h2⟩
theorem Tkr.good {P:Pm} {S S':Ws} {c a:Nat} {bs bs2:Nat→Nat} (h:Tkr P S S' c a bs bs2) (I:S.In) (hc:c<S.n) (J:Pj (S.hs c) (S.ds c) 4 a) (l1:(S.hs c).v.lat=0) (l2:(S.ds c).v.lat=0):vT P S' c bs bs2=true∧(S'.hs c).v.lat=0∧(S'.ds c).v.lat=0:=by
 obtain⟨r1,r2⟩:=yU I hc J
 obtain⟨a1,a2⟩:=h.h.ok r1 l1
 obtain⟨b1,b2⟩:=h.d.ok r2 l2
 refine⟨?_,a1,b1⟩
 unfold vT
 rw[a2,b2,h.ho r1 l1,h.do_ r2 l2]
 rfl
theorem xR (w:World):Calls prog 17 #[] w fun r w'=>r=.returned (.int .i64 7)∧w'=w:=by
 go_enter func17,ntmps17
 go_wp2_with fail
 go_ret
 exact⟨rfl,rfl⟩
theorem tN:Pj bG (dw M0) 1 0:=⟨rfl,rfl,rfl,rfl,rfl,rfl,rfl,rfl,rfl,fun _=>rfl⟩
theorem vZ (P Q:Pm) (mx:Nat):(s0 P Q mx).In:=yj 1 mx (fun _=>P) (fun _=>Q)
theorem pY (w:World):Calls prog 6 #[] w fun r w'=>r=.returned (.bool true)∧Below w.heap.size w w':=by
 have hLo:=yn w
 have hBo:=fun wx=>xR wx
 go_enter func6,ntmps6
 go_wp2_with fail
 refine hLo.mono ?_
 rintro r w1 ⟨q0,q1,rfl,H1⟩
 clear hLo
 have hN:Calls prog 11 #[.agg #[.slice (af q0 0) 1 1,.slice (af q1 0) 1 1,.int .u32 50]] w1 fun r w'=>∃ L:Pw,r=.returned (.tuple #[ac L.x 0,.int .i64 0])∧Hid (PW ev w1 w' (oc L) L∧L.S=s0 P0 P0 50):=wh P0 P0 qd qd q0 q1 50 (by decide) (by decide) w1 H1.out.1 H1.out.2.1
 have HB1:Hid (_):=H1.out.2.2
 clear H1
 go_wp2_with fail
 refine hN.mono ?_
 rintro r w2 ⟨L,rfl,H2⟩
 clear hN
 have hp:=H2.out.1.n
 rw[H2.out.2]at hp
 obtain⟨X,hX⟩:∃ y,L.x=y:=⟨_,rfl⟩
 have hSe:Calls prog 8 #[ac L.x 0,.int .i64 0,.int .i64 7] w2 fun r w'=>r=.returned (.tuple #[.int .i64 3,.bool true,.int .i64 0])∧Hid (∃ S',PWn ev w1 (oc L) L w' S'∧Sm (s0 P0 P0 50) S' 15∧Pj (S'.hs 0) (S'.ds 0) 4 0∧(S'.hs 0).v.lat=0∧(S'.ds 0).v.lat=0∧(S'.hs 0).hd=false∧(S'.ds 0).hd=false):=mS (c:=0) (i:=0) (P:=P0) 7 hp (ix L) (vZ _ _ _) (by decide) (by decide) (by decide) rfl rfl tN rfl rfl (by decide) (by decide)
 rw[hX]at hSe ⊢
 have HX:Hid (L.x=X):=hX
 clear hp hX H2
 go_wp2_with fail
 refine hSe.mono ?_
 rintro r w3 ⟨rfl,H3⟩
 clear hSe
 obtain⟨S,p3,sm,J,l1,l2,_⟩:=H3.out
 have hn:0<S.n:=by rw[sm.n];decide
 have hU:Calls prog 10 #[ac X 0,.int .i64 0] w3 fun r w'=>r=.returned (.bool true)∧Below w3.heap.size w3 w':=by
  have:=wC p3 (c:=0) hn
  rw[HX.out,iV J l1 l2]at this
  exact this
 have HB3:Hid (Below w.heap.size w w3):=by
  obtain⟨t9,L9,h9,_⟩:=p3
  exact HB1.out.trans (h9.1.bel.mono HB1.out.size)
 clear p3 sm J l1 l2 hn H3
 go_wp2_with fail
 refine hU.mono ?_
 rintro r w4 ⟨rfl,b4⟩
 clear hU
 have HB4:Hid (Below w.heap.size w w4):=HB3.out.trans (b4.mono HB3.out.size)
 have hB:=hBo w4
 clear hBo b4
 go_wp2_with fail
 refine hB.mono ?_
 rintro r w5 ⟨rfl,rfl⟩
 go_wp2_with fail
 go_ret
 exact⟨rfl,HB4.out⟩
end Go.Proofs.YtfgnmadnmjdbiaaGreat
