/- Part 37: contracts that the proof rests on. -/
import Derived.Test.YtfgnmadnmjdbiaaGreatPkN35
set_option maxHeartbeats 64000000
set_option maxRecDepth 100000
namespace Go.Proofs.YtfgnmadnmjdbiaaGreat
open Tryz
open Go.RowKit Go.Maps
set_option linter.unusedVariables false
def zP (A:Array Value) (st ss:Nat) (v:Vs) (n:Nat) (w:World):Prop:=A.toList[0]?=some (.int .i64 (st:Nat))∧A.toList[1]?=some (.int .u32 (ss:Nat))∧A.toList[5]?=some (.int .i64 v.lat)∧A.toList[6]?=some (.bool (aq v))∧A.toList[7]?=some (.bool (aB v))∧∃ a ca,A.toList[8]?=some (.slice a n ca)∧Row8 w a n ca (cG v)
theorem lI {w0 w:World} {t:Nat→Thing} {L:Pw} {S:Ws} {c:Nat} (h:PWn ev w0 t L w S) (hc:c<S.n):Calls prog 20 #[ac L.x 0,.int .i64 (c:Nat),.int .i64 1] w fun r w'=>∃ A:Array Value,r=.returned (.tuple #[.agg A,.int .i64 0])∧A.size=9∧A.all (·.oneCell')=true∧Hid (zP A (S.hs c).st (S.hs c).ss (S.hs c).v (S.PH c).i w'∧Below w.heap.size w w'):=by
 refine (yw h hc).mono ?_
 rintro r w' ⟨a,ca,rfl,H⟩
 exact⟨_,rfl,rfl,by kernel_rfl,⟨rfl,rfl,rfl,rfl,rfl,a,ca,rfl,H.out.2.1⟩,H.out.1⟩
theorem mf {w0 w:World} {t:Nat→Thing} {L:Pw} {S:Ws} {c:Nat} (h:PWn ev w0 t L w S) (hc:c<S.n):Calls prog 20 #[ac L.x 0,.int .i64 (c:Nat),.int .i64 2] w fun r w'=>∃ A:Array Value,r=.returned (.tuple #[.agg A,.int .i64 0])∧A.size=9∧A.all (·.oneCell')=true∧Hid (zP A (S.ds c).st (S.ds c).ss (S.ds c).v (S.PD c).o w'∧Below w.heap.size w w'):=by
 refine (yh h hc).mono ?_
 rintro r w' ⟨a,ca,rfl,H⟩
 exact⟨_,rfl,rfl,by kernel_rfl,⟨rfl,rfl,rfl,rfl,rfl,a,ca,rfl,H.out.2.1⟩,H.out.1⟩
theorem Sm.mono2 {S S':Ws} {k:Nat} (h:Sm S S' k) (hk:k≤2:=by omega):Sm S S' 2:=⟨h.I,h.n,h.ph,h.pd,h.mx,by have:=h.mv;omega⟩
theorem zK {w0 w:World} {t:Nat→Thing} {L:Pw} {S:Ws} {i c:Nat} (h:PWn ev w0 t L w S) (F:Fre ev t i) (I:S.In) (hcn:c<S.n) (hmv:S.mv+2≤4096) (hc2:c≤10000):Calls prog 19 #[ac L.x 0,.int .i64 (c:Nat)] w fun r w'=>r=.returned (.int .i64 0)∧Hid (∃ S',PWn ev w0 t L w' S'∧Sm S S' 2∧S'.hs c=fC (S.hs c)∧S'.ds c=cY (S.ds c)):=by
 have HIS:Hid (S.In):=I
 have hcnS:=hcn
 have hmvS:=hmv
 have HP0:Hid (PWn ev w0 t L w S):=h
 obtain⟨X,hX⟩:∃ y,L.x=y:=⟨_,rfl⟩
 have HX:Hid (L.x=X):=hX
 rw[hX]
 clear hX h I
 have yD:=fun wx:World=>(by kernel_rfl:(Instr.index 88 (.agg #[.int .i64 1,.int .i64 2]) (.int .i64 0)).run prog wx=.ok (.int .i64 1) wx)
 have xo:=fun wx:World=>(by kernel_rfl:(Instr.index 88 (.agg #[.int .i64 1,.int .i64 2]) (.int .i64 1)).run prog wx=.ok (.int .i64 2) wx)
 go_enter func19,ntmps19
 go_wp2_with fail
 refine wp_loop_rounds 3 ?_
 rw[rounds_succ]
 have hSe:=lI HP0.out (c:=c) hcnS
 rw[HX.out]at hSe
 go_wp2_with fail
 refine hSe.mono ?_
 rintro r x1 ⟨A1,rfl,hsA1,hoA1,H1⟩
 clear hSe
 obtain⟨y1,hst1,hrg1,hbl1,_⟩:=cD x1 hsA1 hoA1
 have cr1:=hrg1 6 _ H1.out.1.2.2.2.1
 rw[Nat.zero_add]at cr1
 have p1:=(HP0.out.below H1.out.2).below hbl1
 obtain⟨q1,hq1⟩:∃ y,aq (S.hs c).v=y:=⟨_,rfl⟩
 rw[hq1]at cr1
 have HQ1:Hid (aq (S.hs c).v=q1):=hq1
 have HP1:Hid (PWn ev w0 t L y1 S):=p1
 clear hrg1 hbl1 H1 p1 hq1
 cases q1
 ·go_wp2_with fail
  clear hst1 cr1
  rw[rounds_succ]
  have hSe:=mf HP1.out (c:=c) hcnS
  rw[HX.out]at hSe
  go_wp2_with fail
  refine hSe.mono ?_
  rintro r x2 ⟨A2,rfl,hsA2,hoA2,H2⟩
  clear hSe
  obtain⟨y2,hst2,hrg2,hbl2,_⟩:=cD x2 hsA2 hoA2
  have cr2:=hrg2 6 _ H2.out.1.2.2.2.1
  rw[Nat.zero_add]at cr2
  have p2:=(HP1.out.below H2.out.2).below hbl2
  obtain⟨q2,hq2⟩:∃ y,aq (S.ds c).v=y:=⟨_,rfl⟩
  rw[hq2]at cr2
  have HQ2:Hid (aq (S.ds c).v=q2):=hq2
  have HP2:Hid (PWn ev w0 t L y2 S):=p2
  clear hrg2 hbl2 H2 p2 hq2
  cases q2
  ·go_wp2_with fail
   clear hst2 cr2
   rw[rounds_succ]
   go_wp2_with fail
   go_ret
   exact⟨rfl,S,HP2.out,(Sm.refl HIS.out).mono2,(gB HQ1.out).symm,(gz HQ2.out).symm⟩
  ·have hPl:=ej (i:=i) (co c 2) none 0 HP2.out F HIS.out (gw (k:=6) (s:=2) (f:=0) (n:=0) (by omega) hc2 (by omega) (by omega) (by omega) 0 _) (by have:=hcnS;omega) (bc _ _) (fun y hy=>by cases hy) (by show (0:Nat)≤_;omega)
   rw[HX.out]at hPl
   go_wp2_with fail
   refine Calls.mono hPl ?_
   rintro r v2 ⟨B2,E2,rfl,hsB2,hoB2,G2⟩
   clear hPl hst2 cr2
   have hb:=iy (S:=S) (c:=c) (s:=2) (by have:=hmvS;omega) hcnS (by omega)
   have hE2:E2=0:=G2.out.1.trans hb
   subst hE2
   obtain⟨u2,hst2,_,hbl2⟩:=eJ v2 hsB2 hoB2
   have p2:=G2.out.2.1.below hbl2
   have kn:=HP2.out.kn
   clear G2 hbl2
   go_wp2_with fail
   clear hst2
   rw[rounds_succ]
   go_wp2_with fail
   go_ret
   have sm2:=cO HIS.out kn (co c 2)
   obtain⟨hh2,hd2,_⟩:=iW hb
   exact⟨rfl,_,p2,sm2.mono2,hh2.trans (gB HQ1.out).symm,hd2⟩
 ·have hPl:=ej (i:=i) (co c 1) none 0 HP1.out F HIS.out (gw (k:=6) (s:=1) (f:=0) (n:=0) (by omega) hc2 (by omega) (by omega) (by omega) 0 _) (by have:=hcnS;omega) (bc _ _) (fun y hy=>by cases hy) (by show (0:Nat)≤_;omega)
  rw[HX.out]at hPl
  go_wp2_with fail
  refine Calls.mono hPl ?_
  rintro r v1 ⟨B1,E1,rfl,hsB1,hoB1,G1⟩
  clear hPl hst1 cr1
  have hb:=iy (S:=S) (c:=c) (s:=1) (by have:=hmvS;omega) hcnS (by omega)
  have hE1:E1=0:=G1.out.1.trans hb
  subst hE1
  obtain⟨u1,hst1,_,hbl1⟩:=eJ v1 hsB1 hoB1
  have p1:=G1.out.2.1.below hbl1
  have kn:=HP1.out.kn
  clear G1 hbl1
  go_wp2_with fail
  clear hst1
  rw[rounds_succ]
  obtain⟨T,hT⟩:∃ y,(S.play (co c 1)).S=y:=⟨_,rfl⟩
  have smT:=cO HIS.out kn (co c 1)
  obtain⟨hh,hd,_⟩:=kS hb
  rw[hT]at smT hh hd p1
  have HIT:Hid (T.In):=smT.I
  have hcnT:c<T.n:=by rw[smT.n];exact hcnS
  have hmvT:T.mv+1≤4096:=by have:=smT.mv;omega
  have HT:Hid (_):=And.intro smT (And.intro hh hd)
  have HPT:Hid (PWn ev w0 t L u1 T):=p1
  clear smT hh hd p1 kn hb hT
  have hSe:=mf HPT.out (c:=c) hcnT
  rw[HX.out]at hSe
  go_wp2_with fail
  refine hSe.mono ?_
  rintro r x2 ⟨A2,rfl,hsA2,hoA2,H2⟩
  clear hSe
  obtain⟨y2,hst2,hrg2,hbl2,_⟩:=cD x2 hsA2 hoA2
  have cr2:=hrg2 6 _ H2.out.1.2.2.2.1
  rw[Nat.zero_add]at cr2
  have p2:=(HPT.out.below H2.out.2).below hbl2
  obtain⟨q2,hq2⟩:∃ y,aq (T.ds c).v=y:=⟨_,rfl⟩
  rw[hq2]at cr2
  have HQ2:Hid (aq (T.ds c).v=q2):=hq2
  have HP2:Hid (PWn ev w0 t L y2 T):=p2
  clear hrg2 hbl2 H2 p2 hq2
  cases q2
  ·go_wp2_with fail
   clear hst2 cr2
   rw[rounds_succ]
   go_wp2_with fail
   go_ret
   exact⟨rfl,T,HP2.out,HT.out.1.mono2,HT.out.2.1,by rw[HT.out.2.2]at HQ2 ⊢;exact (gz HQ2.out).symm⟩
  ·have hPl:=ej (i:=i) (co c 2) none 0 HP2.out F HIT.out (gw (k:=6) (s:=2) (f:=0) (n:=0) (by omega) hc2 (by omega) (by omega) (by omega) 0 _) (by have:=hcnT;omega) (bc _ _) (fun y hy=>by cases hy) (by show (0:Nat)≤_;omega)
   rw[HX.out]at hPl
   go_wp2_with fail
   refine Calls.mono hPl ?_
   rintro r v2 ⟨B2,E2,rfl,hsB2,hoB2,G2⟩
   clear hPl hst2 cr2
   have hb:=iy (S:=T) (c:=c) (s:=2) (by have:=hmvT;omega) hcnT (by omega)
   have hE2:E2=0:=G2.out.1.trans hb
   subst hE2
   obtain⟨u2,hst2,_,hbl2⟩:=eJ v2 hsB2 hoB2
   have p2:=G2.out.2.1.below hbl2
   have kn:=HP2.out.kn
   clear G2 hbl2
   go_wp2_with fail
   clear hst2
   rw[rounds_succ]
   go_wp2_with fail
   go_ret
   have sm2:=cO HIT.out kn (co c 2)
   obtain⟨hh2,hd2,_⟩:=iW hb
   exact⟨rfl,_,p2,HT.out.1.trans sm2,hh2.trans HT.out.2.1,by rw[hd2,HT.out.2.2]⟩
theorem uo (A:Array Value) (st ss:Nat) (v:Vs) (n:Nat) (wz w:World) (hs:A.size=9) (ho:A.all (·.oneCell')=true) (h:zP A st ss v n wz):Calls prog 23 #[.agg A] w fun r w'=>r=.returned (.bool (decide (st=4) && decide (v.lat=0)))∧Below w.heap.size w w':=by
 have k0:=aE w (.cells A 54)
 have b0:=aM (Below.refl _ w) (.cells A 54)
 obtain⟨W,hW⟩:∃ y,w.alloc (.cells A 54)=y:=⟨_,rfl⟩
 obtain⟨x,hx⟩:∃ y,w.heap.size=y:=⟨_,rfl⟩
 rw[hW]at k0 b0
 have HB:Hid (Below w.heap.size w W):=b0
 rw[hx]at k0
 have c0:W.cell? ⟨x,0,none⟩=some (.int .i64 (st:Nat)):=(ae W x 0 _ _ _ k0).trans (by rw[← Array.getElem?_toList];exact h.1)
 have c5:W.cell? ⟨x,5,none⟩=some (.int .i64 v.lat):=(ae W x 5 _ _ _ k0).trans (by rw[← Array.getElem?_toList];exact h.2.2.1)
 have HE:Hid (_=W):=hW
 have HS:Hid (w.heap.size=x):=hx
 clear k0 b0 hW hx h
 obtain⟨R,hR⟩:∃ y,(decide (st=4) && decide (v.lat=0))=y:=⟨_,rfl⟩
 have HR:Hid (_=R):=hR
 rw[hR]
 clear hR
 go_enter func23,ntmps23
 go_upto_region 1 with fail
 rw[HE.out,HS.out]
 by_cases h4:st=4
 ·by_cases h0:v.lat=0
  ·rw[h4]at c0
   rw[h0]at c5
   have e:R=true:=by rw[← HR.out];simp[h4,h0]
   clear h4 h0
   go_wp2_with fail
   go_ret
   exact⟨by rw[e];rfl,HB.out⟩
  ·rw[h4]at c0
   have hb:(v.lat == 0)=false:=by simpa using h0
   have e:R=false:=by rw[← HR.out];simp[h0]
   clear h4 h0
   go_wp2_with fail
   go_ret
   exact⟨by rw[e];rfl,HB.out⟩
 ·have hb:(((st:Nat):Int) == 4)=false:=by
   have:((st:Nat):Int)≠4:=by omega
   simpa using this
  have e:R=false:=by rw[← HR.out];simp[h4]
  clear h4
  go_wp2_with fail
  go_ret
  exact⟨by rw[e];rfl,HB.out⟩
theorem uL {w0 w:World} {t:Nat→Thing} {L:Pw} {S:Ws} {c:Nat} (h:PWn ev w0 t L w S) (hcn:c<S.n):Calls prog 10 #[ac L.x 0,.int .i64 (c:Nat)] w fun r w'=>r=.returned (.bool (sp S c))∧Below w.heap.size w w':=by
 have HP:Hid (PWn ev w0 t L w S):=h
 have hS1:=lI h hcn
 obtain⟨X,hX⟩:∃ y,L.x=y:=⟨_,rfl⟩
 have HX:Hid (L.x=X):=hX
 rw[hX]at hS1 ⊢
 clear hX h
 go_enter func10,ntmps10
 go_wp2_with fail
 refine hS1.mono ?_
 rintro r x1 ⟨A,rfl,hsA,hoA,H1⟩
 clear hS1
 obtain⟨y1,hst1,hrg1,hbl1,_⟩:=cD x1 hsA hoA
 have b1:=H1.out.2.trans (hbl1.mono H1.out.2.size)
 have hS2:=mf (HP.out.below b1) (c:=c) hcn
 rw[HX.out]at hS2
 obtain⟨pa,hpa⟩:∃ y,x1.heap.size=y:=⟨_,rfl⟩
 rw[hpa]at hst1 hrg1
 have HA:Hid (_):=And.intro hrg1 (And.intro b1 H1.out.1)
 clear hrg1 hbl1 b1 H1
 go_wp2_with fail
 refine hS2.mono ?_
 rintro r x2 ⟨B,rfl,hsB,hoB,H2⟩
 clear hS2 hst1 hpa
 obtain⟨y2,hst2,hrg2,hbl2,_⟩:=cD x2 hsB hoB
 have b2:=H2.out.2.trans (hbl2.mono H2.out.2.size)
 obtain⟨hrg1,b1,e1⟩:=HA.out
 have cA:y2.rangeAt pa 0 A.toList:=fun j v hv=>ag (hrg1 j v hv) b2
 obtain⟨pb,hpb⟩:∃ y,x2.heap.size=y:=⟨_,rfl⟩
 rw[hpb]at hst2 hrg2
 have hiA:(prog.info? 54).map (·.size)=some A.size:=by rw[hsA];kernel_rfl
 have hiB:(prog.info? 54).map (·.size)=some B.size:=by rw[hsB];kernel_rfl
 have HL:Hid (y2.rangeAt pa 0 A.toList∧y2.rangeAt pb 0 B.toList):=⟨cA,hrg2⟩
 have HB:Hid (Below w.heap.size w y2):=b1.trans (b2.mono b1.size)
 have hR1:=uo A _ _ _ _ _ y2 hsA hoA e1
 have HR2:Hid (∀ wx,Calls prog 23 #[.agg B] wx fun r w'=>r=.returned (.bool (decide ((S.ds c).st=4) && decide ((S.ds c).v.lat=0)))∧Below wx.heap.size wx w'):=fun wx=>uo B _ _ _ _ _ wx hsB hoB H2.out.1
 have HC1:Hid (y2.cell? ⟨pa,1,none⟩=some (.int .u32 ((S.hs c).ss:Nat))∧y2.cell? ⟨pb,1,none⟩=some (.int .u32 ((S.ds c).ss:Nat))):=⟨by have:=cA 1 _ e1.2.1;rw[Nat.zero_add]at this;exact this,by have:=hrg2 1 _ H2.out.1.2.1;rw[Nat.zero_add]at this;exact this⟩
 obtain⟨g1,hg1⟩:∃ y,(decide ((S.hs c).st=4) && decide ((S.hs c).v.lat=0))=y:=⟨_,rfl⟩
 obtain⟨g2,hg2⟩:∃ y,(decide ((S.ds c).st=4) && decide ((S.ds c).v.lat=0))=y:=⟨_,rfl⟩
 have HU:Hid (sp S c=(g1 && g2 && decide ((S.hs c).ss=(S.ds c).ss))):=by rw[← hg1,← hg2];rfl
 rw[hg1]at hR1
 rw[hg2]at HR2
 clear hrg1 hrg2 hbl2 b1 b2 e1 cA H2 HA hg1 hg2
 go_wp2_with (first | refine cj (by kernel_rfl) 54 (.tmp 5) rfl pa 0 rfl A _ HL.out.1 underlying54 rfl hiA ?_ | refine cj (by kernel_rfl) 54 (.tmp 7) rfl pb 0 rfl B _ HL.out.2 underlying54 rfl hiB ?_)
 refine hR1.mono ?_
 rintro r z1 ⟨rfl,c1⟩
 clear hR1 hst2 hpb
 have hR2:=HR2.out z1
 have HL2:Hid (z1.rangeAt pb 0 B.toList):=fun j v hv=>ag (HL.out.2 j v hv) c1
 have d1:=ag HC1.out.1 c1
 have d2:=ag HC1.out.2 c1
 have HB2:Hid (Below w.heap.size w z1):=HB.out.trans (c1.mono HB.out.size)
 cases g1
 ·have e:sp S c=false:=by rw[HU.out];rfl
  clear hR2 d1 d2 c1
  go_wp2_with fail
  go_ret
  exact⟨by rw[e];rfl,HB2.out⟩
 ·go_wp2_with (refine cj (by kernel_rfl) 54 (.tmp 7) rfl pb 0 rfl B _ HL2.out underlying54 rfl hiB ?_)
  refine hR2.mono ?_
  rintro r z2 ⟨rfl,c2⟩
  clear hR2
  have d1:=ag d1 c2
  have d2:=ag d2 c2
  have HB3:Hid (Below w.heap.size w z2):=HB2.out.trans (c2.mono HB2.out.size)
  cases g2
  ·have e:sp S c=false:=by rw[HU.out];rfl
   clear d1 d2 c1 c2
   go_wp2_with fail
   go_ret
   exact⟨by rw[e];rfl,HB3.out⟩
  ·by_cases hss:(S.hs c).ss=(S.ds c).ss
   ·have e:sp S c=true:=by rw[HU.out];simp[hss]
    rw[hss]at d1
    clear c1 c2 hss
    go_wp2_with fail
    go_ret
    exact⟨by rw[e];rfl,HB3.out⟩
   ·have e:sp S c=false:=by rw[HU.out];simp[hss]
    have hb:((((S.hs c).ss:Nat):Int) == (((S.ds c).ss:Nat):Int))=false:=by
     have:(((S.hs c).ss:Nat):Int) ≠ (((S.ds c).ss:Nat):Int):=by omega
     simpa using this
    clear c1 c2 hss
    go_wp2_with fail
    go_ret
    exact⟨by rw[e];rfl,HB3.out⟩
theorem iV (w:World) {A:Array Value} (hs:A.size=29) (ho:A.all (·.oneCell')=true):∃ wz,(storeCells ⟨w.heap.size,0,none⟩ A.toList).run prog (w.alloc (.cells bj 56))=.ok () wz∧wz.rangeAt w.heap.size 0 A.toList∧Below w.heap.size w wz∧wz.there w.heap.size 0 29:=by
 have kr:=aE w (.cells bj 56)
 have h9:(w.alloc (.cells bj 56)).there w.heap.size 0 29:=be kr rfl
 have hth:(w.alloc (.cells bj 56)).there w.heap.size 0 A.size:=by rw[hs];exact h9
 exact⟨_,eQ hth ho,World.rangeAt_setCells_same _ w.heap.size 0 A.toList (by simpa using hth),(bu _ w.heap.size 0 A.toList).below (aM (Below.refl _ _) _) (by simp) (by rw[iK];omega),World.there_setCells h9 _ _ _⟩
theorem qv {w0 w:World} {t:Nat→Thing} {L:Pw} {S:Ws} {i c k a:Nat} {P:Pm} (h:PWn ev w0 t L w S) (F:Fre ev t i) (I:S.In) (hcn:c<S.n) (hmv:S.mv+5≤4096) (hc2:c≤10000) (h1:S.PH c=P) (h2:S.PD c=P) (J:Pj (S.hs c) (S.ds c) k a) (hk:k=1∨k=2∨k=3∨k=4) (ha:if k=4 then a+1<P.n else a=0):Calls prog 7 #[ac L.x 0,.int .i64 (c:Nat)] w fun r w'=>r=.returned (.tuple #[.bool true,.int .i64 0])∧Hid (∃ S',PWn ev w0 t L w' S'∧Xa P S S' c k a):=by
 have Kn:=h.kn
 obtain⟨bd1,i1,q1⟩:=exS I Kn hcn (by omega) h1 h2 J hk ha
 have hN:S.bg.length≤4096:=by have:=I.bg;omega
 have m1:=cO I Kn (di c)
 have hPl:=ej (i:=i) (di c) none 0 h F I (gw (k:=2) (s:=0) (f:=0) (n:=0) (by omega) hc2 (by omega) (by omega) (by omega) 0 _) (by omega) (bc _ _) (fun y hy=>by cases hy) (by show (0:Nat)≤_;omega)
 obtain⟨X,hX⟩:∃ y,L.x=y:=⟨_,rfl⟩
 have HX:Hid (L.x=X):=hX
 rw[hX]at hPl ⊢
 obtain⟨N,hNN⟩:∃ y,S.bg.length=y:=⟨_,rfl⟩
 obtain⟨S1,hS1⟩:∃ y,(S.play (di c)).S=y:=⟨_,rfl⟩
 rw[hNN]at i1 q1 hN
 have q1:=q1 S1 hS1
 have HB1:Hid (S.bad (di c)=0):=bd1
 have HI1:Hid ((S.play (di c)).i=((N:Nat):Int)):=i1
 have HQ1:Hid (S1.Kn→_):=q1
 have S1I:Hid (S1.In):=by rw[← hS1];exact m1.I
 have hnS1:c<S1.n:=by rw[← hS1,m1.n];exact hcn
 have HS1:Hid ((S.play (di c)).S=S1):=hS1
 have HM1:Hid (Sm S S1 1):=by rw[← hS1];exact m1
 have HJ:Hid (_):=And.intro h1 (And.intro h2 (And.intro J (And.intro hk ha)))
 have HII:Hid (S.In∧S.Kn):=⟨I,Kn⟩
 clear bd1 i1 q1 m1 hX hNN hS1 h h1 h2 J hk ha Kn I
 go_enter func7,ntmps7
 go_wp2_with fail
 refine Calls.mono hPl ?_
 rintro r x1 ⟨A1,E1,rfl,hsA1,hoA1,H1⟩
 clear hPl
 have hE1:E1=0:=H1.out.1.trans HB1.out
 subst hE1
 obtain⟨y1,hst1,hrg1,hbl1,th1⟩:=iV x1 hsA1 hoA1
 obtain⟨v0,hv0⟩:=Option.isSome_iff_exists.1 (th1 0 (by decide)).1
 obtain⟨ob1,hob1⟩:∃ o,y1.heap[x1.heap.size]?=some o:=⟨_,Array.getElem?_eq_getElem (World.block_lt_of_cell? _ _ hv0)⟩
 have p1:=H1.out.2.1.layL hbl1 (i:=2*i+1) (F i (Nat.le_refl _)).1 (l:=[(x1.heap.size,ob1)]) (fun p hp=>by
  simp only[List.mem_cons,List.not_mem_nil,or_false]at hp
  subst hp
  exact hob1) (fun p hp=>by
  simp only[List.mem_cons,List.not_mem_nil,or_false]at hp
  subst hp
  exact Nat.le_refl _)
 rw[HS1.out]at p1
 obtain⟨rb,hrb⟩:∃ y,x1.heap.size=y:=⟨_,rfl⟩
 rw[hrb]at hst1 hrg1 th1 hob1 p1
 have hs1:=hrg1 10 _ (H1.out.2.2 HB1.out).2.1
 rw[Nat.zero_add,HI1.out]at hs1
 have HP1:Hid (PWn ev w0 (ay t (2*i+1) (fB [(rb,ob1)])) L y1 S1):=p1
 have HO1:Hid (y1.heap[rb]?=some ob1):=hob1
 have HT1:Hid (y1.there rb 0 29):=th1
 obtain⟨bd2,i2,q2⟩:=HQ1.out p1.kn
 have HB2:Hid (S1.bad (bk c 2 N)=0):=bd2
 have HI2:Hid ((S1.play (bk c 2 N)).i=((N+1:Nat):Int)):=i2
 obtain⟨S2,hS2⟩:∃ y,(S1.play (bk c 2 N)).S=y:=⟨_,rfl⟩
 have HS2:Hid ((S1.play (bk c 2 N)).S=S2):=hS2
 have q2:=q2 S2 hS2
 have HQ2:Hid (S2.Kn→_):=q2
 have m2:=cO S1I.out p1.kn (bk c 2 N)
 rw[hS2]at m2
 have S2I:Hid (S2.In):=m2.I
 have hnS2:c<S2.n:=by rw[m2.n];exact hnS1
 have HM2:Hid (Sm S S2 2):=HM1.out.trans m2
 have hN0:¬ ((N:Nat):Int)<0:=by omega
 clear hrg1 hbl1 th1 hv0 hob1 p1 H1 bd2 i2 q2 m2 hS2
 have hD2:=zn (c:=c) (s:=2) (f:=N) HP1.out (F.put _) S1I.out (by have:=hnS1;omega) hc2 (by omega) (by have:=hN;omega)
 rw[HX.out]at hD2
 go_wp2_with fail
 refine hD2.mono ?_
 rintro r x2 ⟨A2,E2,rfl,hsA2,hoA2,H2⟩
 clear hD2
 have hE2:E2=0:=H2.out.1.trans HB2.out
 subst hE2
 have kb2:=H2.out.2.1.box (q:=2*i+1) (F i (Nat.le_refl _)).1 (ak _ _ _) _ (List.mem_cons_self ..)
 obtain⟨y2,ob2,hst2,p2,th2,hrg2,_⟩:=PWn.rowB F H2.out.2.1 (cI HT1.out (kb2.trans (HO1.out).symm)) hsA2 hoA2
 have hr2:=H2.out.2.2 HB2.out
 have kq2:=p2.box (q:=2*i+1) (F i (Nat.le_refl _)).1 (ak _ _ _) _ (List.mem_cons_self ..)
 have HP2:Hid (PWn ev w0 (ay t (2*i+1) (fB [(rb,ob2)])) L y2 (S1.play (bk c 2 (N))).S):=p2
 have HO2:Hid (y2.heap[rb]?=some ob2):=kq2
 have HT2:Hid (y2.there rb 0 29):=th2
 have hs2:=hrg2 10 _ hr2.2
 rw[Nat.zero_add,HI2.out]at hs2
 have HP2':Hid (PWn ev w0 (ay t (2*i+1) (fB [(rb,ob2)])) L y2 S2):=by rw[← HS2.out];exact p2
 obtain⟨bd3,e3,xs⟩:=HQ2.out HP2'.out.kn
 have HB3:Hid (S2.bad (bk c 1 (N+1))=0):=bd3
 have HE3:Hid ((S2.play (bk c 1 (N+1))).e=0):=e3
 have HXS:Hid (_):=xs
 have hN1:¬ ((N+1:Nat):Int)<0:=by omega
 clear H2 kb2 p2 th2 hrg2 hr2 kq2 HP2 bd3 e3 xs hst1 hs1
 go_wp2_with fail
 clear hst2
 have hD3:=zn (c:=c) (s:=1) (f:=N+1) HP2'.out (F.put _) S2I.out (by have:=hnS2;omega) hc2 (by omega) (by have:=hN;omega)
 rw[HX.out]at hD3
 go_wp2_with fail
 refine hD3.mono ?_
 rintro r x3 ⟨A3,E3,rfl,hsA3,hoA3,H3⟩
 clear hD3
 have hE3:E3=0:=H3.out.1.trans HB3.out
 subst hE3
 have kb3:=H3.out.2.1.box (q:=2*i+1) (F i (Nat.le_refl _)).1 (ak _ _ _) _ (List.mem_cons_self ..)
 obtain⟨y3,ob3,hst3,p3,th3,hrg3,_⟩:=PWn.rowB F H3.out.2.1 (cI HT2.out (kb3.trans (HO2.out).symm)) hsA3 hoA3
 have hr3:=H3.out.2.2 HB3.out
 have kq3:=p3.box (q:=2*i+1) (F i (Nat.le_refl _)).1 (ak _ _ _) _ (List.mem_cons_self ..)
 have HP3:Hid (PWn ev w0 (ay t (2*i+1) (fB [(rb,ob3)])) L y3 (S2.play (bk c 1 (N+1))).S):=p3
 have HO3:Hid (y3.heap[rb]?=some ob3):=kq3
 have HT3:Hid (y3.there rb 0 29):=th3
 have hs3:=hrg3 9 _ hr3.1
 rw[Nat.zero_add,HE3.out]at hs3
 clear hs2 H3 kb3 p3 th3 hrg3 hr3 kq3
 have hA:=zK (c:=c) HP3.out (F.put _) HXS.out.sm.I (by rw[HXS.out.sm.n];exact hcn) (by have:=HXS.out.sm.mv;omega) hc2
 rw[HX.out]at hA
 go_wp2_with fail
 refine hA.mono ?_
 rintro r y4 ⟨rfl,H4⟩
 clear hA hst3
 obtain⟨S4,p4,sm4,hh4,hd4⟩:=H4.out
 have kq4:=p4.box (q:=2*i+1) (F i (Nat.le_refl _)).1 (ak _ _ _) _ (List.mem_cons_self ..)
 have hs4:y4.cell? ⟨rb,9,none⟩=some (.int .i64 0):=(World.cell?_of_block (a:=⟨rb,9,none⟩) (kq4.trans HO3.out.symm)).trans hs3
 have HF:Hid (∃ S',PWn ev w0 t L y4 S'∧Xa P S S' c k a):=by
  obtain⟨F1,R1,q1,ex,e1,e2⟩:=HXS.out.ex
  exact⟨S4,p4.drop (F i (Nat.le_refl _)).1 (F i (Nat.le_refl _)).2,⟨F1,R1,q1,ex,by rw[hh4,e1],by rw[hd4,e2]⟩,HXS.out.sm.trans sm4⟩
 clear H4 p4 sm4 hh4 hd4 kq4 hs3
 go_wp2_with fail
 go_ret2
 exact⟨rfl,HF.out⟩
theorem vT (s:Sh):(fC s).hd=s.hd:=rfl
theorem wA (s:Sd):(cY s).hd=s.hd:=by unfold cY;split <;> rfl
theorem Xa.hd {P:Pm} {S S':Ws} {c k a:Nat} (h:Xa P S S' c k a):(S'.hs c).hd=(S.hs c).hd∧(S'.ds c).hd=(S.ds c).hd:=by
 obtain⟨F,R,q,ex,e1,e2⟩:=h.ex
 rw[e1,e2,vT,wA]
 exact⟨ex.ha.2,ex.da.2⟩
theorem nd {w0 w:World} {t:Nat→Thing} {L:Pw} {S:Ws} {i c:Nat} {P:Pm} (most:Int) (h:PWn ev w0 t L w S) (F:Fre ev t i) (I:S.In) (hcn:c<S.n) (hmv:S.mv+15≤4096) (hc2:c≤10000) (h1:S.PH c=P) (h2:S.PD c=P) (J:Pj (S.hs c) (S.ds c) 1 0) (l1:(S.hs c).v.lat=0) (l2:(S.ds c).v.lat=0) (hm:3≤most) (hm2:most≤9223372036854775807):Calls prog 8 #[ac L.x 0,.int .i64 (c:Nat),.int .i64 most] w fun r w'=>r=.returned (.tuple #[.int .i64 3,.bool true,.int .i64 0])∧Hid (∃ S',PWn ev w0 t L w' S'∧Sm S S' 15∧Pj (S'.hs c) (S'.ds c) 4 0∧(S'.hs c).v.lat=0∧(S'.ds c).v.lat=0∧(S'.hs c).hd=(S.hs c).hd∧(S'.ds c).hd=(S.ds c).hd):=by
 have hS1:=lI h hcn
 have hmo0:(0:Int)<most:=by omega
 have hmo1:(1:Int)<most:=by omega
 have hmo2:(2:Int)<most:=by omega
 obtain⟨X,hX⟩:∃ y,L.x=y:=⟨_,rfl⟩
 have HX:Hid (L.x=X):=hX
 rw[hX]at hS1 ⊢
 have HG:Hid (PWn ev w0 t L w S∧S.In∧Pj (S.hs c) (S.ds c) 1 0∧(S.hs c).v.lat=0∧(S.ds c).v.lat=0):=⟨h,I,J,l1,l2⟩
 obtain⟨bh,hbh⟩:∃ y,(S.hs c).hd=y:=⟨_,rfl⟩
 obtain⟨bd,hbd⟩:∃ y,(S.ds c).hd=y:=⟨_,rfl⟩
 rw[hbh,hbd]
 have HBH:Hid ((S.hs c).hd=bh∧(S.ds c).hd=bd):=⟨hbh,hbd⟩
 clear hX h I J l1 l2 hbh hbd
 go_enter func8,ntmps8
 go_wp2_with fail
 refine hS1.mono ?_
 rintro r x1 ⟨A,rfl,hsA,hoA,H1⟩
 clear hS1
 obtain⟨y1,hst1,hrg1,hbl1,_⟩:=cD x1 hsA hoA
 have HG0:Hid (PWn ev w0 t L y1 S∧Sm S S 0∧Pj (S.hs c) (S.ds c) 1 0∧(S.hs c).v.lat=0∧(S.ds c).v.lat=0∧(S.hs c).hd=bh∧(S.ds c).hd=bd):=⟨(HG.out.1.below H1.out.2).below hbl1,Sm.refl HG.out.2.1,HG.out.2.2.1,HG.out.2.2.2.1,HG.out.2.2.2.2,HBH.out.1,HBH.out.2⟩
 have hn0:=hcn
 clear hrg1 hbl1 H1
 go_wp2_with fail
 clear hst1
 refine wp_loop_rounds 5 ?_
 rw[rounds_succ]
 have hU:=uL HG0.out.1 (c:=c) hn0
 rw[HX.out,iA HG0.out.2.2.1 HG0.out.2.2.2.1 HG0.out.2.2.2.2.1,decide_eq_false (by decide)]at hU
 go_wp2_with fail
 refine hU.mono ?_
 rintro r u0 ⟨rfl,bu0⟩
 clear hU
 have hE:=qv (HG0.out.1.below bu0) F HG0.out.2.1.I hn0 (by have:=HG0.out.2.1.mv;omega) hc2 (HG0.out.2.1.ph ▸ h1) (HG0.out.2.1.pd ▸ h2) HG0.out.2.2.1 (by omega) (by rw[if_neg (by decide)])
 rw[HX.out]at hE
 clear bu0
 go_wp2_with fail
 refine hE.mono ?_
 rintro r w1 ⟨rfl,H1⟩
 clear hE
 obtain⟨S1,p1,xa1⟩:=H1.out
 have HG1:Hid (PWn ev w0 t L w1 S1∧Sm S S1 5∧Pj (S1.hs c) (S1.ds c) 2 0∧(S1.hs c).v.lat=0∧(S1.ds c).v.lat=0∧(S1.hs c).hd=bh∧(S1.ds c).hd=bd):=by
  obtain⟨l1,l2⟩:=xa1.lat HG0.out.2.2.2.1 HG0.out.2.2.2.2.1
  obtain⟨k1,k2⟩:=xa1.hd
  exact⟨p1,HG0.out.2.1.trans xa1.sm,xa1.pj (by omega),l1,l2,k1.trans HG0.out.2.2.2.2.2.1,k2.trans HG0.out.2.2.2.2.2.2⟩
 have hn1:c<S1.n:=by rw[HG1.out.2.1.n];exact hcn
 clear H1 p1 xa1
 go_wp2_with fail
 rw[rounds_succ]
 have hU:=uL HG1.out.1 (c:=c) hn1
 rw[HX.out,iA HG1.out.2.2.1 HG1.out.2.2.2.1 HG1.out.2.2.2.2.1,decide_eq_false (by decide)]at hU
 go_wp2_with fail
 refine hU.mono ?_
 rintro r u1 ⟨rfl,bu1⟩
 clear hU
 have hE:=qv (HG1.out.1.below bu1) F HG1.out.2.1.I hn1 (by have:=HG1.out.2.1.mv;omega) hc2 (HG1.out.2.1.ph ▸ h1) (HG1.out.2.1.pd ▸ h2) HG1.out.2.2.1 (by omega) (by rw[if_neg (by decide)])
 rw[HX.out]at hE
 clear bu1
 go_wp2_with fail
 refine hE.mono ?_
 rintro r w2 ⟨rfl,H2⟩
 clear hE
 obtain⟨S2,p2,xa2⟩:=H2.out
 have HG2:Hid (PWn ev w0 t L w2 S2∧Sm S S2 10∧Pj (S2.hs c) (S2.ds c) 3 0∧(S2.hs c).v.lat=0∧(S2.ds c).v.lat=0∧(S2.hs c).hd=bh∧(S2.ds c).hd=bd):=by
  obtain⟨l1,l2⟩:=xa2.lat HG1.out.2.2.2.1 HG1.out.2.2.2.2.1
  obtain⟨k1,k2⟩:=xa2.hd
  exact⟨p2,HG1.out.2.1.trans xa2.sm,xa2.pj (by omega),l1,l2,k1.trans HG1.out.2.2.2.2.2.1,k2.trans HG1.out.2.2.2.2.2.2⟩
 have hn2:c<S2.n:=by rw[HG2.out.2.1.n];exact hcn
 clear H2 p2 xa2
 go_wp2_with fail
 rw[rounds_succ]
 have hU:=uL HG2.out.1 (c:=c) hn2
 rw[HX.out,iA HG2.out.2.2.1 HG2.out.2.2.2.1 HG2.out.2.2.2.2.1,decide_eq_false (by decide)]at hU
 go_wp2_with fail
 refine hU.mono ?_
 rintro r u2 ⟨rfl,bu2⟩
 clear hU
 have hE:=qv (HG2.out.1.below bu2) F HG2.out.2.1.I hn2 (by have:=HG2.out.2.1.mv;omega) hc2 (HG2.out.2.1.ph ▸ h1) (HG2.out.2.1.pd ▸ h2) HG2.out.2.2.1 (by omega) (by rw[if_neg (by decide)])
 rw[HX.out]at hE
 clear bu2
 go_wp2_with fail
 refine hE.mono ?_
 rintro r w3 ⟨rfl,H3⟩
 clear hE
 obtain⟨S3,p3,xa3⟩:=H3.out
 have HG3:Hid (PWn ev w0 t L w3 S3∧Sm S S3 15∧Pj (S3.hs c) (S3.ds c) 4 0∧(S3.hs c).v.lat=0∧(S3.ds c).v.lat=0∧(S3.hs c).hd=bh∧(S3.ds c).hd=bd):=by
  obtain⟨l1,l2⟩:=xa3.lat HG2.out.2.2.2.1 HG2.out.2.2.2.2.1
  obtain⟨k1,k2⟩:=xa3.hd
  exact⟨p3,HG2.out.2.1.trans xa3.sm,xa3.pj (by omega),l1,l2,k1.trans HG2.out.2.2.2.2.2.1,k2.trans HG2.out.2.2.2.2.2.2⟩
 have hn3:c<S3.n:=by rw[HG3.out.2.1.n];exact hcn
 clear H3 p3 xa3
 go_wp2_with fail
 clear hmo0 hmo1 hmo2
 rw[rounds_succ]
 by_cases h3:(3:Int)<most
 ·have hU:=uL HG3.out.1 (c:=c) hn3
  rw[HX.out,iA HG3.out.2.2.1 HG3.out.2.2.2.1 HG3.out.2.2.2.2.1,decide_eq_true rfl]at hU
  go_wp2_with fail
  refine hU.mono ?_
  rintro r u3 ⟨rfl,bu3⟩
  clear hU
  have hU:=uL (HG3.out.1.below bu3) (c:=c) hn3
  rw[HX.out,iA HG3.out.2.2.1 HG3.out.2.2.2.1 HG3.out.2.2.2.2.1,decide_eq_true rfl]at hU
  have HBu:Hid (Below w3.heap.size w3 u3):=bu3
  clear bu3
  go_wp2_with fail
  refine hU.mono ?_
  rintro r u4 ⟨rfl,bu4⟩
  clear hU
  go_wp2_with fail
  go_ret3
  exact⟨rfl,S3,(HG3.out.1.below HBu.out).below bu4,HG3.out.2⟩
 ·have hU:=uL HG3.out.1 (c:=c) hn3
  rw[HX.out,iA HG3.out.2.2.1 HG3.out.2.2.2.1 HG3.out.2.2.2.2.1,decide_eq_true rfl]at hU
  go_wp2_with fail
  refine hU.mono ?_
  rintro r u4 ⟨rfl,bu4⟩
  clear hU
  go_wp2_with fail
  go_ret3
  exact⟨rfl,S3,HG3.out.1.below bu4,HG3.out.2⟩
def tt (V:Value) (k E:Int) (w:World):Prop:=∀ s:Int,s=1∨s=2→∀ wx,Below w.heap.size w wx→Calls prog 20 #[V,.int .i64 k,.int .i64 s] wx fun r w'=>∃ A:Array Value,r=.returned (.tuple #[.agg A,.int .i64 E])∧A.size=9∧A.all (·.oneCell')=true∧Hid (zP A 0 0 kH 0 w'∧Below wx.heap.size wx w')
theorem ni (w:World):zP fN 0 0 kH 0 w:=⟨rfl,rfl,rfl,rfl,rfl,none,0,rfl,bc _ _⟩
def kZ (V:Value) (m:Array Value) (E:Int) (w:World) (Z:World→Prop):Prop:=Calls prog 16 #[V,.agg m] w fun r w'=>∃ A:Array Value,r=.returned (.tuple #[.agg A,.int .i64 E])∧A.size=29∧A.all (·.oneCell')=true∧Hid (Z w')
theorem yL (k:Int) (w:World):tt (.pointer none) k 1 w:=fun s hs wx b=>by
 refine (yX k s wx).mono ?_
 rintro r w' ⟨rfl,b'⟩
 exact⟨_,rfl,rfl,by kernel_rfl,ni _,b'⟩
theorem xi (m:Mv) (d:Option Addr) (c:Nat) (w:World):kZ (.pointer none) (ai m m.c d c) 1 w (fun w'=>Below w.heap.size w w'):=by
 refine (xY m d c w).mono ?_
 rintro r w' ⟨rfl,b'⟩
 exact⟨_,rfl,rfl,by kernel_rfl,b'⟩
theorem uG (V:Value) (k E:Int) (hE:E≠0) (w:World) (Z:World→Prop) (hZ:∀ w w',Z w→Below w.heap.size w w'→Z w') (h:kZ V #[.int .i64 2,.int .i64 k,.int .i64 0,.int .i64 0,.int .i64 0,.int .u32 0,.int .i64 0,.bool false,.slice none 0 0] E w Z):Calls prog 7 #[V,.int .i64 k] w fun r w'=>r=.returned (.tuple #[.bool false,.int .i64 E])∧Hid (Z w'):=by
 have hb:(E != 0)=true:=by simpa using hE
 unfold kZ at h
 go_enter func7,ntmps7
 go_wp2_with fail
 refine h.mono ?_
 rintro r x1 ⟨A,rfl,hs,ho,H1⟩
 clear h
 obtain⟨y1,hst,_,hbl⟩:=eJ x1 hs ho
 have HB:Hid (Z y1):=hZ _ _ H1.out hbl
 clear hbl H1
 go_wp2_with fail
 go_ret2
 exact⟨rfl,HB.out⟩
theorem xg (V:Value) (k E most:Int) (hE:E≠0) (w:World) (h:tt V k E w):Calls prog 8 #[V,.int .i64 k,.int .i64 most] w fun r w'=>r=.returned (.tuple #[.int .i64 0,.bool false,.int .i64 E])∧Below w.heap.size w w':=by
 have hb:(E != 0)=true:=by simpa using hE
 have hS:=h 1 (.inl rfl) w (Below.refl _ _)
 clear h
 go_enter func8,ntmps8
 go_wp2_with fail
 refine hS.mono ?_
 rintro r x1 ⟨A,rfl,hs,ho,H1⟩
 clear hS
 obtain⟨y1,hst,_,hbl,_⟩:=cD x1 hs ho
 have HB:Hid (Below w.heap.size w y1):=H1.out.2.trans (hbl.mono H1.out.2.size)
 clear hbl H1
 go_wp2_with fail
 go_ret3
 exact⟨rfl,HB.out⟩
theorem zS (V:Value) (k E:Int) (w:World) (h:tt V k E w):Calls prog 10 #[V,.int .i64 k] w fun r w'=>r=.returned (.bool false)∧Below w.heap.size w w':=by
 have hS:=h 1 (.inl rfl) w (Below.refl _ _)
 have HZ:Hid (tt V k E w):=h
 clear h
 go_enter func10,ntmps10
 go_wp2_with fail
 refine hS.mono ?_
 rintro r x1 ⟨A,rfl,hsA,hoA,H1⟩
 clear hS
 obtain⟨y1,hst1,hrg1,hbl1,_⟩:=cD x1 hsA hoA
 have b1:=H1.out.2.trans (hbl1.mono H1.out.2.size)
 have hS2:=HZ.out 2 (.inr rfl) y1 b1
 obtain⟨pa,hpa⟩:∃ y,x1.heap.size=y:=⟨_,rfl⟩
 rw[hpa]at hst1 hrg1
 have HA:Hid (_):=And.intro hrg1 (And.intro b1 H1.out.1)
 clear hrg1 hbl1 b1 H1
 go_wp2_with fail
 refine hS2.mono ?_
 rintro r x2 ⟨B,rfl,hsB,hoB,H2⟩
 clear hS2 hst1 hpa
 obtain⟨y2,hst2,_,hbl2,_⟩:=cD x2 hsB hoB
 have b2:=H2.out.2.trans (hbl2.mono H2.out.2.size)
 obtain⟨hrg1,b1,e1⟩:=HA.out
 have cA:y2.rangeAt pa 0 A.toList:=fun j v hv=>ag (hrg1 j v hv) b2
 have hiA:(prog.info? 54).map (·.size)=some A.size:=by rw[hsA];kernel_rfl
 have HL:Hid (y2.rangeAt pa 0 A.toList):=cA
 have HB:Hid (Below w.heap.size w y2):=b1.trans (b2.mono b1.size)
 have hR1:Calls prog 23 #[.agg A] y2 fun r w'=>r=.returned (.bool false)∧Below y2.heap.size y2 w':=uo A _ _ _ _ _ y2 hsA hoA e1
 clear hrg1 hbl2 b1 b2 e1 cA H2 HA
 go_wp2_with (refine cj (by kernel_rfl) 54 (.tmp 5) rfl pa 0 rfl A _ HL.out underlying54 rfl hiA ?_)
 refine hR1.mono ?_
 rintro r z1 ⟨rfl,c1⟩
 clear hR1 hst2
 have HB2:Hid (Below w.heap.size w z1):=HB.out.trans (c1.mono HB.out.size)
 clear c1
 go_wp2_with fail
 go_ret
 exact⟨rfl,HB2.out⟩
theorem zL (V:Value) (k s E:Int) (hE:E≠0) (d:Option Addr) (l c:Nat) (w:World) (Z:World→Prop) (hZ:∀ w w',Z w→Below w.heap.size w w'→Z w') (h:kZ V #[.int .i64 1,.int .i64 k,.int .i64 s,.int .i64 0,.int .i64 0,.int .u32 0,.int .i64 0,.bool false,.slice d l c] E w Z):Calls prog 21 #[V,.int .i64 k,.int .i64 s,.slice d l c] w fun r w'=>r=.returned (.tuple #[.bool false,.int .i64 E])∧Hid (Z w'):=by
 have hb:(E == 0)=false:=by simpa using hE
 unfold kZ at h
 go_enter func21,ntmps21
 go_wp2_with fail
 refine h.mono ?_
 rintro r x1 ⟨A,rfl,hs,ho,H1⟩
 clear h
 obtain⟨y1,hst,_,hbl⟩:=eJ x1 hs ho
 have HB:Hid (Z y1):=hZ _ _ H1.out hbl
 clear hbl H1
 go_wp2_with fail
 go_ret2
 exact⟨rfl,HB.out⟩
theorem yl (V:Value) (k E:Int) (hE:E≠0) (d d':Option Addr) (l c l' c':Nat) (w:World) (Z:World→Prop) (hZ:∀ w w',Z w→Below w.heap.size w w'→Z w') (h:kZ V #[.int .i64 1,.int .i64 k,.int .i64 1,.int .i64 0,.int .i64 0,.int .u32 0,.int .i64 0,.bool false,.slice d l c] E w Z):Calls prog 9 #[V,.int .i64 k,.slice d l c,.slice d' l' c'] w fun r w'=>r=.returned (.tuple #[.bool false,.int .i64 E])∧Hid (Z w'):=by
 have hW:=zL V k 1 E hE d l c w Z hZ h
 clear h
 go_enter func9,ntmps9
 go_wp2_with fail
 refine hW.mono ?_
 rintro r x1 ⟨rfl,b1⟩
 clear hW
 have HB:Hid (_):=b1
 clear b1
 go_wp2_with fail
 go_ret2
 exact⟨rfl,HB.out⟩
end Go.Proofs.YtfgnmadnmjdbiaaGreat
