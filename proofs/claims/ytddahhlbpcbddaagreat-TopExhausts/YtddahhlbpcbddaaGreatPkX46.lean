/- Part 47: contracts that the proof rests on. -/
import Derived.Test.YtddahhlbpcbddaaGreatPkX41
set_option maxHeartbeats 64000000
set_option maxRecDepth 100000
namespace Go.Proofs.YtddahhlbpcbddaaGreat
open Tryz
open Go.RowKit
theorem abl {c:Nat} (hc:c≠0):LW ((1:Nat):Int) c (0:Nat) (0:Nat) (0:Nat) (4:Nat) (4:Nat)=0:=by
 unfold LW
 rw[if_neg (by decide),if_neg (by omega),if_neg (by decide),if_neg (by decide),if_neg (by decide),if_neg (by decide)]
theorem aaT {c s:Nat} (hc:c≠0) (hs:s≠0):LW ((2:Nat):Int) c s (0:Nat) (0:Nat) (4:Nat) (4:Nat)=0:=by
 unfold LW
 rw[if_neg (by decide),if_neg (by omega),if_neg (by decide),if_neg ?_,if_neg (by decide),if_neg (by decide)]
 show ¬ dz 2 s=false
 unfold dz
 simp
 exact hs
theorem abN {c s:Nat} (hc:c≠0) (hs:s≠0):LW ((3:Nat):Int) c s (0:Nat) (0:Nat) (0:Nat) (0:Nat)=0:=by
 unfold LW
 rw[if_neg (by decide),if_neg (by omega),if_neg (by decide),if_neg ?_,if_neg (by decide),if_neg (by decide)]
 show ¬ dz 3 s=false
 unfold dz
 simp
 exact hs
theorem aaO {c s n f len:Nat} (hc:c≠0) (hs:s≠0) (hn:n≠0) (hf:f≤15) (h1:1≤len) (h8:len≤8):LW ((4:Nat):Int) c s n f len len=0:=by
 have e1:rB ((4:Nat):Int)=15:=by decide
 have e2:iY ((4:Nat):Int)=true:=by decide
 have e3:dS ((4:Nat):Int) len=decide ((1:Int)≤len∧(len:Int)≤8):=rfl
 unfold LW
 rw[if_neg (by decide),if_neg (by omega),if_neg ?_,if_neg ?_,if_neg ?_,if_neg ?_]
 ·rw[e1];omega
 ·rw[e2];simp;exact hn
 ·show ¬ dz 4 s=false
  unfold dz
  simp
  exact hs
 ·rw[e3];simp;omega
theorem aa6 {c s n:Nat} (hc:c≠0) (hs:s≠0) (hn:n≠0):LW ((5:Nat):Int) c s n (0:Nat) (0:Nat) (0:Nat)=0:=by
 have e2:iY ((5:Nat):Int)=true:=by decide
 unfold LW
 rw[if_neg (by decide),if_neg (by omega),if_neg (by decide),if_neg ?_,if_neg ?_,if_neg (by decide)]
 ·rw[e2];simp;exact hn
 ·show ¬ dz 5 s=false
  unfold dz
  simp
  exact hs
theorem td (s:Sh):bN s≤15:=by
 unfold bN
 split <;> split <;> split <;> split <;> omega
structure Told (F:Fm) (k c s n f len:Nat) (bs:Nat→Nat):Prop where
 de:DE F.2 F.1=0
 ln:F.1-19=len
 k:F.2 0=k
 c:aC F.2 1=c
 s:aC F.2 5=s
 n:aC F.2 9=n
 f:F.2 13=f
 bs:∀ j,j<len→F.2 (15+j)=bs j
theorem fL {k c s n f len:Nat} {bs:Nat→Nat} (hc:c<4294967296) (hs:s<4294967296) (hn:n<4294967296) (h:LW k c s n f len len=0):Told (cR k c s n f len bs) k c s n f len bs:=by
 have hl:len≤8:=by have:=(fX h).2.2.2.1;omega
 obtain⟨e1,e2,e3,e4,e5,e6,e7⟩:=nE k c s n f len bs hc hs hn hl h
 have hF:cR k c s n f len bs=(15+len+4,PM.sl (fr k c s n f len bs) (15+len)):=if_pos h
 rw[hF]
 exact⟨e1,by show 15+len+4-19=len;omega,e2,e3,e4,e5,e6,e7⟩
section
variable {P:Pm} {s:Sh}
theorem oy (s:Sh):((aY s).st=s.st∧(aY s).ss=s.ss∧(aY s).sn=s.sn∧(aY s).v=s.v∧(aY s).hd=s.hd∧(aY s).ap=s.ap∧(aY s).nm=s.nm)∨((aY s).st=1∧(aY s).ss=s.ss∧(aY s).nm=0∧aE (aY s).v=false):=by
 unfold aY
 split
 ·exact .inl ⟨rfl,rfl,rfl,rfl,rfl,rfl,rfl⟩
 ·split
  ·exact .inl ⟨rfl,rfl,rfl,rfl,rfl,rfl,rfl⟩
  ·refine .inr ⟨rfl,?_,rfl,pM _⟩
   show (if s.st=4 then bf { s with ms:=s.ms+1 } 131 else { s with ms:=s.ms+1 }).ss=s.ss
   split
   ·exact (cX _ _).2.1
   ·rfl
theorem pF (hP:Pok P) (hv:Ih P s) (h5:s.st≠5):jk s=0 ∧
  ((∃ k S,(k=1∨k=2∨k=3)∧(∃ len bs,Told (aJ P s) k P.c S 0 0 len bs)∧(aZ P s).st=k∧(aZ P s).ss=s.ss∧((aZ P s).st=s.st∨(aZ P s).st=1)) ∨
   (s.st=4∧s.sn+1<P.n∧Told (aJ P s) 4 P.c s.ss (s.sn+1) (bN s) P.o s.ap∧(aZ P s).st=4∧(aZ P s).ss=s.ss∧(aZ P s).sn=s.sn+1) ∨
   (s.st=4∧s.sn+1=P.n∧(∃ len bs,Told (aJ P s) 5 P.c s.ss (s.sn+1) 0 len bs)∧(aZ P s).st=5∧(aZ P s).ss=s.ss∧aE (aZ P s).v=false∧(aZ P s).v.lat≠0)):=by
 have hc:P.c≠0:=by have:=hP.ok.1;omega
 have hm:=hv.miss
 have hm5:=lZ h5
 have hmc:=oy s
 have eS:aZ P s={ (bD P (aY s)).1 with wt:=true }:=by unfold aZ;rw[if_neg h5]
 have eF:aJ P s=(bD P (aY s)).2:=by unfold aJ;rw[if_neg h5]
 refine⟨by unfold jk;rw[if_neg h5],?_⟩
 rw[eS,eF]
 generalize aY s=m at *
 have hms:=hm.st1
 have hm4:=hm.st5
 have hmss:m.ss=s.ss:=by rcases hmc with h | h <;> exact h.2.1
 have hmst:m.st=s.st∨m.st=1:=by
  rcases hmc with h | h
  ·exact .inl h.1
  ·exact .inr h.1
 by_cases c1:m.st=1
 ·have en:bD P m=(m,cR 1 P.c 0 0 0 4 (lE P)):=by unfold bD;rw[if_pos c1]
  rw[en]
  exact .inl ⟨1,0,.inl rfl,⟨_,_,fL hP.c (by omega) (by omega) (abl hc)⟩,c1,hmss,.inr c1⟩
 ·by_cases c2:m.st=2
  ·have en:bD P m=(m,cR 2 P.c m.ss 0 0 4 (lE P)):=by unfold bD;rw[if_neg c1,if_pos c2]
   rw[en]
   exact .inl ⟨2,m.ss,.inr (.inl rfl),⟨_,_,fL hP.c hm.ss (by omega) (aaT hc (hm.s4 (.inl c2)))⟩,c2,hmss,hmst⟩
  ·by_cases c3:m.st=3
   ·have en:bD P m=(m,cR 3 P.c m.ss 0 0 0 (fun _=>0)):=by unfold bD;rw[if_neg c1,if_neg c2,if_pos c3]
    rw[en]
    exact .inl ⟨3,m.ss,.inr (.inr rfl),⟨_,_,fL hP.c hm.ss (by omega) (abN hc (hm.s4 (.inr (.inl c3))))⟩,c3,hmss,hmst⟩
   ·have h4:m.st=4:=by omega
    have hs0:=hm.s4 (.inr (.inr h4))
    have hrn:=(hm.run h4).1
    have hn:=hP.n
    obtain⟨m1,m2,m3,m4,m5,m6,m7⟩:m.st=s.st∧m.ss=s.ss∧m.sn=s.sn∧m.v=s.v∧m.hd=s.hd∧m.ap=s.ap∧m.nm=s.nm:=by
     rcases hmc with h | h
     ·exact h
     ·exact absurd h.1 c1
    have hs4:s.st=4:=m1 ▸ h4
    by_cases c4:m.sn+1=P.n
    ·have en:bD P m=(jq { m with sn:=m.sn+1 },cR 5 P.c m.ss (m.sn+1) 0 0 (fun _=>0)):=by unfold bD;rw[if_neg c1,if_neg c2,if_neg c3,if_pos c4]
     rw[en]
     refine .inr (.inr ⟨hs4,by omega,⟨0,fun _=>0,?_⟩,rfl,?_,?_,?_⟩)
     ·rw[← m2,← m3];exact fL hP.c hm.ss (by omega) (aa6 hc hs0 (by omega))
     ·show (bf { m with sn:=m.sn+1 } 80).ss=s.ss
      rw[(cX _ _).2.1];exact m2
     ·exact pM _
     ·show (eQ (bf { m with sn:=m.sn+1 } 80).v false).lat≠0
      rw[ju,pq]
      exact jE (by omega)
    ·have en:bD P m=({ m with sn:=m.sn+1 },cR 4 P.c m.ss (m.sn+1) (bN m) P.o m.ap):=by unfold bD;rw[if_neg c1,if_neg c2,if_neg c3,if_neg c4]
     have ef:bN m=bN s:=by unfold bN;rw[m4,m5]
     rw[en]
     refine .inr (.inl ⟨hs4,by omega,?_,h4,m2,by show m.sn+1=_;omega⟩)
     rw[← m2,← m3,← m6,← ef]
     exact fL hP.c hm.ss (by omega) (aaO hc hs0 (by omega) (td m) hP.o1 hP.o8)
theorem oR (P:Pm) (s:Sh) (len:Nat) (bs:Nat→Nat):(cI P s len bs≠0∧bT P s len bs=fh s (cI P s len bs))∨(cI P s len bs=0∧DE bs len=0 ∧
  ((bs 0=17∧s.st=1∧s.ss<aC bs 5∧bT P s len bs=oG { s with st:=2,ss:=aC bs 5 })∨(bs 0=18∧s.st=2∧aC bs 5=s.ss∧bT P s len bs=oG { s with st:=3 })∨(bs 0=19∧s.st=3∧aC bs 5=s.ss∧bT P s len bs=oG { s with st:=4,v:=eQ s.v true }) ∨
   (bs 0=20∧s.st=4∧aC bs 5=s.ss∧s.nm<aC bs 9∧aC bs 9<P.n∧len-19=P.i∧bT P s len bs={ oG { s with nm:=aC bs 9 } with v:=fO (ir (fJ s.v) (decide (8≤bs 13))) (fun i=>bs (15+i)) })∨(bs 0=21∧s.st=4∧aC bs 5=s.ss∧s.nm<aC bs 9∧aC bs 9=P.n∧bT P s len bs=jq (oG { s with nm:=aC bs 9 })))):=by
 by_cases hE:cI P s len bs=0
 ·refine .inr ⟨hE,?_⟩
  have eS:bT P s len bs=cC s (bs 0) (aC bs 5) (aC bs 9) (bs 13) (fun i=>bs (15+i)):=by unfold bT;rw[if_neg (by omega)]
  rw[eS]
  unfold cI at hE
  by_cases hD:DE bs len≠0
  ·rw[if_pos hD]at hE;exact absurd hE hD
  ·rw[if_neg hD]at hE
   refine⟨by omega,?_⟩
   clear eS hD
   generalize aC bs 5=ss at *
   generalize aC bs 9=num at *
   generalize (fun i=>bs (15+i))=ds at *
   generalize bs 13=fl at *
   generalize bs 0=k at *
   unfold fw at hE
   by_cases hK:fd (k:Int)=false
   ·rw[if_pos hK]at hE;omega
   ·rw[if_neg hK]at hE
    by_cases hC:aC bs 1≠P.c
    ·rw[if_pos hC]at hE;omega
    ·rw[if_neg hC]at hE
     by_cases h1:s.st=1
     ·rw[if_pos h1]at hE
      unfold iN at hE
      by_cases hk:k≠17∨ss≤s.ss
      ·rw[if_pos hk]at hE;omega
      ·obtain rfl:k=17:=by omega
       exact .inl ⟨rfl,h1,by omega,by unfold cC;rw[if_pos rfl]⟩
     ·rw[if_neg h1]at hE
      by_cases ha:ss≠s.ss∨bZ P s k num (len-19)=false
      ·rw[if_pos ha]at hE;omega
      ·have ha2:bZ P s k num (len-19)=true:=by
        cases hh:bZ P s k num (len-19) with
        | true=>rfl
        | false=>exact absurd (.inr hh) ha
       have hss:ss=s.ss:=by omega
       unfold bZ at ha2
       have ha3:=of_decide_eq_true ha2
       rcases ha3 with ⟨rfl,h2⟩ | ⟨rfl,h3⟩ | ⟨rfl,⟨⟨h4,hm⟩,hp⟩,hi⟩ | ⟨rfl,⟨h4,hm⟩,hp⟩
       ·exact .inr (.inl ⟨rfl,h2,hss,by unfold cC;rw[if_neg (by omega),if_pos rfl]⟩)
       ·exact .inr (.inr (.inl ⟨rfl,h3,hss,by unfold cC;rw[if_neg (by omega),if_neg (by omega),if_pos rfl]⟩))
       ·exact .inr (.inr (.inr (.inl ⟨rfl,h4,hss,hm,hp,hi,by unfold cC;rw[if_neg (by omega),if_neg (by omega),if_neg (by omega),if_pos rfl]⟩)))
       ·exact .inr (.inr (.inr (.inr ⟨rfl,h4,hss,hm,hp,by unfold cC;rw[if_neg (by omega),if_neg (by omega),if_neg (by omega),if_neg (by omega),if_pos rfl]⟩)))
 ·exact .inl ⟨hE,by unfold bT;rw[if_pos hE]⟩
end
end Go.Proofs.YtddahhlbpcbddaaGreat
namespace Go.Proofs.YtddahhlbpcbddaaGreat
open Tryz
open Go.RowKit Go.Maps
set_option linter.unusedVariables false
theorem nv {k c s n f len:Nat} {bs:Nat→Nat} (hc:c<4294967296) (hs:s<4294967296) (hn:n<4294967296):(cR k c s n f len bs).1=0∨Told (cR k c s n f len bs) k c s n f len bs:=by
 by_cases h:LW k c s n f len len=0
 ·exact .inr (fL hc hs hn h)
 ·left
  unfold cR
  rw[if_neg h]
  rfl
def yw (P:Pm) (ap:Nat→Nat) (F:Fm):Prop:=F.1=0∨∃ k s n f len bs,Told F k P.c s n f len bs∧((17≤k∧k≤22∧k≠20∧k≠21∧n=0)∨(k=20∧n<P.n∧len=P.i∧bs=ap)∨(k=21∧n=P.n))
section
variable {P:Pm} {mx n:Nat} {s:Sd}
theorem iR (ap:Nat→Nat):yw P ap cV:=.inl rfl
theorem go (hP:Pok P) (ap:Nat→Nat) {s:Sd} (hs:s.ss<4294967296) {k:Nat} (hk:k=17∨k=18∨k=19∨k=22) (fl len:Nat) (bs:Nat→Nat):yw P ap (dI P s k 0 fl len bs):=by
 unfold dI
 rcases nv (k:=k) (f:=fl) (len:=len) (bs:=bs) hP.c hs (by decide:0<4294967296) with h | h
 ·exact .inl h
 ·exact .inr ⟨_,_,_,_,_,_,h,.inl ⟨by omega,by omega,by omega,by omega,rfl⟩⟩
theorem tQ (hP:Pok P) (ap:Nat→Nat) (M:Mo mx n s) (hu:s.st≠6):yw P ap (bj P mx n s).f:=by
 have hv:=t7 (mx:=mx) (n:=n) (s:=s.ms) M.n10 (M.off hu) M.l0 M.mxl
 have hm:=M.mxl
 unfold bj
 generalize nx mx n s.ms.bs false s.ms=X at *
 split
 ·exact go hP ap (by show 0<4294967296;decide) (by omega) _ _ _
 ·split
  ·exact iR ap
  ·next e0=>
   have e0:X.e=0:=by simpa using e0
   refine go hP ap ?_ (by omega) _ _ _
   show X.v<4294967296
   have:=hv.1 e0
   omega
theorem uu (hP:Pok P) (ap:Nat→Nat) (M:Mo mx n s) (hs:s.ss<4294967296) (hu:s.st≠6):yw P ap (bV P mx n s).f:=by
 unfold bV
 split
 ·exact go hP ap (ik hs) (by omega) _ _ _
 ·split
  ·exact go hP ap (ik hs) (by omega) _ _ _
  ·exact tQ hP ap M.odd (j3 hu)
theorem vH (hP:Pok P) (iv:Iv P s) (M:Mo mx n s) (hu:s.st≠6) (k ss num fl len:Nat) (bs:Nat→Nat):yw P s.ap (aR P mx n s k ss num fl len bs).f:=by
 have r:∀ x:Int,yw P s.ap (aN P s x).f:=fun x=>go hP _ (ik iv.ss) (by omega) _ _ _
 unfold aR
 split
 ·split
  ·exact uu hP _ M iv.ss hu
  ·exact r _
 ·split
  ·split
   ·refine go hP _ ?_ (by omega) _ _ _
    unfold bI
    split <;> exact iv.ss
   ·exact r _
  ·split
   ·refine go hP _ ?_ (by omega) _ _ _
    unfold cz
    split <;> exact iv.ss
   ·split
    ·next q=>
     have h1:=(iv.run q.2.1.2.1)
     have hn:=hP.n
     have hq:=q.2.1.2.2
     have hq2:=q.2.2.1
     unfold dI
     rcases nv (k:=20) (s:=(cW s num fl bs).ss) (n:=s.sn+1) (f:=iw (cW s num fl bs)) (len:=P.i) (bs:=s.ap) hP.c iv.ss (by omega) with h | h
     ·exact .inl h
     ·exact .inr ⟨_,_,_,_,_,_,h,.inr (.inl ⟨rfl,by omega,rfl,rfl⟩)⟩
    ·split
     ·have hs:(eO P s).ss<4294967296:=by
       show (aG (jh { s with nm:=P.n }) 80).ss<4294967296
       rw[(ej _ _).2.1]
       exact iv.ss
      unfold dI
      rcases nv (k:=21) (s:=(ld (eO P s)).ss) (n:=P.n) (f:=0) (len:=0) (bs:=fun _=>0) hP.c hs hP.n with h | h
      ·exact .inl h
      ·exact .inr ⟨_,_,_,_,_,_,h,.inr (.inr ⟨rfl,rfl⟩)⟩
     ·exact r _
theorem vT (hP:Pok P) (iv:Iv P s) (M:Mo mx n s) (len:Nat) (bs:Nat→Nat):yw P s.ap (au P mx n s len bs).f:=by
 have hh:s.st≠6→yw P s.ap (bF P mx n s len bs).f:=by
  intro hu
  unfold bF
  split
  ·exact iR _
  ·split
   ·exact iR _
   ·split
    ·exact iR _
    ·exact vH hP iv M hu _ _ _ _ _ _
 unfold au
 split
 ·exact iR _
 ·next hu=>
  split
  ·exact hh hu
  ·exact hh hu
end
def Hsy (P:Pm) (s:Sh) (F:Fm):Prop:=∃ k t n f len bs,Told F k P.c t n f len bs∧((1≤k∧k≤3∧n=0)∨(k=4∧n<P.n∧len=P.o∧bs=s.ap)∨(k=5∧n=P.n∧(aZ P s).st=5∧(aZ P s).v.lat≠0))
theorem uT {P:Pm} {s:Sh} (hP:Pok P) (hv:Ih P s):(aJ P s).1=0∨Hsy P s (aJ P s):=by
 by_cases h5:s.st=5
 ·left
  unfold aJ
  rw[if_pos h5]
  rfl
 ·right
  rcases (pF hP hv h5).2 with ⟨k,S,hk,⟨len,bs,t⟩,_⟩ | ⟨_,hn,t,_⟩ | ⟨_,hn,⟨len,bs,t⟩,h1,_,_,h2⟩
  ·exact⟨k,S,0,0,len,bs,t,.inl ⟨by omega,by omega,rfl⟩⟩
  ·exact⟨_,_,_,_,_,_,t,.inr (.inl ⟨rfl,hn,rfl,rfl⟩)⟩
  ·exact⟨_,_,_,_,_,_,t,.inr (.inr ⟨rfl,hn,h1,h2⟩)⟩
theorem tp (S:Ws) {m:Mv} (hb:S.bad m=0):((S.play m).i = -1∧(S.play m).S.bg=S.bg)∨∃ F:Fm,(S.play m).i=((S.bg.length:Nat):Int)∧(S.play m).S.bg=S.bg ++ [F]∧F.1≠0 ∧
  ((m.k=2∧F=aJ (S.PH m.c.toNat) (S.hs m.c.toNat))∨((m.k=3∨m.k=4)∧m.s≠1∧F=(au (S.PD m.c.toNat) S.mx 16 (S.ds m.c.toNat) (S.fr m).1 (S.fr m).2).f)):=by
 have hp:S.play m=⟨(S.up.act m).e,(S.up.act m).i,(S.up.act m).S.note [oH (S.up.act m).S m.c.toNat,oD (S.up.act m).S m.c.toNat]⟩:=by
  unfold Ws.play
  rw[if_neg (fun q=>q hb)]
  rfl
 have hput:∀ (T:Ws) (k s:Nat) (F:Fm),T.bg=S.bg→((T.putI F = -1∧(T.put k s F).bg=S.bg)∨(T.putI F=((S.bg.length:Nat):Int)∧(T.put k s F).bg=S.bg ++ [F]∧F.1≠0)):=by
  intro T k s F e
  unfold Ws.putI Ws.put
  by_cases z:F.1=0
  ·rw[if_pos z,if_pos z]
   exact .inl ⟨rfl,e⟩
  ·rw[if_neg z,if_neg z]
   exact .inr ⟨by rw[e],by show T.bg ++ [F]=_;rw[e],z⟩
 rw[hp]
 show ((S.up.act m).i = -1∧(S.up.act m).S.bg=S.bg)∨∃ F:Fm,(S.up.act m).i=((S.bg.length:Nat):Int)∧(S.up.act m).S.bg=S.bg ++ [F]∧F.1≠0∧_
 unfold Ws.act
 dsimp only
 split
 ·split
  ·exact .inl ⟨rfl,rfl⟩
  ·exact .inl ⟨rfl,rfl⟩
 ·split
  ·next h2=>
   unfold Ws.snd
   dsimp only
   rcases hput (S.up.setH m.c.toNat (aZ (S.up.PH m.c.toNat) (S.up.hs m.c.toNat))) m.c.toNat 1 (aJ (S.up.PH m.c.toNat) (S.up.hs m.c.toNat)) rfl with h | h
   ·exact .inl h
   ·exact .inr ⟨_,h.1,h.2.1,h.2.2,.inl ⟨h2,rfl⟩⟩
  ·split
   ·next h3=>
    split
    ·unfold Ws.toH
     dsimp only
     split
     ·exact .inl ⟨rfl,rfl⟩
     ·exact .inl ⟨rfl,rfl⟩
    ·next s1=>
     unfold Ws.toD
     dsimp only
     rcases hput (S.up.toD2 m.c.toNat (S.up.fr m)) m.c.toNat 2 (au (S.up.PD m.c.toNat) S.up.mx 16 (S.up.ds m.c.toNat) (S.up.fr m).1 (S.up.fr m).2).f (su _ _ _) with h | h
     ·exact .inl h
     ·exact .inr ⟨_,h.1,h.2.1,h.2.2,.inr ⟨h3,s1,rfl⟩⟩
   ·split
    ·split
     ·exact .inl ⟨rfl,rfl⟩
     ·exact .inl ⟨rfl,rfl⟩
    ·split
     ·split
      ·exact .inl ⟨rfl,rfl⟩
      ·exact .inl ⟨rfl,rfl⟩
     ·split
      ·split
       ·exact .inl ⟨rfl,rfl⟩
       ·exact .inl ⟨rfl,rfl⟩
      ·exact .inl ⟨rfl,rfl⟩
theorem tE {S:Ws} (I:S.In) (K:S.Kn) {m:Mv} (hb:S.bad m=0):((S.play m).i = -1∧(S.play m).S.bg=S.bg)∨∃ F:Fm,(S.play m).i=((S.bg.length:Nat):Int)∧(S.play m).S.bg=S.bg ++ [F] ∧
  ((m.k=2∧Hsy (S.PH m.c.toNat) (S.hs m.c.toNat) F)∨(m.k≠2∧m.s≠1∧yw (S.PD m.c.toNat) (S.ds m.c.toNat).ap F∧F.1≠0)):=by
 have l:=Ws.Law.of hb
 have hk:=l.kn
 rcases tp S hb with h | ⟨F,h1,h2,h3,⟨h4,e⟩ | ⟨h4,h5,e⟩⟩
 ·exact .inl h
 ·refine .inr ⟨F,h1,h2,.inl ⟨h4,?_⟩⟩
  rcases uT (K.ph _ hk) (I.ih _ hk) with y | y
  ·rw[← e]at y
   exact absurd y h3
  ·rw[← e]at y
   exact y
 ·refine .inr ⟨F,h1,h2,.inr ⟨by omega,h5,?_,h3⟩⟩
  have:=vT (K.pd _ hk) (I.iv _ hk) (K.mo _ hk) (S.fr m).1 (S.fr m).2
  rw[← e]at this
  exact this
end Go.Proofs.YtddahhlbpcbddaaGreat
namespace Go.Proofs.YtddahhlbpcbddaaGreat
open Tryz
open Go.RowKit Go.Maps
set_option linter.unusedVariables false
def Jd (P:Pm) (s:Sd):Prop:=s.nm≤P.n∧(s.nm=P.n→s.st=5∧s.v.lat≠0)
section
variable {P:Pm} {mx n:Nat} {s:Sd}
theorem iV (hP:Pok P) {s:Sd} (h:s.nm=0):Jd P s:=⟨by omega,fun e=>by have:=hP.n2;omega⟩
theorem vZ (h:Jd P s) (x:Int):Jd P (aG s x):=by
 obtain⟨l1,_,l3,_⟩:=ej s x
 refine⟨by rw[l3];exact h.1,fun e=>?_⟩
 rw[l3]at e
 rw[l1,gA]
 exact⟨(h.2 e).1,iI (h.2 e).2⟩
theorem rx (hP:Pok P) (h:Jd P s):Jd P (bP s):=by
 unfold bP
 split
 ·split
  ·exact h
  ·exact iV hP rfl
 ·exact h
theorem wh (hP:Pok P):Jd P (bj P mx n s).s:=by
 unfold bj
 generalize nx mx n s.ms.bs false s.ms=X at *
 split
 ·exact iV hP rfl
 ·split
  ·exact iV hP rfl
  ·exact iV hP rfl
theorem xZ (hP:Pok P) (h:Jd P s):Jd P (bV P mx n s).s:=by
 unfold bV
 split
 ·exact rx hP h
 ·split
  ·exact rx hP h
  ·exact wh hP
theorem xy (hP:Pok P) (h:Jd P s) (k ss num fl len:Nat) (bs:Nat→Nat):Jd P (aR P mx n s k ss num fl len bs).s:=by
 have r:∀ x:Int,Jd P (aN P s x).s:=fun x=>rx hP h
 unfold aR
 split
 ·split
  ·exact xZ hP h
  ·exact r _
 ·split
  ·split
   ·show Jd P (bI s)
    unfold bI
    split
    ·next e=>exact⟨h.1,fun q=>by have:=(h.2 q).1;omega⟩
    ·exact h
   ·exact r _
  ·split
   ·show Jd P (cz s)
    unfold cz
    split
    ·next e=>exact⟨h.1,fun q=>by have:=(h.2 q).1;omega⟩
    ·exact h
   ·split
    ·next q=>
     refine⟨Nat.le_of_lt q.2.2.1,fun e=>?_⟩
     have e:num=P.n:=e
     have:=q.2.2.1
     omega
    ·split
     ·have f:=ej (jh { s with nm:=P.n }) 80
      refine⟨by show (aG (jh { s with nm:=P.n }) 80).nm≤P.n;rw[f.2.2.1];exact Nat.le_refl _,fun _=>⟨rfl,?_⟩⟩
      show (eQ (aG (jh { s with nm:=P.n }) 80).v false).lat≠0
      rw[ju,gA]
      exact jE (by omega)
     ·exact r _
theorem yB (hP:Pok P) (h:Jd P s) (len:Nat) (bs:Nat→Nat):Jd P (au P mx n s len bs).s:=by
 have hh:Jd P (bF P mx n s len bs).s:=by
  unfold bF
  split
  ·exact h
  ·split
   ·exact h
   ·split
    ·exact h
    ·exact xy hP h _ _ _ _ _ _
 unfold au
 split
 ·exact h
 ·split
  ·exact hh
  ·exact hh
end
theorem aa9 {S:Ws} {m:Mv} {P:Pm} (hP:Pok P) (hk:S.PD m.c.toNat=P) (iv:Iv P (S.ds m.c.toNat)) (h:Jd P (S.ds m.c.toNat)):Jd P (S.actDF m):=by
 unfold Ws.actDF
 rw[hk]
 split
 ·split
  ·exact h
  ·unfold dP
   split
   ·exact h
   ·split
    ·exact h
    ·exact h
 ·split
  ·exact h
  ·split
   ·split
    ·exact h
    ·exact yB hP h _ _
   ·split
    ·split
     ·exact h
     ·unfold eK
      split
      ·exact h
      ·split
       ·exact h
       ·split
        ·exact vZ (s:={ S.ds m.c.toNat with dc:=tk P.t (S.ds m.c.toNat).dc m.n.toNat }) h 100
        ·exact h
    ·split
     ·split
      ·exact h
      ·unfold gq
       split
       ·exact h
       ·refine⟨h.1,fun e=>?_⟩
        have q:=h.2 e
        refine⟨q.1,?_⟩
        have hr:(S.ds m.c.toNat).v.run=false:=by rw[iv.vr,q.1];rfl
        show (jN (S.ds m.c.toNat).v).lat≠0
        unfold jN aq
        rw[hr,if_neg (by simp)]
        exact q.2
     ·split
      ·split
       ·exact h
       ·unfold cG
        split
        ·exact h
        ·exact iV hP rfl
      ·exact h
theorem zX {S:Ws} (I:S.In) (K:S.Kn) (m:Mv) {j:Nat} (hj:j<S.n) (h:Jd (S.PD j) (S.ds j)):Jd (S.PD j) ((S.play m).S.ds j):=by
 by_cases hb:S.bad m=0
 ·by_cases e:j=m.c.toNat
  ·subst e
   rw[(jA S hb).1]
   exact aa9 (K.pd _ hj) rfl (I.iv _ hj) h
  ·rw[(sU I K hb e).1]
   exact h
 ·have hp:(S.play m).S=S:=by
   unfold Ws.play
   rw[if_pos hb]
  rw[hp]
  exact h
theorem abb {S:Ws} {m:Mv} (h:(S.hs m.c.toNat).st=5) (h7:¬ (m.k=7∧m.s=1)):(S.actHF m).st=5:=by
 unfold Ws.actHF
 split
 ·split
  ·unfold dK
   split
   ·exact h
   ·exact h
  ·exact h
 ·split
  ·unfold aZ
   rw[if_pos h]
   exact h
  ·split
   ·split
    ·rcases oR (S.PH m.c.toNat) (S.hs m.c.toNat) (S.fr m).1 (S.fr m).2 with ⟨_,e⟩ | ⟨_,_,⟨_,h1,_⟩ | ⟨_,h1,_⟩ | ⟨_,h1,_⟩ | ⟨_,h1,_⟩ | ⟨_,h1,_⟩⟩
     ·rw[e]
      exact h
     ·omega
     ·omega
     ·omega
     ·omega
     ·omega
    ·exact h
   ·split
    ·split
     ·unfold eM
      split
      ·exact h
      ·split
       ·rw[(cX _ _).1]
        exact h
       ·exact h
     ·exact h
    ·split
     ·split
      ·exact h
      ·exact h
     ·split
      ·next q7=>
       split
       ·next q=>exact absurd ⟨q7,q⟩ h7
       ·exact h
      ·exact h
def Px (C:Nat):Pm:=⟨7,2,1,10,C⟩
structure Jx (C:Nat) (S:Ws) (ov:Bool):Prop where
 I:S.In
 n:S.n=1
 ph:S.PH 0=Px C
 pd:S.PD 0=Px C
 dj:Jd (Px C) (S.ds 0)
 ov:ov=true→(S.hs 0).st=5
theorem wP {S:Ws} {m:Mv} (hn:S.n=1) (hb:S.bad m=0):m.c.toNat=0∧m.c=0:=by
 have l:=Ws.Law.of hb
 have h1:m.c.toNat<S.n:=l.kn
 have h2:m.c=((m.c.toNat:Nat):Int):=l.c
 omega
theorem Jx.next {C:Nat} {S:Ws} {ov:Bool} (h:Jx C S ov) (K:S.Kn) {m:Mv} (hb:S.bad m=0) :
  Jx C (S.play m).S (if m.k=7∧m.s=1 then false else ov) ∧
  (((S.play m).i = -1∧(S.play m).S.bg=S.bg)∨∃ F:Fm,(S.play m).i=((S.bg.length:Nat):Int)∧(S.play m).S.bg=S.bg ++ [F]∧DE F.2 F.1=0∧aC F.2 9≤C∧(aC F.2 9=C ↔ F.2 0=5∨F.2 0=21)∧(F.2 0=5→((S.play m).S.hs 0).st=5∧((S.play m).S.hs 0).v.lat≠0∧Jx C (S.play m).S true)):=by
 obtain⟨c0,_⟩:=wP h.n hb
 obtain⟨e1,e2,e3⟩:=jA S hb
 obtain⟨f1,f2,f3⟩:=kS h.I K m
 have I':=h.I.play K (m:=m)
 have hn':(S.play m).S.n=1:=by rw[us];exact h.n
 have d':Jd (Px C) ((S.play m).S.ds 0):=by
  have:=zX h.I K m (j:=0) (by rw[h.n];decide) (by rw[h.pd];exact h.dj)
  rw[h.pd]at this
  exact this
 have J:∀ o:Bool,(o=true→((S.play m).S.hs 0).st=5)→Jx C (S.play m).S o:=fun o ho=>⟨I',hn',by rw[f1];exact h.ph,by rw[f2];exact h.pd,d',ho⟩
 have hP:Pok (Px C):=by have:=K.pd 0 (by rw[h.n];decide);rw[h.pd]at this;exact this
 have hC:2≤C:=hP.n2
 refine⟨J _ ?_,?_⟩
 ·split
  ·exact fun q=>by cases q
  ·next h7=>
   intro q
   have:=abb (S:=S) (m:=m) (by rw[c0];exact h.ov q) h7
   rw[c0]at e2
   rw[e2]
   exact this
 ·rcases tE h.I K hb with y | ⟨F,y1,y2,⟨y3,k,t,n,f,len,bs,T,y4⟩ | ⟨y3,_,y4 | ⟨k,t,n,f,len,bs,T,y4⟩,y5⟩⟩
  ·exact .inl y
  ·refine .inr ⟨F,y1,y2,T.de,?_⟩
   rw[T.n,T.k]
   rw[c0,h.ph]at y4
   have pc:(Px C).n=C:=rfl
   rw[pc]at y4
   refine⟨by omega,by omega,fun q=>?_⟩
   subst q
   rcases y4 with y | y | y
   ·omega
   ·omega
   ·have hh:(S.play m).S.hs 0=aZ (Px C) (S.hs 0):=by
     rw[c0]at e2
     rw[e2]
     unfold Ws.actHF
     rw[if_neg (by omega),if_pos y3,c0,h.ph]
    rw[hh]
    exact⟨y.2.2.1,y.2.2.2,J true (fun _=>by rw[hh];exact y.2.2.1)⟩
  ·exact absurd y4 y5
  ·refine .inr ⟨F,y1,y2,T.de,?_⟩
   rw[T.n,T.k]
   rw[c0,h.pd]at y4
   have pc:(Px C).n=C:=rfl
   rw[pc]at y4
   refine⟨by omega,by omega,fun q=>?_⟩
   omega
theorem Jx.skip {C:Nat} {S:Ws} {ov:Bool} (h:Jx C S ov) {m:Mv} (hb:S.bad m≠0):Jx C (S.play m).S ov:=by
 have hp:(S.play m).S=S:=by
  unfold Ws.play
  rw[if_pos hb]
 rw[hp]
 exact h
theorem Jx.show_ {C:Nat} {S:Ws} {ov:Bool} (h:Jx C S ov):(ov=true→(S.hs 0).st=5∧aE (S.hs 0).v=false)∧(S.ds 0).nm≤C∧((S.ds 0).nm=C→(S.ds 0).st=5∧aE (S.ds 0).v=false∧(S.ds 0).v.lat≠0):=by
 have k0:0<S.n:=by rw[h.n];decide
 have off:∀ {v:Vs} {st:Nat},v.run=decide (st=4)→st=5→aE v=false:=fun {v st} r e=>by
  unfold aE
  rw[r,e]
  rfl
 refine⟨fun o=>⟨h.ov o,off (h.I.ih 0 k0).vr (h.ov o)⟩,h.dj.1,fun e=>⟨(h.dj.2 e).1,off (h.I.iv 0 k0).vr (h.dj.2 e).1,(h.dj.2 e).2⟩⟩
end Go.Proofs.YtddahhlbpcbddaaGreat
namespace Go.Proofs.YtddahhlbpcbddaaGreat
open Tryz
open Go.RowKit Go.Maps Go.Sort
set_option linter.unusedVariables false
theorem pqC {w:World} {g C:Nat} {cur:Array Value} {T:TypeId} {z:Nat × Nat} (h:w.heap[g]?=some (.cells (cur.setIfInBounds 4 (.int .u32 (C:Nat))) T z)) (a:∀ (j:Nat) (u:Value),(ei 1 fo)[j]?=some u→cur[j]?=some u):PqRow w (af g 0) 1 (fun _=>(Px C).q):=fun i hi=>by
 obtain rfl:i=0:=by omega
 refine⟨g,0,rfl,fun j u hu=>?_⟩
 rw[show 0+0*5+j=j by omega,ae w g j _ _ _ h,Array.getElem?_setIfInBounds]
 have s4:4<cur.size:=(Array.getElem?_eq_some_iff.1 (a 4 (.int .u32 9) rfl)).1
 rcases (by omega:j=0∨j=1∨j=2∨j=3∨j=4∨5≤j) with rfl | rfl | rfl | rfl | rfl | h5
 ·rw[if_neg (by decide)];exact a 0 u (by rw[← hu];rfl)
 ·rw[if_neg (by decide)];exact a 1 u (by rw[← hu];rfl)
 ·rw[if_neg (by decide)];exact a 2 u (by rw[← hu];rfl)
 ·rw[if_neg (by decide)];exact a 3 u (by rw[← hu];rfl)
 ·rw[if_pos rfl,if_pos s4,← hu];rfl
 ·exfalso
  have e:((Px C).q.cs)[j]?=none:=List.getElem?_eq_none (show ((Px C).q.cs).length≤j from h5)
  have hu:((Px C).q.cs)[j]?=some u:=hu
  rw[e]at hu
  cases hu
theorem aa7 (C:Nat) (w:World):Calls prog 9 #[.int .i64 0,.int .u32 (C:Nat)] w fun r w'=>∃ g0 c0 g1 c1,r=.returned (.agg #[.slice (af g0 0) 1 c0,.slice (af g1 0) 1 c1,.int .u32 50])∧Hid (1≤c0∧1≤c1∧PqRow w' (af g0 0) 1 (fun _=>(Px C).q)∧PqRow w' (af g1 0) 1 (fun _=>(Px C).q)∧Below w.heap.size w w'):=by
 have hP:=fun wx=>yG wx
 have kx:=ay w (.cells #[.slice none 0 0,.slice none 0 0,.int .u32 0] 30)
 have bx:=az (Below.refl _ w) (.cells #[.slice none 0 0,.slice none 0 0,.int .u32 0] 30)
 have zx:=iy w (.cells #[.slice none 0 0,.slice none 0 0,.int .u32 0] 30)
 go_enter func9,ntmps9
 go_wp2_with fail
 refine (hP _).mono ?_
 rintro r w1 ⟨a0,c0,a1,c1,rfl,H1⟩
 obtain⟨g0,rfl,hg0⟩:=fM H1.out.1 (by decide)
 obtain⟨g1,rfl,hg1⟩:=fM H1.out.2.1 (by decide)
 clear hP
 have b1:=H1.out.2.2.2
 have kx1:=(b1.block w.heap.size (by rw[zx];omega)).trans kx
 have b2:Below w1.heap.size w1 (w1.alloc (.cells #[.slice (af g0 0) 1 c0,.slice (af g1 0) 1 c1,.int .u32 50] 30)):=az (Below.refl _ _) _
 have ky:=ay w1 (.cells #[.slice (af g0 0) 1 c0,.slice (af g1 0) 1 c1,.int .u32 50] 30)
 have lx1:w.heap.size<w1.heap.size:=(Array.getElem?_eq_some_iff.1 kx1).1
 have kx2:=(b2.block w.heap.size lx1).trans kx1
 have o0:=bk H1.out.1 b2
 have o1:=bk H1.out.2.1 b2
 have hg01:g0≠g1:=fun e=>H1.out.2.2.1 g0 rfl (by rw[e];rfl)
 obtain⟨w2,hw2⟩:∃ z,(w1.alloc (.cells #[.slice (af g0 0) 1 c0,.slice (af g1 0) 1 c1,.int .u32 50] 30))=z:=⟨_,rfl⟩
 rw[hw2]at ky kx2 o0 o1 b2
 obtain⟨cur0,k0⟩:=aL o0 rfl
 obtain⟨cur1,k1⟩:=aL o1 rfl
 have own_at0:∀ j u,(ei 1 fo)[j]?=some u→cur0[j]?=some u:=fun j u hu=>(ae w2 g0 j _ _ _ k0).symm.trans (fN o0 j u hu)
 have own_at1:∀ j u,(ei 1 fo)[j]?=some u→cur1[j]?=some u:=fun j u hu=>(ae w2 g1 j _ _ _ k1).symm.trans (fN o1 j u hu)
 have e00:w2.cell? ⟨g0,4,none⟩=some (.int .u32 9):=(ae w2 g0 4 _ _ _ k0).trans (own_at0 (4) _ rfl)
 have z00:w2.frozen? ⟨g0,4,none⟩=false:=frozen_of_row w2 g0 4 _ _ k0
 have e10:w2.cell? ⟨g1,4,none⟩=some (.int .u32 9):=(ae w2 g1 4 _ _ _ k1).trans (own_at1 (4) _ rfl)
 have z10:w2.frozen? ⟨g1,4,none⟩=false:=frozen_of_row w2 g1 4 _ _ k1
 have y0:=ae w2 _ 0 _ _ _ ky
 have y1:=ae w2 _ 1 _ _ _ ky
 have y2:=ae w2 _ 2 _ _ _ ky
 have x0:=ae w2 _ 0 _ _ _ kx2
 have x1:=ae w2 _ 1 _ _ _ kx2
 have x2:=ae w2 _ 2 _ _ _ kx2
 have xz:=fun k=>frozen_of_row w2 _ k _ _ kx2
 have HF:Hid (_):=And.intro o0 (And.intro o1 (And.intro b2 (And.intro b1 (And.intro hg0 hg1))))
 have HE:Hid ((w1.alloc (.cells #[.slice (af g0 0) 1 c0,.slice (af g1 0) 1 c1,.int .u32 50] 30))=w2):=hw2
 have HX:Hid (_):=And.intro bx zx
 have HKK:Hid (_):=And.intro k0 (And.intro k1 (And.intro own_at0 (And.intro own_at1 hg01)))
 clear ky kx2 o0 o1 b2 b1 k0 k1 own_at0 own_at1 kx kx1 hw2 H1 bx
 go_upto_region 2 with fail
 rw[HE.out]
 go_wp2_with fail
 refine wp_loop_rounds 2 ?_
 rw[rounds_succ]
 go_wp2_with fail
 rw[rounds_succ]
 go_wp2_with fail
 refine bodyPost_ret (v:=.agg #[.slice (af g0 0) 1 c0,.slice (af g1 0) 1 c1,.int .u32 50]) (by simp[results,results9,go_sem,x0,x1,x2]) rfl ?_
 obtain⟨k0,k1,a0,a1,h01⟩:=HKK.out
 obtain⟨o0,o1,b2,b1,hg0,hg1⟩:=HF.out
 obtain⟨bx,zx⟩:=HX.out
 have g0s:w.heap.size+1≤g0:=by have:=(o0.lt g0 rfl).1;omega
 have g1s:w.heap.size+1≤g1:=by have:=(o1.lt g1 rfl).1;omega
 have oz3:Off [w.heap.size] ((w2.setCell ⟨g0,4,none⟩ (.int .u32 (C:Nat))).setCell ⟨g1,4,none⟩ (.int .u32 (C:Nat))) (((((w2.setCell ⟨g0,4,none⟩ (.int .u32 (C:Nat))).setCell ⟨g1,4,none⟩ (.int .u32 (C:Nat))).setCell ⟨w.heap.size,0,none⟩ (.slice (af g0 0) 1 c0)).setCell ⟨w.heap.size,1,none⟩ (.slice (af g1 0) 1 c1)).setCell ⟨w.heap.size,2,none⟩ (.int .u32 50)):=((Off.setCell _ _ _ _).trans (Off.setCell _ _ _ _)).trans (Off.setCell _ _ _ _)
 have r0:=heap_setCell_same w2 g0 4 _ _ (.int .u32 (C:Nat)) k0
 have r1:(w2.setCell ⟨g0,4,none⟩ (.int .u32 (C:Nat))).heap[g1]?=_:=((Off.setCell g0 4 w2 (.int .u32 (C:Nat))).block g1 (Array.getElem?_eq_some_iff.1 k1).1 (by simp;exact fun e=>h01 e.symm)).trans k1
 have r2:=heap_setCell_same (w2.setCell ⟨g0,4,none⟩ (.int .u32 (C:Nat))) g1 4 _ _ (.int .u32 (C:Nat)) r1
 have r3:=((Off.setCell g1 4 (w2.setCell ⟨g0,4,none⟩ (.int .u32 (C:Nat))) (.int .u32 (C:Nat))).block g0 (Array.getElem?_eq_some_iff.1 r0).1 (by simp;exact h01)).trans r0
 have q0:=(oz3.block g0 (Array.getElem?_eq_some_iff.1 r3).1 (by simp;omega)).trans r3
 have q1:=(oz3.block g1 (Array.getElem?_eq_some_iff.1 r2).1 (by simp;omega)).trans r2
 have bz:Below w.heap.size w w2:=(bx.trans (b1.mono bx.size)).trans (b2.mono (Nat.le_trans bx.size b1.size))
 have s2:w.heap.size≤w2.heap.size:=bz.size
 refine⟨g0,c0,g1,c1,rfl,iO o0 (by decide),iO o1 (by decide),pqC q0 a0,pqC q1 a1,oz3.below ((Off.setCell g1 4 (w2.setCell ⟨g0,4,none⟩ (.int .u32 (C:Nat))) (.int .u32 (C:Nat))).below ((Off.setCell g0 4 w2 (.int .u32 (C:Nat))).below bz (fun k hk=>by simp at hk;omega) s2) (fun k hk=>by simp at hk;omega) (by simp;exact s2)) (fun k hk=>by simp at hk;omega) (by simp;exact s2)⟩
end Go.Proofs.YtddahhlbpcbddaaGreat
