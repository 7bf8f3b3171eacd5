/- Part 28: contracts that the proof rests on. -/
import Derived.Deep.DeepCutAuto
import Derived.Deep.CutBlock
import Derived.Deep.RegionWith
import Derived.Test.YtenilkloffnjlaaGreatPkO26
set_option maxHeartbeats 64000000
set_option maxRecDepth 100000
namespace Go.Proofs.YtenilkloffnjlaaGreat
open Tryz
open Go.RowKit Go.Maps
set_option linter.unusedVariables false
def fi:Value→Nat
 | .int _ i=>i.toNat
 | _=>0
theorem PWn.lay2 {e:Nat→Nat} {w0 w w1:World} {t:Nat→Thing} {L:Pw} {S:Ws} (h:PWn e w0 t L w1 S) (b:Below w1.heap.size w1 w) {i j:Nat} (hi:∀ q,i≠e q) (hj:∀ q,j≠e q) (hij:i≠j) {a a':Option Addr} {n n' c c':Nat} {bs bs':Nat→Nat} (R:Row8 w a n c bs) (R':Row8 w a' n' c' bs') (na:∀ y,a=some y→0<n→w1.heap.size≤y.block) (nb:∀ y,a'=some y→0<n'→w1.heap.size≤y.block) (ap:∀ y z,a=some y→a'=some z→0<n→0<n'→y.block≠z.block):PWn e w0 (aI (aI t i (dA a n c bs)) j (dA a' n' c' bs')) L w S:=by
 obtain⟨t1,L1,h1,hs,hx,he⟩:=h
 have h2:=h1.lay b hi R na
 have h3:=h2.layD hj R' (fun y hy h0=>Nat.le_trans h1.1.bel.size (nb y hy h0)) (fun y hy h0 k hk hm=>by
  by_cases z:k=i
  ·subst z
   rw[ak]at hm
   have hm:y.block ∈ (if 0<n then a.toList.map (·.block) else []):=hm
   split at hm
   ·next q=>
    simp only[List.mem_map,Option.mem_toList]at hm
    obtain⟨y',hy',e'⟩:=hm
    exact ap y' y hy' hy q h0 e'
   ·cases hm
  ·rw[al _ _ z]at hm
   have:=h1.1.lt k _ hm
   have:=nb y hy h0
   omega)
 exact⟨_,L1,h3,hs,hx,(he.putB _ _).putB _ _⟩
theorem jm {w0 w:World} {t:Nat→Thing} {L:Pw} {S:Ws} {i:Nat} (m:Mv) (d:Option Addr) (c:Nat) (h:PWn ev w0 t L w S) (F:Fre ev t i) (I:S.In) (ok:m.Ok) (hn:0<S.n) (R:Row8 w d m.l c m.b) (hd:∀ y,d=some y→0<m.l→y.block≠L.x) (hl:m.l≤140737488351232):Calls prog 11 #[ac L.x 0,.agg (aj m m.c d c)] w fun r w'=>∃ (A:Array Value) (E:Int),r=.returned (.tuple #[.agg A,.int .i64 E])∧A.size=29∧A.all (·.oneCell')=true∧Hid (E=S.bad m∧PWn ev w0 t L w' (S.play m).S∧(S.bad m=0→A.toList[9]?=some (.int .i64 (S.play m).e)∧A.toList[10]?=some (.int .i64 (S.play m).i)∧∃ (hV dV:Array Value) (ah:Option Addr) (ch:Nat) (ad:Option Addr) (cd:Nat),hV=#[Value.int .i64 (((S.play m).S.hs m.c.toNat).st:Nat),Value.int .u32 (((S.play m).S.hs m.c.toNat).ss:Nat),Value.int .u32 (((S.play m).S.hs m.c.toNat).nm:Nat),Value.int .u32 (((S.play m).S.hs m.c.toNat).sn:Nat),Value.int .i64 (((S.play m).S.hs m.c.toNat).dc:Nat),Value.int .i64 ((S.play m).S.hs m.c.toNat).v.lat,Value.bool (aq ((S.play m).S.hs m.c.toNat).v),Value.bool (aF ((S.play m).S.hs m.c.toNat).v),Value.slice ah ((S.play m).S.PH m.c.toNat).i ch]∧dV=#[Value.int .i64 (((S.play m).S.ds m.c.toNat).st:Nat),Value.int .u32 (((S.play m).S.ds m.c.toNat).ss:Nat),Value.int .u32 (((S.play m).S.ds m.c.toNat).nm:Nat),Value.int .u32 (((S.play m).S.ds m.c.toNat).sn:Nat),Value.int .i64 (((S.play m).S.ds m.c.toNat).dc:Nat),Value.int .i64 ((S.play m).S.ds m.c.toNat).v.lat,Value.bool (aq ((S.play m).S.ds m.c.toNat).v),Value.bool (aF ((S.play m).S.ds m.c.toNat).v),Value.slice ad ((S.play m).S.PD m.c.toNat).o cd]∧(∀ j v,hV.toList[j]?=some v→A.toList[11+j]?=some v)∧(∀ j v,dV.toList[j]?=some v→A.toList[20+j]?=some v)∧Row8 w' ah ((S.play m).S.PH m.c.toNat).i ch (bT ((S.play m).S.hs m.c.toNat).v)∧Row8 w' ad ((S.play m).S.PD m.c.toNat).o cd (bT ((S.play m).S.ds m.c.toNat).v))):=by
 obtain⟨t1,L1,h1,hs,hx,he⟩:=h
 subst hs
 have F1:=F.els he
 have hP:=rA ev w0 w t1 L1 i m d c h1 F1 I ok hn R (fun y hy h0=>by rw[hx.x];exact hd y hy h0) hl
 rw[hx.x]at hP
 refine hP.mono ?_
 rintro r w' (⟨hb,rfl,H⟩ | ⟨hb,a',c',ah,ch,ad,cd,rfl,H⟩)
 ·refine⟨_,_,rfl,rfl,by kernel_rfl,rfl,?_,fun q=>absurd q hb⟩
  have hp:(L1.S.play m).S=L1.S:=by
   unfold Ws.play
   rw[if_pos hb]
  rw[hp]
  exact PWn.bind hx he H.out.1.n
 ·have r1:=H.out.rowq (q:=2 * (i+2)+1) (fun j=>by unfold ev;omega) (by unfold xv;rw[al _ _ (by omega)];exact ak _ _ _)
  have r2:=H.out.rowq (q:=2 * (i+3)+1) (fun j=>by unfold ev;omega) (by unfold xv;exact ak _ _ _)
  exact⟨_,_,rfl,rfl,by kernel_rfl,hb.symm,PWn.bind hx he (H.out.dropR F1),fun _=>⟨rfl,rfl,_,_,ah,ch,ad,cd,rfl,rfl,at9 (n:=11) rfl rfl rfl rfl rfl rfl rfl rfl rfl,at9 (n:=20) rfl rfl rfl rfl rfl rfl rfl rfl rfl,r1,r2⟩⟩
open Go.RowKit
theorem aaf {c:Nat} (hc:c≠0):LW ((1:Nat):Int) c (0:Nat) (0:Nat) (0:Nat) (4:Nat) (4:Nat)=0:=by
 unfold LW
 rw[if_neg (by decide),if_neg (by omega),if_neg (by decide),if_neg (by decide),if_neg (by decide),if_neg (by decide)]
theorem aag {c s:Nat} (hc:c≠0) (hs:s≠0):LW ((2:Nat):Int) c s (0:Nat) (0:Nat) (4:Nat) (4:Nat)=0:=by
 unfold LW
 rw[if_neg (by decide),if_neg (by omega),if_neg (by decide),if_neg ?_,if_neg (by decide),if_neg (by decide)]
 show ¬ dj 2 s=false
 unfold dj
 simp
 exact hs
theorem aah {c s:Nat} (hc:c≠0) (hs:s≠0):LW ((3:Nat):Int) c s (0:Nat) (0:Nat) (0:Nat) (0:Nat)=0:=by
 unfold LW
 rw[if_neg (by decide),if_neg (by omega),if_neg (by decide),if_neg ?_,if_neg (by decide),if_neg (by decide)]
 show ¬ dj 3 s=false
 unfold dj
 simp
 exact hs
theorem aai {c s n f len:Nat} (hc:c≠0) (hs:s≠0) (hn:n≠0) (hf:f≤15) (h1:1≤len) (h8:len≤8):LW ((4:Nat):Int) c s n f len len=0:=by
 have e1:vW ((4:Nat):Int)=15:=by decide
 have e2:ll ((4:Nat):Int)=true:=by decide
 have e3:fe ((4:Nat):Int) len=decide ((1:Int)≤len∧(len:Int)≤8):=rfl
 unfold LW
 rw[if_neg (by decide),if_neg (by omega),if_neg ?_,if_neg ?_,if_neg ?_,if_neg ?_]
 ·rw[e1];omega
 ·rw[e2];simp;exact hn
 ·show ¬ dj 4 s=false
  unfold dj
  simp
  exact hs
 ·rw[e3];simp;omega
theorem sE (s:Sh):bc s≤15:=by
 unfold bc
 split <;> split <;> split <;> split <;> omega
structure Told (F:Fm) (k c s n f len:Nat) (bs:Nat→Nat):Prop where
 de:DE F.2 F.1=0
 ln:F.1-19=len
 k:F.2 0=k
 c:aX F.2 1=c
 s:aX F.2 5=s
 n:aX F.2 9=n
 f:F.2 13=f
 bs:∀ j,j<len→F.2 (15+j)=bs j
theorem eJ {k c s n f len:Nat} {bs:Nat→Nat} (hc:c<4294967296) (hs:s<4294967296) (hn:n<4294967296) (h:LW k c s n f len len=0):Told (dE k c s n f len bs) k c s n f len bs:=by
 have hl:len≤8:=by have:=(gN h).2.2.2.1;omega
 obtain⟨e1,e2,e3,e4,e5,e6,e7⟩:=qP k c s n f len bs hc hs hn hl h
 have hF:dE k c s n f len bs=(15+len+4,PM.sl (fr k c s n f len bs) (15+len)):=if_pos h
 rw[hF]
 exact⟨e1,by show 15+len+4-19=len;omega,e2,e3,e4,e5,e6,e7⟩
section
variable {P:Pm} {s:Sh}
end
end Go.Proofs.YtenilkloffnjlaaGreat
namespace Go.Proofs.YtenilkloffnjlaaGreat
open Tryz
open Go.RowKit Go.Maps
set_option linter.unusedVariables false
section
variable {P:Pm} {mx n:Nat} {s:Sd}
end
end Go.Proofs.YtenilkloffnjlaaGreat
namespace Go.Proofs.YtenilkloffnjlaaGreat
open Tryz
open Go.RowKit
theorem yL {c s:Nat} (hc:c≠0) (hs:s≠0):LW ((17:Nat):Int) c s (0:Nat) (0:Nat) (4:Nat) (4:Nat)=0:=by
 unfold LW
 rw[if_neg (by decide),if_neg (by omega),if_neg (by decide),if_neg ?_,if_neg (by decide),if_neg (by decide)]
 show ¬ dj 17 s=false
 unfold dj
 simp
 exact hs
theorem yM {c s:Nat} (hc:c≠0) (hs:s≠0):LW ((18:Nat):Int) c s (0:Nat) (0:Nat) (0:Nat) (0:Nat)=0:=by
 unfold LW
 rw[if_neg (by decide),if_neg (by omega),if_neg (by decide),if_neg ?_,if_neg (by decide),if_neg (by decide)]
 show ¬ dj 18 s=false
 unfold dj
 simp
 exact hs
theorem yN {c s:Nat} (hc:c≠0) (hs:s≠0):LW ((19:Nat):Int) c s (0:Nat) (0:Nat) (0:Nat) (0:Nat)=0:=by
 unfold LW
 rw[if_neg (by decide),if_neg (by omega),if_neg (by decide),if_neg ?_,if_neg (by decide),if_neg (by decide)]
 show ¬ dj 19 s=false
 unfold dj
 simp
 exact hs
theorem yO {c s n f len:Nat} (hc:c≠0) (hs:s≠0) (hn:n≠0) (hf:f≤15) (h1:1≤len) (h8:len≤8):LW ((20:Nat):Int) c s n f len len=0:=by
 have e1:vW ((20:Nat):Int)=15:=by decide
 have e2:ll ((20:Nat):Int)=true:=by decide
 have e3:fe ((20:Nat):Int) len=decide ((1:Int)≤len∧(len:Int)≤8):=rfl
 unfold LW
 rw[if_neg (by decide),if_neg (by omega),if_neg ?_,if_neg ?_,if_neg ?_,if_neg ?_]
 ·rw[e1];omega
 ·rw[e2];simp;exact hn
 ·show ¬ dj 20 s=false
  unfold dj
  simp
  exact hs
 ·rw[e3];simp;omega
theorem ie {P:Pm} {s:Sh} {F:Fm} {k c S n f len:Nat} {bs:Nat→Nat} (t:Told F k c S n f len bs):dF P s F.1 F.2=cX P s k c S n len (fun i=>F.2 (15+i)) ∧
  (cX P s k c S n len (fun i=>F.2 (15+i))=0→cH P s F.1 F.2=bZ s k S n f (fun i=>F.2 (15+i)))∧(cX P s k c S n len (fun i=>F.2 (15+i))≠0→cH P s F.1 F.2=fC s (cX P s k c S n len (fun i=>F.2 (15+i)))):=by
 have e:dF P s F.1 F.2=cX P s k c S n len (fun i=>F.2 (15+i)):=by unfold dF;rw[if_neg (by rw[t.de];omega),t.k,t.c,t.s,t.n,t.ln]
 refine⟨e,fun h=>?_,fun h=>?_⟩
 ·unfold cH;rw[e,if_neg (by omega),t.k,t.s,t.n,t.f]
 ·unfold cH;rw[e,if_pos h]
open Go.RowKit Go.Maps
set_option linter.unusedVariables false
theorem fW {P:Pm} {mx n:Nat} {s:Sd} {F:Fm} {k S num f len:Nat} {bs:Nat→Nat} (t:Told F k P.c S num f len bs) (hk:gm k=true) (hu:s.st≠6) (he:(aP P mx n s k S num f len (fun i=>F.2 (15+i))).e=0):ax P mx n s F.1 F.2=aP P mx n s k S num f len (fun i=>F.2 (15+i)):=by
 have hh:bY P mx n s F.1 F.2=aP P mx n s k S num f len (fun i=>F.2 (15+i)):=by
  unfold bY
  rw[if_neg (by rw[t.de];omega),if_neg (by rw[t.k,hk];simp),if_neg (by rw[t.c];omega),t.k,t.s,t.n,t.f,t.ln]
 unfold ax
 rw[if_neg hu,hh,if_neg (by rintro ⟨e,_⟩;exact e he)]
theorem kL {P:Pm} {F:Fm} {k c S n f:Nat} (t:Told F k c S n f 4 (jA P)):aS P 4 (fun i=>F.2 (15+i))=true:=decide_eq_true (nt _ _ 4 t.bs)
structure Pj (h:Sh) (d:Sd) (k a:Nat):Prop where
 hst:h.st=k
 dst:d.st=k
 hss:h.ss=if k=1 then 0 else 1
 dss:d.ss=if k=1 then 0 else 1
 hnm:h.nm=a
 hsn:h.sn=a
 dnm:d.nm=a
 dsn:d.sn=a
 wt:h.wt=false
 m0:k=1→d.ms=M0
structure Ex (P:Pm) (mx:Nat) (h:Sh) (d:Sd) (F:Fm) (R:Rs) (h2:Sh) (k a:Nat):Prop where
 f1:F.1≠0
 re:R.e=0
 rf:R.f.1≠0
 he:dF P (aG P h) R.f.1 R.f.2=0
 pj:Pj h2 R.s (if k=4 then 4 else k+1) (if k=4 then a+1 else a)
 hl:h2.v.lat=h.v.lat
 dl:R.s.v.lat=d.v.lat
 hv:h2.v.fr=(h.v.lat != 0)
 dv:2≤k→R.s.v.fr=(d.v.lat != 0)
 ha:h2.ap=h.ap∧h2.hd=h.hd
 da:R.s.ap=d.ap∧R.s.hd=d.hd
 on:k=4→∃ fh fd:Nat→Nat,(∀ i,i<P.o→fh i=h.ap i)∧(∀ i,i<P.i→fd i=d.ap i)∧R.s.v=dI (fH (dM d.v) (decide (8≤bc h))) fh∧h2.v=dI (fH (dM h.v) (decide (8≤cV R.s))) fd
 hdc:h2.dc=0
 ddc:2≤k→R.s.dc=0
theorem fG {F:Fm} {k c s n f len:Nat} {bs:Nat→Nat} (t:Told F k c s n f len bs):F.1≠0:=fun e=>by
 have h:=t.de
 unfold DE at h
 rw[if_pos (by omega)]at h
 cases h
theorem sh (s:Sd):cV s≤15:=by
 unfold cV
 split <;> split <;> split <;> split <;> omega
theorem kY (v:Vs) (bs:Nat→Nat):(dI v bs).lat=v.lat:=by unfold dI;split <;> rfl
section
variable {P:Pm} {mx:Nat} {h:Sh} {d:Sd}
theorem n6 {s:Sh} (h:s.wt=false):cC s=s:=by
 unfold cC
 rw[if_pos (.inr h)]
theorem yE (hP:Pok P) (hmx:mx≠0) (hmx2:mx<4294967296) {k a:Nat} (J:Pj h d k a) (hk:k=1∨k=2∨k=3∨k=4) (ha:if k=4 then a+1<P.n else a=0) :
  gw h=0∧Ex P mx h d (aB P h) (ax P mx 16 d (aB P h).1 (aB P h).2) (cH P (aG P h) (ax P mx 16 d (aB P h).1 (aB P h).2).f.1 (ax P mx 16 d (aB P h).1 (aB P h).2).f.2) k a:=by
 have hc:=hP.c
 have c0:=hP.c0
 have h5:h.st≠5:=by rw[J.hst];omega
 have hn:=hP.n
 refine⟨by unfold gw;rw[if_neg h5],?_⟩
 have eS:aG P h={ (bI P h).1 with wt:=true }:=by unfold aG;rw[if_neg h5,n6 J.wt]
 have eF:aB P h=(bI P h).2:=by unfold aB;rw[if_neg h5,n6 J.wt]
 have hu:d.st≠6:=by rw[J.dst];omega
 rcases hk with rfl | rfl | rfl | rfl
 ·-- the wish,and the offer
  have en:bI P h=(h,dE 1 P.c 0 0 0 4 (jA P)):=by unfold bI;rw[if_pos J.hst]
  have t:Told (aB P h) 1 P.c 0 0 0 4 (jA P):=by rw[eF,en];exact eJ hc (by omega) (by omega) (aaf c0)
  obtain⟨n1,n2⟩:=xU mx hmx
  have hb:ck P mx 16 d=⟨{ cF { d with ms:=(nx mx 16 M0.bs false M0).s } 2 with ss:=1 },fK P { cF { d with ms:=(nx mx 16 M0.bs false M0).s } 2 with ss:=1 },0⟩:=by
   rw[pS P mx 16 J.dst]
   unfold bO
   rw[J.m0 rfl,if_neg (by rw[n1];decide),if_neg (by rw[n1];decide),n2]
  have ht:aP P mx 16 d 1 0 0 0 4 (fun i=>(aB P h).2 (15+i))=⟨{ cF { d with ms:=(nx mx 16 M0.bs false M0).s } 2 with ss:=1 },fK P { cF { d with ms:=(nx mx 16 M0.bs false M0).s } 2 with ss:=1 },0⟩:=by
   unfold aP
   rw[if_pos rfl,if_pos (kL t),hb]
  have e:=fW (mx:=mx) (n:=16) t rfl hu (by rw[ht])
  rw[ht]at e
  rw[e]
  have t2:Told (fK P { cF { d with ms:=(nx mx 16 M0.bs false M0).s } 2 with ss:=1 }) 17 P.c 1 0 0 4 (jA P):=by
   have:=eJ (k:=17) (f:=0) (bs:=jA P) hc (s:=1) (by omega) (n:=0) (by omega) (yL c0 (by omega))
   exact this
  obtain⟨r1,r2,_⟩:=ie (P:=P) (s:=aG P h) t2
  have hst:(aG P h).st=1:=by rw[eS,en];exact J.hst
  have hss:(aG P h).ss=0:=by rw[eS,en];exact J.hss
  have h0:cX P (aG P h) 17 P.c 1 0 4 (fun i=>(fK P { cF { d with ms:=(nx mx 16 M0.bs false M0).s } 2 with ss:=1 }).2 (15+i))=0:=by
   unfold cX jx
   rw[if_neg (by decide),if_neg (by omega),if_pos hst,hss,if_neg (by omega),if_pos (kL t2)]
  have r3:=r2 h0
  rw[r3]
  have eh:bZ (aG P h) 17 1 0 0 (fun i=>(fK P { cF { d with ms:=(nx mx 16 M0.bs false M0).s } 2 with ss:=1 }).2 (15+i))=pE { aG P h with st:=2,ss:=1 }:=if_pos rfl
  rw[eh,eS,en]
  have a0:a=0:=by simpa using ha
  exact⟨fG t,rfl,fG t2,by rw[r1];exact h0,⟨rfl,rfl,rfl,rfl,J.hnm,J.hsn,a0.symm,a0.symm,rfl,fun z=>by cases z⟩,rfl,eV _ _,rfl,fun z=>by omega,⟨rfl,rfl⟩,⟨rfl,rfl⟩,(fun z=>by cases z),rfl,fun z=>by omega⟩
 ·-- taken,and echoed
  have hss:h.ss=1:=J.hss
  have en:bI P h=(h,dE 2 P.c 1 0 0 4 (jA P)):=by unfold bI;rw[if_neg (by rw[J.hst];omega),if_pos J.hst,hss]
  have t:Told (aB P h) 2 P.c 1 0 0 4 (jA P):=by rw[eF,en];exact eJ hc (by omega) (by omega) (aag c0 (by omega))
  have ht:aP P mx 16 d 2 1 0 0 4 (fun i=>(aB P h).2 (15+i))=⟨bJ d,cG P (bJ d) 18 0 0 0 (fun _=>0),0⟩:=by
   unfold aP
   rw[if_neg (by omega),if_pos ⟨rfl,J.dss.symm,.inl J.dst⟩,if_pos (kL t)]
  have e:=fW (mx:=mx) (n:=16) t rfl hu (by rw[ht])
  rw[ht,show bJ d=gU { d with st:=3 } from if_pos J.dst]at e
  rw[e]
  have t2:Told (cG P (gU { d with st:=3 }) 18 0 0 0 (fun _=>0)) 18 P.c 1 0 0 0 (fun _=>0):=by
   have:=eJ (k:=18) (f:=0) (bs:=fun _=>0) hc (s:=1) (by omega) (n:=0) (by omega) (yM c0 (by omega))
   unfold cG
   rw[show (gU { d with st:=3 }).ss=1 from J.dss]
   exact this
  obtain⟨r1,r2,_⟩:=ie (P:=P) (s:=aG P h) t2
  have hst:(aG P h).st=2:=by rw[eS,en];exact J.hst
  have hs2:(aG P h).ss=1:=by rw[eS,en];exact hss
  have h0:cX P (aG P h) 18 P.c 1 0 0 (fun i=>(cG P (gU { d with st:=3 }) 18 0 0 0 (fun _=>0)).2 (15+i))=0:=by
   have hw:cj P (aG P h) 18 0 0=true:=decide_eq_true (.inl ⟨rfl,hst⟩)
   unfold cX
   rw[if_neg (by decide),if_neg (by omega),if_neg (by omega),if_neg (by rintro (z | z);exact z hs2.symm;rw[hw]at z;cases z)]
  have r3:=r2 h0
  rw[r3]
  have eh:bZ (aG P h) 18 1 0 0 (fun i=>(cG P (gU { d with st:=3 }) 18 0 0 0 (fun _=>0)).2 (15+i))=pE { aG P h with st:=3 }:=by
   unfold bZ
   rw[if_neg (by omega),if_pos rfl]
  rw[eh,eS,en]
  exact⟨fG t,rfl,fG t2,by rw[r1];exact h0,⟨rfl,rfl,hss,J.dss,J.hnm,J.hsn,J.dnm,J.dsn,rfl,fun z=>by cases z⟩,rfl,rfl,rfl,fun _=>rfl,⟨rfl,rfl⟩,⟨rfl,rfl⟩,(fun z=>by cases z),rfl,fun _=>rfl⟩
 ·-- begun
  have a0:a=0:=by simpa using ha
  have hss:h.ss=1:=J.hss
  have en:bI P h=(h,dE 3 P.c 1 0 0 0 (fun _=>0)):=by unfold bI;rw[if_neg (by rw[J.hst];omega),if_neg (by rw[J.hst];omega),if_pos J.hst,hss]
  have t:Told (aB P h) 3 P.c 1 0 0 0 (fun _=>0):=by rw[eF,en];exact eJ hc (by omega) (by omega) (aah c0 (by omega))
  have ht:aP P mx 16 d 3 1 0 0 0 (fun i=>(aB P h).2 (15+i))=⟨cD d,cG P (cD d) 19 0 0 0 (fun _=>0),0⟩:=by
   unfold aP
   rw[if_neg (by omega),if_neg (by omega),if_pos ⟨rfl,J.dss.symm,.inl J.dst⟩]
  have e:=fW (mx:=mx) (n:=16) t rfl hu (by rw[ht])
  rw[ht,show cD d=gU { d with st:=4,v:=dQ d.v true } from if_pos J.dst]at e
  rw[e]
  have t2:Told (cG P (gU { d with st:=4,v:=dQ d.v true }) 19 0 0 0 (fun _=>0)) 19 P.c 1 0 0 0 (fun _=>0):=by
   have:=eJ (k:=19) (f:=0) (bs:=fun _=>0) hc (s:=1) (by omega) (n:=0) (by omega) (yN c0 (by omega))
   unfold cG
   rw[show (gU { d with st:=4,v:=dQ d.v true }).ss=1 from J.dss]
   exact this
  obtain⟨r1,r2,_⟩:=ie (P:=P) (s:=aG P h) t2
  have hst:(aG P h).st=3:=by rw[eS,en];exact J.hst
  have hs2:(aG P h).ss=1:=by rw[eS,en];exact hss
  have h0:cX P (aG P h) 19 P.c 1 0 0 (fun i=>(cG P (gU { d with st:=4,v:=dQ d.v true }) 19 0 0 0 (fun _=>0)).2 (15+i))=0:=by
   have hw:cj P (aG P h) 19 0 0=true:=decide_eq_true (.inr (.inl ⟨rfl,hst⟩))
   unfold cX
   rw[if_neg (by decide),if_neg (by omega),if_neg (by omega),if_neg (by rintro (z | z);exact z hs2.symm;rw[hw]at z;cases z)]
  have r3:=r2 h0
  rw[r3]
  have eh:bZ (aG P h) 19 1 0 0 (fun i=>(cG P (gU { d with st:=4,v:=dQ d.v true }) 19 0 0 0 (fun _=>0)).2 (15+i))=pE { aG P h with st:=4,v:=dQ (aG P h).v true }:=by
   unfold bZ
   rw[if_neg (by omega),if_neg (by omega),if_pos rfl]
  rw[eh,eS,en]
  refine⟨fG t,rfl,fG t2,by rw[r1];exact h0,⟨rfl,rfl,hss,J.dss,J.hnm,J.hsn,J.dnm,J.dsn,rfl,fun z=>by cases z⟩,eV _ _,eV _ _,?_,fun _=>?_,⟨rfl,rfl⟩,⟨rfl,rfl⟩,(fun z=>by cases z),rfl,fun _=>rfl⟩
  ·show ((dQ h.v true).lat != 0)=_
   rw[eV]
  ·show ((dQ d.v true).lat != 0)=_
   rw[eV]
 ·-- data
  have a1:a+1<P.n:=by simpa using ha
  have hss:h.ss=1:=J.hss
  have o1:=hP.o1
  have o8:=hP.o8
  have i1:=hP.i1
  have i8:=hP.i8
  have en:bI P h=({ h with sn:=h.sn+1 },dE 4 P.c 1 (a+1) (bc h) P.o h.ap):=by unfold bI;rw[if_neg (by rw[J.hst];omega),if_neg (by rw[J.hst];omega),if_neg (by rw[J.hst];omega),if_neg (by rw[J.hsn];omega),hss,J.hsn]
  have t:Told (aB P h) 4 P.c 1 (a+1) (bc h) P.o h.ap:=by rw[eF,en];exact eJ hc (by omega) (by omega) (aai c0 (by omega) (by omega) (sE h) o1 o8)
  have ht:aP P mx 16 d 4 1 (a+1) (bc h) P.o (fun i=>(aB P h).2 (15+i))=⟨cL d (a+1) (bc h) (fun i=>(aB P h).2 (15+i)),cG P (cL d (a+1) (bc h) (fun i=>(aB P h).2 (15+i))) 20 (d.sn+1) (cV (cL d (a+1) (bc h) (fun i=>(aB P h).2 (15+i)))) P.i d.ap,0⟩:=by
   unfold aP
   rw[if_neg (by omega),if_neg (by omega),if_neg (by omega),if_pos ⟨rfl,⟨J.dss.symm,J.dst,by rw[J.dnm];omega⟩,a1,rfl⟩]
  have e:=fW (mx:=mx) (n:=16) t rfl hu (by rw[ht])
  rw[ht]at e
  rw[e]
  obtain⟨D,hD⟩:∃ y,cL d (a+1) (bc h) (fun i=>(aB P h).2 (15+i))=y:=⟨_,rfl⟩
  have dD:D.st=4∧D.ss=1∧D.nm=a+1∧D.sn=a+1∧D.v=dI (fH (dM d.v) (decide (8≤bc h))) (fun i=>(aB P h).2 (15+i))∧D.ap=d.ap∧D.hd=d.hd∧D.dc=0:=by
   rw[← hD]
   exact⟨J.dst,J.dss,rfl,by show d.sn+1=a+1;rw[J.dsn],rfl,rfl,rfl,rfl⟩
  rw[hD,J.dsn]
  obtain⟨d1,d2,d3,d4,d5,d6,d7,d8⟩:=dD
  have t2:Told (cG P D 20 (a+1) (cV D) P.i d.ap) 20 P.c 1 (a+1) (cV D) P.i d.ap:=by
   unfold cG
   rw[d2]
   exact eJ hc (by omega) (by omega) (yO c0 (by omega) (by omega) (sh D) i1 i8)
  obtain⟨r1,r2,_⟩:=ie (P:=P) (s:=aG P h) t2
  have hst:(aG P h).st=4:=by rw[eS,en];exact J.hst
  have hs2:(aG P h).ss=1:=by rw[eS,en];exact hss
  have hs3:(aG P h).nm=a:=by rw[eS,en];exact J.hnm
  have h0:cX P (aG P h) 20 P.c 1 (a+1) P.i (fun i=>(cG P D 20 (a+1) (cV D) P.i d.ap).2 (15+i))=0:=by
   have hw:cj P (aG P h) 20 (a+1) P.i=true:=decide_eq_true (.inr (.inr (.inl ⟨rfl,⟨⟨hst,by omega⟩,a1⟩,rfl⟩)))
   unfold cX
   rw[if_neg (by decide),if_neg (by omega),if_neg (by omega),if_neg (by rintro (z | z);exact z hs2.symm;rw[hw]at z;cases z)]
  have r3:=r2 h0
  rw[r3]
  have eh:bZ (aG P h) 20 1 (a+1) (cV D) (fun i=>(cG P D 20 (a+1) (cV D) P.i d.ap).2 (15+i))={ pE { aG P h with nm:=a+1 } with v:=dI (fH (dM (aG P h).v) (decide (8≤cV D))) (fun i=>(cG P D 20 (a+1) (cV D) P.i d.ap).2 (15+i)) }:=by
   unfold bZ
   rw[if_neg (by omega),if_neg (by omega),if_neg (by omega),if_pos rfl]
  rw[eh,eS,en]
  have vf:∀ (v:Vs) (o:Bool) (b:Nat→Nat),(dI (fH (dM v) o) b).fr=(v.lat != 0):=fun v o b=>by
   unfold dI
   split <;> rfl
  exact⟨fG t,rfl,fG t2,by rw[r1];exact h0,⟨J.hst,d1,hss,d2,rfl,by show h.sn+1=a+1;rw[J.hsn],d3,d4,rfl,fun z=>by cases z⟩,kY _ _,by show D.v.lat=_;rw[d5];exact kY _ _,vf _ _ _,fun _=>by show D.v.fr=_;rw[d5];exact vf _ _ _,⟨rfl,rfl⟩,⟨d6,d7⟩,fun _=>⟨_,_,t.bs,t2.bs,d5,rfl⟩,rfl,fun _=>d8⟩
end
end Go.Proofs.YtenilkloffnjlaaGreat
namespace Go.Proofs.YtenilkloffnjlaaGreat
open Tryz
open Go.RowKit Go.Maps
set_option linter.unusedVariables false
def du (c:Nat):Mv:=⟨2,(c:Nat),0,0,0,0,0,false,0,fun _=>0⟩
def bK (c s f:Nat):Mv:=⟨3,(c:Nat),(s:Nat),(f:Nat),0,0,0,false,0,fun _=>0⟩
def dz (c s:Nat):Mv:=⟨6,(c:Nat),(s:Nat),0,0,0,0,false,0,fun _=>0⟩
section
variable {S:Ws} {c:Nat}
theorem pK {m:Mv} (kk:Int) (hk:m.k=kk) (hk2:1≤kk∧kk≤8∧kk≠4∧kk≠7∧kk≠8) (hm:S.mv<4096) (hc:m.c=(c:Nat)) (hn:c<S.n) (hs:kk=2∨m.s=1∨m.s=2) (h3:kk=3→0≤m.f∧m.f < ((S.bg.length:Nat):Int)) (h5:kk=5→0≤m.n∧m.n≤1048576):S.bad m=0:=by
 obtain⟨k1,k8,k4,k7,k88⟩:=hk2
 unfold Ws.bad
 rw[hk,if_neg (by omega),if_neg (by omega),if_neg (by omega),if_neg (by
  rintro ⟨q,q1,q2⟩
  rcases hs with y | y | y
  ·rw[y]at q
   cases q
  ·exact q1 y
  ·exact q2 y)]
 by_cases z3:kk=3
 ·rw[if_pos z3,if_neg (by have:=h3 z3;omega)]
 ·rw[if_neg z3,if_neg k4]
  by_cases z5:kk=5
  ·rw[if_pos z5,if_neg (by have:=h5 z5;omega)]
  ·rw[if_neg z5,if_neg k7,if_neg k88]
theorem rI {s:Nat} (hs:s=1∨s=2):((s:Nat):Int)=1∨((s:Nat):Int)=2:=by omega
theorem wh (hm:S.mv<4096) (hn:c<S.n):S.bad (du c)=0:=pK (c:=c) 2 rfl (by decide) hm rfl hn (.inl rfl) (fun e=>by cases e) (fun e=>by cases e)
theorem qV {s f:Nat} (hm:S.mv<4096) (hn:c<S.n) (hs:s=1∨s=2) (hf:f<S.bg.length):S.bad (bK c s f)=0:=pK (c:=c) 3 rfl (by decide) hm rfl hn (.inr (rI hs)) (fun _=>by show 0 ≤ ((f:Nat):Int)∧((f:Nat):Int)<_;omega) (fun e=>by cases e)
theorem mC {s:Nat} (hm:S.mv<4096) (hn:c<S.n) (hs:s=1∨s=2):S.bad (dz c s)=0:=pK (c:=c) 6 rfl (by decide) hm rfl hn (.inr (rI hs)) (fun e=>by cases e) (fun e=>by cases e)
theorem iT {m:Mv} (hb:S.bad m=0):S.play m=⟨(S.up.act m).e,(S.up.act m).i,(S.up.act m).S.note [oH (S.up.act m).S m.c.toNat,oD (S.up.act m).S m.c.toNat]⟩:=by
 unfold Ws.play
 rw[if_neg (fun q=>q hb)]
 rfl
theorem rE (T:Ws) (k s:Nat) {F:Fm} (h:F.1≠0):T.putI F=((T.bg.length:Nat):Int)∧(T.put k s F).bg=T.bg ++ [F]:=by
 unfold Ws.putI Ws.put
 rw[if_neg h,if_neg h]
 exact⟨rfl,rfl⟩
structure Sm (S S':Ws) (k:Nat):Prop where
 I:S'.In
 n:S'.n=S.n
 ph:S'.PH=S.PH
 pd:S'.PD=S.PD
 mx:S'.mx=S.mx
 mv:S'.mv≤S.mv+k
theorem fF (I:S.In) (K:S.Kn) (m:Mv):Sm S (S.play m).S 1:=by
 obtain⟨f1,f2,f3⟩:=kF I K m
 refine⟨I.play K,uO S m,f1,f2,f3,?_⟩
 by_cases hb:S.bad m=0
 ·have l:=Ws.Law.of hb
  have K':S.up.Kn:=⟨K.ph,K.pd,K.ha,K.da,K.mo,K.fb⟩
  have q:=(kQ K' (I.ih _ l.kn) (I.iv _ l.kn) l).mv
  rw[iT hb]
  show (S.up.act m).S.mv≤_
  rw[q]
  exact Nat.le_refl _
 ·have hp:(S.play m).S=S:=by
   unfold Ws.play
   rw[if_pos hb]
  rw[hp]
  omega
theorem Sm.refl (I:S.In):Sm S S 0:=⟨I,rfl,rfl,rfl,rfl,Nat.le_refl _⟩
theorem Sm.trans {S2 S3:Ws} {i j:Nat} (h:Sm S S2 i) (g:Sm S2 S3 j):Sm S S3 (i+j):=⟨g.I,g.n.trans h.n,g.ph.trans h.ph,g.pd.trans h.pd,g.mx.trans h.mx,by have:=h.mv;have:=g.mv;omega⟩
theorem uP (hb:S.bad (du c)=0) (hf:(aB (S.PH c) (S.hs c)).1≠0):(S.play (du c)).i=((S.bg.length:Nat):Int)∧(S.play (du c)).S.bg=S.bg ++ [aB (S.PH c) (S.hs c)]∧(S.play (du c)).S.hs c=aG (S.PH c) (S.hs c)∧(S.play (du c)).S.ds c=S.ds c∧(S.play (du c)).e=gw (S.hs c):=by
 obtain⟨e1,e2,e3⟩:=fQ S hb
 have ec:(du c).c.toNat=c:=Int.toNat_natCast c
 have h1:¬ (du c).k=1:=by show ¬ (2:Int)=1;decide
 have a1:S.actDF (du c)=S.ds c:=by
  unfold Ws.actDF
  rw[if_neg h1,if_pos (show (du c).k=2 from rfl),ec]
 have a2:S.actHF (du c)=aG (S.PH c) (S.hs c):=by
  unfold Ws.actHF
  rw[if_neg h1,if_pos (show (du c).k=2 from rfl),ec]
 have a3:S.actEF (du c)=gw (S.hs c):=by
  unfold Ws.actEF
  rw[if_neg h1,if_pos (show (du c).k=2 from rfl),ec]
 rw[ec]at e1 e2
 have q:(S.up.act (du c))=S.up.snd c:=by
  unfold Ws.act
  dsimp only
  rw[if_neg h1,if_pos (show (du c).k=2 from rfl),ec]
 have p:=rE (S.up.setH c (aG (S.PH c) (S.hs c))) c 1 hf
 refine⟨?_,?_,e2.trans a2,e1.trans a1,e3.trans a3⟩
 ·rw[iT hb]
  show (S.up.act (du c)).i=_
  rw[q]
  exact p.1
 ·rw[iT hb]
  show (S.up.act (du c)).S.bg=_
  rw[q]
  exact p.2
theorem t7 {s f:Nat} {F:Fm} (hF:S.bg[f]?=some F):S.fr (bK c s f)=F:=by
 unfold Ws.fr
 rw[if_neg (by show ¬ (3:Int)=4;decide)]
 show S.bg.getD ((f:Nat):Int).toNat ep=F
 rw[Int.toNat_natCast,List.getD_eq_getElem?_getD,hF]
 rfl
theorem td {f:Nat} {F:Fm} (hb:S.bad (bK c 2 f)=0) (hF:S.bg[f]?=some F) (hf:(ax (S.PD c) S.mx 16 (S.ds c) F.1 F.2).f.1≠0):(S.play (bK c 2 f)).i=((S.bg.length:Nat):Int)∧(S.play (bK c 2 f)).S.bg=S.bg ++ [(ax (S.PD c) S.mx 16 (S.ds c) F.1 F.2).f]∧(S.play (bK c 2 f)).S.hs c=S.hs c∧(S.play (bK c 2 f)).S.ds c=(ax (S.PD c) S.mx 16 (S.ds c) F.1 F.2).s∧(S.play (bK c 2 f)).e=(ax (S.PD c) S.mx 16 (S.ds c) F.1 F.2).e:=by
 obtain⟨e1,e2,e3⟩:=fQ S hb
 have ec:(bK c 2 f).c.toNat=c:=Int.toNat_natCast c
 have h1:¬ (bK c 2 f).k=1:=by show ¬ (3:Int)=1;decide
 have h2:¬ (bK c 2 f).k=2:=by show ¬ (3:Int)=2;decide
 have h3:(bK c 2 f).k=3∨(bK c 2 f).k=4:=.inl rfl
 have hs:¬ (bK c 2 f).s=1:=by show ¬ ((2:Nat):Int)=1;decide
 have hfr:=t7 (c:=c) (s:=2) hF
 have a1:S.actDF (bK c 2 f)=(ax (S.PD c) S.mx 16 (S.ds c) F.1 F.2).s:=by
  unfold Ws.actDF
  rw[if_neg h1,if_neg h2,if_pos h3,if_neg hs,ec,hfr]
 have a2:S.actHF (bK c 2 f)=S.hs c:=by
  unfold Ws.actHF
  rw[if_neg h1,if_neg h2,if_pos h3,if_neg hs,ec]
 have a3:S.actEF (bK c 2 f)=(ax (S.PD c) S.mx 16 (S.ds c) F.1 F.2).e:=by
  unfold Ws.actEF
  rw[if_neg h1,if_neg h2,if_pos h3,if_neg hs,ec,hfr]
 rw[ec]at e1 e2
 have q:(S.up.act (bK c 2 f))=S.up.toD c F:=by
  unfold Ws.act
  dsimp only
  rw[if_neg h1,if_neg h2,if_pos h3,if_neg hs,ec]
  show S.up.toD c (S.fr (bK c 2 f))=_
  rw[hfr]
 have p:=rE (S.up.toD2 c F) c 2 hf
 rw[xH]at p
 refine⟨?_,?_,e2.trans a2,e1.trans a1,e3.trans a3⟩
 ·rw[iT hb]
  show (S.up.act (bK c 2 f)).i=_
  rw[q]
  exact p.1
 ·rw[iT hb]
  show (S.up.act (bK c 2 f)).S.bg=_
  rw[q]
  exact p.2
theorem tc {f:Nat} {F:Fm} (hb:S.bad (bK c 1 f)=0) (hF:S.bg[f]?=some F):(S.play (bK c 1 f)).S.hs c=cH (S.PH c) (S.hs c) F.1 F.2∧(S.play (bK c 1 f)).S.ds c=S.ds c∧(S.play (bK c 1 f)).e=dF (S.PH c) (S.hs c) F.1 F.2:=by
 obtain⟨e1,e2,e3⟩:=fQ S hb
 have ec:(bK c 1 f).c.toNat=c:=Int.toNat_natCast c
 have h1:¬ (bK c 1 f).k=1:=by show ¬ (3:Int)=1;decide
 have h2:¬ (bK c 1 f).k=2:=by show ¬ (3:Int)=2;decide
 have h3:(bK c 1 f).k=3∨(bK c 1 f).k=4:=.inl rfl
 have hs:(bK c 1 f).s=1:=rfl
 have hfr:=t7 (c:=c) (s:=1) hF
 rw[ec]at e1 e2
 refine⟨e2.trans ?_,e1.trans ?_,e3.trans ?_⟩
 ·unfold Ws.actHF
  rw[if_neg h1,if_neg h2,if_pos h3,if_pos hs,ec,hfr]
 ·unfold Ws.actDF
  rw[if_neg h1,if_neg h2,if_pos h3,if_pos hs,ec]
 ·unfold Ws.actEF
  rw[if_neg h1,if_neg h2,if_pos h3,if_pos hs,ec,hfr]
theorem tb (hb:S.bad (dz c 1)=0):(S.play (dz c 1)).S.hs c=eM (S.hs c)∧(S.play (dz c 1)).S.ds c=S.ds c∧(S.play (dz c 1)).e=eZ (S.hs c):=by
 obtain⟨e1,e2,e3⟩:=fQ S hb
 have ec:(dz c 1).c.toNat=c:=Int.toNat_natCast c
 have h:∀ x:Int,x≠6→¬ (dz c 1).k=x:=fun x hx e=>hx (by rw[← e];rfl)
 have h3:¬ ((dz c 1).k=3∨(dz c 1).k=4):=fun z=>by rcases z with z | z <;> cases z
 have hs:(dz c 1).s=1:=rfl
 rw[ec]at e1 e2
 refine⟨e2.trans ?_,e1.trans ?_,e3.trans ?_⟩
 ·unfold Ws.actHF
  rw[if_neg (h 1 (by decide)),if_neg (h 2 (by decide)),if_neg h3,if_neg (h 5 (by decide)),if_pos (show (dz c 1).k=6 from rfl),if_pos hs,ec]
 ·unfold Ws.actDF
  rw[if_neg (h 1 (by decide)),if_neg (h 2 (by decide)),if_neg h3,if_neg (h 5 (by decide)),if_pos (show (dz c 1).k=6 from rfl),if_pos hs,ec]
 ·unfold Ws.actEF
  rw[if_neg (h 1 (by decide)),if_neg (h 2 (by decide)),if_neg h3,if_neg (h 5 (by decide)),if_pos (show (dz c 1).k=6 from rfl),if_pos hs,ec]
theorem lY (hb:S.bad (dz c 2)=0):(S.play (dz c 2)).S.hs c=S.hs c∧(S.play (dz c 2)).S.ds c=cU (S.ds c)∧(S.play (dz c 2)).e=dK (S.ds c):=by
 obtain⟨e1,e2,e3⟩:=fQ S hb
 have ec:(dz c 2).c.toNat=c:=Int.toNat_natCast c
 have h:∀ x:Int,x≠6→¬ (dz c 2).k=x:=fun x hx e=>hx (by rw[← e];rfl)
 have h3:¬ ((dz c 2).k=3∨(dz c 2).k=4):=fun z=>by rcases z with z | z <;> cases z
 have hs:¬ (dz c 2).s=1:=by show ¬ ((2:Nat):Int)=1;decide
 rw[ec]at e1 e2
 refine⟨e2.trans ?_,e1.trans ?_,e3.trans ?_⟩
 ·unfold Ws.actHF
  rw[if_neg (h 1 (by decide)),if_neg (h 2 (by decide)),if_neg h3,if_neg (h 5 (by decide)),if_pos (show (dz c 2).k=6 from rfl),if_neg hs,ec]
 ·unfold Ws.actDF
  rw[if_neg (h 1 (by decide)),if_neg (h 2 (by decide)),if_neg h3,if_neg (h 5 (by decide)),if_pos (show (dz c 2).k=6 from rfl),if_neg hs,ec]
 ·unfold Ws.actEF
  rw[if_neg (h 1 (by decide)),if_neg (h 2 (by decide)),if_neg h3,if_neg (h 5 (by decide)),if_pos (show (dz c 2).k=6 from rfl),if_neg hs,ec]
end
end Go.Proofs.YtenilkloffnjlaaGreat
namespace Go.Proofs.YtenilkloffnjlaaGreat
open Tryz
open Go.RowKit Go.Maps
set_option linter.unusedVariables false
theorem oQ {k c s f n:Nat} (hk:k≤10000) (hc:c≤10000) (hs:s≤10000) (hf:f≤10000) (hn:n≤10000000) (l:Nat) (b:Nat→Nat):Mv.Ok ⟨(k:Nat),(c:Nat),(s:Nat),(f:Nat),0,0,(n:Nat),false,l,b⟩:=⟨by dsimp only;omega,by dsimp only;omega,by dsimp only;omega,by dsimp only;omega,by dsimp only;omega,by dsimp only;omega,by dsimp only;omega⟩
theorem PWn.rowB {w0 w:World} {t:Nat→Thing} {L:Pw} {S:Ws} {i q:Nat} {ob:Obj} {A:Array Value} (F:Fre ev t i) (h:PWn ev w0 (aI t (2*i+1) (dN [(q,ob)])) L w S) (hth:w.there q 0 29) (hs:A.size=29) (ho:A.all (·.oneCell')=true):∃ w' ob',(storeCells ⟨q,0,none⟩ A.toList).run prog w=.ok () w'∧PWn ev w0 (aI t (2*i+1) (dN [(q,ob')])) L w' S∧w'.there q 0 29∧w'.rangeAt q 0 A.toList∧(∀ w1:World,Below w1.heap.size w1 w→w1.heap.size≤q→Below w1.heap.size w1 w'):=by
 have ta:w.there q 0 A.size:=by rw[hs];exact hth
 have t2:=World.there_setCells hth q 0 A.toList
 obtain⟨v0,hv0⟩:=Option.isSome_iff_exists.1 (t2 0 (by decide)).1
 have lt:=World.block_lt_of_cell? _ _ hv0
 exact⟨w.setCells q 0 A.toList,_,em ta ho,h.turnB (F i (Nat.le_refl _)).1 (bf w q 0 A.toList) (Array.getElem?_eq_getElem lt),t2,World.rangeAt_setCells_same w q 0 A.toList (by simpa using ta),fun w1 hb hq=>(bf w q 0 A.toList).below hb (fun k hk=>by simp at hk;omega) hb.size⟩
theorem iC {w w':World} {b n:Nat} (h:w.there b 0 n) (e:w'.heap[b]?=w.heap[b]?):w'.there b 0 n:=fun j hj=>by
 obtain⟨h1,h2⟩:=h j hj
 exact⟨by rw[World.cell?_of_block (a:=⟨b,0+j,none⟩) e];exact h1,by rw[World.frozen?_of_block (a:=⟨b,0+j,none⟩) e];exact h2⟩
theorem tM {w:World} {b:Nat} {A:Array Value} (hs:A.size=29) (hr:w.rangeAt b 0 A.toList):(loadVar 45 ⟨b,0,none⟩).run prog w=.ok (.agg A) w:=by
 have hi:(prog.info? 45).map (·.size)=some A.toList.length:=by rw[Array.length_toList,hs];kernel_rfl
 have:=run_loadVar_mid w b 0 45 A.toList _ hr underlying45 rfl hi
 rw[Array.toArray_toList]at this
 exact this
theorem aat {w0 w:World} {t:Nat→Thing} {L:Pw} {S:Ws} {i c s f:Nat} (h:PWn ev w0 t L w S) (F:Fre ev t i) (I:S.In) (hn:0<S.n) (hc:c≤10000) (hs:s≤10000) (hf:f≤10000):Calls prog 94 #[ac L.x 0,.int .i64 (c:Nat),.int .i64 (s:Nat),.int .i64 (f:Nat)] w fun r w'=>∃ (A:Array Value) (E:Int),r=.returned (.tuple #[.agg A,.int .i64 E])∧A.size=29∧A.all (·.oneCell')=true∧Hid (E=S.bad (bK c s f)∧PWn ev w0 t L w' (S.play (bK c s f)).S∧(S.bad (bK c s f)=0→A.toList[9]?=some (.int .i64 (S.play (bK c s f)).e)∧A.toList[10]?=some (.int .i64 (S.play (bK c s f)).i))):=by
 have kR:=aA w (.cells cJ 45)
 have bR:=aC (Below.refl _ w) (.cells cJ 45)
 obtain⟨wa,hwa⟩:∃ z,w.alloc (.cells cJ 45)=z:=⟨_,rfl⟩
 rw[hwa]at kR bR
 have h1:=h.layL bR (i:=2*i+1) (F i (Nat.le_refl _)).1 (l:=[(w.heap.size,.cells cJ 45 (0,0))]) (fun p hp=>by
  simp only[List.mem_cons,List.not_mem_nil,or_false]at hp
  subst hp
  exact kR) (fun p hp=>by
  simp only[List.mem_cons,List.not_mem_nil,or_false]at hp
  subst hp
  exact Nat.le_refl _)
 have hth:wa.there w.heap.size 0 29:=aZ kR rfl
 obtain⟨x,hx⟩:∃ z,w.heap.size=z:=⟨_,rfl⟩
 have HS:Hid (w.heap.size=x):=hx
 rw[hx]at h1 kR hth
 have hP:=jm (i:=i+1) (bK c s f) none 0 h1 (F.put _) I (oQ (k:=3) (n:=0) (by omega) hc hs hf (by omega) 0 _) hn (cy _ _) (fun y hy=>by cases hy) (by show (0:Nat)≤_;omega)
 have HP:Hid (_):=hP
 have HE:Hid (_=wa):=hwa
 have HK:Hid (wa.heap[x]?=_):=kR
 have HT:Hid (_):=hth
 obtain⟨X,hX⟩:∃ y,L.x=y:=⟨_,rfl⟩
 have HX:Hid (L.x=X):=hX
 rw[hX]
 clear kR bR hwa h1 hth hx hP hX
 go_enter func94,ntmps94
 go_upto_region 1 with fail
 rw[HE.out,HS.out]
 have hP:=HP.out
 rw[HX.out]at hP
 clear HP
 go_wp2_with fail
 refine Calls.mono hP ?_
 rintro r w1 ⟨A,E,rfl,hsA,hoA,H1⟩
 clear hP
 have kb:=H1.out.2.1.box (q:=2*i+1) (F i (Nat.le_refl _)).1 (ak _ _ _) _ (List.mem_cons_self ..)
 obtain⟨w2,ob',hst,h2,_,hrg,_⟩:=PWn.rowB F H1.out.2.1 (iC HT.out (kb.trans HK.out.symm)) hsA hoA
 have HF:Hid (_):=And.intro h2 (And.intro hrg H1.out)
 clear h2 hrg H1 kb
 go_wp2_with fail
 refine bodyPost_ret (v:=.tuple #[.agg A,.int .i64 E]) ((ej (t:=8) (u:=9) (ty:=45) rfl _ prog w2 (by kernel_rfl) (tM hsA HF.out.2.1)).trans (by kernel_rfl)) rfl ?_
 obtain⟨h2,hrg,hE,_,hr⟩:=HF.out
 exact⟨A,E,rfl,hsA,hoA,hE,h2.drop (F i (Nat.le_refl _)).1 (F i (Nat.le_refl _)).2,fun q=>⟨(hr q).1,(hr q).2.1⟩⟩
structure Xs (P:Pm) (S S':Ws) (c k a:Nat):Prop where
 ex:∃ F R h2,Ex P S.mx (S.hs c) (S.ds c) F R h2 k a∧S'.hs c=h2∧S'.ds c=R.s
 sm:Sm S S' 3
theorem exS {S:Ws} {c k a:Nat} {P:Pm} (I:S.In) (K:S.Kn) (hc:c<S.n) (hmv:S.mv+3≤4096) (h1:S.PH c=P) (h2:S.PD c=P) (J:Pj (S.hs c) (S.ds c) k a) (hk:k=1∨k=2∨k=3∨k=4) (ha:if k=4 then a+1<P.n else a=0) :
  S.bad (du c)=0∧(S.play (du c)).i=((S.bg.length:Nat):Int)∧∀ S1,(S.play (du c)).S=S1→S1.Kn →
   S1.bad (bK c 2 S.bg.length)=0∧(S1.play (bK c 2 S.bg.length)).i=((S.bg.length+1:Nat):Int)∧∀ S2,(S1.play (bK c 2 S.bg.length)).S=S2→S2.Kn →
    S2.bad (bK c 1 (S.bg.length+1))=0∧(S2.play (bK c 1 (S.bg.length+1))).e=0∧Xs P S (S2.play (bK c 1 (S.bg.length+1))).S c k a:=by
 have hP:Pok P:=by rw[← h1];exact K.ph c hc
 have M:=K.mo c hc
 obtain⟨hE,ex⟩:=yE (mx:=S.mx) hP M.mx0 M.mxl J hk ha
 have b1:=wh (S:=S) (c:=c) (by omega) hc
 obtain⟨i1,g1,hs1,ds1,_⟩:=uP b1 (by rw[h1];exact ex.f1)
 refine⟨b1,i1,?_⟩
 rintro S1 rfl K1
 have m1:=fF I K (du c)
 rw[h1]at hs1 g1
 have g1':(S.play (du c)).S.bg[S.bg.length]?=some (aB P (S.hs c)):=by rw[g1];simp
 have b2:=qV (S:=(S.play (du c)).S) (c:=c) (s:=2) (f:=S.bg.length) (by have:=m1.mv;omega) (by rw[m1.n];exact hc) (.inr rfl) (by rw[g1];simp)
 have p2:=td b2 g1'
 rw[m1.pd,h2,m1.mx,ds1]at p2
 obtain⟨i2,g2,hs2,ds2,_⟩:=p2 ex.rf
 refine⟨b2,by rw[i2,g1];simp,?_⟩
 rintro S2 rfl K2
 have m2:=m1.trans (fF m1.I K1 (bK c 2 S.bg.length))
 have g2':((S.play (du c)).S.play (bK c 2 S.bg.length)).S.bg[S.bg.length+1]?=some (ax P S.mx 16 (S.ds c) (aB P (S.hs c)).1 (aB P (S.hs c)).2).f:=by rw[g2,g1];simp
 have b3:=qV (S:=((S.play (du c)).S.play (bK c 2 S.bg.length)).S) (c:=c) (s:=1) (f:=S.bg.length+1) (by have:=m2.mv;omega) (by rw[m2.n];exact hc) (.inl rfl) (by rw[g2,g1];simp)
 obtain⟨hs3,ds3,e3⟩:=tc b3 g2'
 rw[m2.ph,h1,hs2,hs1]at hs3 e3
 exact⟨b3,e3.trans ex.he,⟨_,_,_,ex,hs3,ds3.trans ds2⟩,m2.trans (fF m2.I K2 _)⟩
theorem nD {v:Vs} (h:aq v=false):gG v=v:=by
 unfold gG
 rw[if_neg (by rw[h];simp)]
theorem jh {s:Sh} (h:aq s.v=false):eM s=s:=by
 show { s with v:=gG s.v }=s
 rw[nD h]
theorem jg {s:Sd} (h:aq s.v=false):cU s=s:=by
 unfold cU
 split
 ·rfl
 ·show { s with v:=gG s.v }=s
  rw[nD h]
def yd (S:Ws) (c:Nat):Bool:=(decide ((S.hs c).st=4) && decide ((S.hs c).v.lat=0)) && (decide ((S.ds c).st=4) && decide ((S.ds c).v.lat=0)) && decide ((S.hs c).ss=(S.ds c).ss)
structure Xa (P:Pm) (S S':Ws) (c k a:Nat):Prop where
 ex:∃ F R h2,Ex P S.mx (S.hs c) (S.ds c) F R h2 k a∧S'.hs c=eM h2∧S'.ds c=cU R.s
 sm:Sm S S' 5
theorem Xa.pj {P:Pm} {S S':Ws} {c k a:Nat} (hk:k=1∨k=2∨k=3∨k=4) (h:Xa P S S' c k a):Pj (S'.hs c) (S'.ds c) (if k=4 then 4 else k+1) (if k=4 then a+1 else a):=by
 obtain⟨F,R,h2,ex,e1,e2⟩:=h.ex
 rw[e1,e2]
 have j:=ex.pj
 have h6:R.s.st≠6:=by rw[j.dst];split <;> omega
 have e:cU R.s={ R.s with v:=gG R.s.v }:=by unfold cU;rw[if_neg h6]
 rw[e]
 exact⟨j.hst,j.dst,j.hss,j.dss,j.hnm,j.hsn,j.dnm,j.dsn,j.wt,fun z=>by exfalso;split at z <;> omega⟩
theorem Xa.lat {P:Pm} {S S':Ws} {c k a:Nat} (h:Xa P S S' c k a) (h1:(S.hs c).v.lat=0) (h2:(S.ds c).v.lat=0):(S'.hs c).v.lat=0∧(S'.ds c).v.lat=0:=by
 obtain⟨F,R,q,ex,e1,e2⟩:=h.ex
 have a1:=ex.hl.trans h1
 have a2:=ex.dl.trans h2
 have r:∀ v:Vs,v.lat=0→aq v=false:=fun v z=>by unfold aq;rw[z];simp
 rw[e1,e2,jh (r _ a1),jg (r _ a2)]
 exact⟨a1,a2⟩
theorem kV {S:Ws} {c k a:Nat} (J:Pj (S.hs c) (S.ds c) k a) (h1:(S.hs c).v.lat=0) (h2:(S.ds c).v.lat=0):yd S c=decide (k=4):=by
 unfold yd
 rw[J.hst,J.dst,J.hss,J.dss,h1,h2]
 by_cases e:k=4
 ·subst e;rfl
 ·simp[e]
def EwC (A:Array Value) (st ss:Nat) (v:Vs) (n:Nat) (w:World):Prop:=A.toList[0]?=some (.int .i64 (st:Nat))∧A.toList[1]?=some (.int .u32 (ss:Nat))∧A.toList[5]?=some (.int .i64 v.lat)∧A.toList[6]?=some (.bool (aq v))∧A.toList[7]?=some (.bool (aF v))∧∃ a ca,A.toList[8]?=some (.slice a n ca)∧Row8 w a n ca (bT v)
theorem qt {w0 w:World} {t:Nat→Thing} {L:Pw} {S:Ws} {c:Nat} (h:PWn ev w0 t L w S) (hc:c<S.n):Calls prog 34 #[ac L.x 0,.int .i64 (c:Nat),.int .i64 1] w fun r w'=>∃ A:Array Value,r=.returned (.tuple #[.agg A,.int .i64 0])∧A.size=9∧A.all (·.oneCell')=true∧Hid (EwC A (S.hs c).st (S.hs c).ss (S.hs c).v (S.PH c).i w'∧Below w.heap.size w w'):=by
 refine (uT h hc).mono ?_
 rintro r w' ⟨a,ca,rfl,H⟩
 exact⟨_,rfl,rfl,by kernel_rfl,⟨rfl,rfl,rfl,rfl,rfl,a,ca,rfl,H.out.2.1⟩,H.out.1⟩
theorem qu {w0 w:World} {t:Nat→Thing} {L:Pw} {S:Ws} {c:Nat} (h:PWn ev w0 t L w S) (hc:c<S.n):Calls prog 34 #[ac L.x 0,.int .i64 (c:Nat),.int .i64 2] w fun r w'=>∃ A:Array Value,r=.returned (.tuple #[.agg A,.int .i64 0])∧A.size=9∧A.all (·.oneCell')=true∧Hid (EwC A (S.ds c).st (S.ds c).ss (S.ds c).v (S.PD c).o w'∧Below w.heap.size w w'):=by
 refine (uU h hc).mono ?_
 rintro r w' ⟨a,ca,rfl,H⟩
 exact⟨_,rfl,rfl,by kernel_rfl,⟨rfl,rfl,rfl,rfl,rfl,a,ca,rfl,H.out.2.1⟩,H.out.1⟩
theorem Sm.mono2 {S S':Ws} {k:Nat} (h:Sm S S' k) (hk:k≤2:=by omega):Sm S S' 2:=⟨h.I,h.n,h.ph,h.pd,h.mx,by have:=h.mv;omega⟩
theorem aam {w0 w:World} {t:Nat→Thing} {L:Pw} {S:Ws} {i c:Nat} (h:PWn ev w0 t L w S) (F:Fre ev t i) (I:S.In) (hcn:c<S.n) (hmv:S.mv+2≤4096) (hc2:c≤10000):Calls prog 95 #[ac L.x 0,.int .i64 (c:Nat)] w fun r w'=>r=.returned (.int .i64 0)∧Hid (∃ S',PWn ev w0 t L w' S'∧Sm S S' 2∧S'.hs c=eM (S.hs c)∧S'.ds c=cU (S.ds c)):=by
 have HIS:Hid (S.In):=I
 have hcnS:=hcn
 have hmvS:=hmv
 have HP0:Hid (PWn ev w0 t L w S):=h
 obtain⟨X,hX⟩:∃ y,L.x=y:=⟨_,rfl⟩
 have HX:Hid (L.x=X):=hX
 rw[hX]
 clear hX h I
 have yJ:=fun wx:World=>(by kernel_rfl:(Instr.index 133 (.agg #[.int .i64 1,.int .i64 2]) (.int .i64 0)).run prog wx=.ok (.int .i64 1) wx)
 have yK:=fun wx:World=>(by kernel_rfl:(Instr.index 133 (.agg #[.int .i64 1,.int .i64 2]) (.int .i64 1)).run prog wx=.ok (.int .i64 2) wx)
 go_enter func95,ntmps95
 go_wp2_with fail
 refine wp_loop_rounds 3 ?_
 rw[rounds_succ]
 have hSe:=qt HP0.out (c:=c) hcnS
 rw[HX.out]at hSe
 go_wp2_with fail
 refine hSe.mono ?_
 rintro r x1 ⟨A1,rfl,hsA1,hoA1,H1⟩
 clear hSe
 obtain⟨y1,hst1,hrg1,hbl1,_⟩:=fq x1 hsA1 hoA1
 have cr1:=hrg1 6 _ H1.out.1.2.2.2.1
 rw[Nat.zero_add]at cr1
 have p1:=(HP0.out.below H1.out.2).below hbl1
 obtain⟨q1,hq1⟩:∃ y,aq (S.hs c).v=y:=⟨_,rfl⟩
 rw[hq1]at cr1
 have HQ1:Hid (aq (S.hs c).v=q1):=hq1
 have HP1:Hid (PWn ev w0 t L y1 S):=p1
 clear hrg1 hbl1 H1 p1 hq1
 cases q1
 ·go_wp2_with fail
  clear hst1 cr1
  rw[rounds_succ]
  have hSe:=qu HP1.out (c:=c) hcnS
  rw[HX.out]at hSe
  go_wp2_with fail
  refine hSe.mono ?_
  rintro r x2 ⟨A2,rfl,hsA2,hoA2,H2⟩
  clear hSe
  obtain⟨y2,hst2,hrg2,hbl2,_⟩:=fq x2 hsA2 hoA2
  have cr2:=hrg2 6 _ H2.out.1.2.2.2.1
  rw[Nat.zero_add]at cr2
  have p2:=(HP1.out.below H2.out.2).below hbl2
  obtain⟨q2,hq2⟩:∃ y,aq (S.ds c).v=y:=⟨_,rfl⟩
  rw[hq2]at cr2
  have HQ2:Hid (aq (S.ds c).v=q2):=hq2
  have HP2:Hid (PWn ev w0 t L y2 S):=p2
  clear hrg2 hbl2 H2 p2 hq2
  cases q2
  ·go_wp2_with fail
   clear hst2 cr2
   rw[rounds_succ]
   go_wp2_with fail
   go_ret
   exact⟨rfl,S,HP2.out,(Sm.refl HIS.out).mono2,(jh HQ1.out).symm,(jg HQ2.out).symm⟩
  ·have hPl:=jm (i:=i) (dz c 2) none 0 HP2.out F HIS.out (oQ (k:=6) (s:=2) (f:=0) (n:=0) (by omega) hc2 (by omega) (by omega) (by omega) 0 _) (by have:=hcnS;omega) (cy _ _) (fun y hy=>by cases hy) (by show (0:Nat)≤_;omega)
   rw[HX.out]at hPl
   go_wp2_with fail
   refine Calls.mono hPl ?_
   rintro r v2 ⟨B2,E2,rfl,hsB2,hoB2,G2⟩
   clear hPl hst2 cr2
   have hb:=mC (S:=S) (c:=c) (s:=2) (by have:=hmvS;omega) hcnS (by omega)
   have hE2:E2=0:=G2.out.1.trans hb
   subst hE2
   obtain⟨u2,hst2,_,hbl2⟩:=i4 v2 hsB2 hoB2
   have p2:=G2.out.2.1.below hbl2
   have kn:=HP2.out.kn
   clear G2 hbl2
   go_wp2_with fail
   clear hst2
   rw[rounds_succ]
   go_wp2_with fail
   go_ret
   have sm2:=fF HIS.out kn (dz c 2)
   obtain⟨hh2,hd2,_⟩:=lY hb
   exact⟨rfl,_,p2,sm2.mono2,hh2.trans (jh HQ1.out).symm,hd2⟩
 ·have hPl:=jm (i:=i) (dz c 1) none 0 HP1.out F HIS.out (oQ (k:=6) (s:=1) (f:=0) (n:=0) (by omega) hc2 (by omega) (by omega) (by omega) 0 _) (by have:=hcnS;omega) (cy _ _) (fun y hy=>by cases hy) (by show (0:Nat)≤_;omega)
  rw[HX.out]at hPl
  go_wp2_with fail
  refine Calls.mono hPl ?_
  rintro r v1 ⟨B1,E1,rfl,hsB1,hoB1,G1⟩
  clear hPl hst1 cr1
  have hb:=mC (S:=S) (c:=c) (s:=1) (by have:=hmvS;omega) hcnS (by omega)
  have hE1:E1=0:=G1.out.1.trans hb
  subst hE1
  obtain⟨u1,hst1,_,hbl1⟩:=i4 v1 hsB1 hoB1
  have p1:=G1.out.2.1.below hbl1
  have kn:=HP1.out.kn
  clear G1 hbl1
  go_wp2_with fail
  clear hst1
  rw[rounds_succ]
  obtain⟨T,hT⟩:∃ y,(S.play (dz c 1)).S=y:=⟨_,rfl⟩
  have smT:=fF HIS.out kn (dz c 1)
  obtain⟨hh,hd,_⟩:=tb hb
  rw[hT]at smT hh hd p1
  have HIT:Hid (T.In):=smT.I
  have hcnT:c<T.n:=by rw[smT.n];exact hcnS
  have hmvT:T.mv+1≤4096:=by have:=smT.mv;omega
  have HT:Hid (_):=And.intro smT (And.intro hh hd)
  have HPT:Hid (PWn ev w0 t L u1 T):=p1
  clear smT hh hd p1 kn hb hT
  have hSe:=qu HPT.out (c:=c) hcnT
  rw[HX.out]at hSe
  go_wp2_with fail
  refine hSe.mono ?_
  rintro r x2 ⟨A2,rfl,hsA2,hoA2,H2⟩
  clear hSe
  obtain⟨y2,hst2,hrg2,hbl2,_⟩:=fq x2 hsA2 hoA2
  have cr2:=hrg2 6 _ H2.out.1.2.2.2.1
  rw[Nat.zero_add]at cr2
  have p2:=(HPT.out.below H2.out.2).below hbl2
  obtain⟨q2,hq2⟩:∃ y,aq (T.ds c).v=y:=⟨_,rfl⟩
  rw[hq2]at cr2
  have HQ2:Hid (aq (T.ds c).v=q2):=hq2
  have HP2:Hid (PWn ev w0 t L y2 T):=p2
  clear hrg2 hbl2 H2 p2 hq2
  cases q2
  ·go_wp2_with fail
   clear hst2 cr2
   rw[rounds_succ]
   go_wp2_with fail
   go_ret
   exact⟨rfl,T,HP2.out,HT.out.1.mono2,HT.out.2.1,by rw[HT.out.2.2]at HQ2 ⊢;exact (jg HQ2.out).symm⟩
  ·have hPl:=jm (i:=i) (dz c 2) none 0 HP2.out F HIT.out (oQ (k:=6) (s:=2) (f:=0) (n:=0) (by omega) hc2 (by omega) (by omega) (by omega) 0 _) (by have:=hcnT;omega) (cy _ _) (fun y hy=>by cases hy) (by show (0:Nat)≤_;omega)
   rw[HX.out]at hPl
   go_wp2_with fail
   refine Calls.mono hPl ?_
   rintro r v2 ⟨B2,E2,rfl,hsB2,hoB2,G2⟩
   clear hPl hst2 cr2
   have hb:=mC (S:=T) (c:=c) (s:=2) (by have:=hmvT;omega) hcnT (by omega)
   have hE2:E2=0:=G2.out.1.trans hb
   subst hE2
   obtain⟨u2,hst2,_,hbl2⟩:=i4 v2 hsB2 hoB2
   have p2:=G2.out.2.1.below hbl2
   have kn:=HP2.out.kn
   clear G2 hbl2
   go_wp2_with fail
   clear hst2
   rw[rounds_succ]
   go_wp2_with fail
   go_ret
   have sm2:=fF HIT.out kn (dz c 2)
   obtain⟨hh2,hd2,_⟩:=lY hb
   exact⟨rfl,_,p2,HT.out.1.trans sm2,hh2.trans HT.out.2.1,by rw[hd2,HT.out.2.2]⟩
theorem xZ (A:Array Value) (st ss:Nat) (v:Vs) (n:Nat) (wz w:World) (hs:A.size=9) (ho:A.all (·.oneCell')=true) (h:EwC A st ss v n wz):Calls prog 69 #[.agg A] w fun r w'=>r=.returned (.bool (decide (st=4) && decide (v.lat=0)))∧Below w.heap.size w w':=by
 have k0:=aA w (.cells A 43)
 have b0:=aC (Below.refl _ w) (.cells A 43)
 obtain⟨W,hW⟩:∃ y,w.alloc (.cells A 43)=y:=⟨_,rfl⟩
 obtain⟨x,hx⟩:∃ y,w.heap.size=y:=⟨_,rfl⟩
 rw[hW]at k0 b0
 have HB:Hid (Below w.heap.size w W):=b0
 rw[hx]at k0
 have c0:W.cell? ⟨x,0,none⟩=some (.int .i64 (st:Nat)):=(ae W x 0 _ _ _ k0).trans (by rw[← Array.getElem?_toList];exact h.1)
 have c5:W.cell? ⟨x,5,none⟩=some (.int .i64 v.lat):=(ae W x 5 _ _ _ k0).trans (by rw[← Array.getElem?_toList];exact h.2.2.1)
 have HE:Hid (_=W):=hW
 have HS:Hid (w.heap.size=x):=hx
 clear k0 b0 hW hx h
 obtain⟨R,hR⟩:∃ y,(decide (st=4) && decide (v.lat=0))=y:=⟨_,rfl⟩
 have HR:Hid (_=R):=hR
 rw[hR]
 clear hR
 go_enter func69,ntmps69
 go_upto_region 1 with fail
 rw[HE.out,HS.out]
 by_cases h4:st=4
 ·by_cases h0:v.lat=0
  ·rw[h4]at c0
   rw[h0]at c5
   have e:R=true:=by rw[← HR.out];simp[h4,h0]
   clear h4 h0
   go_wp2_with fail
   go_ret
   exact⟨by rw[e];rfl,HB.out⟩
  ·rw[h4]at c0
   have hb:(v.lat == 0)=false:=by simpa using h0
   have e:R=false:=by rw[← HR.out];simp[h0]
   clear h4 h0
   go_wp2_with fail
   go_ret
   exact⟨by rw[e];rfl,HB.out⟩
 ·have hb:(((st:Nat):Int) == 4)=false:=by
   have:((st:Nat):Int)≠4:=by omega
   simpa using this
  have e:R=false:=by rw[← HR.out];simp[h4]
  clear h4
  go_wp2_with fail
  go_ret
  exact⟨by rw[e];rfl,HB.out⟩
theorem zu {w0 w:World} {t:Nat→Thing} {L:Pw} {S:Ws} {c:Nat} (h:PWn ev w0 t L w S) (hcn:c<S.n):Calls prog 36 #[ac L.x 0,.int .i64 (c:Nat)] w fun r w'=>r=.returned (.bool (yd S c))∧Below w.heap.size w w':=by
 have HP:Hid (PWn ev w0 t L w S):=h
 have hS1:=qt h hcn
 obtain⟨X,hX⟩:∃ y,L.x=y:=⟨_,rfl⟩
 have HX:Hid (L.x=X):=hX
 rw[hX]at hS1 ⊢
 clear hX h
 go_enter func36,ntmps36
 go_wp2_with fail
 refine hS1.mono ?_
 rintro r x1 ⟨A,rfl,hsA,hoA,H1⟩
 clear hS1
 obtain⟨y1,hst1,hrg1,hbl1,_⟩:=fq x1 hsA hoA
 have b1:=H1.out.2.trans (hbl1.mono H1.out.2.size)
 have hS2:=qu (HP.out.below b1) (c:=c) hcn
 rw[HX.out]at hS2
 obtain⟨pa,hpa⟩:∃ y,x1.heap.size=y:=⟨_,rfl⟩
 rw[hpa]at hst1 hrg1
 have HA:Hid (_):=And.intro hrg1 (And.intro b1 H1.out.1)
 clear hrg1 hbl1 b1 H1
 go_wp2_with fail
 refine hS2.mono ?_
 rintro r x2 ⟨B,rfl,hsB,hoB,H2⟩
 clear hS2 hst1 hpa
 obtain⟨y2,hst2,hrg2,hbl2,_⟩:=fq x2 hsB hoB
 have b2:=H2.out.2.trans (hbl2.mono H2.out.2.size)
 obtain⟨hrg1,b1,e1⟩:=HA.out
 have cA:y2.rangeAt pa 0 A.toList:=fun j v hv=>ag (hrg1 j v hv) b2
 obtain⟨pb,hpb⟩:∃ y,x2.heap.size=y:=⟨_,rfl⟩
 rw[hpb]at hst2 hrg2
 have hiA:(prog.info? 43).map (·.size)=some A.size:=by rw[hsA];kernel_rfl
 have hiB:(prog.info? 43).map (·.size)=some B.size:=by rw[hsB];kernel_rfl
 have HL:Hid (y2.rangeAt pa 0 A.toList∧y2.rangeAt pb 0 B.toList):=⟨cA,hrg2⟩
 have HB:Hid (Below w.heap.size w y2):=b1.trans (b2.mono b1.size)
 have hR1:=xZ A _ _ _ _ _ y2 hsA hoA e1
 have HR2:Hid (∀ wx,Calls prog 69 #[.agg B] wx fun r w'=>r=.returned (.bool (decide ((S.ds c).st=4) && decide ((S.ds c).v.lat=0)))∧Below wx.heap.size wx w'):=fun wx=>xZ B _ _ _ _ _ wx hsB hoB H2.out.1
 have HC1:Hid (y2.cell? ⟨pa,1,none⟩=some (.int .u32 ((S.hs c).ss:Nat))∧y2.cell? ⟨pb,1,none⟩=some (.int .u32 ((S.ds c).ss:Nat))):=⟨by have:=cA 1 _ e1.2.1;rw[Nat.zero_add]at this;exact this,by have:=hrg2 1 _ H2.out.1.2.1;rw[Nat.zero_add]at this;exact this⟩
 obtain⟨g1,hg1⟩:∃ y,(decide ((S.hs c).st=4) && decide ((S.hs c).v.lat=0))=y:=⟨_,rfl⟩
 obtain⟨g2,hg2⟩:∃ y,(decide ((S.ds c).st=4) && decide ((S.ds c).v.lat=0))=y:=⟨_,rfl⟩
 have HU:Hid (yd S c=(g1 && g2 && decide ((S.hs c).ss=(S.ds c).ss))):=by rw[← hg1,← hg2];rfl
 rw[hg1]at hR1
 rw[hg2]at HR2
 clear hrg1 hrg2 hbl2 b1 b2 e1 cA H2 HA hg1 hg2
 go_wp2_with (first | refine aQ (by kernel_rfl) 43 (.tmp 5) rfl pa 0 rfl A _ HL.out.1 underlying43 rfl hiA ?_ | refine aQ (by kernel_rfl) 43 (.tmp 7) rfl pb 0 rfl B _ HL.out.2 underlying43 rfl hiB ?_)
 refine hR1.mono ?_
 rintro r z1 ⟨rfl,c1⟩
 clear hR1 hst2 hpb
 have hR2:=HR2.out z1
 have HL2:Hid (z1.rangeAt pb 0 B.toList):=fun j v hv=>ag (HL.out.2 j v hv) c1
 have d1:=ag HC1.out.1 c1
 have d2:=ag HC1.out.2 c1
 have HB2:Hid (Below w.heap.size w z1):=HB.out.trans (c1.mono HB.out.size)
 cases g1
 ·have e:yd S c=false:=by rw[HU.out];rfl
  clear hR2 d1 d2 c1
  go_wp2_with fail
  go_ret
  exact⟨by rw[e];rfl,HB2.out⟩
 ·go_wp2_with (refine aQ (by kernel_rfl) 43 (.tmp 7) rfl pb 0 rfl B _ HL2.out underlying43 rfl hiB ?_)
  refine hR2.mono ?_
  rintro r z2 ⟨rfl,c2⟩
  clear hR2
  have d1:=ag d1 c2
  have d2:=ag d2 c2
  have HB3:Hid (Below w.heap.size w z2):=HB2.out.trans (c2.mono HB2.out.size)
  cases g2
  ·have e:yd S c=false:=by rw[HU.out];rfl
   clear d1 d2 c1 c2
   go_wp2_with fail
   go_ret
   exact⟨by rw[e];rfl,HB3.out⟩
  ·by_cases hss:(S.hs c).ss=(S.ds c).ss
   ·have e:yd S c=true:=by rw[HU.out];simp[hss]
    rw[hss]at d1
    clear c1 c2 hss
    go_wp2_with fail
    go_ret
    exact⟨by rw[e];rfl,HB3.out⟩
   ·have e:yd S c=false:=by rw[HU.out];simp[hss]
    have hb:((((S.hs c).ss:Nat):Int) == (((S.ds c).ss:Nat):Int))=false:=by
     have:(((S.hs c).ss:Nat):Int) ≠ (((S.ds c).ss:Nat):Int):=by omega
     simpa using this
    clear c1 c2 hss
    go_wp2_with fail
    go_ret
    exact⟨by rw[e];rfl,HB3.out⟩
theorem tm (w:World) {A:Array Value} (hs:A.size=29) (ho:A.all (·.oneCell')=true):∃ wz,(storeCells ⟨w.heap.size,0,none⟩ A.toList).run prog (w.alloc (.cells cJ 45))=.ok () wz∧wz.rangeAt w.heap.size 0 A.toList∧Below w.heap.size w wz∧wz.there w.heap.size 0 29:=by
 have kr:=aA w (.cells cJ 45)
 have h9:(w.alloc (.cells cJ 45)).there w.heap.size 0 29:=aZ kr rfl
 have hth:(w.alloc (.cells cJ 45)).there w.heap.size 0 A.size:=by rw[hs];exact h9
 exact⟨_,em hth ho,World.rangeAt_setCells_same _ w.heap.size 0 A.toList (by simpa using hth),(bf _ w.heap.size 0 A.toList).below (aC (Below.refl _ _) _) (by simp) (by rw[gD];omega),World.there_setCells h9 _ _ _⟩
theorem uM {w0 w:World} {t:Nat→Thing} {L:Pw} {S:Ws} {i c k a:Nat} {P:Pm} (h:PWn ev w0 t L w S) (F:Fre ev t i) (I:S.In) (hcn:c<S.n) (hmv:S.mv+5≤4096) (hc2:c≤10000) (h1:S.PH c=P) (h2:S.PD c=P) (J:Pj (S.hs c) (S.ds c) k a) (hk:k=1∨k=2∨k=3∨k=4) (ha:if k=4 then a+1<P.n else a=0):Calls prog 68 #[ac L.x 0,.int .i64 (c:Nat)] w fun r w'=>r=.returned (.tuple #[.bool true,.int .i64 0])∧Hid (∃ S',PWn ev w0 t L w' S'∧Xa P S S' c k a):=by
 have Kn:=h.kn
 obtain⟨bd1,i1,q1⟩:=exS I Kn hcn (by omega) h1 h2 J hk ha
 have hN:S.bg.length≤4096:=by have:=I.bg;omega
 have m1:=fF I Kn (du c)
 have hPl:=jm (i:=i) (du c) none 0 h F I (oQ (k:=2) (s:=0) (f:=0) (n:=0) (by omega) hc2 (by omega) (by omega) (by omega) 0 _) (by omega) (cy _ _) (fun y hy=>by cases hy) (by show (0:Nat)≤_;omega)
 obtain⟨X,hX⟩:∃ y,L.x=y:=⟨_,rfl⟩
 have HX:Hid (L.x=X):=hX
 rw[hX]at hPl ⊢
 obtain⟨N,hNN⟩:∃ y,S.bg.length=y:=⟨_,rfl⟩
 obtain⟨S1,hS1⟩:∃ y,(S.play (du c)).S=y:=⟨_,rfl⟩
 rw[hNN]at i1 q1 hN
 have q1:=q1 S1 hS1
 have HB1:Hid (S.bad (du c)=0):=bd1
 have HI1:Hid ((S.play (du c)).i=((N:Nat):Int)):=i1
 have HQ1:Hid (S1.Kn→_):=q1
 have S1I:Hid (S1.In):=by rw[← hS1];exact m1.I
 have hnS1:c<S1.n:=by rw[← hS1,m1.n];exact hcn
 have HS1:Hid ((S.play (du c)).S=S1):=hS1
 have HM1:Hid (Sm S S1 1):=by rw[← hS1];exact m1
 have HJ:Hid (_):=And.intro h1 (And.intro h2 (And.intro J (And.intro hk ha)))
 have HII:Hid (S.In∧S.Kn):=⟨I,Kn⟩
 clear bd1 i1 q1 m1 hX hNN hS1 h h1 h2 J hk ha Kn I
 go_enter func68,ntmps68
 go_wp2_with fail
 refine Calls.mono hPl ?_
 rintro r x1 ⟨A1,E1,rfl,hsA1,hoA1,H1⟩
 clear hPl
 have hE1:E1=0:=H1.out.1.trans HB1.out
 subst hE1
 obtain⟨y1,hst1,hrg1,hbl1,th1⟩:=tm x1 hsA1 hoA1
 obtain⟨v0,hv0⟩:=Option.isSome_iff_exists.1 (th1 0 (by decide)).1
 obtain⟨ob1,hob1⟩:∃ o,y1.heap[x1.heap.size]?=some o:=⟨_,Array.getElem?_eq_getElem (World.block_lt_of_cell? _ _ hv0)⟩
 have p1:=H1.out.2.1.layL hbl1 (i:=2*i+1) (F i (Nat.le_refl _)).1 (l:=[(x1.heap.size,ob1)]) (fun p hp=>by
  simp only[List.mem_cons,List.not_mem_nil,or_false]at hp
  subst hp
  exact hob1) (fun p hp=>by
  simp only[List.mem_cons,List.not_mem_nil,or_false]at hp
  subst hp
  exact Nat.le_refl _)
 rw[HS1.out]at p1
 obtain⟨rb,hrb⟩:∃ y,x1.heap.size=y:=⟨_,rfl⟩
 rw[hrb]at hst1 hrg1 th1 hob1 p1
 have hs1:=hrg1 10 _ (H1.out.2.2 HB1.out).2.1
 rw[Nat.zero_add,HI1.out]at hs1
 have HP1:Hid (PWn ev w0 (aI t (2*i+1) (dN [(rb,ob1)])) L y1 S1):=p1
 have HO1:Hid (y1.heap[rb]?=some ob1):=hob1
 have HT1:Hid (y1.there rb 0 29):=th1
 obtain⟨bd2,i2,q2⟩:=HQ1.out p1.kn
 have HB2:Hid (S1.bad (bK c 2 N)=0):=bd2
 have HI2:Hid ((S1.play (bK c 2 N)).i=((N+1:Nat):Int)):=i2
 obtain⟨S2,hS2⟩:∃ y,(S1.play (bK c 2 N)).S=y:=⟨_,rfl⟩
 have HS2:Hid ((S1.play (bK c 2 N)).S=S2):=hS2
 have q2:=q2 S2 hS2
 have HQ2:Hid (S2.Kn→_):=q2
 have m2:=fF S1I.out p1.kn (bK c 2 N)
 rw[hS2]at m2
 have S2I:Hid (S2.In):=m2.I
 have hnS2:c<S2.n:=by rw[m2.n];exact hnS1
 have HM2:Hid (Sm S S2 2):=HM1.out.trans m2
 have hN0:¬ ((N:Nat):Int)<0:=by omega
 clear hrg1 hbl1 th1 hv0 hob1 p1 H1 bd2 i2 q2 m2 hS2
 have hD2:=aat (c:=c) (s:=2) (f:=N) HP1.out (F.put _) S1I.out (by have:=hnS1;omega) hc2 (by omega) (by have:=hN;omega)
 rw[HX.out]at hD2
 go_wp2_with fail
 refine hD2.mono ?_
 rintro r x2 ⟨A2,E2,rfl,hsA2,hoA2,H2⟩
 clear hD2
 have hE2:E2=0:=H2.out.1.trans HB2.out
 subst hE2
 have kb2:=H2.out.2.1.box (q:=2*i+1) (F i (Nat.le_refl _)).1 (ak _ _ _) _ (List.mem_cons_self ..)
 obtain⟨y2,ob2,hst2,p2,th2,hrg2,_⟩:=PWn.rowB F H2.out.2.1 (iC HT1.out (kb2.trans (HO1.out).symm)) hsA2 hoA2
 have hr2:=H2.out.2.2 HB2.out
 have kq2:=p2.box (q:=2*i+1) (F i (Nat.le_refl _)).1 (ak _ _ _) _ (List.mem_cons_self ..)
 have HP2:Hid (PWn ev w0 (aI t (2*i+1) (dN [(rb,ob2)])) L y2 (S1.play (bK c 2 (N))).S):=p2
 have HO2:Hid (y2.heap[rb]?=some ob2):=kq2
 have HT2:Hid (y2.there rb 0 29):=th2
 have hs2:=hrg2 10 _ hr2.2
 rw[Nat.zero_add,HI2.out]at hs2
 have HP2':Hid (PWn ev w0 (aI t (2*i+1) (dN [(rb,ob2)])) L y2 S2):=by rw[← HS2.out];exact p2
 obtain⟨bd3,e3,xs⟩:=HQ2.out HP2'.out.kn
 have HB3:Hid (S2.bad (bK c 1 (N+1))=0):=bd3
 have HE3:Hid ((S2.play (bK c 1 (N+1))).e=0):=e3
 have HXS:Hid (_):=xs
 have hN1:¬ ((N+1:Nat):Int)<0:=by omega
 clear H2 kb2 p2 th2 hrg2 hr2 kq2 HP2 bd3 e3 xs hst1 hs1
 go_wp2_with fail
 clear hst2
 have hD3:=aat (c:=c) (s:=1) (f:=N+1) HP2'.out (F.put _) S2I.out (by have:=hnS2;omega) hc2 (by omega) (by have:=hN;omega)
 rw[HX.out]at hD3
 go_wp2_with fail
 refine hD3.mono ?_
 rintro r x3 ⟨A3,E3,rfl,hsA3,hoA3,H3⟩
 clear hD3
 have hE3:E3=0:=H3.out.1.trans HB3.out
 subst hE3
 have kb3:=H3.out.2.1.box (q:=2*i+1) (F i (Nat.le_refl _)).1 (ak _ _ _) _ (List.mem_cons_self ..)
 obtain⟨y3,ob3,hst3,p3,th3,hrg3,_⟩:=PWn.rowB F H3.out.2.1 (iC HT2.out (kb3.trans (HO2.out).symm)) hsA3 hoA3
 have hr3:=H3.out.2.2 HB3.out
 have kq3:=p3.box (q:=2*i+1) (F i (Nat.le_refl _)).1 (ak _ _ _) _ (List.mem_cons_self ..)
 have HP3:Hid (PWn ev w0 (aI t (2*i+1) (dN [(rb,ob3)])) L y3 (S2.play (bK c 1 (N+1))).S):=p3
 have HO3:Hid (y3.heap[rb]?=some ob3):=kq3
 have HT3:Hid (y3.there rb 0 29):=th3
 have hs3:=hrg3 9 _ hr3.1
 rw[Nat.zero_add,HE3.out]at hs3
 clear hs2 H3 kb3 p3 th3 hrg3 hr3 kq3
 have hA:=aam (c:=c) HP3.out (F.put _) HXS.out.sm.I (by rw[HXS.out.sm.n];exact hcn) (by have:=HXS.out.sm.mv;omega) hc2
 rw[HX.out]at hA
 go_wp2_with fail
 refine hA.mono ?_
 rintro r y4 ⟨rfl,H4⟩
 clear hA hst3
 obtain⟨S4,p4,sm4,hh4,hd4⟩:=H4.out
 have kq4:=p4.box (q:=2*i+1) (F i (Nat.le_refl _)).1 (ak _ _ _) _ (List.mem_cons_self ..)
 have hs4:y4.cell? ⟨rb,9,none⟩=some (.int .i64 0):=(World.cell?_of_block (a:=⟨rb,9,none⟩) (kq4.trans HO3.out.symm)).trans hs3
 have HF:Hid (∃ S',PWn ev w0 t L y4 S'∧Xa P S S' c k a):=by
  obtain⟨F1,R1,q1,ex,e1,e2⟩:=HXS.out.ex
  exact⟨S4,p4.drop (F i (Nat.le_refl _)).1 (F i (Nat.le_refl _)).2,⟨F1,R1,q1,ex,by rw[hh4,e1],by rw[hd4,e2]⟩,HXS.out.sm.trans sm4⟩
 clear H4 p4 sm4 hh4 hd4 kq4 hs3
 go_wp2_with fail
 go_ret2
 exact⟨rfl,HF.out⟩
theorem wN (s:Sh):(eM s).hd=s.hd:=rfl
theorem wM (s:Sd):(cU s).hd=s.hd:=by unfold cU;split <;> rfl
theorem Xa.hd {P:Pm} {S S':Ws} {c k a:Nat} (h:Xa P S S' c k a):(S'.hs c).hd=(S.hs c).hd∧(S'.ds c).hd=(S.ds c).hd:=by
 obtain⟨F,R,q,ex,e1,e2⟩:=h.ex
 rw[e1,e2,wN,wM]
 exact⟨ex.ha.2,ex.da.2⟩
theorem uV {w0 w:World} {t:Nat→Thing} {L:Pw} {S:Ws} {i c:Nat} {P:Pm} (most:Int) (h:PWn ev w0 t L w S) (F:Fre ev t i) (I:S.In) (hcn:c<S.n) (hmv:S.mv+15≤4096) (hc2:c≤10000) (h1:S.PH c=P) (h2:S.PD c=P) (J:Pj (S.hs c) (S.ds c) 1 0) (l1:(S.hs c).v.lat=0) (l2:(S.ds c).v.lat=0) (hm:3≤most) (hm2:most≤9223372036854775807):Calls prog 35 #[ac L.x 0,.int .i64 (c:Nat),.int .i64 most] w fun r w'=>r=.returned (.tuple #[.int .i64 3,.bool true,.int .i64 0])∧Hid (∃ S',PWn ev w0 t L w' S'∧Sm S S' 15∧Pj (S'.hs c) (S'.ds c) 4 0∧(S'.hs c).v.lat=0∧(S'.ds c).v.lat=0∧(S'.hs c).hd=(S.hs c).hd∧(S'.ds c).hd=(S.ds c).hd):=by
 have hS1:=qt h hcn
 have hmo0:(0:Int)<most:=by omega
 have hmo1:(1:Int)<most:=by omega
 have hmo2:(2:Int)<most:=by omega
 obtain⟨X,hX⟩:∃ y,L.x=y:=⟨_,rfl⟩
 have HX:Hid (L.x=X):=hX
 rw[hX]at hS1 ⊢
 have HG:Hid (PWn ev w0 t L w S∧S.In∧Pj (S.hs c) (S.ds c) 1 0∧(S.hs c).v.lat=0∧(S.ds c).v.lat=0):=⟨h,I,J,l1,l2⟩
 obtain⟨bh,hbh⟩:∃ y,(S.hs c).hd=y:=⟨_,rfl⟩
 obtain⟨bd,hbd⟩:∃ y,(S.ds c).hd=y:=⟨_,rfl⟩
 rw[hbh,hbd]
 have HBH:Hid ((S.hs c).hd=bh∧(S.ds c).hd=bd):=⟨hbh,hbd⟩
 clear hX h I J l1 l2 hbh hbd
 go_enter func35,ntmps35
 go_wp2_with fail
 refine hS1.mono ?_
 rintro r x1 ⟨A,rfl,hsA,hoA,H1⟩
 clear hS1
 obtain⟨y1,hst1,hrg1,hbl1,_⟩:=fq x1 hsA hoA
 have HG0:Hid (PWn ev w0 t L y1 S∧Sm S S 0∧Pj (S.hs c) (S.ds c) 1 0∧(S.hs c).v.lat=0∧(S.ds c).v.lat=0∧(S.hs c).hd=bh∧(S.ds c).hd=bd):=⟨(HG.out.1.below H1.out.2).below hbl1,Sm.refl HG.out.2.1,HG.out.2.2.1,HG.out.2.2.2.1,HG.out.2.2.2.2,HBH.out.1,HBH.out.2⟩
 have hn0:=hcn
 clear hrg1 hbl1 H1
 go_wp2_with fail
 clear hst1
 refine wp_loop_rounds 5 ?_
 rw[rounds_succ]
 have hU:=zu HG0.out.1 (c:=c) hn0
 rw[HX.out,kV HG0.out.2.2.1 HG0.out.2.2.2.1 HG0.out.2.2.2.2.1,decide_eq_false (by decide)]at hU
 go_wp2_with fail
 refine hU.mono ?_
 rintro r u0 ⟨rfl,bu0⟩
 clear hU
 have hE:=uM (HG0.out.1.below bu0) F HG0.out.2.1.I hn0 (by have:=HG0.out.2.1.mv;omega) hc2 (HG0.out.2.1.ph ▸ h1) (HG0.out.2.1.pd ▸ h2) HG0.out.2.2.1 (by omega) (by rw[if_neg (by decide)])
 rw[HX.out]at hE
 clear bu0
 go_wp2_with fail
 refine hE.mono ?_
 rintro r w1 ⟨rfl,H1⟩
 clear hE
 obtain⟨S1,p1,xa1⟩:=H1.out
 have HG1:Hid (PWn ev w0 t L w1 S1∧Sm S S1 5∧Pj (S1.hs c) (S1.ds c) 2 0∧(S1.hs c).v.lat=0∧(S1.ds c).v.lat=0∧(S1.hs c).hd=bh∧(S1.ds c).hd=bd):=by
  obtain⟨l1,l2⟩:=xa1.lat HG0.out.2.2.2.1 HG0.out.2.2.2.2.1
  obtain⟨k1,k2⟩:=xa1.hd
  exact⟨p1,HG0.out.2.1.trans xa1.sm,xa1.pj (by omega),l1,l2,k1.trans HG0.out.2.2.2.2.2.1,k2.trans HG0.out.2.2.2.2.2.2⟩
 have hn1:c<S1.n:=by rw[HG1.out.2.1.n];exact hcn
 clear H1 p1 xa1
 go_wp2_with fail
 rw[rounds_succ]
 have hU:=zu HG1.out.1 (c:=c) hn1
 rw[HX.out,kV HG1.out.2.2.1 HG1.out.2.2.2.1 HG1.out.2.2.2.2.1,decide_eq_false (by decide)]at hU
 go_wp2_with fail
 refine hU.mono ?_
 rintro r u1 ⟨rfl,bu1⟩
 clear hU
 have hE:=uM (HG1.out.1.below bu1) F HG1.out.2.1.I hn1 (by have:=HG1.out.2.1.mv;omega) hc2 (HG1.out.2.1.ph ▸ h1) (HG1.out.2.1.pd ▸ h2) HG1.out.2.2.1 (by omega) (by rw[if_neg (by decide)])
 rw[HX.out]at hE
 clear bu1
 go_wp2_with fail
 refine hE.mono ?_
 rintro r w2 ⟨rfl,H2⟩
 clear hE
 obtain⟨S2,p2,xa2⟩:=H2.out
 have HG2:Hid (PWn ev w0 t L w2 S2∧Sm S S2 10∧Pj (S2.hs c) (S2.ds c) 3 0∧(S2.hs c).v.lat=0∧(S2.ds c).v.lat=0∧(S2.hs c).hd=bh∧(S2.ds c).hd=bd):=by
  obtain⟨l1,l2⟩:=xa2.lat HG1.out.2.2.2.1 HG1.out.2.2.2.2.1
  obtain⟨k1,k2⟩:=xa2.hd
  exact⟨p2,HG1.out.2.1.trans xa2.sm,xa2.pj (by omega),l1,l2,k1.trans HG1.out.2.2.2.2.2.1,k2.trans HG1.out.2.2.2.2.2.2⟩
 have hn2:c<S2.n:=by rw[HG2.out.2.1.n];exact hcn
 clear H2 p2 xa2
 go_wp2_with fail
 rw[rounds_succ]
 have hU:=zu HG2.out.1 (c:=c) hn2
 rw[HX.out,kV HG2.out.2.2.1 HG2.out.2.2.2.1 HG2.out.2.2.2.2.1,decide_eq_false (by decide)]at hU
 go_wp2_with fail
 refine hU.mono ?_
 rintro r u2 ⟨rfl,bu2⟩
 clear hU
 have hE:=uM (HG2.out.1.below bu2) F HG2.out.2.1.I hn2 (by have:=HG2.out.2.1.mv;omega) hc2 (HG2.out.2.1.ph ▸ h1) (HG2.out.2.1.pd ▸ h2) HG2.out.2.2.1 (by omega) (by rw[if_neg (by decide)])
 rw[HX.out]at hE
 clear bu2
 go_wp2_with fail
 refine hE.mono ?_
 rintro r w3 ⟨rfl,H3⟩
 clear hE
 obtain⟨S3,p3,xa3⟩:=H3.out
 have HG3:Hid (PWn ev w0 t L w3 S3∧Sm S S3 15∧Pj (S3.hs c) (S3.ds c) 4 0∧(S3.hs c).v.lat=0∧(S3.ds c).v.lat=0∧(S3.hs c).hd=bh∧(S3.ds c).hd=bd):=by
  obtain⟨l1,l2⟩:=xa3.lat HG2.out.2.2.2.1 HG2.out.2.2.2.2.1
  obtain⟨k1,k2⟩:=xa3.hd
  exact⟨p3,HG2.out.2.1.trans xa3.sm,xa3.pj (by omega),l1,l2,k1.trans HG2.out.2.2.2.2.2.1,k2.trans HG2.out.2.2.2.2.2.2⟩
 have hn3:c<S3.n:=by rw[HG3.out.2.1.n];exact hcn
 clear H3 p3 xa3
 go_wp2_with fail
 clear hmo0 hmo1 hmo2
 rw[rounds_succ]
 by_cases h3:(3:Int)<most
 ·have hU:=zu HG3.out.1 (c:=c) hn3
  rw[HX.out,kV HG3.out.2.2.1 HG3.out.2.2.2.1 HG3.out.2.2.2.2.1,decide_eq_true rfl]at hU
  go_wp2_with fail
  refine hU.mono ?_
  rintro r u3 ⟨rfl,bu3⟩
  clear hU
  have hU:=zu (HG3.out.1.below bu3) (c:=c) hn3
  rw[HX.out,kV HG3.out.2.2.1 HG3.out.2.2.2.1 HG3.out.2.2.2.2.1,decide_eq_true rfl]at hU
  have HBu:Hid (Below w3.heap.size w3 u3):=bu3
  clear bu3
  go_wp2_with fail
  refine hU.mono ?_
  rintro r u4 ⟨rfl,bu4⟩
  clear hU
  go_wp2_with fail
  go_ret3
  exact⟨rfl,S3,(HG3.out.1.below HBu.out).below bu4,HG3.out.2⟩
 ·have hU:=zu HG3.out.1 (c:=c) hn3
  rw[HX.out,kV HG3.out.2.2.1 HG3.out.2.2.2.1 HG3.out.2.2.2.2.1,decide_eq_true rfl]at hU
  go_wp2_with fail
  refine hU.mono ?_
  rintro r u4 ⟨rfl,bu4⟩
  clear hU
  go_wp2_with fail
  go_ret3
  exact⟨rfl,S3,HG3.out.1.below bu4,HG3.out.2⟩
theorem zh (w:World):Calls prog 37 #[] w fun r w'=>r=.returned (.int .i64 7)∧w'=w:=by
 go_enter func37,ntmps37
 go_wp2_with fail
 go_ret
 exact⟨rfl,rfl⟩
theorem zo:Pj bN (cW M0) 1 0:=⟨rfl,rfl,rfl,rfl,rfl,rfl,rfl,rfl,rfl,fun _=>rfl⟩
theorem aaD (P Q:Pm) (mx:Nat):(s0 P Q mx).In:=yb 1 mx (fun _=>P) (fun _=>Q)
theorem we (w:World):Calls prog 17 #[] w fun r w'=>r=.returned (.bool true)∧Below w.heap.size w w':=by
 have hLo:=aaw w
 have hBo:=fun wx=>zh wx
 go_enter func17,ntmps17
 go_wp2_with fail
 refine hLo.mono ?_
 rintro r w1 ⟨q0,q1,rfl,H1⟩
 clear hLo
 have hN:Calls prog 7 #[.agg #[.slice (af q0 0) 1 1,.slice (af q1 0) 1 1,.int .u32 50]] w1 fun r w'=>∃ L:Pw,r=.returned (.tuple #[ac L.x 0,.int .i64 0])∧Hid (PW ev w1 w' (ip L) L∧L.S=s0 P0 P0 50):=aay P0 P0 qR qR q0 q1 50 (by decide) (by decide) w1 H1.out.1 H1.out.2.1
 have HB1:Hid (_):=H1.out.2.2
 clear H1
 go_wp2_with fail
 refine hN.mono ?_
 rintro r w2 ⟨L,rfl,H2⟩
 clear hN
 have hp:=H2.out.1.n
 rw[H2.out.2]at hp
 obtain⟨X,hX⟩:∃ y,L.x=y:=⟨_,rfl⟩
 have hSe:Calls prog 35 #[ac L.x 0,.int .i64 0,.int .i64 7] w2 fun r w'=>r=.returned (.tuple #[.int .i64 3,.bool true,.int .i64 0])∧Hid (∃ S',PWn ev w1 (ip L) L w' S'∧Sm (s0 P0 P0 50) S' 15∧Pj (S'.hs 0) (S'.ds 0) 4 0∧(S'.hs 0).v.lat=0∧(S'.ds 0).v.lat=0∧(S'.hs 0).hd=false∧(S'.ds 0).hd=false):=uV (c:=0) (i:=0) (P:=P0) 7 hp (gX L) (aaD _ _ _) (by decide) (by decide) (by decide) rfl rfl zo rfl rfl (by decide) (by decide)
 rw[hX]at hSe ⊢
 have HX:Hid (L.x=X):=hX
 clear hp hX H2
 go_wp2_with fail
 refine hSe.mono ?_
 rintro r w3 ⟨rfl,H3⟩
 clear hSe
 obtain⟨S,p3,sm,J,l1,l2,_⟩:=H3.out
 have hn:0<S.n:=by rw[sm.n];decide
 have hU:Calls prog 36 #[ac X 0,.int .i64 0] w3 fun r w'=>r=.returned (.bool true)∧Below w3.heap.size w3 w':=by
  have:=zu p3 (c:=0) hn
  rw[HX.out,kV J l1 l2]at this
  exact this
 have HB3:Hid (Below w.heap.size w w3):=by
  obtain⟨t9,L9,h9,_⟩:=p3
  exact HB1.out.trans (h9.1.bel.mono HB1.out.size)
 clear p3 sm J l1 l2 hn H3
 go_wp2_with fail
 refine hU.mono ?_
 rintro r w4 ⟨rfl,b4⟩
 clear hU
 have HB4:Hid (Below w.heap.size w w4):=HB3.out.trans (b4.mono HB3.out.size)
 have hB:=hBo w4
 clear hBo b4
 go_wp2_with fail
 refine hB.mono ?_
 rintro r w5 ⟨rfl,rfl⟩
 go_wp2_with fail
 go_ret
 exact⟨rfl,HB4.out⟩
end Go.Proofs.YtenilkloffnjlaaGreat
