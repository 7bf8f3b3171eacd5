/- Part 25: contracts that the proof rests on. -/
import Derived.Test.YtenilkloffnjlaaGreatPkM23
set_option maxHeartbeats 64000000
set_option maxRecDepth 100000
namespace Go.Proofs.YtenilkloffnjlaaGreat
open Tryz
open Go.RowKit Go.Maps
set_option linter.unusedVariables false
theorem zu (X:Nat) (m:Mv) (d:Option Addr) (c:Nat) (E:Int) (hE:(E != 0)=true) (w:World) (hRf:∀ w1,Below w.heap.size w w1→Calls prog 26 #[ac X 0,.agg (ak m m.c d c)] w1 fun r w'=>r=.returned (.int .i64 E)∧Hid (Below w1.heap.size w1 w')):Calls prog 11 #[ac X 0,.agg (ak m m.c d c)] w fun r w'=>r=.returned (.tuple #[.agg cP,.int .i64 E])∧Below w.heap.size w w':=by
 have s1:=iQ w (.cells (ak m m.c d c) 39)
 have s2:=zo w (.cells (ak m m.c d c) 39) (.cells cP 45)
 have bW:Below w.heap.size w ((w.alloc (.cells (ak m m.c d c) 39)).alloc (.cells cP 45)):=aC (aC (Below.refl _ w) _) _
 have kp:((w.alloc (.cells (ak m m.c d c) 39)).alloc (.cells cP 45)).heap[w.heap.size]?=some (.cells (ak m m.c d c) 39 (0,0)):=(Below.heap_alloc _ _ _ (by omega)).trans (aA w _)
 have kr:=aA (w.alloc (.cells (ak m m.c d c) 39)) (.cells cP 45)
 rw[s1]at kr
 obtain⟨wa,hwa⟩:∃ z,(w.alloc (.cells (ak m m.c d c) 39)).alloc (.cells cP 45)=z:=⟨_,rfl⟩
 rw[hwa]at bW kp kr s2
 obtain⟨x,hx⟩:∃ z,w.heap.size=z:=⟨_,rfl⟩
 have HB:Hid (Below w.heap.size w wa):=bW
 rw[hx]at kp kr s2
 have p0:wa.cell? ⟨x,0,none⟩=some (.int .i64 m.k):=ae wa (x) 0 _ _ _ kp
 have p1:wa.cell? ⟨x,1,none⟩=some (.int .i64 m.c):=ae wa (x) 1 _ _ _ kp
 have p2:wa.cell? ⟨x,2,none⟩=some (.int .i64 m.s):=ae wa (x) 2 _ _ _ kp
 have p3:wa.cell? ⟨x,3,none⟩=some (.int .i64 m.f):=ae wa (x) 3 _ _ _ kp
 have p4:wa.cell? ⟨x,4,none⟩=some (.int .i64 m.a):=ae wa (x) 4 _ _ _ kp
 have p5:wa.cell? ⟨x,5,none⟩=some (.int .u32 (m.w:Nat)):=ae wa (x) 5 _ _ _ kp
 have p6:wa.cell? ⟨x,6,none⟩=some (.int .i64 m.n):=ae wa (x) 6 _ _ _ kp
 have p7:wa.cell? ⟨x,7,none⟩=some (.bool m.h):=ae wa (x) 7 _ _ _ kp
 have p8:wa.cell? ⟨x,8,none⟩=some (.slice d m.l c):=ae wa (x) 8 _ _ _ kp
 have hRc:=hRf wa bW
 clear hRf
 have HR:Hid (_):=kr
 have H2:Hid (wa.heap.size=x+2):=s2
 have HE:Hid (_=wa):=hwa
 have HS:Hid (w.heap.size=x):=hx
 clear s1 s2 bW kp kr hwa hx
 go_enter func11,ntmps11
 go_upto_region 1 with fail
 rw[HE.out,HS.out]
 go_wp2_with fail
 refine hRc.mono ?_
 rintro r w1 ⟨rfl,H1⟩
 have b1:=H1.out
 clear hRc H1
 have kr:=(b1.block (x+1) (by rw[H2.out];omega)).trans HR.out
 have hth:w1.there (x+1) 0 29:=aV kr rfl
 have hrg:=World.rangeAt_setCells_same w1 (x+1) 0 cP.toList hth
 have o1:=dn w1 (x+1) 0 cP.toList
 have hl:(loadVar 45 ⟨x+1,0,none⟩).run prog (w1.setCells (x+1) 0 cP.toList)=.ok (.agg cP) (w1.setCells (x+1) 0 cP.toList):=run_loadVar_mid (P:=prog) _ (x+1) 0 45 cP.toList _ hrg underlying45 rfl (by kernel_rfl)
 have HO:Hid (_):=And.intro o1 b1
 have HL:Hid (_):=hl
 have HT:Hid (_):=hth
 clear kr hrg o1 b1 hth hl
 go_upto_region 3 with fail
 apply wp_region_lit
 refine gd rfl (.agg cP) (by go_simp) ?_
 refine gd rfl (.int .i64 E) (by go_simp) ?_
 refine wpList_store_mid rfl 45 (.tmp 4) (.tmp 15) rfl (x+1) 0 cP (by kernel_rfl) (by kernel_rfl) HT.out (by kernel_rfl) (by kernel_rfl) ?_
 have HL2:=HL.out
 obtain⟨wz,hwz⟩:∃ z,w1.setCells (x+1) 0 cP.toList=z:=⟨_,rfl⟩
 rw[hwz]at HL2 ⊢
 have HO2:=HO.out
 rw[hwz]at HO2
 have HO3:Hid (_):=HO2
 clear HO HO2 HL hwz
 refine gd rfl (.int .i64 E) (by go_simp) ?_
 go_wp2_with fail
 refine bodyPost_ret (v:=.tuple #[.agg cP,.int .i64 E]) ((eU (t:=4) (u:=5) (ty:=45) rfl _ prog wz (by kernel_rfl) HL2).trans (by kernel_rfl)) rfl ?_
 refine⟨rfl,?_⟩
 have hb:=HB.out
 have hb1:=HO3.out.2
 exact HO3.out.1.below (hb.trans (hb1.mono hb.size)) (by simp[HS.out]) (Nat.le_trans hb.size hb1.size)
structure Ws.Law (S:Ws) (m:Mv) (k:Nat):Prop where
 k1:1≤m.k
 k8:m.k≤8
 c:m.c=((k:Nat):Int)
 kn:k<S.n
 sd:m.k≠2→m.k≠8→m.s=1∨m.s=2
 fr:m.k=3∨m.k=4→0≤m.f∧m.f < ((S.bg.length:Nat):Int)
 gb:m.k=4→cq ((S.bg.getD m.f.toNat cG).1:Nat) m.a m.w=0
 n5:m.k=5→0≤m.n∧m.n≤1048576
 n7:m.k=7→0≤m.n
theorem Ws.Law.of {S:Ws} {m:Mv} (h:S.bad m=0):S.up.Law m m.c.toNat:=by
 have o:=Ws.Ok.of h
 have h5:m.k=5→0≤m.n∧m.n≤1048576:=fun q=>by
  have hh:=h
  unfold Ws.bad at hh
  rw[if_neg (by have:=o.mv;omega),if_neg (by have:=o.k1;have:=o.k8;omega),if_neg (by have:=o.c0;have:=o.cn;omega),if_neg (fun z=>(o.sd z.1).elim z.2.1 z.2.2),if_neg (by omega),if_neg (by omega),if_pos q]at hh
  by_cases z:m.n<0∨1048576<m.n
  ·rw[if_pos z]at hh
   omega
  ·omega
 have h7:m.k=7→0≤m.n:=fun q=>by
  have hh:=h
  unfold Ws.bad at hh
  rw[if_neg (by have:=o.mv;omega),if_neg (by have:=o.k1;have:=o.k8;omega),if_neg (by have:=o.c0;have:=o.cn;omega),if_neg (fun z=>(o.sd z.1).elim z.2.1 z.2.2),if_neg (by omega),if_neg (by omega),if_neg (by omega),if_pos q]at hh
  by_cases z:m.n<0∨m.s=1∧0<m.n
  ·rw[if_pos z]at hh
   omega
  ·omega
 exact⟨o.k1,o.k8,by have:=o.c0;omega,by have:=o.c0;have:=o.cn;show m.c.toNat<S.n;omega,fun a b=>o.sd (by unfold d8;simp[a,b]),o.fr,o.gb,h5,h7⟩
structure Ws.Fit (S:Ws) (m:Mv) (k:Nat):Prop where
 fs:S.fs.length≤80000
 bg:S.bg.length<4096
 hms:(S.hs k).ms<4
 hst:1 ≤ (S.hs k).st∧(S.hs k).st≤5
 hsn:(S.hs k).st=4→(S.hs k).sn+1<4294967296
 hL:(S.hs k).L.length<700000
 hb:∀ j,j < (aP (S.PH k) (S.hs k)).1→(aP (S.PH k) (S.hs k)).2 j<256
 hf:(aP (S.PH k) (S.hs k)).1≤27
 dsn:(S.ds k).st=4→(S.ds k).sn+1<4294967296
 dod:(S.ds k).od<4
 dL:(S.ds k).L.length<800000
 dt:(S.ds k).ms.t<9223372036854774000
 db:∀ j,j < (az (S.PD k) S.mx 16 (S.ds k) (S.fr m).1 (S.fr m).2).f.1→(az (S.PD k) S.mx 16 (S.ds k) (S.fr m).1 (S.fr m).2).f.2 j<256
 df:(az (S.PD k) S.mx 16 (S.ds k) (S.fr m).1 (S.fr m).2).f.1≤27
theorem wS {e:Nat→Nat} {w0 w:World} {t:Nat→Thing} {L:Pw} {S:Ws} (k i:Nat) (m:Mv) (d:Option Addr) (c:Nat) (h:PWn e w0 t L w S) (F:Fre e t i) (ok:m.Ok) (l:S.Law m k) (f:S.Fit m k) (j:Nat) (hj:j<2*i+1) (hq:∀ q,j≠e q) (hr:t j=dF d m.l c m.b):Calls prog 28 #[ac L.x 0,.agg (ak m (k:Nat) d c)] w fun r w'=>r=.returned (.tuple #[.int .i64 (S.act m).e,.int .i64 (S.act m).i])∧Hid (PWn e w0 t L w' (S.act m).S):=by
 have hk:m.c.toNat=k:=by have:=l.c;omega
 have k1:=l.k1
 have k8:=l.k8
 unfold Ws.act
 rw[hk]
 dsimp only
 by_cases q1:m.k=1
 ·rw[if_pos q1]
  by_cases s1:m.s=1
  ·rw[if_pos s1]
   exact yT k i m d c h F l.kn s1 q1 j hj hq hr
  ·rw[if_neg s1]
   exact yS k i m d c h F l.kn ((l.sd (by omega) (by omega)).resolve_left s1) q1 j hj hq hr
 rw[if_neg q1]
 by_cases q2:m.k=2
 ·rw[if_pos q2]
  exact xV k i m d c h F q2 l.kn (by have:=f.fs;omega) f.bg f.hms f.hst f.hsn f.hL f.hb f.hf
 rw[if_neg q2]
 by_cases q3:m.k=3∨m.k=4
 ·rw[if_pos q3]
  have:=xW k i m d c h F q3 l.c l.kn f.fs f.bg (l.fr q3).1 (l.fr q3).2 ok.w l.gb (by have:=f.hL;omega) f.dsn f.dod f.dL f.dt f.db f.df
  unfold Ws.dlv at this
  exact this
 rw[if_neg q3]
 by_cases q5:m.k=5
 ·rw[if_pos q5]
  by_cases s1:m.s=1
  ·rw[if_pos s1]
   exact yV k i m d c h F l.kn s1 q5 (l.n5 q5) (by have:=f.fs;omega) (by have:=f.hL;omega)
  ·rw[if_neg s1]
   exact yU k i m d c h F l.kn ((l.sd (by omega) (by omega)).resolve_left s1) q5 (l.n5 q5) (by have:=f.fs;omega) f.dL
 rw[if_neg q5]
 by_cases q6:m.k=6
 ·rw[if_pos q6]
  by_cases s1:m.s=1
  ·rw[if_pos s1]
   exact yX k i m d c h F l.kn s1 q6 (by have:=f.fs;omega)
  ·rw[if_neg s1]
   exact yW k i m d c h F l.kn ((l.sd (by omega) (by omega)).resolve_left s1) q6 (by have:=f.fs;omega)
 rw[if_neg q6]
 by_cases q7:m.k=7
 ·rw[if_pos q7]
  by_cases s1:m.s=1
  ·rw[if_pos s1]
   exact yZ k i m d c h F l.kn s1 q7 l.c (by have:=f.fs;omega)
  ·rw[if_neg s1]
   exact yY k i m d c h F l.kn ((l.sd (by omega) (by omega)).resolve_left s1) q7 l.c (by have:=f.fs;omega) ⟨l.n7 q7,ok.n.2⟩ f.dt
 rw[if_neg q7]
 exact aag k i m d c h F l.kn (by omega) ok.n.2
theorem xL (S:Ws) (m:Mv):(S.act m).S.n=S.n:=by
 unfold Ws.act
 dsimp only
 split
 ·split <;> rfl
 ·split
  ·exact (aM _ _ _ _).1
  ·split
   ·split
    ·unfold Ws.toH
     dsimp only
     split <;> rfl
    ·unfold Ws.toD
     dsimp only
     refine (aM _ _ _ _).1.trans ?_
     unfold Ws.toD2
     split <;> rfl
   ·split
    ·split <;> rfl
    ·split
     ·split <;> rfl
     ·split
      ·split <;> rfl
      ·rfl
theorem ux (e:Nat→Nat) (w0 w:World) (t:Nat→Thing) (L:Pw) (i:Nat) (m:Mv) (d:Option Addr) (c:Nat) (h:PW e w0 w t L) (F:Fre e t i) (ok:m.Ok) (hn:0<L.S.n) (R:Row8 w d m.l c m.b) (hdx:∀ y,d=some y→0<m.l→y.block≠L.x) (hl:m.l≤140737488351232) (hfit:L.S.bad m=0→L.S.up.Fit m m.c.toNat) (hfs:L.S.bad m=0→(L.S.up.act m).S.fs.length≤90000) :
  Calls prog 11 #[ac L.x 0,.agg (ak m m.c d c)] w fun r w'=>
   (L.S.bad m≠0∧r=.returned (.tuple #[.agg cP,.int .i64 (L.S.bad m)])∧Hid (PW e w0 w' t L∧Below w.heap.size w w')) ∨
   (L.S.bad m=0∧∃ a' c' ah ch ad cd,r=.returned (.tuple #[.agg #[Value.int .i64 m.k,Value.int .i64 m.c,Value.int .i64 m.s,Value.int .i64 m.f,Value.int .i64 m.a,Value.int .u32 (m.w:Nat),Value.int .i64 m.n,Value.bool m.h,Value.slice a' m.l c',Value.int .i64 (L.S.play m).e,Value.int .i64 (L.S.play m).i,Value.int .i64 (((L.S.play m).S.hs m.c.toNat).st:Nat),Value.int .u32 (((L.S.play m).S.hs m.c.toNat).ss:Nat),Value.int .u32 (((L.S.play m).S.hs m.c.toNat).nm:Nat),Value.int .u32 (((L.S.play m).S.hs m.c.toNat).sn:Nat),Value.int .i64 (((L.S.play m).S.hs m.c.toNat).dc:Nat),Value.int .i64 ((L.S.play m).S.hs m.c.toNat).v.lat,Value.bool (aq ((L.S.play m).S.hs m.c.toNat).v),Value.bool (aB ((L.S.play m).S.hs m.c.toNat).v),Value.slice ah ((L.S.play m).S.PH m.c.toNat).i ch,Value.int .i64 (((L.S.play m).S.ds m.c.toNat).st:Nat),Value.int .u32 (((L.S.play m).S.ds m.c.toNat).ss:Nat),Value.int .u32 (((L.S.play m).S.ds m.c.toNat).nm:Nat),Value.int .u32 (((L.S.play m).S.ds m.c.toNat).sn:Nat),Value.int .i64 (((L.S.play m).S.ds m.c.toNat).dc:Nat),Value.int .i64 ((L.S.play m).S.ds m.c.toNat).v.lat,Value.bool (aq ((L.S.play m).S.ds m.c.toNat).v),Value.bool (aB ((L.S.play m).S.ds m.c.toNat).v),Value.slice ad ((L.S.play m).S.PD m.c.toNat).o cd],.int .i64 0])∧Hid (PWn e w0 (vL t i m (L.S.play m).S m.c.toNat a' c' ah ch ad cd) L w' (L.S.play m).S)):=by
 by_cases hb:L.S.bad m=0
 ·have l:=Ws.Law.of hb
  have ho:=Ws.Ok.of hb
  obtain⟨k,hk⟩:∃ k,m.c.toNat=k:=⟨_,rfl⟩
  rw[hk]at l
  have fit:=hfit hb
  rw[hk]at fit
  have hc:m.c=((k:Nat):Int):=l.c
  have hp:L.S.play m=⟨(L.S.up.act m).e,(L.S.up.act m).i,(L.S.up.act m).S.note [oH (L.S.up.act m).S k,oD (L.S.up.act m).S k]⟩:=by
   unfold Ws.play
   rw[if_neg (fun q=>q hb),hk]
   rfl
  have hRf:=rd e w0 w t L m d c h ok hn
  rw[hb,hc]at hRf
  have:=uw e w0 w t L i k m d c (L.S.up.act m).e (L.S.up.act m).i (L.S.up.act m).S h F l.kn ho.mv R hdx hl (xL _ _) (hfs hb) hRf
   (fun a' c' w1 t1 q F1 hr=>wS k (i+2) m a' c' q F1 ok l fit (2 * (i+1)+1) (by omega) (F (i+1) (by omega)).1 hr)
  rw[hp,hk,hc]
  refine this.mono ?_
  rintro r w' ⟨a',c',ah,ch,ad,cd,rfl,H⟩
  exact .inr ⟨hb,a',c',ah,ch,ad,cd,rfl,H⟩
 ·refine (zu L.x m d c (L.S.bad m) (by simpa using hb) w (rd e w0 w t L m d c h ok hn)).mono ?_
  rintro r w' ⟨rfl,b⟩
  exact .inl ⟨hb,rfl,h.below b,b⟩
structure Ws.Kn (S:Ws):Prop where
 ph:∀ k,k<S.n→Pok (S.PH k)
 pd:∀ k,k<S.n→Pok (S.PD k)
 ha:∀ k,k<S.n→∀ i,i < (S.PH k).o→(S.hs k).ap i<256
 da:∀ k,k<S.n→∀ i,i < (S.PD k).i→(S.ds k).ap i<256
 mo:∀ k,k<S.n→Mo S.mx 16 (S.ds k)
 fb:∀ f,f ∈ S.bg→f.1≤27∧∀ j,j<f.1→f.2 j<256
theorem PWn.kn {e:Nat→Nat} {w0 w:World} {t:Nat→Thing} {L:Pw} {S:Ws} (h:PWn e w0 t L w S):S.Kn:=by
 obtain⟨t1,L1,h1,hs,hx,he⟩:=h
 subst hs
 refine⟨fun k hk=>?_,fun k hk=>?_,fun k hk=>?_,fun k hk=>?_,fun k hk=>?_,(h1.2.bg h1.1).1.fl.small⟩
 ·obtain⟨B,y⟩:=h1.2.hv h1.1 hk
  exact y.pok
 ·obtain⟨B,y⟩:=h1.2.dv h1.1 hk
  exact y.pok
 ·obtain⟨B,y⟩:=h1.2.hv h1.1 hk
  exact y.apb
 ·obtain⟨B,y⟩:=h1.2.dv h1.1 hk
  exact y.apb
 ·exact Mo.of (h1.2.dv h1.1 hk)
structure Ws.In (S:Ws):Prop where
 ih:∀ k,k<S.n→Ih (S.PH k) (S.hs k)
 iv:∀ k,k<S.n→Iv (S.PD k) (S.ds k)
 hl:∀ k,k<S.n→(S.hs k).L.length≤3*S.mv
 dl:∀ k,k<S.n→(S.ds k).L.length≤3*S.mv∧(S.ds k).ms.t≤6*S.mv
 bg:S.bg.length≤S.mv
 fs:S.fs.length≤8*S.mv
theorem frB {S:Ws} (K:S.Kn) {m:Mv} (h:0≤m.f∧m.f < ((S.bg.length:Nat):Int)):∀ j,j < (S.fr m).1→(S.fr m).2 j<256:=by
 have hlt:m.f.toNat<S.bg.length:=by omega
 obtain⟨f,hf⟩:∃ y,S.bg.getD m.f.toNat cG=y:=⟨_,rfl⟩
 have hg:S.bg[m.f.toNat]?=some f:=by
  rw[← hf,List.getD_eq_getElem?_getD,List.getElem?_eq_getElem hlt]
  rfl
 have hb:=K.fb f (List.mem_of_getElem? hg)
 unfold Ws.fr
 rw[hf]
 split
 ·intro j hj
  exact yi (n:=f.1) hb.2 (fun i _=>pK _ _ i) j hj
 ·exact hb.2
theorem Ws.In.fit {S:Ws} (I:S.In) (K:S.Kn) {m:Mv} (hv:S.mv<4096) {k:Nat} (hk:k<S.n):S.up.Fit m k:=by
 have h1:=I.ih k hk
 have h2:=I.iv k hk
 have h3:=I.hl k hk
 have h4:=I.dl k hk
 have h5:=I.bg
 have h6:=I.fs
 exact⟨by show S.fs.length≤80000;omega,by show S.bg.length<4096;omega,h1.ms,⟨h1.st1,h1.st5⟩,h1.sentY (K.ph k hk),by show (S.hs k).L.length<700000;omega,nH _ _ (K.ha k hk),nG _ _,h2.sent (K.pd k hk),h2.od,by show (S.ds k).L.length<800000;omega,by show (S.ds k).ms.t<9223372036854774000;omega,ni _ _ _ _ (K.da k hk) _ _,mc _ _ _ _ _ _⟩
structure Stp (S T:Ws) (k b c:Nat):Prop where
 n:T.n=S.n
 PH:T.PH=S.PH
 PD:T.PD=S.PD
 mx:T.mx=S.mx
 mv:T.mv=S.mv
 hs:∀ j,j≠k→T.hs j=S.hs j
 ds:∀ j,j≠k→T.ds j=S.ds j
 ih:Ih (S.PH k) (T.hs k)
 iv:Iv (S.PD k) (T.ds k)
 hl:(T.hs k).L.length ≤ (S.hs k).L.length+3
 dl:(T.ds k).L.length ≤ (S.ds k).L.length+3∧(T.ds k).ms.t ≤ (S.ds k).ms.t+6
 bg:T.bg.length≤S.bg.length+b
 fs:T.fs.length≤S.fs.length+c
section
variable {S T:Ws} {k b c:Nat}
theorem sK (ih:Ih (S.PH k) (S.hs k)) (iv:Iv (S.PD k) (S.ds k)) {s:Sh} (h:Ih (S.PH k) s) (hl:s.L.length ≤ (S.hs k).L.length+3):Stp S (S.setH k s) k 0 0:=
 ⟨rfl,rfl,rfl,rfl,rfl,fun j hj=>bY _ _ hj,fun _ _=>rfl,by show Ih (S.PH k) (bf S.hs k s k);rw[aj];exact h,iv,by show (bf S.hs k s k).L.length≤_;rw[aj];exact hl,⟨by show (S.ds k).L.length≤_;omega,by show (S.ds k).ms.t≤_;omega⟩,Nat.le_refl _,Nat.le_refl _⟩
theorem sJ (ih:Ih (S.PH k) (S.hs k)) (iv:Iv (S.PD k) (S.ds k)) {s:Sd} (h:Iv (S.PD k) s) (g:Gw (S.ds k) s):Stp S (S.setD k s) k 0 0:=
 ⟨rfl,rfl,rfl,rfl,rfl,fun _ _=>rfl,fun j hj=>bY _ _ hj,ih,by show Iv (S.PD k) (bf S.ds k s k);rw[aj];exact h,by show (S.hs k).L.length≤_;omega,by show (bf S.ds k s k).L.length≤_∧(bf S.ds k s k).ms.t≤_;rw[aj];exact g,Nat.le_refl _,Nat.le_refl _⟩
theorem Stp.note (h:Stp S T k b c) (l:List Fa):Stp S (T.note l) k b (c+l.length):=
 ⟨h.n,h.PH,h.PD,h.mx,h.mv,h.hs,h.ds,h.ih,h.iv,h.hl,h.dl,h.bg,by show (T.fs ++ l).length≤_;rw[List.length_append];have:=h.fs;omega⟩
theorem Stp.more (h:Stp S T k b c) {b' c':Nat} (hb:b≤b') (hc:c≤c'):Stp S T k b' c':=
 ⟨h.n,h.PH,h.PD,h.mx,h.mv,h.hs,h.ds,h.ih,h.iv,h.hl,h.dl,by have:=h.bg;omega,by have:=h.fs;omega⟩
theorem Stp.put (h:Stp S T k b c) (k' s:Nat) (f:Fm):Stp S (T.put k' s f) k (b+1) (c+1):=by
 obtain⟨p1,p2,p3,p4,p5,p6,p7,p8⟩:=aM T k' s f
 refine⟨p1.trans h.n,p5.trans h.PH,p4.trans h.PD,p6.trans h.mx,p7.trans h.mv,fun j hj=>by rw[p3];exact h.hs j hj,fun j hj=>by rw[p2];exact h.ds j hj,by rw[p3];exact h.ih,by rw[p2];exact h.iv,by rw[p3];exact h.hl,by rw[p2];exact h.dl,?_,by have:=h.fs;omega⟩
 have:=h.bg
 unfold Ws.put
 split
 ·omega
 ·show (T.bg ++ [f]).length≤_
  rw[List.length_append]
  simp
  omega
theorem mi {α:Type} {p:Prop} [Decidable p] (x:α):(if p then [x] else []).length≤1:=by split <;> simp
theorem j7 (K:S.Kn) (ih:Ih (S.PH k) (S.hs k)) (iv:Iv (S.PD k) (S.ds k)) {m:Mv} (l:S.Law m k):Stp S (S.act m).S k 1 5:=by
 have hk:m.c.toNat=k:=by have:=l.c;omega
 have kn:=l.kn
 have M:=K.mo k kn
 have pH:=K.ph k kn
 have pD:=K.pd k kn
 unfold Ws.act
 rw[hk]
 dsimp only
 split
 ·split
  ·exact (sK ih iv (ih.write _ _ _) (by have:=nQ (S.PH k) (S.hs k) m.l m.b m.h;omega)).more (by omega) (by omega)
  ·exact (sJ ih iv (iv.write _ _ _) (tL _ _ _)).more (by omega) (by omega)
 ·split
  ·exact ((sK ih iv (ih.send pH) (by have:=se (S.PH k) (S.hs k);omega)).put k 1 _).more (by omega) (by omega)
  ·split
   ·next q3=>
    have fb:=frB K (l.fr q3)
    split
    ·unfold Ws.toH
     dsimp only
     have h1:=sK ih iv (ih.recv pH _ _ fb) (by have:=pR (S.PH k) (S.hs k) (S.fr m).1 (S.fr m).2;omega)
     split
     ·exact (h1.note _).more (by omega) (by have:=fd k 1 (S.fr m);omega)
     ·exact h1.more (by omega) (by omega)
    ·unfold Ws.toD
     dsimp only
     have h1:Stp S (S.toD1 k (S.fr m)) k 0 2:=by
      unfold Ws.toD1
      exact ((sJ ih iv (iv.recv pD M _ _) (ww M _ _)).note _).more (by omega) (by have:=jE k (S.ds k) (az (S.PD k) S.mx 16 (S.ds k) (S.fr m).1 (S.fr m).2).s;omega)
     have h2:Stp S (S.toD2 k (S.fr m)) k 0 4:=by
      unfold Ws.toD2
      split
      ·exact (h1.note _).more (by omega) (by have:=fd k 2 (S.fr m);omega)
      ·exact h1.more (by omega) (by omega)
     exact (h2.put k 2 _).more (by omega) (by omega)
   ·split
    ·split
     ·exact ((sK ih iv (ih.tick _) (by have:=pV (S.PH k) (S.hs k) m.n;omega)).note _).more (by omega) (by have:=mi (p:=dZ m.n=0) (⟨5,k,1,0,m.n.toNat,false,0,cG⟩:Fa);omega)
     ·exact ((sJ ih iv (iv.tick _) (wA _)).note _).more (by omega) (by have:=mi (p:=dX (S.ds k) m.n=0) (⟨5,k,2,0,m.n.toNat,false,0,cG⟩:Fa);omega)
    ·split
     ·split
      ·exact ((sK ih iv ih.ack (Nat.le_add_right (S.hs k).L.length 3)).note _).more (by omega) (by have:=mi (p:=fJ (S.hs k)=0) (cX 6 k 1);omega)
      ·exact ((sJ ih iv iv.ack yG).note _).more (by omega) (by have:=mi (p:=fG (S.ds k)=0) (cX 6 k 2);omega)
     ·split
      ·split
       ·have h1:=(sK ih iv (Ih.life (S.PH k) (S.hs k)) (Nat.le_add_right (S.hs k).L.length 3)).note [cX 7 k 1]
        exact (show Stp S ((S.note [cX 7 k 1]).setH k (ft (S.hs k))) k 0 (0+1) from h1).more (by omega) (by omega)
       ·have h1:=(sJ ih iv (iv.reset (mx:=S.mx) (n:=16) m.n) (tK M m.n)).note [cX 7 k 2]
        exact (show Stp S ((S.note [cX 7 k 2]).setD k (cr S.mx 16 (S.ds k) m.n)) k 0 (0+1) from h1).more (by omega) (by omega)
      ·exact (sJ ih iv (iv.arm _) (yH _)).more (by omega) (by omega)
end
theorem Ws.In.play {S:Ws} (I:S.In) (K:S.Kn) {m:Mv}:(S.play m).S.In:=by
 by_cases hb:S.bad m=0
 ·have l:=Ws.Law.of hb
  obtain⟨k,hk⟩:∃ k,m.c.toNat=k:=⟨_,rfl⟩
  rw[hk]at l
  have K':S.up.Kn:=⟨K.ph,K.pd,K.ha,K.da,K.mo,K.fb⟩
  have h:=j7 K' (I.ih k l.kn) (I.iv k l.kn) l
  have h2:=h.note [oH (S.up.act m).S k,oD (S.up.act m).S k]
  have hp:(S.play m).S=(S.up.act m).S.note [oH (S.up.act m).S k,oD (S.up.act m).S k]:=by
   unfold Ws.play
   rw[if_neg (fun q=>q hb),hk]
   rfl
  rw[hp]
  obtain⟨T,hT⟩:∃ T,(S.up.act m).S.note [oH (S.up.act m).S k,oD (S.up.act m).S k]=T:=⟨_,rfl⟩
  rw[hT]at h2 ⊢
  have e1:T.mv=S.mv+1:=h2.mv
  have e2:T.n=S.n:=h2.n
  refine⟨fun j hj=>?_,fun j hj=>?_,fun j hj=>?_,fun j hj=>?_,?_,?_⟩
  ·rw[show T.PH j=S.PH j from congrFun h2.PH j]
   by_cases z:j=k
   ·subst z;exact h2.ih
   ·rw[show T.hs j=S.hs j from h2.hs j z];exact I.ih j (by omega)
  ·rw[show T.PD j=S.PD j from congrFun h2.PD j]
   by_cases z:j=k
   ·subst z;exact h2.iv
   ·rw[show T.ds j=S.ds j from h2.ds j z];exact I.iv j (by omega)
  ·rw[e1]
   by_cases z:j=k
   ·subst z
    have:=I.hl j (by omega)
    have:(T.hs j).L.length ≤ (S.hs j).L.length+3:=h2.hl
    omega
   ·rw[show T.hs j=S.hs j from h2.hs j z]
    have:=I.hl j (by omega)
    omega
  ·rw[e1]
   by_cases z:j=k
   ·subst z
    have:=I.dl j (by omega)
    have q:(T.ds j).L.length ≤ (S.ds j).L.length+3∧(T.ds j).ms.t ≤ (S.ds j).ms.t+6:=h2.dl
    omega
   ·rw[show T.ds j=S.ds j from h2.ds j z]
    have:=I.dl j (by omega)
    omega
  ·rw[e1]
   have:=I.bg
   have q:T.bg.length≤S.bg.length+1:=h2.bg
   omega
  ·rw[e1]
   have:=I.fs
   have q:T.fs.length≤S.fs.length + (5+2):=h2.fs
   omega
 ·have hp:(S.play m).S=S:=by
   unfold Ws.play
   rw[if_pos hb]
  rw[hp]
  exact I
theorem Ws.In.room {S:Ws} (I:S.In) (K:S.Kn) {m:Mv} (hb:S.bad m=0):(S.up.act m).S.fs.length≤90000:=by
 have l:=Ws.Law.of hb
 have o:=Ws.Ok.of hb
 have K':S.up.Kn:=⟨K.ph,K.pd,K.ha,K.da,K.mo,K.fb⟩
 have h:=(j7 K' (I.ih _ l.kn) (I.iv _ l.kn) l).fs
 have q:(S.up.act m).S.fs.length≤S.fs.length+5:=h
 have:=I.fs
 have:=o.mv
 omega
theorem ra (e:Nat→Nat) (w0 w:World) (t:Nat→Thing) (L:Pw) (i:Nat) (m:Mv) (d:Option Addr) (c:Nat) (h:PW e w0 w t L) (F:Fre e t i) (I:L.S.In) (ok:m.Ok) (hn:0<L.S.n) (R:Row8 w d m.l c m.b) (hdx:∀ y,d=some y→0<m.l→y.block≠L.x) (hl:m.l≤140737488351232) :
  Calls prog 11 #[ac L.x 0,.agg (ak m m.c d c)] w fun r w'=>
   (L.S.bad m≠0∧r=.returned (.tuple #[.agg cP,.int .i64 (L.S.bad m)])∧Hid (PW e w0 w' t L∧Below w.heap.size w w')) ∨
   (L.S.bad m=0∧∃ a' c' ah ch ad cd,r=.returned (.tuple #[.agg #[Value.int .i64 m.k,Value.int .i64 m.c,Value.int .i64 m.s,Value.int .i64 m.f,Value.int .i64 m.a,Value.int .u32 (m.w:Nat),Value.int .i64 m.n,Value.bool m.h,Value.slice a' m.l c',Value.int .i64 (L.S.play m).e,Value.int .i64 (L.S.play m).i,Value.int .i64 (((L.S.play m).S.hs m.c.toNat).st:Nat),Value.int .u32 (((L.S.play m).S.hs m.c.toNat).ss:Nat),Value.int .u32 (((L.S.play m).S.hs m.c.toNat).nm:Nat),Value.int .u32 (((L.S.play m).S.hs m.c.toNat).sn:Nat),Value.int .i64 (((L.S.play m).S.hs m.c.toNat).dc:Nat),Value.int .i64 ((L.S.play m).S.hs m.c.toNat).v.lat,Value.bool (aq ((L.S.play m).S.hs m.c.toNat).v),Value.bool (aB ((L.S.play m).S.hs m.c.toNat).v),Value.slice ah ((L.S.play m).S.PH m.c.toNat).i ch,Value.int .i64 (((L.S.play m).S.ds m.c.toNat).st:Nat),Value.int .u32 (((L.S.play m).S.ds m.c.toNat).ss:Nat),Value.int .u32 (((L.S.play m).S.ds m.c.toNat).nm:Nat),Value.int .u32 (((L.S.play m).S.ds m.c.toNat).sn:Nat),Value.int .i64 (((L.S.play m).S.ds m.c.toNat).dc:Nat),Value.int .i64 ((L.S.play m).S.ds m.c.toNat).v.lat,Value.bool (aq ((L.S.play m).S.ds m.c.toNat).v),Value.bool (aB ((L.S.play m).S.ds m.c.toNat).v),Value.slice ad ((L.S.play m).S.PD m.c.toNat).o cd],.int .i64 0])∧Hid (PWn e w0 (vL t i m (L.S.play m).S m.c.toNat a' c' ah ch ad cd) L w' (L.S.play m).S)):=
 ux e w0 w t L i m d c h F ok hn R hdx hl (fun hb=>I.fit h.n.kn (Ws.Ok.of hb).mv (Ws.Law.of hb).kn) (fun hb=>I.room h.n.kn hb)
end Go.Proofs.YtenilkloffnjlaaGreat
namespace Go.Proofs.YtenilkloffnjlaaGreat
open Tryz
open Go.RowKit Go.Maps
set_option linter.unusedVariables false
section
variable {w wr w':World} {g:Nat} {fs:List Fa}
end
end Go.Proofs.YtenilkloffnjlaaGreat
namespace Go.Proofs.YtenilkloffnjlaaGreat
open Tryz
open Go.RowKit Go.Maps
set_option linter.unusedVariables false
theorem jU (S:Ws) (m:Mv):(S.play m).S.n=S.n:=by
 unfold Ws.play
 split
 ·rfl
 ·exact xL _ _
structure Pq where
 c:Nat
 o:Int
 i:Int
 t:Int
 n:Nat
def Pq.cs (p:Pq):List Value:=[.int .u32 (p.c:Nat),.int .i64 p.o,.int .i64 p.i,.int .i64 p.t,.int .u32 (p.n:Nat)]
def PqRow (w:World) (a:Option Addr) (len:Nat) (P:Nat→Pq):Prop:=∀ i,i<len→∃ q off,a=af q off∧∀ j u,(P i).cs[j]?=some u→w.cell? ⟨q,off+i*5+j,none⟩=some u
theorem PqRow.below {w w':World} {a:Option Addr} {len:Nat} {P:Nat→Pq} (h:PqRow w a len P) (b:Below w.heap.size w w'):PqRow w' a len P:=fun i hi=>by
 obtain⟨q,off,e,c⟩:=h i hi
 exact⟨q,off,e,fun j u hu=>ai (c j u hu) b⟩
def ik:Value→Nat
 | .int _ i=>i.toNat
 | _=>0
def i6 (P:Nat→Pq) (l c:Nat):Bool:=(List.range l).any fun i=>(P i).c == c
theorem rT (P:Nat→Pq) (l c:Nat):i6 P (l+1) c=(i6 P l c || ((P l).c == c)):=by
 unfold i6
 rw[List.range_succ,List.any_append]
 simp
theorem aai (p:Pq) (x c:Nat) (w:World) (cx:w.cell? ⟨x,0,none⟩=some (.int .u32 (c:Nat))):Calls prog 72 #[.agg #[.int .u32 (p.c:Nat),.int .i64 p.o,.int .i64 p.i,.int .i64 p.t,.int .u32 (p.n:Nat)],ac x 0] w fun r w'=>r=.returned (.bool (((p.c:Nat):Int) == ((c:Nat):Int)))∧Below w.heap.size w w':=by
 have kA:=aA w (.cells #[.int .u32 (p.c:Nat),.int .i64 p.o,.int .i64 p.i,.int .i64 p.t,.int .u32 (p.n:Nat)] 83)
 have bA:=aC (Below.refl _ w) (.cells #[.int .u32 (p.c:Nat),.int .i64 p.o,.int .i64 p.i,.int .i64 p.t,.int .u32 (p.n:Nat)] 83)
 have c1:=ai cx bA
 obtain⟨wa,hwa⟩:∃ z,w.alloc (.cells #[.int .u32 (p.c:Nat),.int .i64 p.o,.int .i64 p.i,.int .i64 p.t,.int .u32 (p.n:Nat)] 83)=z:=⟨_,rfl⟩
 rw[hwa]at kA bA c1
 obtain⟨y,hy⟩:∃ z,w.heap.size=z:=⟨_,rfl⟩
 have HB:Hid (Below w.heap.size w wa):=bA
 rw[hy]at kA
 have q0:wa.cell? ⟨y,0,none⟩=some (.int .u32 (p.c:Nat)):=ae wa y 0 _ _ _ kA
 have HE:Hid (_=wa):=hwa
 have HS:Hid (w.heap.size=y):=hy
 clear kA bA hwa hy cx
 go_enter func72,ntmps72
 go_upto_region 1 with fail
 rw[HE.out,HS.out]
 go_wp2_with fail
 go_ret
 exact⟨rfl,HB.out⟩
theorem wZ (a:Option Addr) (len cap:Nat) (P:Nat→Pq) (x c:Nat) (w:World) (hr:PqRow w a len P) (cx:w.cell? ⟨x,0,none⟩=some (.int .u32 (c:Nat))) (hlen:len≤1000000):Calls prog 96 #[.slice a len cap,(.func (.func 72) #[] #[ac x 0])] w fun r w'=>∃ k:Int,r=.returned (.int .i64 k)∧Hid ((decide (0≤k))=i6 P len c∧Below w.heap.size w w'):=by
 have HW:Hid (PqRow w a len P):=hr
 have HX:Hid (_):=cx
 clear hr cx
 go_enter func96,ntmps96
 go_wp2_with fail
 go_loopw [4,5,8,9,10,11,12,13,14,15,16,17,18] (fun _ _ c0 _ _ _ _ _ _ _ _ _ _ wr=>∃ i:Nat,i≤len∧c0=.int .i64 ((i:Nat):Int)∧Hid (i6 P i c=false∧Below w.heap.size w wr)) (fun _ _ c0 _ _ _ _ _ _ _ _ _ _ _=>len-ik c0)
 case atStart=>exact⟨0,by omega,rfl,rfl,Below.refl _ _⟩
 case round=>
  obtain⟨i,hi,rfl,HI⟩:=hrel
  by_cases hlt:i<len
  rotate_left
  ·obtain rfl:i=len:=by omega
   have hlt':¬ ((i:Nat):Int) < ((i:Nat):Int):=by omega
   go_wp2_with fail
   go_ret
   exact⟨-1,rfl,by rw[HI.out.1] <;> rfl,HI.out.2⟩
  have hlt':((i:Nat):Int) < ((len:Nat):Int):=by omega
  have hw1:IntKind.i64.wrap (((i:Nat):Int)+1)=((i+1:Nat):Int):=by rw[IntKind.wrap_i64];omega
  obtain⟨q,off,ea,cc⟩:=(PqRow.below HW.out HI.out.2) i hlt
  subst ea
  obtain⟨p,hP⟩:∃ y,P i=y:=⟨_,rfl⟩
  rw[hP]at cc
  have c0:wr.cell? ⟨q,off+i*5,none⟩=some (.int .u32 (p.c:Nat)):=cc 0 _ rfl
  have c1:wr.cell? ⟨q,off+i*5+1,none⟩=some (.int .i64 p.o):=cc 1 _ rfl
  have c2:wr.cell? ⟨q,off+i*5+2,none⟩=some (.int .i64 p.i):=cc 2 _ rfl
  have c3:wr.cell? ⟨q,off+i*5+3,none⟩=some (.int .i64 p.t):=cc 3 _ rfl
  have c4:wr.cell? ⟨q,off+i*5+4,none⟩=some (.int .u32 (p.n:Nat)):=cc 4 _ rfl
  have hC:=aai p x c wr (ai HX.out HI.out.2)
  have HP:Hid (_):=hP
  clear cc hP
  by_cases hq:p.c=c
  ·rw[show (((p.c:Nat):Int) == ((c:Nat):Int))=true by rw[aT];exact decide_eq_true hq]at hC
   have HQ:Hid (p.c=c):=hq
   clear hq
   go_wp2_with fail
   refine hC.mono ?_
   rintro r w3 ⟨rfl,b3⟩
   go_wp2_with fail
   go_ret
   refine⟨((i:Nat):Int),rfl,?_,HI.out.2.trans (b3.mono HI.out.2.size)⟩
   rw[decide_eq_true (by omega)]
   refine (List.any_eq_true.2 ⟨i,List.mem_range.2 hlt,?_⟩).symm
   rw[HP.out]
   simpa using HQ.out
  ·rw[show (((p.c:Nat):Int) == ((c:Nat):Int))=false by rw[aT];exact decide_eq_false hq]at hC
   have HN:Hid (i6 P (i+1) c=false):=by
    show i6 P (i+1) c=false
    rw[rT,HI.out.1,HP.out]
    simpa using hq
   clear hq
   go_wp2_with fail
   refine hC.mono ?_
   rintro r w3 ⟨rfl,b3⟩
   have HB3:Hid (_):=b3
   clear b3 hC
   go_wp2_with fail
   exact⟨⟨i+1,by omega,by first | rfl | go_num,HN.out,HI.out.2.trans (HB3.out.mono HI.out.2.size)⟩,by simp only[ik];omega⟩
theorem pZ (a:Option Addr) (len cap:Nat) (P:Nat→Pq) (x c:Nat) (w:World) (hr:PqRow w a len P) (cx:w.cell? ⟨x,0,none⟩=some (.int .u32 (c:Nat))) (hlen:len≤1000000):Calls prog 73 #[.slice a len cap,(.func (.func 72) #[] #[ac x 0])] w fun r w'=>r=.returned (.bool (i6 P len c))∧Hid (Below w.heap.size w w'):=by
 have hI:=wZ a len cap P x c w hr cx hlen
 obtain⟨B,hB⟩:∃ y,i6 P len c=y:=⟨_,rfl⟩
 rw[hB]at hI ⊢
 clear hr cx hB
 go_enter func73,ntmps73
 go_wp2_with fail
 refine hI.mono ?_
 rintro r w2 ⟨k,rfl,H⟩
 go_wp2_with fail
 go_ret
 exact⟨by rw[← H.out.1] <;> rfl,H.out.2⟩
def gJ (P:Nat→Pq) (l:Nat):Bool:=(List.range l).any fun i=>i6 P i (P i).c
theorem rK (P:Nat→Pq) (l:Nat):gJ P (l+1)=(gJ P l || i6 P l (P l).c):=by
 unfold gJ
 rw[List.range_succ,List.any_append]
 simp
theorem lr (a:Option Addr) (len cap:Nat) (P:Nat→Pq) (w:World) (hr:PqRow w a len P) (hlen:len≤1000000) (hcap:len≤cap):Calls prog 40 #[.slice a len cap] w fun r w'=>r=.returned (.bool (gJ P len))∧Hid (Below w.heap.size w w'):=by
 have HW:Hid (PqRow w a len P):=hr
 clear hr
 go_enter func40,ntmps40
 go_wp2_with fail
 go_loopw [2,3,4,5,8,9,10,11,12,13,14,15,16,17,18,19] (fun _ _ _ _ c0 _ _ _ _ _ _ _ _ _ _ _ wr=>∃ i:Nat,i≤len∧c0=.int .i64 ((i:Nat):Int)∧Hid (gJ P i=false∧Below w.heap.size w wr)) (fun _ _ _ _ c0 _ _ _ _ _ _ _ _ _ _ _ _=>len-ik c0)
 case atStart=>exact⟨0,by omega,rfl,rfl,Below.refl _ _⟩
 case round=>
  obtain⟨i,hi,rfl,HI⟩:=hrel
  by_cases hlt:i<len
  rotate_left
  ·obtain rfl:i=len:=by omega
   have hlt':¬ ((i:Nat):Int) < ((i:Nat):Int):=by omega
   go_wp2_with fail
   go_ret
   exact⟨by rw[HI.out.1] <;> rfl,HI.out.2⟩
  have hlt':((i:Nat):Int) < ((len:Nat):Int):=by omega
  have hic:((i:Nat):Int) ≤ ((cap:Nat):Int):=by omega
  have hR:=PqRow.below HW.out HI.out.2
  obtain⟨q,off,ea,cc⟩:=hR i hlt
  subst ea
  obtain⟨p,hP⟩:∃ y,P i=y:=⟨_,rfl⟩
  rw[hP]at cc
  have c0:wr.cell? ⟨q,off+i*5,none⟩=some (.int .u32 (p.c:Nat)):=cc 0 _ rfl
  have c1:wr.cell? ⟨q,off+i*5+1,none⟩=some (.int .i64 p.o):=cc 1 _ rfl
  have c2:wr.cell? ⟨q,off+i*5+2,none⟩=some (.int .i64 p.i):=cc 2 _ rfl
  have c3:wr.cell? ⟨q,off+i*5+3,none⟩=some (.int .i64 p.t):=cc 3 _ rfl
  have c4:wr.cell? ⟨q,off+i*5+4,none⟩=some (.int .u32 (p.n:Nat)):=cc 4 _ rfl
  have bA:=aC (Below.refl _ wr) (.cells #[.int .u32 (p.c:Nat),.int .i64 p.o,.int .i64 p.i,.int .i64 p.t,.int .u32 (p.n:Nat)] 83)
  have kA:=aA wr (.cells #[.int .u32 (p.c:Nat),.int .i64 p.o,.int .i64 p.i,.int .i64 p.t,.int .u32 (p.n:Nat)] 83)
  have hC:=pZ (af q off) i cap P wr.heap.size p.c (wr.alloc (.cells #[.int .u32 (p.c:Nat),.int .i64 p.o,.int .i64 p.i,.int .i64 p.t,.int .u32 (p.n:Nat)] 83)) (fun j hj=>(hR.below bA) j (by omega)) (ae _ _ 0 _ _ _ kA) (by omega)
  have HP:Hid (_):=hP
  have HB:Hid (_):=HI.out.2.trans (bA.mono HI.out.2.size)
  clear cc hP bA kA hR
  cases hq:i6 P i p.c with
  | true=>
   rw[hq]at hC
   have HN:Hid (gJ P len=true):=List.any_eq_true.2 ⟨i,List.mem_range.2 hlt,by rw[HP.out];exact hq⟩
   clear hq
   go_wp2_with fail
   refine hC.mono ?_
   rintro r w3 ⟨rfl,H3⟩
   clear hC
   go_wp2_with fail
   go_ret
   exact⟨by rw[HN.out] <;> rfl,HB.out.trans (H3.out.mono HB.out.size)⟩
  | false=>
   rw[hq]at hC
   have HN:Hid (gJ P (i+1)=false):=by
    show gJ P (i+1)=false
    rw[rK,HI.out.1,HP.out,hq]
    rfl
   clear hq
   go_wp2_with fail
   refine hC.mono ?_
   rintro r w3 ⟨rfl,H3⟩
   clear hC
   go_wp2_with fail
   go_roundw
   case rel=>exact⟨i+1,by omega,by first | rfl | go_num,HN.out,HB.out.trans (H3.out.mono HB.out.size)⟩
   case measure=>simp only[ik];omega
def eE (n:Nat) (P:Nat→Pq):List Value:=(List.range n).flatMap fun i=>(P i).cs
theorem cC (n:Nat) (P:Nat→Pq):eE (n+1) P=eE n P ++ (P n).cs:=by
 unfold eE
 rw[List.range_succ,List.flatMap_append]
 simp
theorem fe (n:Nat) (P:Nat→Pq):(eE n P).length=n*5:=by
 induction n with
 | zero=>rfl
 | succ n ih=>
  rw[cC,List.length_append,ih]
  have:(P n).cs.length=5:=rfl
  omega
theorem me (n:Nat) (P:Nat→Pq):∀ u ∈ eE n P,u.oneCell'=true:=by
 intro u hu
 unfold eE at hu
 obtain⟨i,_,hi⟩:=List.mem_flatMap.1 hu
 simp[Pq.cs]at hi
 rcases hi with rfl | rfl | rfl | rfl | rfl <;> rfl
theorem qP (n:Nat) (P:Nat→Pq) (i j:Nat) (hi:i<n) (hj:j<5):(eE n P)[i*5+j]?=(P i).cs[j]?:=by
 induction n with
 | zero=>omega
 | succ n ih=>
  rw[cC]
  by_cases h:i<n
  ·rw[List.getElem?_append_left (by rw[fe];omega)]
   exact ih h
  ·obtain rfl:i=n:=by omega
   rw[List.getElem?_append_right (by rw[fe];omega),fe]
   congr 1
   omega
theorem wu (n k:Nat) (P Q:Nat→Pq):eE (n+k) (fun i=>if i<n then P i else Q (i-n))=eE n P ++ eE k Q:=by
 induction k with
 | zero=>
  have e:∀ m,m≤n→eE m (fun i=>if i<n then P i else Q (i-n))=eE m P:=by
   intro m hm
   induction m with
   | zero=>rfl
   | succ m ih=>
    rw[cC,cC,ih (by omega),if_pos (by omega)]
  have:eE 0 Q=[]:=rfl
  rw[this,List.append_nil]
  exact e n (Nat.le_refl _)
 | succ k ih=>
  rw[show n + (k+1)=(n+k)+1 by omega,cC,ih,cC,List.append_assoc,if_neg (by omega),show n+k-n=k by omega]
theorem PqRow.src {w:World} {q off n:Nat} {P:Nat→Pq} (h:PqRow w (af q off) n P):∀ j u,(eE n P)[j]?=some u→w.cell? ((⟨q,off,none⟩:Addr).add j)=some u:=fun j u hu=>by
 have hj:j<n*5:=by
  have:=(List.getElem?_eq_some_iff.1 hu).1
  rw[fe]at this
  exact this
 have e:(Addr.add ⟨q,off,none⟩ j)=⟨q,off+j,none⟩:=Addr.add_mid q off j
 obtain⟨q',off',e1,c⟩:=h (j / 5) (by omega)
 injection e1 with e1
 injection e1 with e2 e3
 subst e2 e3
 have g:=qP n P (j / 5) (j % 5) (by omega) (by omega)
 rw[show j / 5*5+j % 5=j by omega,hu]at g
 have:=c (j % 5) u g.symm
 rw[show off+j / 5*5+j % 5=off+j by omega]at this
 rw[e]
 exact this
theorem PqRow.ofOwn {w:World} {B n c:Nat} {a:Option Addr} {P:Nat→Pq} (h:w.ownsRow B 83 5 (.slice a n c) n (eE n P)):PqRow w a n P:=fun i hi=>by
 obtain⟨g,rfl,_⟩:=iJ h (by omega)
 refine⟨g,0,rfl,fun j u hu=>?_⟩
 have hj:j<5:=by
  have:=(List.getElem?_eq_some_iff.1 hu).1
  exact this
 have:=iI h (i*5+j) u (by rw[qP n P i j hi hj];exact hu)
 rw[Nat.zero_add]
 exact this
theorem zb (N:Nat) (h0:0<N) (hN:N≤1000000) (w:World):Calls prog 70 #[.slice none 0 0,.int .i64 (N:Nat)] w fun r w'=>∃ a c,r=.returned (.slice a 0 c)∧Hid (w'.ownsRow w.heap.size 83 5 (.slice a 0 c) 0 []∧Below w.heap.size w w'):=by
 obtain⟨i0,hI,hz0,hz1,hz2⟩:=info_parts dV
 have hold:(Builtin.firstCells i0.size 0 (.slice none 0 0)).run prog w.drew=.ok ([]:List Value).toArray w.drew:=run_firstCells_none _ _ _ _ _
 have hnc:Builtin.nextslicecap N 0*40≤281474976710656:=by
  unfold Builtin.nextslicecap
  rw[if_pos (by omega)]
  omega
 have hrz:∀ ty,(Builtin.append_ #[27,3] ty #[.slice none 0 0,.int .i64 (N:Nat)]).run prog w=_:=fun ty=>Lib.run_append_grow_zeros (P:=prog) w 27 3 ty 83 i0 _ .i64 .i64 underlying27 underlying3 hI hz0 none 0 0 [] hold N h0 (by rw[hz1];omega) (by omega) (by omega) (by rw[hz2];omega) (by rw[hz2,Nat.zero_add];exact hnc)
 have hGn:N≤grownCap w N 0 83:=grownCap_ge w _ _ _
 have hGm:grownCap w N 0 83≤maxLen:=grownCap_le_maxLen w N 0 _ (by unfold maxLen;omega)
 obtain⟨G,hG⟩:∃ G,grownCap w N 0 83=G:=⟨_,rfl⟩
 simp only[Nat.zero_add]at hrz
 rw[hG]at hrz hGn hGm
 have hb:Below w.heap.size w w.drew:=Below.drew (Below.refl _ _)
 have hs2:(([]:List Value).toArray ++ Builtin.zeroCells (Value.agg #[.int .u32 0,.int .i64 0,.int .i64 0,.int .i64 0,.int .u32 0]).cells N ++ Builtin.zeroCells (Value.agg #[.int .u32 0,.int .i64 0,.int .i64 0,.int .i64 0,.int .u32 0]).cells (G-N)).size=G*5:=by
  simp[Builtin.zeroCells,Value.cells]
  omega
 obtain⟨ZZ,hZZ⟩:∃ z,([]:List Value).toArray ++ Builtin.zeroCells (Value.agg #[.int .u32 0,.int .i64 0,.int .i64 0,.int .i64 0,.int .u32 0]).cells N ++ Builtin.zeroCells (Value.agg #[.int .u32 0,.int .i64 0,.int .i64 0,.int .i64 0,.int .u32 0]).cells (G-N)=z:=⟨_,rfl⟩
 rw[hZZ]at hrz hs2
 have hG63:G≤9223372036854775807:=by unfold maxLen at hGm;omega
 have ho:(w.drew.alloc (.cells ZZ 83)).ownsRow w.heap.size 83 5 (.slice (af w.drew.heap.size 0) 0 G) 0 []:=World.ownsRow_made w.drew ZZ G (Nat.le_refl _) hGm hs2
 have HF:Hid (_):=And.intro ho (aC hb (.cells ZZ 83))
 have h1:¬ (((N:Nat):Int)<0):=by omega
 have h2:((N:Nat):Int) > 0:=by omega
 clear hold hG hb hs2 hZZ ho hGm
 go_enter func70,ntmps70
 go_wp2_with (at_builtin;refine Lib.wpList_append_run _ rfl _ _ _ _ rfl _ _ rfl rfl _ _ (hrz _) ?_)
 go_ret
 exact⟨_,_,rfl,HF.out⟩
theorem qW (q off n c:Nat) (P:Nat→Pq) (w:World) (h:PqRow w (af q off) n P) (hn:n≤1000000):Calls prog 41 #[.slice (af q off) n c] w fun r w'=>∃ a' c',r=.returned (.slice a' n c')∧Hid (w'.ownsRow w.heap.size 83 5 (.slice a' n c') n (eE n P)∧Below w.heap.size w w'):=by
 have hnn:∀ w,(binOp .eql 27 (.slice (af q off) n c) (.slice none 0 0)).run prog w=.ok (.bool false) w:=fun _=>rfl
 obtain⟨i0,hI,hz0,hz1,hz2⟩:=info_parts dV
 have bA:=aC (Below.refl _ w) (.cells #[] 83)
 have oA:(w.alloc (.cells #[] 83)).ownsRow w.heap.size 83 5 (.slice (af w.heap.size 0) 0 0) 0 []:=World.ownsRow_made w #[] 0 (Nat.le_refl _) (Nat.zero_le _) rfl
 have sA:=(h.below bA).src
 have HB:Hid (_):=bA
 have zA:w.heap.size ≤ (w.alloc (.cells #[] 83)).heap.size:=bA.size
 clear h bA
 go_enter func41,ntmps41
 go_wp2_with (at_builtin;refine wpList_append_own_at _ rfl _ _ 27 rfl w.heap.size 83 i0 (.agg #[.int .u32 0,.int .i64 0,.int .i64 0,.int .i64 0,.int .u32 0]) 5 40 underlying27 hI hz0 hz1 hz2 rfl (by decide) (.slice (af w.heap.size 0) 0 0) 0 [] rfl oA ⟨q,off,none⟩ n c (eE n P) rfl (fe _ _) sA (me _ _) (by unfold maxLen;omega) (by omega) zA ?_)
 intro v' w' o' g' _ _
 obtain⟨a',c',rfl⟩:=bK o'
 have HF:Hid (_):=And.intro o' (HB.out.grown g' HB.out.size (fun k hk=>(oA.lt k hk).1))
 clear o' g' oA sA zA hnn
 go_wp2_with fail
 go_ret
 exact⟨_,_,rfl,HF.out.1,HF.out.2⟩
theorem uq (P Q:Nat→Pq) (s q0 o0 n0 c0 q1 o1 n1 c1:Nat) (w:World) (hs:w.heap[s]?=some (.cells #[.slice (af q0 o0) n0 c0,.slice (af q1 o1) n1 c1] 27 (0,0))) (h0:PqRow w (af q0 o0) n0 P) (h1:PqRow w (af q1 o1) n1 Q) (l0:0<n0) (b0:n0≤1000) (b1:n1≤1000):Calls prog 38 #[.slice (af s 0) 2 2] w fun r w'=>∃ a c,r=.returned (.slice a (n0+n1) c)∧Hid (PqRow w' a (n0+n1) (fun i=>if i<n0 then P i else Q (i-n0))∧n0+n1≤c∧Below w.heap.size w w'):=by
 obtain⟨i0,hI,hz0,hz1,hz2⟩:=info_parts dV
 have e0:=ae w s 0 _ _ _ hs
 have e1:=ae w s 1 _ _ _ hs
 have hG:=zb (n0+n1) (by omega) (by omega) w
 rw[Int.natCast_add]at hG
 have ls:=(Array.getElem?_eq_some_iff.1 hs).1
 have H0:Hid (_):=ls
 have Hs:Hid (_):=hs
 have Hp:Hid (_):=h0
 have Hq:Hid (_):=h1
 have f0:¬ (((n0:Nat):Int)<0):=by omega
 have f1:¬ (((n0:Nat):Int) + ((n1:Nat):Int)<0):=by omega
 clear hs h0 h1 ls
 go_enter func38,ntmps38
 go_wp2_with fail
 refine wp_loop_rounds 3 ?_
 rw[rounds_succ]
 go_wp2_with fail
 rw[rounds_succ]
 go_wp2_with fail
 rw[rounds_succ]
 go_wp2_with fail
 refine hG.mono ?_
 rintro r w1 ⟨a,c,rfl,H1⟩
 have oA:=H1.out.1
 have bb1:=H1.out.2
 have d0:=ae w1 s 0 _ _ _ ((bb1.block s H0.out).trans Hs.out)
 have d1:=ae w1 s 1 _ _ _ ((bb1.block s H0.out).trans Hs.out)
 have sA:=(PqRow.below Hp.out bb1).src
 have zA:w.heap.size≤w1.heap.size:=bb1.size
 have HB1:Hid (_):=bb1
 clear bb1 hG e0 e1
 go_wp2_with fail
 refine wp_loop_rounds 3 ?_
 rw[rounds_succ]
 go_wp2_with (at_builtin;refine wpList_append_own_at _ rfl _ _ 27 rfl w.heap.size 83 i0 (.agg #[.int .u32 0,.int .i64 0,.int .i64 0,.int .i64 0,.int .u32 0]) 5 40 underlying27 hI hz0 hz1 hz2 rfl (by decide) (.slice a 0 c) 0 [] rfl oA ⟨q0,o0,none⟩ n0 c0 (eE n0 P) rfl (fe _ _) sA (me _ _) (by unfold maxLen;omega) (by omega) zA ?_)
 intro v2 w2 o2 g2 _ _
 obtain⟨a2,c2,rfl⟩:=bK o2
 have bb2:=HB1.out.grown g2 zA (fun k hk=>(oA.lt k hk).1)
 have k0:=ae w2 s 0 _ _ _ ((bb2.block s H0.out).trans Hs.out)
 have k1:=ae w2 s 1 _ _ _ ((bb2.block s H0.out).trans Hs.out)
 have sB:=(PqRow.below Hq.out bb2).src
 have zB:w.heap.size≤w2.heap.size:=bb2.size
 have HB2:Hid (_):=bb2
 clear oA sA zA d0 d1 bb2 g2
 go_wp2_with fail
 rw[rounds_succ]
 go_wp2_with (at_builtin;refine wpList_append_own_at _ rfl _ _ 27 rfl w.heap.size 83 i0 (.agg #[.int .u32 0,.int .i64 0,.int .i64 0,.int .i64 0,.int .u32 0]) 5 40 underlying27 hI hz0 hz1 hz2 rfl (by decide) (.slice a2 n0 c2) n0 (eE n0 P) rfl o2 ⟨q1,o1,none⟩ n1 c1 (eE n1 Q) rfl (fe _ _) sB (me _ _) (by unfold maxLen;omega) (by omega) zB ?_)
 intro v3 w3 o3 g3 _ _
 obtain⟨a3,c3,rfl⟩:=bK o3
 have HF:Hid (_):=And.intro o3 (HB2.out.grown g3 zB (fun k hk=>(o2.lt k hk).1))
 have m1:=ae w3 s 1 _ _ _ ((HF.out.2.block s H0.out).trans Hs.out)
 clear o2 o3 sB zB k0 k1 g3
 go_wp2_with fail
 rw[rounds_succ]
 go_wp2_with fail
 go_ret
 have h3:=HF.out.1
 rw[← wu]at h3
 refine⟨_,_,rfl,PqRow.ofOwn h3,?_,HF.out.2⟩
 rcases h3.2 with ⟨e,e2⟩ | ⟨g,cap,cur,e,_,_,hle,_⟩
 ·omega
 ·injection e with _ _ e3
  omega
def Pq.law (p:Pq):Prop:=sr p.c p.o p.i p.t p.n
instance (p:Pq):Decidable p.law:=inferInstanceAs (Decidable (sr p.c p.o p.i p.t p.n))
def mY (P:Nat→Pq) (n:Nat):Bool:=(List.range n).all fun i=>decide (P i).law
theorem rA (P:Nat→Pq) (n:Nat):mY P (n+1)=(mY P n && decide (P n).law):=by
 unfold mY
 rw[List.range_succ,List.all_append]
 simp
def zO (n0 n1 mx:Nat) (P Q:Nat→Pq):Int:=if n0<1∨8<n0∨n1≠n0∨mx<1 then 2 else if mY (fun i=>if i<n0 then P i else Q (i-n0)) (n0+n1)=false then 90 else if (gJ P n0 || gJ Q n1)=true then 160 else 0
theorem wX (P Q:Nat→Pq) (a0 a1:Option Addr) (n0 c0 n1 c1 mx:Nat) (w:World) (h0:PqRow w a0 n0 P) (h1:PqRow w a1 n1 Q) (u0:n0≤c0) (u1:n1≤c1) (b0:n0≤1000000) (b1:n1≤1000000):Calls prog 18 #[.agg #[.slice a0 n0 c0,.slice a1 n1 c1,.int .u32 (mx:Nat)]] w fun r w'=>r=.returned (.int .i64 (zO n0 n1 mx P Q))∧Hid (Below w.heap.size w w'):=by
 have kA:=aA w (.cells #[.slice a0 n0 c0,.slice a1 n1 c1,.int .u32 (mx:Nat)] 30)
 have bA:=aC (Below.refl _ w) (.cells #[.slice a0 n0 c0,.slice a1 n1 c1,.int .u32 (mx:Nat)] 30)
 obtain⟨wa,hwa⟩:∃ y,w.alloc (.cells #[.slice a0 n0 c0,.slice a1 n1 c1,.int .u32 (mx:Nat)] 30)=y:=⟨_,rfl⟩
 rw[hwa]at kA bA
 have r0:=h0.below bA
 have r1:=h1.below bA
 obtain⟨x,hx⟩:∃ y,w.heap.size=y:=⟨_,rfl⟩
 have HB:Hid (Below w.heap.size w wa):=bA
 rw[hx]at kA
 have y0:wa.cell? ⟨x,0,none⟩=some (.slice a0 n0 c0):=ae wa x 0 _ _ _ kA
 have y1:wa.cell? ⟨x,1,none⟩=some (.slice a1 n1 c1):=ae wa x 1 _ _ _ kA
 have y2:wa.cell? ⟨x,2,none⟩=some (.int .u32 (mx:Nat)):=ae wa x 2 _ _ _ kA
 have HK:Hid (_):=kA
 have HR:Hid (_):=And.intro r0 r1
 have HE:Hid (_=wa):=hwa
 have HS:Hid (w.heap.size=x):=hx
 clear kA bA hwa hx r0 r1 h0 h1
 unfold zO
 by_cases g1:n0<1
 ·rw[if_pos (.inl g1)]
  have g1':((n0:Nat):Int)<1:=by omega
  go_enter func18,ntmps18
  go_upto_region 1 with fail
  rw[HE.out,HS.out]
  go_wp2_with fail
  go_ret
  exact⟨rfl,HB.out⟩
 by_cases g2:8<n0
 ·rw[if_pos (.inr (.inl g2))]
  have g1':¬ (((n0:Nat):Int)<1):=by omega
  have g2':((n0:Nat):Int) > 8:=by omega
  go_enter func18,ntmps18
  go_upto_region 1 with fail
  rw[HE.out,HS.out]
  go_wp2_with fail
  go_ret
  exact⟨rfl,HB.out⟩
 have g1':¬ (((n0:Nat):Int)<1):=by omega
 have g2':¬ (((n0:Nat):Int) > 8):=by omega
 by_cases g3:n1=n0
 rotate_left
 ·rw[if_pos (.inr (.inr (.inl g3)))]
  have g3':(((n1:Nat):Int) != ((n0:Nat):Int))=true:=by simp;omega
  go_enter func18,ntmps18
  go_upto_region 1 with fail
  rw[HE.out,HS.out]
  go_wp2_with fail
  go_ret
  exact⟨rfl,HB.out⟩
 subst g3
 have g3':(((n1:Nat):Int) != ((n1:Nat):Int))=false:=by simp
 by_cases g4:mx<1
 ·rw[if_pos (.inr (.inr (.inr g4)))]
  have g4':((mx:Nat):Int)<1:=by omega
  go_enter func18,ntmps18
  go_upto_region 1 with fail
  rw[HE.out,HS.out]
  go_wp2_with fail
  go_ret
  exact⟨rfl,HB.out⟩
 have g4':¬ (((mx:Nat):Int)<1):=by omega
 rw[if_neg (by omega:¬ (n1<1∨8<n1∨n1≠n1∨mx<1))]
 obtain⟨q0,o0,ea0,_⟩:=HR.out.1 0 (by omega)
 obtain⟨q1,o1,ea1,_⟩:=HR.out.2 0 (by omega)
 subst ea0 ea1
 have bB:=aC (Below.refl _ wa) (.cells #[.slice (af q0 o0) n1 c0,.slice (af q1 o1) n1 c1] 27)
 have kB:=aA wa (.cells #[.slice (af q0 o0) n1 c0,.slice (af q1 o1) n1 c1] 27)
 have hCc:=uq P Q wa.heap.size q0 o0 n1 c0 q1 o1 n1 c1 (wa.alloc (.cells #[.slice (af q0 o0) n1 c0,.slice (af q1 o1) n1 c1] 27)) kB (PqRow.below HR.out.1 bB) (PqRow.below HR.out.2 bB) (by omega) (by omega) (by omega)
 have HBB:Hid (_):=bB
 clear bB kB g1 g2 g4
 obtain⟨R,hR⟩:∃ z,(if mY (fun i=>if i<n1 then P i else Q (i-n1)) (n1+n1)=false then (90:Int) else if (gJ P n1 || gJ Q n1)=true then 160 else 0)=z:=⟨_,rfl⟩
 have HRR:Hid (_):=hR
 rw[hR]
 clear hR
 obtain⟨C,hC⟩:∃ C:Nat→Pq,(fun i=>if i<n1 then P i else Q (i-n1))=C:=⟨_,rfl⟩
 rw[hC]at hCc
 have HC:Hid (_):=hC
 clear hC
 go_enter func18,ntmps18
 go_upto_region 1 with fail
 rw[HE.out,HS.out]
 go_wp2_with fail
 refine hCc.mono ?_
 rintro r w1 ⟨a,c,rfl,H1⟩
 clear hCc y0 y1 y2
 have hb1:Below wa.heap.size wa w1:=HBB.out.trans (H1.out.2.2.mono HBB.out.size)
 have HB1:Hid (_):=hb1
 clear hb1
 go_wp2_with fail
 go_loopw [2,4,5,37,38,39,40,41,42,43,44,45,46] (fun _ _ _ v0 _ _ _ _ _ _ _ _ _ wr=>∃ i:Nat,i≤n1+n1∧v0=.int .i64 ((i:Nat):Int)∧Hid (mY C i=true∧Below w1.heap.size w1 wr)) (fun _ _ _ v0 _ _ _ _ _ _ _ _ _ _=>n1+n1-ik v0)
 case atStart=>exact⟨0,by omega,rfl,rfl,Below.refl _ _⟩
 case round=>
  obtain⟨i,hi,rfl,HI⟩:=hrel
  by_cases hlt:i<n1+n1
  rotate_left
  ·obtain rfl:i=n1+n1:=by omega
   have hlt':¬ (((n1+n1:Nat):Nat):Int) < (((n1+n1:Nat):Nat):Int):=by omega
   have hbr:Below wa.heap.size wa wr:=HB1.out.trans (HI.out.2.mono HB1.out.size)
   have kr:=(hbr.block x (Array.getElem?_eq_some_iff.1 HK.out).1).trans HK.out
   have y0:wr.cell? ⟨x,0,none⟩=some (.slice (af q0 o0) n1 c0):=ae wr x 0 _ _ _ kr
   have y1:wr.cell? ⟨x,1,none⟩=some (.slice (af q1 o1) n1 c1):=ae wr x 1 _ _ _ kr
   have hD:=lr (af q0 o0) n1 c0 P wr (PqRow.below HR.out.1 hbr) (by omega) u0
   have HBr:Hid (_):=hbr
   clear kr hbr
   cases hd:gJ P n1 with
   | true=>
    rw[hd]at hD
    have HN:Hid (R=160):=by
     show R=160
     rw[← HRR.out,HC.out,HI.out.1,hd]
     rfl
    clear hd
    go_wp2_with fail
    refine hD.mono ?_
    rintro r w3 ⟨rfl,H3⟩
    clear hD
    go_wp2_with fail
    go_ret
    exact⟨by rw[HN.out] <;> rfl,(HB.out.trans (HBr.out.mono HB.out.size)).trans (H3.out.mono (Nat.le_trans HB.out.size HBr.out.size))⟩
   | false=>
    rw[hd]at hD
    have HN0:Hid (gJ P n1=false):=hd
    clear hd
    go_wp2_with fail
    refine hD.mono ?_
    rintro r w3 ⟨rfl,H3⟩
    clear hD y0 y1
    have hb3:Below wa.heap.size wa w3:=HBr.out.trans (H3.out.mono HBr.out.size)
    have kr:=(hb3.block x (Array.getElem?_eq_some_iff.1 HK.out).1).trans HK.out
    have y1:w3.cell? ⟨x,1,none⟩=some (.slice (af q1 o1) n1 c1):=ae w3 x 1 _ _ _ kr
    have hD:=lr (af q1 o1) n1 c1 Q w3 (PqRow.below HR.out.2 hb3) (by omega) u1
    have HB3:Hid (_):=hb3
    clear kr hb3
    cases hd:gJ Q n1 with
    | true=>
     rw[hd]at hD
     have HN:Hid (R=160):=by
      show R=160
      rw[← HRR.out,HC.out,HI.out.1,HN0.out,hd]
      rfl
     clear hd
     go_wp2_with fail
     refine hD.mono ?_
     rintro r w4 ⟨rfl,H4⟩
     clear hD
     go_wp2_with fail
     go_ret
     exact⟨by rw[HN.out] <;> rfl,(HB.out.trans (HB3.out.mono HB.out.size)).trans (H4.out.mono (Nat.le_trans HB.out.size HB3.out.size))⟩
    | false=>
     rw[hd]at hD
     have HN:Hid (R=0):=by
      show R=0
      rw[← HRR.out,HC.out,HI.out.1,HN0.out,hd]
      rfl
     clear hd
     go_wp2_with fail
     refine hD.mono ?_
     rintro r w4 ⟨rfl,H4⟩
     clear hD
     go_wp2_with fail
     go_ret
     exact⟨by rw[HN.out] <;> rfl,(HB.out.trans (HB3.out.mono HB.out.size)).trans (H4.out.mono (Nat.le_trans HB.out.size HB3.out.size))⟩
  have hlt':((i:Nat):Int) < (((n1+n1:Nat):Nat):Int):=by omega
  obtain⟨q,off,ea,cc⟩:=(PqRow.below H1.out.1 HI.out.2) i hlt
  subst ea
  obtain⟨p,hP⟩:∃ y,C i=y:=⟨_,rfl⟩
  rw[hP]at cc
  have c0:wr.cell? ⟨q,off+i*5,none⟩=some (.int .u32 (p.c:Nat)):=cc 0 _ rfl
  have c1:wr.cell? ⟨q,off+i*5+1,none⟩=some (.int .i64 p.o):=cc 1 _ rfl
  have c2:wr.cell? ⟨q,off+i*5+2,none⟩=some (.int .i64 p.i):=cc 2 _ rfl
  have c3:wr.cell? ⟨q,off+i*5+3,none⟩=some (.int .i64 p.t):=cc 3 _ rfl
  have c4:wr.cell? ⟨q,off+i*5+4,none⟩=some (.int .u32 (p.n:Nat)):=cc 4 _ rfl
  have bA:=aC (Below.refl _ wr) (.cells #[.int .u32 (p.c:Nat),.int .i64 p.o,.int .i64 p.i,.int .i64 p.t,.int .u32 (p.n:Nat)] 83)
  have HP:Hid (_):=hP
  have HBx:Hid (_):=HI.out.2.trans (bA.mono HI.out.2.size)
  clear cc hP bA
  by_cases hl:p.law
  ·have hCk:=eJ p.c p.o p.i p.t p.n (wr.alloc (.cells #[.int .u32 (p.c:Nat),.int .i64 p.o,.int .i64 p.i,.int .i64 p.t,.int .u32 (p.n:Nat)] 83)) 0 (if_pos (show sr p.c p.o p.i p.t p.n from hl))
   have HN:Hid (mY C (i+1)=true):=by
    show mY C (i+1)=true
    rw[rA,HI.out.1,HP.out]
    simpa using hl
   clear hl
   go_wp2_with fail
   refine hCk.mono ?_
   rintro r w3 ⟨rfl,b3⟩
   have HB3:Hid (_):=b3
   clear hCk b3
   go_wp2_with fail
   go_roundw
   case rel=>exact⟨i+1,by omega,by first | rfl | go_num,HN.out,HBx.out.trans (HB3.out.mono HBx.out.size)⟩
   case measure=>simp only[ik];omega
  ·have hCk:=eJ p.c p.o p.i p.t p.n (wr.alloc (.cells #[.int .u32 (p.c:Nat),.int .i64 p.o,.int .i64 p.i,.int .i64 p.t,.int .u32 (p.n:Nat)] 83)) 90 (if_neg (show ¬ sr p.c p.o p.i p.t p.n from hl))
   have HN:Hid (R=90):=by
    show R=90
    rw[← HRR.out,HC.out]
    refine if_pos ?_
    rw[Bool.eq_false_iff]
    intro hh
    have:=List.all_eq_true.1 hh i (List.mem_range.2 hlt)
    rw[HP.out]at this
    exact hl (by simpa using this)
   clear hl
   go_wp2_with fail
   refine hCk.mono ?_
   rintro r w3 ⟨rfl,b3⟩
   have HB3:Hid (_):=b3
   clear hCk b3
   go_wp2_with fail
   go_ret
   have e1:Below wa.heap.size wa w3:=HB1.out.trans ((HBx.out.trans (HB3.out.mono HBx.out.size)).mono HB1.out.size)
   exact⟨by rw[HN.out] <;> rfl,HB.out.trans (e1.mono HB.out.size)⟩
theorem ur (P Q:Nat→Pq) (q0 o0 v0 q1 o1 v1 n mx:Nat) (w:World) (k0:PqRow w (af q0 o0) n P) (k1:PqRow w (af q1 o1) n Q) (hn:n≤1000000):Calls prog 19 #[.agg #[.slice (af q0 o0) n v0,.slice (af q1 o1) n v1,.int .u32 (mx:Nat)]] w fun r w'=>∃ a0 c0 a1 c1,r=.returned (.agg #[.slice a0 n c0,.slice a1 n c1,.int .u32 (mx:Nat)])∧Hid (w'.ownsRow w.heap.size 83 5 (.slice a0 n c0) n (eE n P)∧w'.ownsRow w.heap.size 83 5 (.slice a1 n c1) n (eE n Q)∧Below w.heap.size w w'∧∀ k,(Value.slice a0 n c0).ownBlock=some k→(Value.slice a1 n c1).ownBlock≠some k):=by
 have kA0:=aA w (.cells #[.slice (af q0 o0) n v0,.slice (af q1 o1) n v1,.int .u32 (mx:Nat)] 30)
 have bA:=aC (aC (Below.refl _ w) (.cells #[.slice (af q0 o0) n v0,.slice (af q1 o1) n v1,.int .u32 (mx:Nat)] 30)) (.cells #[.slice none 0 0,.slice none 0 0,.int .u32 0] 30)
 have s1:(w.alloc (.cells #[.slice (af q0 o0) n v0,.slice (af q1 o1) n v1,.int .u32 (mx:Nat)] 30)).heap.size=w.heap.size+1:=iQ _ _
 have kA:((w.alloc (.cells #[.slice (af q0 o0) n v0,.slice (af q1 o1) n v1,.int .u32 (mx:Nat)] 30)).alloc (.cells #[.slice none 0 0,.slice none 0 0,.int .u32 0] 30)).heap[w.heap.size]?=_:=(Below.heap_alloc _ _ _ (by omega)).trans kA0
 have kB:=aA (w.alloc (.cells #[.slice (af q0 o0) n v0,.slice (af q1 o1) n v1,.int .u32 (mx:Nat)] 30)) (.cells #[.slice none 0 0,.slice none 0 0,.int .u32 0] 30)
 rw[s1]at kB
 have s2:((w.alloc (.cells #[.slice (af q0 o0) n v0,.slice (af q1 o1) n v1,.int .u32 (mx:Nat)] 30)).alloc (.cells #[.slice none 0 0,.slice none 0 0,.int .u32 0] 30)).heap.size=w.heap.size+2:=zo _ _ _
 obtain⟨wa,hwa⟩:∃ y,(w.alloc (.cells #[.slice (af q0 o0) n v0,.slice (af q1 o1) n v1,.int .u32 (mx:Nat)] 30)).alloc (.cells #[.slice none 0 0,.slice none 0 0,.int .u32 0] 30)=y:=⟨_,rfl⟩
 rw[hwa]at kA bA kB s2
 have j0:=k0.below bA
 have j1:=k1.below bA
 obtain⟨x,hx⟩:∃ y,w.heap.size=y:=⟨_,rfl⟩
 have HBa:Hid (Below w.heap.size w wa):=bA
 rw[hx]at kA kB s2
 have hS:∀ w',Below wa.heap.size wa w'→w'.cell? ⟨x,0,none⟩=some (Value.slice (af q0 o0) n v0)∧w'.cell? ⟨x,1,none⟩=some (Value.slice (af q1 o1) n v1)∧w'.cell? ⟨x,2,none⟩=some (Value.int .u32 (mx:Nat)):=fun w' b=>⟨ai (ae wa x 0 _ _ _ kA) b,ai (ae wa x 1 _ _ _ kA) b,ai (ae wa x 2 _ _ _ kA) b⟩
 have HS0:=hS wa.drew (Below.drew (Below.refl _ _))
 have HSS:Hid (_):=hS
 have HJ:Hid (_):=And.intro j0 (And.intro j1 (And.intro kB s2))
 have HE:Hid (_=wa):=hwa
 have HS:Hid (w.heap.size=x):=hx
 clear kA0 kA kB bA s1 s2 hwa hx j0 j1 k0 k1 hS
 go_enter func19,ntmps19
 go_upto_region 1 with fail
 rw[HE.out,HS.out]
 refine wp_region_held_drew (S:=fun w'=>w'.cell? ⟨x,0,none⟩=some (Value.slice (af q0 o0) n v0)∧w'.cell? ⟨x,1,none⟩=some (Value.slice (af q1 o1) n v1)∧w'.cell? ⟨x,2,none⟩=some (Value.int .u32 (mx:Nat))) (by kernel_rfl) HS0 (fun _=>?_)
 refine an (i:=0) (v:=ac x 0) ?_
 refine an (i:=1) (v:=Value.slice (af q0 o0) n v0) ?_
 refine an (i:=3) (v:=ac x 1) ?_
 refine an (i:=4) (v:=Value.slice (af q1 o1) n v1) ?_
 refine an (i:=6) (v:=ac x 2) ?_
 refine an (i:=7) (v:=Value.int .u32 (mx:Nat)) ?_
 have bd:Below wa.heap.size wa wa.drew:=Below.drew (Below.refl _ _)
 refine aE (i:=2) 41 #[Value.slice (af q0 o0) n v0] (by kernel_rfl) rfl (by kernel_rfl) (by go_simp) ?_
 refine (qW q0 o0 n v0 P wa.drew (PqRow.below HJ.out.1 bd) hn).mono ?_
 rintro r w1 ⟨a0,c0,rfl,H1⟩
 have b1:Below wa.heap.size wa w1:=bd.trans H1.out.2
 refine⟨_,rfl,HSS.out w1 b1,?_⟩
 have HSa:=HSS.out w1 b1
 refine aE (i:=5) 41 #[Value.slice (af q1 o1) n v1] (by kernel_rfl) rfl (by kernel_rfl) (by go_simp) ?_
 refine (qW q1 o1 n v1 Q w1 (PqRow.below HJ.out.2.1 b1) hn).mono ?_
 rintro r w2 ⟨a1,c1,rfl,H2⟩
 have b2:Below wa.heap.size wa w2:=b1.trans (H2.out.2.mono b1.size)
 have HSb:=HSS.out w2 b2
 refine⟨_,rfl,HSb,?_⟩
 refine an (i:=8) (v:=Value.agg #[Value.slice a0 n c0,Value.slice a1 n c1,Value.int .u32 (mx:Nat)]) ?_
 obtain⟨_,_,kB,s2⟩:=HJ.out
 have kB2:=(b2.block (x+1) (by omega)).trans kB
 have y0:=ae w2 (x+1) 0 _ _ _ kB2
 have y1:=ae w2 (x+1) 1 _ _ _ kB2
 have y2:=ae w2 (x+1) 2 _ _ _ kB2
 have yz:=fun k=>frozen_of_row w2 (x+1) k _ _ kB2
 have kB3:(((w2.setCell ⟨x+1,0,none⟩ (Value.slice a0 n c0)).setCell ⟨x+1,1,none⟩ (Value.slice a1 n c1)).setCell ⟨x+1,2,none⟩ (Value.int .u32 (mx:Nat))).heap[x+1]?=some (.cells #[Value.slice a0 n c0,Value.slice a1 n c1,Value.int .u32 (mx:Nat)] 30 (0,0)):=Joins.block_setCell (Joins.block_setCell (Joins.block_setCell kB2 _) _) _
 have o3:Off [x+1] w2 (((w2.setCell ⟨x+1,0,none⟩ (Value.slice a0 n c0)).setCell ⟨x+1,1,none⟩ (Value.slice a1 n c1)).setCell ⟨x+1,2,none⟩ (Value.int .u32 (mx:Nat))):=((Off.setCell (x+1) 0 w2 _).trans (Off.setCell (x+1) 1 _ _)).trans (Off.setCell (x+1) 2 _ _)
 have hS3:(((w2.setCell ⟨x+1,0,none⟩ (Value.slice a0 n c0)).setCell ⟨x+1,1,none⟩ (Value.slice a1 n c1)).setCell ⟨x+1,2,none⟩ (Value.int .u32 (mx:Nat))).cell? ⟨x,0,none⟩=some (Value.slice (af q0 o0) n v0)∧(((w2.setCell ⟨x+1,0,none⟩ (Value.slice a0 n c0)).setCell ⟨x+1,1,none⟩ (Value.slice a1 n c1)).setCell ⟨x+1,2,none⟩ (Value.int .u32 (mx:Nat))).cell? ⟨x,1,none⟩=some (Value.slice (af q1 o1) n v1)∧(((w2.setCell ⟨x+1,0,none⟩ (Value.slice a0 n c0)).setCell ⟨x+1,1,none⟩ (Value.slice a1 n c1)).setCell ⟨x+1,2,none⟩ (Value.int .u32 (mx:Nat))).cell? ⟨x,2,none⟩=some (Value.int .u32 (mx:Nat)):=by
  obtain⟨u0,u1,u2⟩:=HSb
  refine⟨?_,?_,?_⟩
  ·rw[World.cell?_of_block (w:=w2) (o3.block x (by have:=b2.size;omega) (by simp))];exact u0
  ·rw[World.cell?_of_block (w:=w2) (o3.block x (by have:=b2.size;omega) (by simp))];exact u1
  ·rw[World.cell?_of_block (w:=w2) (o3.block x (by have:=b2.size;omega) (by simp))];exact u2
 obtain⟨w3,hw3⟩:∃ z,(((w2.setCell ⟨x+1,0,none⟩ (Value.slice a0 n c0)).setCell ⟨x+1,1,none⟩ (Value.slice a1 n c1)).setCell ⟨x+1,2,none⟩ (Value.int .u32 (mx:Nat)))=z:=⟨_,rfl⟩
 rw[hw3]at kB3 o3 hS3
 refine cj (i:=9) w3 (by kernel_rfl) rfl (by kernel_rfl) (by rw[← hw3];go_simp) hS3 ?_
 refine wpAnyH_done (by kernel_rfl) ?_ _
 have z0:=ae w3 (x+1) 0 _ _ _ kB3
 have z1:=ae w3 (x+1) 1 _ _ _ kB3
 have z2:=ae w3 (x+1) 2 _ _ _ kB3
 have HO:Hid (_):=And.intro o3 (And.intro b1 (And.intro b2 s2))
 clear o3 b1 b2 s2 kB kB2 kB3 hS3 HSb HSa hw3 HS0 bd y0 y1 y2 yz
 go_wp2_with fail
 refine bodyPost_ret (v:=.agg #[.slice a0 n c0,.slice a1 n c1,.int .u32 (mx:Nat)]) (by simp[results,results19,go_sem,z0,z1,z2]) rfl ?_
 obtain⟨o3,b1,b2,s2⟩:=HO.out
 have hb:=HBa.out
 have hsx:=HS.out
 have hdz:wa.drew.heap.size=wa.heap.size:=rfl
 have lt1:=H1.out.1.lt
 have lt2:=H2.out.1.lt
 have l1:=b1.size
 have u0:w2.ownsRow wa.heap.size 83 5 (.slice a0 n c0) n (eE n P):=aX (l:=[]) H1.out.1 (Off.of_below H2.out.2) (by simp)
 have v0:=aX u0 o3 (fun k hk hm=>by have:=(lt1 k hk).1;simp at hm;omega)
 have v1:=aX H2.out.1 o3 (fun k hk hm=>by have:=(lt2 k hk).1;simp at hm;omega)
 refine⟨a0,c0,a1,c1,rfl,il v0 (by omega),il v1 (by omega),o3.below (hb.trans (b2.mono hb.size)) (by simp;omega) (Nat.le_trans hb.size b2.size),fun k hk hm=>?_⟩
 have:=(lt1 k hk).2
 have:=(lt2 k hm).1
 omega
def Pm.q (P:Pm):Pq:=⟨P.c,P.o,P.i,P.t,P.n⟩
def kG (T size:Nat) (v:Value) (n:Nat) (xs:List Value):Thing:=⟨v.ownBlock.toList,fun w=>w.ownsRow 0 T size v n xs,fun _ _ _ h o hl=>aX h o (fun k hk=>hl k (by rw[hk];simp))⟩
def mQ (h d m:Nat):List Value:=[ac h 0,ac d 0,ac m 0]
theorem jw (n:Nat) (h d m:Nat→Nat):gE (n+1) h d m=gE n h d m ++ mQ (h n) (d n) (m n):=by
 unfold gE mQ
 rw[List.range_succ,List.flatMap_append]
 simp
theorem vY (n x y z:Nat) (h d m:Nat→Nat):∀ i,i≤n→gE i (bf h n x) (bf d n y) (bf m n z)=gE i h d m:=by
 intro i hi
 induction i with
 | zero=>rfl
 | succ i ih=>rw[jw,jw,ih (by omega),bY _ _ (by omega),bY _ _ (by omega),bY _ _ (by omega)]
structure Ng where
 X:Nat
 b:Nat
 m:Nat
 x:Nat
 v0:Value
 v1:Value
 vc:Value
 n:Nat
 i:Nat
 mx:Nat
 PH:Nat→Pm
 PD:Nat→Pm
 h:Nat→Nat
 d:Nat→Nat
 dm:Nat→Nat
 g:Nat→Nat
 hU:Nat→List Nat
 dU:Nat→List Nat
 ob:Obj
def Ng.blk (G:Ng):Obj:=.cells #[G.v0,G.v1,.int .u32 (G.mx:Nat),G.vc,ac G.b 0,.int .i64 0,.slice none 0 0] 75 (0,0)
def Ng.t (G:Ng) (q:Nat):Thing:=
 if q=0 then cS [(G.X,G.blk)] else if q=1 then kG 83 5 G.v0 G.n (xO G.n G.PH) else if q=2 then kG 83 5 G.v1 G.n (xO G.n G.PD)
 else if q=3 then kG 80 3 G.vc G.i (gE G.i G.h G.d G.dm) else if q=4 then zC G.b G.m (.slice none 0 0) [] none [] else if q=5 then cS [(G.x,G.ob)]
 else if q-6<2*G.i then (if q % 2=0 then sh ⟨G.h ((q-6) / 2),G.PH ((q-6) / 2),bu⟩ (G.hU ((q-6) / 2)) else s7 ⟨G.d ((q-6) / 2),G.dm ((q-6) / 2),G.g ((q-6) / 2),16,G.mx,G.PD ((q-6) / 2),cW M0⟩ (G.dU ((q-6) / 2)))
 else di
def Ng.more (G:Ng) (vc:Value) (h d dm g:Nat) (hU dU:List Nat):Ng:={ G with vc:=vc,i:=G.i+1,h:=bf G.h G.i h,d:=bf G.d G.i d,dm:=bf G.dm G.i dm,g:=bf G.g G.i g,hU:=bf G.hU G.i hU,dU:=bf G.dU G.i dU }
theorem Ng.more_t (G:Ng) (vc:Value) (h d dm g:Nat) (hU dU:List Nat):∀ q,(G.more vc h d dm g hU dU).t q=aF (aF (aF (aF G.t (6+2*G.i) (sh ⟨h,G.PH G.i,bu⟩ hU)) (7+2*G.i) (s7 ⟨d,dm,g,16,G.mx,G.PD G.i,cW M0⟩ dU)) 3 (kG 80 3 vc (G.i+1) (gE G.i G.h G.d G.dm ++ mQ h d dm))) 0 (cS [(G.X,(G.more vc h d dm g hU dU).blk)]) q:=by
 intro q
 by_cases q0:q=0
 ·subst q0
  rw[al]
  rfl
 rw[ag _ _ q0]
 by_cases q3:q=3
 ·subst q3
  rw[al]
  show kG _ 3 vc (G.i+1) (gE (G.i+1) (bf G.h G.i h) (bf G.d G.i d) (bf G.dm G.i dm))=_
  rw[jw,vY _ _ _ _ _ _ _ _ (Nat.le_refl _),aj,aj,aj]
 rw[ag _ _ q3]
 by_cases q7:q=7+2*G.i
 ·subst q7
  rw[al]
  unfold Ng.t
  rw[if_neg q0,if_neg (by omega),if_neg (by omega),if_neg q3,if_neg (by omega),if_neg (by omega),if_pos (show 7+2*G.i-6<2 * (G.more vc h d dm g hU dU).i by show 7+2*G.i-6<2 * (G.i+1);omega),if_neg (by omega),show (7+2*G.i-6) / 2=G.i by omega]
  show s7 ⟨bf G.d G.i d G.i,bf G.dm G.i dm G.i,bf G.g G.i g G.i,16,G.mx,G.PD G.i,cW M0⟩ (bf G.dU G.i dU G.i)=_
  rw[aj,aj,aj,aj]
 rw[ag _ _ q7]
 by_cases q6:q=6+2*G.i
 ·subst q6
  rw[al]
  unfold Ng.t
  rw[if_neg q0,if_neg (by omega),if_neg (by omega),if_neg q3,if_neg (by omega),if_neg (by omega),if_pos (show 6+2*G.i-6<2 * (G.more vc h d dm g hU dU).i by show 6+2*G.i-6<2 * (G.i+1);omega),if_pos (by omega),show (6+2*G.i-6) / 2=G.i by omega]
  show sh ⟨bf G.h G.i h G.i,G.PH G.i,bu⟩ (bf G.hU G.i hU G.i)=_
  rw[aj,aj]
 rw[ag _ _ q6]
 unfold Ng.t
 rw[if_neg q0,if_neg q0]
 by_cases q1:q=1
 ·rw[if_pos q1,if_pos q1]
  rfl
 rw[if_neg q1,if_neg q1]
 by_cases q2:q=2
 ·rw[if_pos q2,if_pos q2]
  rfl
 rw[if_neg q2,if_neg q2,if_neg q3,if_neg q3]
 by_cases q4:q=4
 ·rw[if_pos q4,if_pos q4]
  rfl
 rw[if_neg q4,if_neg q4]
 by_cases q5:q=5
 ·rw[if_pos q5,if_pos q5]
  rfl
 rw[if_neg q5,if_neg q5]
 by_cases hl:q-6<2*G.i
 ·have hne:(q-6) / 2≠G.i:=by omega
  rw[if_pos hl,if_pos (show q-6<2 * (G.more vc h d dm g hU dU).i by show q-6<2 * (G.i+1);omega)]
  by_cases he:q % 2=0
  ·rw[if_pos he,if_pos he]
   show sh ⟨bf G.h G.i h ((q-6) / 2),G.PH ((q-6) / 2),bu⟩ (bf G.hU G.i hU ((q-6) / 2))=_
   rw[bY _ _ hne,bY _ _ hne]
  ·rw[if_neg he,if_neg he]
   show s7 ⟨bf G.d G.i d ((q-6) / 2),bf G.dm G.i dm ((q-6) / 2),bf G.g G.i g ((q-6) / 2),16,G.mx,G.PD ((q-6) / 2),cW M0⟩ (bf G.dU G.i dU ((q-6) / 2))=_
   rw[bY _ _ hne,bY _ _ hne,bY _ _ hne,bY _ _ hne]
 ·rw[if_neg hl,if_neg (show ¬ q-6<2 * (G.more vc h d dm g hU dU).i by show ¬ q-6<2 * (G.i+1);omega)]
theorem Ng.step {w0 w w5 w6 w7 w8:World} {G:Ng} (A:Al w0 w G.t) (b5:Below w.heap.size w w5) {h d dm g:Nat} {hU dU:List Nat} (hv:HV w5 h (G.PH G.i) hU bu) (dv:DV w5 d dm g 16 G.mx (G.PD G.i) dU (cW M0)) (hUg:∀ k,k ∈ hU→w.heap.size≤k) (dUg:∀ k,k ∈ dU→w.heap.size≤k) (hd:∀ k,k ∈ hU→k ∉ dU)
  (b6:Below w5.heap.size w5 w6) {vc:Value} (o7:w7.ownsRow 0 80 3 vc (G.i+1) (gE G.i G.h G.d G.dm ++ mQ h d dm)) (g7:w6.grownBy w7 G.vc.ownBlock) (p7:vc.ownBlock=G.vc.ownBlock∨vc.ownBlock=some w6.heap.size)
  (o8:Off [G.X] w7 w8) (k8:w8.heap[G.X]?=some (G.more vc h d dm g hU dU).blk):Al w0 w8 (G.more vc h d dm g hU dU).t:=by
 refine Al.same ?_ (G.more_t vc h d dm g hU dU)
 have sz:=A.size
 have s5:=b5.size
 have A5:=A.below b5
 have A5h:Al w0 w5 (aF G.t (6+2*G.i) (sh ⟨h,G.PH G.i,bu⟩ hU)):=A5.turn _ _ (Off.refl _ _) hv (fun k hk=>⟨Nat.le_trans sz (hUg k hk),HV.ult hv k hk⟩) (fun k hk j hj hm=>by
  have:=(A.lt j k hm).2
  have:=hUg k hk
  omega)
 have A5d:Al w0 w5 (aF (aF G.t (6+2*G.i) (sh ⟨h,G.PH G.i,bu⟩ hU)) (7+2*G.i) (s7 ⟨d,dm,g,16,G.mx,G.PD G.i,cW M0⟩ dU)):=A5h.turn _ _ (Off.refl _ _) dv (fun k hk=>⟨Nat.le_trans sz (dUg k hk),DV.ult dv k hk⟩) (fun k hk j hj hm=>by
  by_cases z:j=6+2*G.i
  ·subst z
   rw[al]at hm
   exact hd k hm hk
  ·rw[ag _ _ z]at hm
   have:=(A.lt j k hm).2
   have:=dUg k hk
   omega)
 have A6:=A5d.below b6
 have A7:=A6.step 3 (kG 80 3 vc (G.i+1) (gE G.i G.h G.d G.dm ++ mQ h d dm)) (U:=G.vc.ownBlock.toList) (by rw[ag _ _ (by omega),ag _ _ (by omega)];rfl) (w':=w7) ⟨⟨g7.os,g7.tape,g7.output,g7.size,fun k hk hb=>g7.block k hk (fun e=>hb (by rw[← e];simp))⟩,fun k hk=>by
  have hk:k ∈ vc.ownBlock.toList:=hk
  rw[Option.mem_toList]at hk
  rcases p7 with p | p
  ·exact .inl (by rw[← p,hk];simp)
  ·rw[hk]at p
   injection p with p
   exact .inr (by omega)⟩ o7 (fun k hk=>by
  have hk:k ∈ vc.ownBlock.toList:=hk
  rw[Option.mem_toList]at hk
  exact (o7.lt k hk).2)
 refine A7.step 0 (cS [(G.X,(G.more vc h d dm g hU dU).blk)]) (U:=[G.X]) (by rw[ag _ _ (by omega),ag _ _ (by omega),ag _ _ (by omega)];rfl) ⟨o8,fun k hk=>.inl hk⟩ (fun p hp=>?_) (fun k hk=>?_)
 ·simp only[List.mem_cons,List.not_mem_nil,or_false]at hp
  subst hp
  exact k8
 ·have hk:k=G.X:=by
   have hk:k ∈ [G.X]:=hk
   simpa using hk
  subst hk
  exact (Array.getElem?_eq_some_iff.1 k8).1
end Go.Proofs.YtenilkloffnjlaaGreat
