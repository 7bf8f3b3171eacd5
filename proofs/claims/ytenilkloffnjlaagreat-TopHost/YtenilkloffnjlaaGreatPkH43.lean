/- Part 44: contracts that the proof rests on. -/
import Derived.Test.YtenilkloffnjlaaGreatPkH42
set_option maxHeartbeats 64000000
set_option maxRecDepth 100000
namespace Go.Proofs.YtenilkloffnjlaaGreat
open Tryz
open Go.RowKit Go.Maps
set_option linter.unusedVariables false
theorem abq (X:Nat) (m:Mv) (d:Option Addr) (c:Nat) (E:Int) (hE:(E != 0)=true) (w:World) (hRf:∀ w1,Below w.heap.size w w1→Calls prog 26 #[ac X 0,.agg (aj m m.c d c)] w1 fun r w'=>r=.returned (.int .i64 E)∧Hid (Below w1.heap.size w1 w')):Calls prog 11 #[ac X 0,.agg (aj m m.c d c)] w fun r w'=>r=.returned (.tuple #[.agg dw,.int .i64 E])∧Below w.heap.size w w':=by
 have s1:=io w (.cells (aj m m.c d c) 39)
 have s2:=sz2 w (.cells (aj m m.c d c) 39) (.cells dw 45)
 have bW:Below w.heap.size w ((w.alloc (.cells (aj m m.c d c) 39)).alloc (.cells dw 45)):=aF (aF (Below.refl _ w) _) _
 have kp:((w.alloc (.cells (aj m m.c d c) 39)).alloc (.cells dw 45)).heap[w.heap.size]?=some (.cells (aj m m.c d c) 39 (0,0)):=(Below.heap_alloc _ _ _ (by omega)).trans (aB w _)
 have kr:=aB (w.alloc (.cells (aj m m.c d c) 39)) (.cells dw 45)
 rw[s1]at kr
 obtain⟨wa,hwa⟩:∃ z,(w.alloc (.cells (aj m m.c d c) 39)).alloc (.cells dw 45)=z:=⟨_,rfl⟩
 rw[hwa]at bW kp kr s2
 obtain⟨x,hx⟩:∃ z,w.heap.size=z:=⟨_,rfl⟩
 have HB:Hid (Below w.heap.size w wa):=bW
 rw[hx]at kp kr s2
 have p0:wa.cell? ⟨x,0,none⟩=some (.int .i64 m.k):=ae wa (x) 0 _ _ _ kp
 have p1:wa.cell? ⟨x,1,none⟩=some (.int .i64 m.c):=ae wa (x) 1 _ _ _ kp
 have p2:wa.cell? ⟨x,2,none⟩=some (.int .i64 m.s):=ae wa (x) 2 _ _ _ kp
 have p3:wa.cell? ⟨x,3,none⟩=some (.int .i64 m.f):=ae wa (x) 3 _ _ _ kp
 have p4:wa.cell? ⟨x,4,none⟩=some (.int .i64 m.a):=ae wa (x) 4 _ _ _ kp
 have p5:wa.cell? ⟨x,5,none⟩=some (.int .u32 (m.w:Nat)):=ae wa (x) 5 _ _ _ kp
 have p6:wa.cell? ⟨x,6,none⟩=some (.int .i64 m.n):=ae wa (x) 6 _ _ _ kp
 have p7:wa.cell? ⟨x,7,none⟩=some (.bool m.h):=ae wa (x) 7 _ _ _ kp
 have p8:wa.cell? ⟨x,8,none⟩=some (.slice d m.l c):=ae wa (x) 8 _ _ _ kp
 have hRc:=hRf wa bW
 clear hRf
 have HR:Hid (_):=kr
 have H2:Hid (wa.heap.size=x+2):=s2
 have HE:Hid (_=wa):=hwa
 have HS:Hid (w.heap.size=x):=hx
 clear s1 s2 bW kp kr hwa hx
 go_enter func11,ntmps11
 go_upto_region 1 with fail
 rw[HE.out,HS.out]
 go_wp2_with fail
 refine hRc.mono ?_
 rintro r w1 ⟨rfl,H1⟩
 have b1:=H1.out
 clear hRc H1
 have kr:=(b1.block (x+1) (by rw[H2.out];omega)).trans HR.out
 have hth:w1.there (x+1) 0 29:=bI kr rfl
 have hrg:=World.rangeAt_setCells_same w1 (x+1) 0 dw.toList hth
 have o1:=cE w1 (x+1) 0 dw.toList
 have hl:(loadVar 45 ⟨x+1,0,none⟩).run prog (w1.setCells (x+1) 0 dw.toList)=.ok (.agg dw) (w1.setCells (x+1) 0 dw.toList):=run_loadVar_mid (P:=prog) _ (x+1) 0 45 dw.toList _ hrg underlying45 rfl (by kernel_rfl)
 have HO:Hid (_):=And.intro o1 b1
 have HL:Hid (_):=hl
 have HT:Hid (_):=hth
 clear kr hrg o1 b1 hth hl
 go_upto_region 3 with fail
 apply wp_region_lit
 refine gL rfl (.agg dw) (by go_simp) ?_
 refine gL rfl (.int .i64 E) (by go_simp) ?_
 refine wpList_store_mid rfl 45 (.tmp 4) (.tmp 15) rfl (x+1) 0 dw (by kernel_rfl) (by kernel_rfl) HT.out (by kernel_rfl) (by kernel_rfl) ?_
 have HL2:=HL.out
 obtain⟨wz,hwz⟩:∃ z,w1.setCells (x+1) 0 dw.toList=z:=⟨_,rfl⟩
 rw[hwz]at HL2 ⊢
 have HO2:=HO.out
 rw[hwz]at HO2
 have HO3:Hid (_):=HO2
 clear HO HO2 HL hwz
 refine gL rfl (.int .i64 E) (by go_simp) ?_
 go_wp2_with fail
 refine bodyPost_ret (v:=.tuple #[.agg dw,.int .i64 E]) ((fJ (t:=4) (u:=5) (ty:=45) rfl _ prog wz (by kernel_rfl) HL2).trans (by kernel_rfl)) rfl ?_
 refine⟨rfl,?_⟩
 have hb:=HB.out
 have hb1:=HO3.out.2
 exact HO3.out.1.below (hb.trans (hb1.mono hb.size)) (by simp[HS.out]) (Nat.le_trans hb.size hb1.size)
structure Ws.Law (S:Ws) (m:Mv) (k:Nat):Prop where
 k1:1≤m.k
 k8:m.k≤8
 c:m.c=((k:Nat):Int)
 kn:k<S.n
 sd:m.k≠2→m.k≠8→m.s=1∨m.s=2
 fr:m.k=3∨m.k=4→0≤m.f∧m.f < ((S.bg.length:Nat):Int)
 gb:m.k=4→cF ((S.bg.getD m.f.toNat cZ).1:Nat) m.a m.w=0
 n5:m.k=5→0≤m.n∧m.n≤1048576
 n7:m.k=7→0≤m.n
theorem Ws.Law.of {S:Ws} {m:Mv} (h:S.bad m=0):S.up.Law m m.c.toNat:=by
 have o:=Ws.Ok.of h
 have h5:m.k=5→0≤m.n∧m.n≤1048576:=fun q=>by
  have hh:=h
  unfold Ws.bad at hh
  rw[if_neg (by have:=o.mv;omega),if_neg (by have:=o.k1;have:=o.k8;omega),if_neg (by have:=o.c0;have:=o.cn;omega),if_neg (fun z=>(o.sd z.1).elim z.2.1 z.2.2),if_neg (by omega),if_neg (by omega),if_pos q]at hh
  by_cases z:m.n<0∨1048576<m.n
  ·rw[if_pos z]at hh
   omega
  ·omega
 have h7:m.k=7→0≤m.n:=fun q=>by
  have hh:=h
  unfold Ws.bad at hh
  rw[if_neg (by have:=o.mv;omega),if_neg (by have:=o.k1;have:=o.k8;omega),if_neg (by have:=o.c0;have:=o.cn;omega),if_neg (fun z=>(o.sd z.1).elim z.2.1 z.2.2),if_neg (by omega),if_neg (by omega),if_neg (by omega),if_pos q]at hh
  by_cases z:m.n<0∨m.s=1∧0<m.n
  ·rw[if_pos z]at hh
   omega
  ·omega
 exact⟨o.k1,o.k8,by have:=o.c0;omega,by have:=o.c0;have:=o.cn;show m.c.toNat<S.n;omega,fun a b=>o.sd (by unfold eZ;simp[a,b]),o.fr,o.gb,h5,h7⟩
structure Ws.Fit (S:Ws) (m:Mv) (k:Nat):Prop where
 fs:S.fs.length≤80000
 bg:S.bg.length<4096
 hms:(S.hs k).ms<4
 hst:1 ≤ (S.hs k).st∧(S.hs k).st≤5
 hsn:(S.hs k).st=4→(S.hs k).sn+1<4294967296
 hL:(S.hs k).L.length<700000
 hb:∀ j,j < (aL (S.PH k) (S.hs k)).1→(aL (S.PH k) (S.hs k)).2 j<256
 hf:(aL (S.PH k) (S.hs k)).1≤27
 dsn:(S.ds k).st=4→(S.ds k).sn+1<4294967296
 dod:(S.ds k).od<4
 dL:(S.ds k).L.length<800000
 dt:(S.ds k).ms.t<9223372036854774000
 db:∀ j,j < (ay (S.PD k) S.mx 16 (S.ds k) (S.fr m).1 (S.fr m).2).f.1→(ay (S.PD k) S.mx 16 (S.ds k) (S.fr m).1 (S.fr m).2).f.2 j<256
 df:(ay (S.PD k) S.mx 16 (S.ds k) (S.fr m).1 (S.fr m).2).f.1≤27
theorem yO {e:Nat→Nat} {w0 w:World} {t:Nat→Thing} {L:Pw} {S:Ws} (k i:Nat) (m:Mv) (d:Option Addr) (c:Nat) (h:PWn e w0 t L w S) (F:Fre e t i) (ok:m.Ok) (l:S.Law m k) (f:S.Fit m k) (j:Nat) (hj:j<2*i+1) (hq:∀ q,j≠e q) (hr:t j=fi d m.l c m.b):Calls prog 28 #[ac L.x 0,.agg (aj m (k:Nat) d c)] w fun r w'=>r=.returned (.tuple #[.int .i64 (S.act m).e,.int .i64 (S.act m).i])∧Hid (PWn e w0 t L w' (S.act m).S):=by
 have hk:m.c.toNat=k:=by have:=l.c;omega
 have k1:=l.k1
 have k8:=l.k8
 unfold Ws.act
 rw[hk]
 dsimp only
 by_cases q1:m.k=1
 ·rw[if_pos q1]
  by_cases s1:m.s=1
  ·rw[if_pos s1]
   exact aaU k i m d c h F l.kn s1 q1 j hj hq hr
  ·rw[if_neg s1]
   exact aaT k i m d c h F l.kn ((l.sd (by omega) (by omega)).resolve_left s1) q1 j hj hq hr
 rw[if_neg q1]
 by_cases q2:m.k=2
 ·rw[if_pos q2]
  exact zV k i m d c h F q2 l.kn (by have:=f.fs;omega) f.bg f.hms f.hst f.hsn f.hL f.hb f.hf
 rw[if_neg q2]
 by_cases q3:m.k=3∨m.k=4
 ·rw[if_pos q3]
  have:=zX k i m d c h F q3 l.c l.kn f.fs f.bg (l.fr q3).1 (l.fr q3).2 ok.w l.gb (by have:=f.hL;omega) f.dsn f.dod f.dL f.dt f.db f.df
  unfold Ws.dlv at this
  exact this
 rw[if_neg q3]
 by_cases q5:m.k=5
 ·rw[if_pos q5]
  by_cases s1:m.s=1
  ·rw[if_pos s1]
   exact aaW k i m d c h F l.kn s1 q5 (l.n5 q5) (by have:=f.fs;omega) (by have:=f.hL;omega)
  ·rw[if_neg s1]
   exact aaV k i m d c h F l.kn ((l.sd (by omega) (by omega)).resolve_left s1) q5 (l.n5 q5) (by have:=f.fs;omega) f.dL
 rw[if_neg q5]
 by_cases q6:m.k=6
 ·rw[if_pos q6]
  by_cases s1:m.s=1
  ·rw[if_pos s1]
   exact aaY k i m d c h F l.kn s1 q6 (by have:=f.fs;omega)
  ·rw[if_neg s1]
   exact aaX k i m d c h F l.kn ((l.sd (by omega) (by omega)).resolve_left s1) q6 (by have:=f.fs;omega)
 rw[if_neg q6]
 by_cases q7:m.k=7
 ·rw[if_pos q7]
  by_cases s1:m.s=1
  ·rw[if_pos s1]
   exact aa0 k i m d c h F l.kn s1 q7 l.c (by have:=f.fs;omega)
  ·rw[if_neg s1]
   exact aaZ k i m d c h F l.kn ((l.sd (by omega) (by omega)).resolve_left s1) q7 l.c (by have:=f.fs;omega) ⟨l.n7 q7,ok.n.2⟩ f.dt
 rw[if_neg q7]
 exact ab2 k i m d c h F l.kn (by omega) ok.n.2
theorem zL (S:Ws) (m:Mv):(S.act m).S.n=S.n:=by
 unfold Ws.act
 dsimp only
 split
 ·split <;> rfl
 ·split
  ·exact (aV _ _ _ _).1
  ·split
   ·split
    ·unfold Ws.toH
     dsimp only
     split <;> rfl
    ·unfold Ws.toD
     dsimp only
     refine (aV _ _ _ _).1.trans ?_
     unfold Ws.toD2
     split <;> rfl
   ·split
    ·split <;> rfl
    ·split
     ·split <;> rfl
     ·split
      ·split <;> rfl
      ·rfl
theorem wE (e:Nat→Nat) (w0 w:World) (t:Nat→Thing) (L:Pw) (i:Nat) (m:Mv) (d:Option Addr) (c:Nat) (h:PW e w0 w t L) (F:Fre e t i) (ok:m.Ok) (hn:0<L.S.n) (R:Row8 w d m.l c m.b) (hdx:∀ y,d=some y→0<m.l→y.block≠L.x) (hl:m.l≤140737488351232) (hfit:L.S.bad m=0→L.S.up.Fit m m.c.toNat) (hfs:L.S.bad m=0→(L.S.up.act m).S.fs.length≤90000) :
  Calls prog 11 #[ac L.x 0,.agg (aj m m.c d c)] w fun r w'=>
   (L.S.bad m≠0∧r=.returned (.tuple #[.agg dw,.int .i64 (L.S.bad m)])∧Hid (PW e w0 w' t L∧Below w.heap.size w w')) ∨
   (L.S.bad m=0∧∃ a' c' ah ch ad cd,r=.returned (.tuple #[.agg #[Value.int .i64 m.k,Value.int .i64 m.c,Value.int .i64 m.s,Value.int .i64 m.f,Value.int .i64 m.a,Value.int .u32 (m.w:Nat),Value.int .i64 m.n,Value.bool m.h,Value.slice a' m.l c',Value.int .i64 (L.S.play m).e,Value.int .i64 (L.S.play m).i,Value.int .i64 (((L.S.play m).S.hs m.c.toNat).st:Nat),Value.int .u32 (((L.S.play m).S.hs m.c.toNat).ss:Nat),Value.int .u32 (((L.S.play m).S.hs m.c.toNat).nm:Nat),Value.int .u32 (((L.S.play m).S.hs m.c.toNat).sn:Nat),Value.int .i64 (((L.S.play m).S.hs m.c.toNat).dc:Nat),Value.int .i64 ((L.S.play m).S.hs m.c.toNat).v.lat,Value.bool (au ((L.S.play m).S.hs m.c.toNat).v),Value.bool (aE ((L.S.play m).S.hs m.c.toNat).v),Value.slice ah ((L.S.play m).S.PH m.c.toNat).i ch,Value.int .i64 (((L.S.play m).S.ds m.c.toNat).st:Nat),Value.int .u32 (((L.S.play m).S.ds m.c.toNat).ss:Nat),Value.int .u32 (((L.S.play m).S.ds m.c.toNat).nm:Nat),Value.int .u32 (((L.S.play m).S.ds m.c.toNat).sn:Nat),Value.int .i64 (((L.S.play m).S.ds m.c.toNat).dc:Nat),Value.int .i64 ((L.S.play m).S.ds m.c.toNat).v.lat,Value.bool (au ((L.S.play m).S.ds m.c.toNat).v),Value.bool (aE ((L.S.play m).S.ds m.c.toNat).v),Value.slice ad ((L.S.play m).S.PD m.c.toNat).o cd],.int .i64 0])∧Hid (PWn e w0 (zh t i m (L.S.play m).S m.c.toNat a' c' ah ch ad cd) L w' (L.S.play m).S)):=by
 by_cases hb:L.S.bad m=0
 ·have l:=Ws.Law.of hb
  have ho:=Ws.Ok.of hb
  obtain⟨k,hk⟩:∃ k,m.c.toNat=k:=⟨_,rfl⟩
  rw[hk]at l
  have fit:=hfit hb
  rw[hk]at fit
  have hc:m.c=((k:Nat):Int):=l.c
  have hp:L.S.play m=⟨(L.S.up.act m).e,(L.S.up.act m).i,(L.S.up.act m).S.note [oH (L.S.up.act m).S k,oD (L.S.up.act m).S k]⟩:=by
   unfold Ws.play
   rw[if_neg (fun q=>q hb),hk]
   rfl
  have hRf:=sO e w0 w t L m d c h ok hn
  rw[hb,hc]at hRf
  have:=wD e w0 w t L i k m d c (L.S.up.act m).e (L.S.up.act m).i (L.S.up.act m).S h F l.kn ho.mv R hdx hl (zL _ _) (hfs hb) hRf
   (fun a' c' w1 t1 q F1 hr=>yO k (i+2) m a' c' q F1 ok l fit (2 * (i+1)+1) (by omega) (F (i+1) (by omega)).1 hr)
  rw[hp,hk,hc]
  refine this.mono ?_
  rintro r w' ⟨a',c',ah,ch,ad,cd,rfl,H⟩
  exact .inr ⟨hb,a',c',ah,ch,ad,cd,rfl,H⟩
 ·refine (abq L.x m d c (L.S.bad m) (by simpa using hb) w (sO e w0 w t L m d c h ok hn)).mono ?_
  rintro r w' ⟨rfl,b⟩
  exact .inl ⟨hb,rfl,h.below b,b⟩
structure Ws.Kn (S:Ws):Prop where
 ph:∀ k,k<S.n→Pok (S.PH k)
 pd:∀ k,k<S.n→Pok (S.PD k)
 ha:∀ k,k<S.n→∀ i,i < (S.PH k).o→(S.hs k).ap i<256
 da:∀ k,k<S.n→∀ i,i < (S.PD k).i→(S.ds k).ap i<256
 mo:∀ k,k<S.n→Mo S.mx 16 (S.ds k)
 fb:∀ f,f ∈ S.bg→f.1≤27∧∀ j,j<f.1→f.2 j<256
theorem PWn.kn {e:Nat→Nat} {w0 w:World} {t:Nat→Thing} {L:Pw} {S:Ws} (h:PWn e w0 t L w S):S.Kn:=by
 obtain⟨t1,L1,h1,hs,hx,he⟩:=h
 subst hs
 refine⟨fun k hk=>?_,fun k hk=>?_,fun k hk=>?_,fun k hk=>?_,fun k hk=>?_,(h1.2.bg h1.1).1.fl.small⟩
 ·obtain⟨B,y⟩:=h1.2.hv h1.1 hk
  exact y.pok
 ·obtain⟨B,y⟩:=h1.2.dv h1.1 hk
  exact y.pok
 ·obtain⟨B,y⟩:=h1.2.hv h1.1 hk
  exact y.apb
 ·obtain⟨B,y⟩:=h1.2.dv h1.1 hk
  exact y.apb
 ·exact Mo.of (h1.2.dv h1.1 hk)
structure Ws.In (S:Ws):Prop where
 ih:∀ k,k<S.n→Ih (S.PH k) (S.hs k)
 iv:∀ k,k<S.n→Iv (S.PD k) (S.ds k)
 hl:∀ k,k<S.n→(S.hs k).L.length≤3*S.mv
 dl:∀ k,k<S.n→(S.ds k).L.length≤3*S.mv∧(S.ds k).ms.t≤6*S.mv
 bg:S.bg.length≤S.mv
 fs:S.fs.length≤8*S.mv
theorem frB {S:Ws} (K:S.Kn) {m:Mv} (h:0≤m.f∧m.f < ((S.bg.length:Nat):Int)):∀ j,j < (S.fr m).1→(S.fr m).2 j<256:=by
 have hlt:m.f.toNat<S.bg.length:=by omega
 obtain⟨f,hf⟩:∃ y,S.bg.getD m.f.toNat cZ=y:=⟨_,rfl⟩
 have hg:S.bg[m.f.toNat]?=some f:=by
  rw[← hf,List.getD_eq_getElem?_getD,List.getElem?_eq_getElem hlt]
  rfl
 have hb:=K.fb f (List.mem_of_getElem? hg)
 unfold Ws.fr
 rw[hf]
 split
 ·intro j hj
  exact aaj (n:=f.1) hb.2 (fun i _=>re _ _ i) j hj
 ·exact hb.2
theorem Ws.In.fit {S:Ws} (I:S.In) (K:S.Kn) {m:Mv} (hv:S.mv<4096) {k:Nat} (hk:k<S.n):S.up.Fit m k:=by
 have h1:=I.ih k hk
 have h2:=I.iv k hk
 have h3:=I.hl k hk
 have h4:=I.dl k hk
 have h5:=I.bg
 have h6:=I.fs
 exact⟨by show S.fs.length≤80000;omega,by show S.bg.length<4096;omega,h1.ms,⟨h1.st1,h1.st5⟩,h1.sentY (K.ph k hk),by show (S.hs k).L.length<700000;omega,pq _ _ (K.ha k hk),pp _ _,h2.sent (K.pd k hk),h2.od,by show (S.ds k).L.length<800000;omega,by show (S.ds k).ms.t<9223372036854774000;omega,oU _ _ _ _ (K.da k hk) _ _,nC _ _ _ _ _ _⟩
structure Stp (S T:Ws) (k b c:Nat):Prop where
 n:T.n=S.n
 PH:T.PH=S.PH
 PD:T.PD=S.PD
 mx:T.mx=S.mx
 mv:T.mv=S.mv
 hs:∀ j,j≠k→T.hs j=S.hs j
 ds:∀ j,j≠k→T.ds j=S.ds j
 ih:Ih (S.PH k) (T.hs k)
 iv:Iv (S.PD k) (T.ds k)
 hl:(T.hs k).L.length ≤ (S.hs k).L.length+3
 dl:(T.ds k).L.length ≤ (S.ds k).L.length+3∧(T.ds k).ms.t ≤ (S.ds k).ms.t+6
 bg:T.bg.length≤S.bg.length+b
 fs:T.fs.length≤S.fs.length+c
section
variable {S T:Ws} {k b c:Nat}
theorem uq (ih:Ih (S.PH k) (S.hs k)) (iv:Iv (S.PD k) (S.ds k)) {s:Sh} (h:Ih (S.PH k) s) (hl:s.L.length ≤ (S.hs k).L.length+3):Stp S (S.setH k s) k 0 0:=
 ⟨rfl,rfl,rfl,rfl,rfl,fun j hj=>cG _ _ hj,fun _ _=>rfl,by show Ih (S.PH k) (aG S.hs k s k);rw[ai];exact h,iv,by show (aG S.hs k s k).L.length≤_;rw[ai];exact hl,⟨by show (S.ds k).L.length≤_;omega,by show (S.ds k).ms.t≤_;omega⟩,Nat.le_refl _,Nat.le_refl _⟩
theorem uo (ih:Ih (S.PH k) (S.hs k)) (iv:Iv (S.PD k) (S.ds k)) {s:Sd} (h:Iv (S.PD k) s) (g:Gw (S.ds k) s):Stp S (S.setD k s) k 0 0:=
 ⟨rfl,rfl,rfl,rfl,rfl,fun _ _=>rfl,fun j hj=>cG _ _ hj,ih,by show Iv (S.PD k) (aG S.ds k s k);rw[ai];exact h,by show (S.hs k).L.length≤_;omega,by show (aG S.ds k s k).L.length≤_∧(aG S.ds k s k).ms.t≤_;rw[ai];exact g,Nat.le_refl _,Nat.le_refl _⟩
theorem Stp.note (h:Stp S T k b c) (l:List Fa):Stp S (T.note l) k b (c+l.length):=
 ⟨h.n,h.PH,h.PD,h.mx,h.mv,h.hs,h.ds,h.ih,h.iv,h.hl,h.dl,h.bg,by show (T.fs ++ l).length≤_;rw[List.length_append];have:=h.fs;omega⟩
theorem Stp.more (h:Stp S T k b c) {b' c':Nat} (hb:b≤b') (hc:c≤c'):Stp S T k b' c':=
 ⟨h.n,h.PH,h.PD,h.mx,h.mv,h.hs,h.ds,h.ih,h.iv,h.hl,h.dl,by have:=h.bg;omega,by have:=h.fs;omega⟩
theorem Stp.put (h:Stp S T k b c) (k' s:Nat) (f:Fm):Stp S (T.put k' s f) k (b+1) (c+1):=by
 obtain⟨p1,p2,p3,p4,p5,p6,p7,p8⟩:=aV T k' s f
 refine⟨p1.trans h.n,p5.trans h.PH,p4.trans h.PD,p6.trans h.mx,p7.trans h.mv,fun j hj=>by rw[p3];exact h.hs j hj,fun j hj=>by rw[p2];exact h.ds j hj,by rw[p3];exact h.ih,by rw[p2];exact h.iv,by rw[p3];exact h.hl,by rw[p2];exact h.dl,?_,by have:=h.fs;omega⟩
 have:=h.bg
 unfold Ws.put
 split
 ·omega
 ·show (T.bg ++ [f]).length≤_
  rw[List.length_append]
  simp
  omega
theorem nG {α:Type} {p:Prop} [Decidable p] (x:α):(if p then [x] else []).length≤1:=by split <;> simp
theorem oc (K:S.Kn) (ih:Ih (S.PH k) (S.hs k)) (iv:Iv (S.PD k) (S.ds k)) {m:Mv} (l:S.Law m k):Stp S (S.act m).S k 1 5:=by
 have hk:m.c.toNat=k:=by have:=l.c;omega
 have kn:=l.kn
 have M:=K.mo k kn
 have pH:=K.ph k kn
 have pD:=K.pd k kn
 unfold Ws.act
 rw[hk]
 dsimp only
 split
 ·split
  ·exact (uq ih iv (ih.write _ _ _) (by have:=pF (S.PH k) (S.hs k) m.l m.b m.h;omega)).more (by omega) (by omega)
  ·exact (uo ih iv (iv.write _ _ _) (vu _ _ _)).more (by omega) (by omega)
 ·split
  ·exact ((uq ih iv (ih.send pH) (by have:=tO (S.PH k) (S.hs k);omega)).put k 1 _).more (by omega) (by omega)
  ·split
   ·next q3=>
    have fb:=frB K (l.fr q3)
    split
    ·unfold Ws.toH
     dsimp only
     have h1:=uq ih iv (ih.recv pH _ _ fb) (by have:=rp (S.PH k) (S.hs k) (S.fr m).1 (S.fr m).2;omega)
     split
     ·exact (h1.note _).more (by omega) (by have:=fV k 1 (S.fr m);omega)
     ·exact h1.more (by omega) (by omega)
    ·unfold Ws.toD
     dsimp only
     have h1:Stp S (S.toD1 k (S.fr m)) k 0 2:=by
      unfold Ws.toD1
      exact ((uo ih iv (iv.recv pD M _ _) (yv M _ _)).note _).more (by omega) (by have:=kN k (S.ds k) (ay (S.PD k) S.mx 16 (S.ds k) (S.fr m).1 (S.fr m).2).s;omega)
     have h2:Stp S (S.toD2 k (S.fr m)) k 0 4:=by
      unfold Ws.toD2
      split
      ·exact (h1.note _).more (by omega) (by have:=fV k 2 (S.fr m);omega)
      ·exact h1.more (by omega) (by omega)
     exact (h2.put k 2 _).more (by omega) (by omega)
   ·split
    ·split
     ·exact ((uq ih iv (ih.tick _) (by have:=ru (S.PH k) (S.hs k) m.n;omega)).note _).more (by omega) (by have:=nG (p:=eY m.n=0) (⟨5,k,1,0,m.n.toNat,false,0,cZ⟩:Fa);omega)
     ·exact ((uo ih iv (iv.tick _) (yw _)).note _).more (by omega) (by have:=nG (p:=eU (S.ds k) m.n=0) (⟨5,k,2,0,m.n.toNat,false,0,cZ⟩:Fa);omega)
    ·split
     ·split
      ·exact ((uq ih iv ih.ack (Nat.le_add_right (S.hs k).L.length 3)).note _).more (by omega) (by have:=nG (p:=gy (S.hs k)=0) (dE 6 k 1);omega)
      ·exact ((uo ih iv iv.ack aaF).note _).more (by omega) (by have:=nG (p:=gr (S.ds k)=0) (dE 6 k 2);omega)
     ·split
      ·split
       ·have h1:=(uq ih iv (Ih.life (S.PH k) (S.hs k)) (Nat.le_add_right (S.hs k).L.length 3)).note [dE 7 k 1]
        exact (show Stp S ((S.note [dE 7 k 1]).setH k (eW (S.hs k))) k 0 (0+1) from h1).more (by omega) (by omega)
       ·have h1:=(uo ih iv (iv.reset (mx:=S.mx) (n:=16) m.n) (vt M m.n)).note [dE 7 k 2]
        exact (show Stp S ((S.note [dE 7 k 2]).setD k (cL S.mx 16 (S.ds k) m.n)) k 0 (0+1) from h1).more (by omega) (by omega)
      ·exact (uo ih iv (iv.arm _) (aaG _)).more (by omega) (by omega)
end
theorem Ws.In.play {S:Ws} (I:S.In) (K:S.Kn) {m:Mv}:(S.play m).S.In:=by
 by_cases hb:S.bad m=0
 ·have l:=Ws.Law.of hb
  obtain⟨k,hk⟩:∃ k,m.c.toNat=k:=⟨_,rfl⟩
  rw[hk]at l
  have K':S.up.Kn:=⟨K.ph,K.pd,K.ha,K.da,K.mo,K.fb⟩
  have h:=oc K' (I.ih k l.kn) (I.iv k l.kn) l
  have h2:=h.note [oH (S.up.act m).S k,oD (S.up.act m).S k]
  have hp:(S.play m).S=(S.up.act m).S.note [oH (S.up.act m).S k,oD (S.up.act m).S k]:=by
   unfold Ws.play
   rw[if_neg (fun q=>q hb),hk]
   rfl
  rw[hp]
  obtain⟨T,hT⟩:∃ T,(S.up.act m).S.note [oH (S.up.act m).S k,oD (S.up.act m).S k]=T:=⟨_,rfl⟩
  rw[hT]at h2 ⊢
  have e1:T.mv=S.mv+1:=h2.mv
  have e2:T.n=S.n:=h2.n
  refine⟨fun j hj=>?_,fun j hj=>?_,fun j hj=>?_,fun j hj=>?_,?_,?_⟩
  ·rw[show T.PH j=S.PH j from congrFun h2.PH j]
   by_cases z:j=k
   ·subst z;exact h2.ih
   ·rw[show T.hs j=S.hs j from h2.hs j z];exact I.ih j (by omega)
  ·rw[show T.PD j=S.PD j from congrFun h2.PD j]
   by_cases z:j=k
   ·subst z;exact h2.iv
   ·rw[show T.ds j=S.ds j from h2.ds j z];exact I.iv j (by omega)
  ·rw[e1]
   by_cases z:j=k
   ·subst z
    have:=I.hl j (by omega)
    have:(T.hs j).L.length ≤ (S.hs j).L.length+3:=h2.hl
    omega
   ·rw[show T.hs j=S.hs j from h2.hs j z]
    have:=I.hl j (by omega)
    omega
  ·rw[e1]
   by_cases z:j=k
   ·subst z
    have:=I.dl j (by omega)
    have q:(T.ds j).L.length ≤ (S.ds j).L.length+3∧(T.ds j).ms.t ≤ (S.ds j).ms.t+6:=h2.dl
    omega
   ·rw[show T.ds j=S.ds j from h2.ds j z]
    have:=I.dl j (by omega)
    omega
  ·rw[e1]
   have:=I.bg
   have q:T.bg.length≤S.bg.length+1:=h2.bg
   omega
  ·rw[e1]
   have:=I.fs
   have q:T.fs.length≤S.fs.length + (5+2):=h2.fs
   omega
 ·have hp:(S.play m).S=S:=by
   unfold Ws.play
   rw[if_pos hb]
  rw[hp]
  exact I
theorem Ws.In.room {S:Ws} (I:S.In) (K:S.Kn) {m:Mv} (hb:S.bad m=0):(S.up.act m).S.fs.length≤90000:=by
 have l:=Ws.Law.of hb
 have o:=Ws.Ok.of hb
 have K':S.up.Kn:=⟨K.ph,K.pd,K.ha,K.da,K.mo,K.fb⟩
 have h:=(oc K' (I.ih _ l.kn) (I.iv _ l.kn) l).fs
 have q:(S.up.act m).S.fs.length≤S.fs.length+5:=h
 have:=I.fs
 have:=o.mv
 omega
theorem yY (e:Nat→Nat) (w0 w:World) (t:Nat→Thing) (L:Pw) (i:Nat) (m:Mv) (d:Option Addr) (c:Nat) (h:PW e w0 w t L) (F:Fre e t i) (I:L.S.In) (ok:m.Ok) (hn:0<L.S.n) (R:Row8 w d m.l c m.b) (hdx:∀ y,d=some y→0<m.l→y.block≠L.x) (hl:m.l≤140737488351232) :
  Calls prog 11 #[ac L.x 0,.agg (aj m m.c d c)] w fun r w'=>
   (L.S.bad m≠0∧r=.returned (.tuple #[.agg dw,.int .i64 (L.S.bad m)])∧Hid (PW e w0 w' t L∧Below w.heap.size w w')) ∨
   (L.S.bad m=0∧∃ a' c' ah ch ad cd,r=.returned (.tuple #[.agg #[Value.int .i64 m.k,Value.int .i64 m.c,Value.int .i64 m.s,Value.int .i64 m.f,Value.int .i64 m.a,Value.int .u32 (m.w:Nat),Value.int .i64 m.n,Value.bool m.h,Value.slice a' m.l c',Value.int .i64 (L.S.play m).e,Value.int .i64 (L.S.play m).i,Value.int .i64 (((L.S.play m).S.hs m.c.toNat).st:Nat),Value.int .u32 (((L.S.play m).S.hs m.c.toNat).ss:Nat),Value.int .u32 (((L.S.play m).S.hs m.c.toNat).nm:Nat),Value.int .u32 (((L.S.play m).S.hs m.c.toNat).sn:Nat),Value.int .i64 (((L.S.play m).S.hs m.c.toNat).dc:Nat),Value.int .i64 ((L.S.play m).S.hs m.c.toNat).v.lat,Value.bool (au ((L.S.play m).S.hs m.c.toNat).v),Value.bool (aE ((L.S.play m).S.hs m.c.toNat).v),Value.slice ah ((L.S.play m).S.PH m.c.toNat).i ch,Value.int .i64 (((L.S.play m).S.ds m.c.toNat).st:Nat),Value.int .u32 (((L.S.play m).S.ds m.c.toNat).ss:Nat),Value.int .u32 (((L.S.play m).S.ds m.c.toNat).nm:Nat),Value.int .u32 (((L.S.play m).S.ds m.c.toNat).sn:Nat),Value.int .i64 (((L.S.play m).S.ds m.c.toNat).dc:Nat),Value.int .i64 ((L.S.play m).S.ds m.c.toNat).v.lat,Value.bool (au ((L.S.play m).S.ds m.c.toNat).v),Value.bool (aE ((L.S.play m).S.ds m.c.toNat).v),Value.slice ad ((L.S.play m).S.PD m.c.toNat).o cd],.int .i64 0])∧Hid (PWn e w0 (zh t i m (L.S.play m).S m.c.toNat a' c' ah ch ad cd) L w' (L.S.play m).S)):=
 wE e w0 w t L i m d c h F ok hn R hdx hl (fun hb=>I.fit h.n.kn (Ws.Ok.of hb).mv (Ws.Law.of hb).kn) (fun hb=>I.room h.n.kn hb)
end Go.Proofs.YtenilkloffnjlaaGreat
namespace Go.Proofs.YtenilkloffnjlaaGreat
open Tryz
open Go.RowKit Go.Maps
set_option linter.unusedVariables false
theorem aa4 (S:Ws) (m:Mv):(S.play m).S.n=S.n:=by
 unfold Ws.play
 split
 ·rfl
 ·exact zL _ _
def Ws.actDF (S:Ws) (m:Mv):Sd:=if m.k=1 then (if m.s=1 then S.ds m.c.toNat else em (S.PD m.c.toNat) (S.ds m.c.toNat) m.l m.b m.h) else if m.k=2 then S.ds m.c.toNat else if m.k=3∨m.k=4 then (if m.s=1 then S.ds m.c.toNat else (ay (S.PD m.c.toNat) S.mx 16 (S.ds m.c.toNat) (S.fr m).1 (S.fr m).2).s) else if m.k=5 then (if m.s=1 then S.ds m.c.toNat else eV (S.PD m.c.toNat) (S.ds m.c.toNat) m.n) else if m.k=6 then (if m.s=1 then S.ds m.c.toNat else gt (S.ds m.c.toNat)) else if m.k=7 then (if m.s=1 then S.ds m.c.toNat else cL S.mx 16 (S.ds m.c.toNat) m.n) else { S.ds m.c.toNat with ms:=lK (S.ds m.c.toNat).ms m.n }
def Ws.actHF (S:Ws) (m:Mv):Sh:=if m.k=1 then (if m.s=1 then di (S.PH m.c.toNat) (S.hs m.c.toNat) m.l m.b m.h else S.hs m.c.toNat) else if m.k=2 then aM (S.PH m.c.toNat) (S.hs m.c.toNat) else if m.k=3∨m.k=4 then (if m.s=1 then bu (S.PH m.c.toNat) (S.hs m.c.toNat) (S.fr m).1 (S.fr m).2 else S.hs m.c.toNat) else if m.k=5 then (if m.s=1 then dP (S.PH m.c.toNat) (S.hs m.c.toNat) m.n else S.hs m.c.toNat) else if m.k=6 then (if m.s=1 then jL (S.hs m.c.toNat) else S.hs m.c.toNat) else if m.k=7 then (if m.s=1 then eW (S.hs m.c.toNat) else S.hs m.c.toNat) else S.hs m.c.toNat
def Ws.actEF (S:Ws) (m:Mv):Int:=if m.k=1 then (if m.s=1 then gX (S.PH m.c.toNat) m.l else gT (S.PD m.c.toNat) (S.ds m.c.toNat) m.l) else if m.k=2 then jq (S.hs m.c.toNat) else if m.k=3∨m.k=4 then (if m.s=1 then cP (S.PH m.c.toNat) (S.hs m.c.toNat) (S.fr m).1 (S.fr m).2 else (ay (S.PD m.c.toNat) S.mx 16 (S.ds m.c.toNat) (S.fr m).1 (S.fr m).2).e) else if m.k=5 then (if m.s=1 then eY m.n else eU (S.ds m.c.toNat) m.n) else if m.k=6 then (if m.s=1 then gy (S.hs m.c.toNat) else gr (S.ds m.c.toNat)) else if m.k=7 then (if m.s=1 then 0 else fS S.mx 16 (S.ds m.c.toNat) m.n) else arE m.n
theorem dB (S:Ws) (k:Nat) (f:Fm):(S.toD2 k f).ds=aG S.ds k (ay (S.PD k) S.mx 16 (S.ds k) f.1 f.2).s:=by
 unfold Ws.toD2
 split <;> rfl
theorem dC (S:Ws) (k:Nat) (f:Fm):(S.toD2 k f).hs=S.hs:=by
 unfold Ws.toD2
 split <;> rfl
theorem acC (S:Ws) (m:Mv):(S.act m).S.ds m.c.toNat=S.actDF m:=by
 unfold Ws.act Ws.actDF
 dsimp only
 by_cases h1:m.k=1
 ·rw[if_pos h1,if_pos h1]
  by_cases hs:m.s=1
  ·rw[if_pos hs,if_pos hs]
   first | rfl | exact ai _ _ _ | (unfold Ws.snd;dsimp only;rw[(aV _ _ _ _).2.1];rfl) | (unfold Ws.toH;dsimp only;split <;> rfl) | (unfold Ws.toD;dsimp only;rw[(aV _ _ _ _).2.1,dB];exact ai _ _ _)
  ·rw[if_neg hs,if_neg hs]
   first | rfl | exact ai _ _ _ | (unfold Ws.snd;dsimp only;rw[(aV _ _ _ _).2.1];rfl) | (unfold Ws.toH;dsimp only;split <;> rfl) | (unfold Ws.toD;dsimp only;rw[(aV _ _ _ _).2.1,dB];exact ai _ _ _)
 rw[if_neg h1,if_neg h1]
 by_cases h2:m.k=2
 ·rw[if_pos h2,if_pos h2]
  first | rfl | exact ai _ _ _ | (unfold Ws.snd;dsimp only;rw[(aV _ _ _ _).2.1];rfl) | (unfold Ws.toH;dsimp only;split <;> rfl) | (unfold Ws.toD;dsimp only;rw[(aV _ _ _ _).2.1,dB];exact ai _ _ _)
 rw[if_neg h2,if_neg h2]
 by_cases h3:m.k=3∨m.k=4
 ·rw[if_pos h3,if_pos h3]
  by_cases hs:m.s=1
  ·rw[if_pos hs,if_pos hs]
   first | rfl | exact ai _ _ _ | (unfold Ws.snd;dsimp only;rw[(aV _ _ _ _).2.1];rfl) | (unfold Ws.toH;dsimp only;split <;> rfl) | (unfold Ws.toD;dsimp only;rw[(aV _ _ _ _).2.1,dB];exact ai _ _ _)
  ·rw[if_neg hs,if_neg hs]
   first | rfl | exact ai _ _ _ | (unfold Ws.snd;dsimp only;rw[(aV _ _ _ _).2.1];rfl) | (unfold Ws.toH;dsimp only;split <;> rfl) | (unfold Ws.toD;dsimp only;rw[(aV _ _ _ _).2.1,dB];exact ai _ _ _)
 rw[if_neg h3,if_neg h3]
 by_cases h5:m.k=5
 ·rw[if_pos h5,if_pos h5]
  by_cases hs:m.s=1
  ·rw[if_pos hs,if_pos hs]
   first | rfl | exact ai _ _ _ | (unfold Ws.snd;dsimp only;rw[(aV _ _ _ _).2.1];rfl) | (unfold Ws.toH;dsimp only;split <;> rfl) | (unfold Ws.toD;dsimp only;rw[(aV _ _ _ _).2.1,dB];exact ai _ _ _)
  ·rw[if_neg hs,if_neg hs]
   first | rfl | exact ai _ _ _ | (unfold Ws.snd;dsimp only;rw[(aV _ _ _ _).2.1];rfl) | (unfold Ws.toH;dsimp only;split <;> rfl) | (unfold Ws.toD;dsimp only;rw[(aV _ _ _ _).2.1,dB];exact ai _ _ _)
 rw[if_neg h5,if_neg h5]
 by_cases h6:m.k=6
 ·rw[if_pos h6,if_pos h6]
  by_cases hs:m.s=1
  ·rw[if_pos hs,if_pos hs]
   first | rfl | exact ai _ _ _ | (unfold Ws.snd;dsimp only;rw[(aV _ _ _ _).2.1];rfl) | (unfold Ws.toH;dsimp only;split <;> rfl) | (unfold Ws.toD;dsimp only;rw[(aV _ _ _ _).2.1,dB];exact ai _ _ _)
  ·rw[if_neg hs,if_neg hs]
   first | rfl | exact ai _ _ _ | (unfold Ws.snd;dsimp only;rw[(aV _ _ _ _).2.1];rfl) | (unfold Ws.toH;dsimp only;split <;> rfl) | (unfold Ws.toD;dsimp only;rw[(aV _ _ _ _).2.1,dB];exact ai _ _ _)
 rw[if_neg h6,if_neg h6]
 by_cases h7:m.k=7
 ·rw[if_pos h7,if_pos h7]
  by_cases hs:m.s=1
  ·rw[if_pos hs,if_pos hs]
   first | rfl | exact ai _ _ _ | (unfold Ws.snd;dsimp only;rw[(aV _ _ _ _).2.1];rfl) | (unfold Ws.toH;dsimp only;split <;> rfl) | (unfold Ws.toD;dsimp only;rw[(aV _ _ _ _).2.1,dB];exact ai _ _ _)
  ·rw[if_neg hs,if_neg hs]
   first | rfl | exact ai _ _ _ | (unfold Ws.snd;dsimp only;rw[(aV _ _ _ _).2.1];rfl) | (unfold Ws.toH;dsimp only;split <;> rfl) | (unfold Ws.toD;dsimp only;rw[(aV _ _ _ _).2.1,dB];exact ai _ _ _)
 rw[if_neg h7,if_neg h7]
 first | rfl | exact ai _ _ _ | (unfold Ws.snd;dsimp only;rw[(aV _ _ _ _).2.1];rfl) | (unfold Ws.toH;dsimp only;split <;> rfl) | (unfold Ws.toD;dsimp only;rw[(aV _ _ _ _).2.1,dB];exact ai _ _ _)
theorem acE (S:Ws) (m:Mv):(S.act m).S.hs m.c.toNat=S.actHF m:=by
 unfold Ws.act Ws.actHF
 dsimp only
 by_cases h1:m.k=1
 ·rw[if_pos h1,if_pos h1]
  by_cases hs:m.s=1
  ·rw[if_pos hs,if_pos hs]
   first | rfl | exact ai _ _ _ | (unfold Ws.snd;dsimp only;rw[(aV _ _ _ _).2.2.1];exact ai _ _ _) | (unfold Ws.toH;dsimp only;split <;> exact ai _ _ _) | (unfold Ws.toD;dsimp only;rw[(aV _ _ _ _).2.2.1,dC])
  ·rw[if_neg hs,if_neg hs]
   first | rfl | exact ai _ _ _ | (unfold Ws.snd;dsimp only;rw[(aV _ _ _ _).2.2.1];exact ai _ _ _) | (unfold Ws.toH;dsimp only;split <;> exact ai _ _ _) | (unfold Ws.toD;dsimp only;rw[(aV _ _ _ _).2.2.1,dC])
 rw[if_neg h1,if_neg h1]
 by_cases h2:m.k=2
 ·rw[if_pos h2,if_pos h2]
  first | rfl | exact ai _ _ _ | (unfold Ws.snd;dsimp only;rw[(aV _ _ _ _).2.2.1];exact ai _ _ _) | (unfold Ws.toH;dsimp only;split <;> exact ai _ _ _) | (unfold Ws.toD;dsimp only;rw[(aV _ _ _ _).2.2.1,dC])
 rw[if_neg h2,if_neg h2]
 by_cases h3:m.k=3∨m.k=4
 ·rw[if_pos h3,if_pos h3]
  by_cases hs:m.s=1
  ·rw[if_pos hs,if_pos hs]
   first | rfl | exact ai _ _ _ | (unfold Ws.snd;dsimp only;rw[(aV _ _ _ _).2.2.1];exact ai _ _ _) | (unfold Ws.toH;dsimp only;split <;> exact ai _ _ _) | (unfold Ws.toD;dsimp only;rw[(aV _ _ _ _).2.2.1,dC])
  ·rw[if_neg hs,if_neg hs]
   first | rfl | exact ai _ _ _ | (unfold Ws.snd;dsimp only;rw[(aV _ _ _ _).2.2.1];exact ai _ _ _) | (unfold Ws.toH;dsimp only;split <;> exact ai _ _ _) | (unfold Ws.toD;dsimp only;rw[(aV _ _ _ _).2.2.1,dC])
 rw[if_neg h3,if_neg h3]
 by_cases h5:m.k=5
 ·rw[if_pos h5,if_pos h5]
  by_cases hs:m.s=1
  ·rw[if_pos hs,if_pos hs]
   first | rfl | exact ai _ _ _ | (unfold Ws.snd;dsimp only;rw[(aV _ _ _ _).2.2.1];exact ai _ _ _) | (unfold Ws.toH;dsimp only;split <;> exact ai _ _ _) | (unfold Ws.toD;dsimp only;rw[(aV _ _ _ _).2.2.1,dC])
  ·rw[if_neg hs,if_neg hs]
   first | rfl | exact ai _ _ _ | (unfold Ws.snd;dsimp only;rw[(aV _ _ _ _).2.2.1];exact ai _ _ _) | (unfold Ws.toH;dsimp only;split <;> exact ai _ _ _) | (unfold Ws.toD;dsimp only;rw[(aV _ _ _ _).2.2.1,dC])
 rw[if_neg h5,if_neg h5]
 by_cases h6:m.k=6
 ·rw[if_pos h6,if_pos h6]
  by_cases hs:m.s=1
  ·rw[if_pos hs,if_pos hs]
   first | rfl | exact ai _ _ _ | (unfold Ws.snd;dsimp only;rw[(aV _ _ _ _).2.2.1];exact ai _ _ _) | (unfold Ws.toH;dsimp only;split <;> exact ai _ _ _) | (unfold Ws.toD;dsimp only;rw[(aV _ _ _ _).2.2.1,dC])
  ·rw[if_neg hs,if_neg hs]
   first | rfl | exact ai _ _ _ | (unfold Ws.snd;dsimp only;rw[(aV _ _ _ _).2.2.1];exact ai _ _ _) | (unfold Ws.toH;dsimp only;split <;> exact ai _ _ _) | (unfold Ws.toD;dsimp only;rw[(aV _ _ _ _).2.2.1,dC])
 rw[if_neg h6,if_neg h6]
 by_cases h7:m.k=7
 ·rw[if_pos h7,if_pos h7]
  by_cases hs:m.s=1
  ·rw[if_pos hs,if_pos hs]
   first | rfl | exact ai _ _ _ | (unfold Ws.snd;dsimp only;rw[(aV _ _ _ _).2.2.1];exact ai _ _ _) | (unfold Ws.toH;dsimp only;split <;> exact ai _ _ _) | (unfold Ws.toD;dsimp only;rw[(aV _ _ _ _).2.2.1,dC])
  ·rw[if_neg hs,if_neg hs]
   first | rfl | exact ai _ _ _ | (unfold Ws.snd;dsimp only;rw[(aV _ _ _ _).2.2.1];exact ai _ _ _) | (unfold Ws.toH;dsimp only;split <;> exact ai _ _ _) | (unfold Ws.toD;dsimp only;rw[(aV _ _ _ _).2.2.1,dC])
 rw[if_neg h7,if_neg h7]
 first | rfl | exact ai _ _ _ | (unfold Ws.snd;dsimp only;rw[(aV _ _ _ _).2.2.1];exact ai _ _ _) | (unfold Ws.toH;dsimp only;split <;> exact ai _ _ _) | (unfold Ws.toD;dsimp only;rw[(aV _ _ _ _).2.2.1,dC])
theorem acD (S:Ws) (m:Mv):(S.act m).e=S.actEF m:=by
 unfold Ws.act Ws.actEF
 dsimp only
 by_cases h1:m.k=1
 ·rw[if_pos h1,if_pos h1]
  by_cases hs:m.s=1
  ·rw[if_pos hs,if_pos hs]
   try rfl
  ·rw[if_neg hs,if_neg hs]
   try rfl
 rw[if_neg h1,if_neg h1]
 by_cases h2:m.k=2
 ·rw[if_pos h2,if_pos h2]
  try rfl
 rw[if_neg h2,if_neg h2]
 by_cases h3:m.k=3∨m.k=4
 ·rw[if_pos h3,if_pos h3]
  by_cases hs:m.s=1
  ·rw[if_pos hs,if_pos hs]
   try rfl
  ·rw[if_neg hs,if_neg hs]
   try rfl
 rw[if_neg h3,if_neg h3]
 by_cases h5:m.k=5
 ·rw[if_pos h5,if_pos h5]
  by_cases hs:m.s=1
  ·rw[if_pos hs,if_pos hs]
   try rfl
  ·rw[if_neg hs,if_neg hs]
   try rfl
 rw[if_neg h5,if_neg h5]
 by_cases h6:m.k=6
 ·rw[if_pos h6,if_pos h6]
  by_cases hs:m.s=1
  ·rw[if_pos hs,if_pos hs]
   try rfl
  ·rw[if_neg hs,if_neg hs]
   try rfl
 rw[if_neg h6,if_neg h6]
 by_cases h7:m.k=7
 ·rw[if_pos h7,if_pos h7]
  by_cases hs:m.s=1
  ·rw[if_pos hs,if_pos hs]
   try rfl
  ·rw[if_neg hs,if_neg hs]
   try rfl
 rw[if_neg h7,if_neg h7]
 try rfl
theorem jx (S:Ws) {m:Mv} (hb:S.bad m=0):(S.play m).S.ds m.c.toNat=S.actDF m∧(S.play m).S.hs m.c.toNat=S.actHF m∧(S.play m).e=S.actEF m:=by
 have hp:S.play m=⟨(S.up.act m).e,(S.up.act m).i,(S.up.act m).S.note [oH (S.up.act m).S m.c.toNat,oD (S.up.act m).S m.c.toNat]⟩:=by
  unfold Ws.play
  rw[if_neg (fun q=>q hb)]
  rfl
 rw[hp]
 exact⟨acC S.up m,acE S.up m,acD S.up m⟩
theorem mF {S:Ws} (I:S.In) (K:S.Kn) {m:Mv} (hb:S.bad m=0) {j:Nat} (hj:j≠m.c.toNat):(S.play m).S.ds j=S.ds j∧(S.play m).S.hs j=S.hs j:=by
 have l:=Ws.Law.of hb
 have K':S.up.Kn:=⟨K.ph,K.pd,K.ha,K.da,K.mo,K.fb⟩
 have q:=oc K' (I.ih _ l.kn) (I.iv _ l.kn) l
 have hp:S.play m=⟨(S.up.act m).e,(S.up.act m).i,(S.up.act m).S.note [oH (S.up.act m).S m.c.toNat,oD (S.up.act m).S m.c.toNat]⟩:=by
  unfold Ws.play
  rw[if_neg (fun q=>q hb)]
  rfl
 rw[hp]
 exact⟨q.ds j hj,q.hs j hj⟩
theorem pV {S:Ws} (I:S.In) (K:S.Kn) (m:Mv):(S.play m).S.PH=S.PH∧(S.play m).S.PD=S.PD∧(S.play m).S.mx=S.mx:=by
 by_cases hb:S.bad m=0
 ·have l:=Ws.Law.of hb
  have K':S.up.Kn:=⟨K.ph,K.pd,K.ha,K.da,K.mo,K.fb⟩
  have q:=oc K' (I.ih _ l.kn) (I.iv _ l.kn) l
  have hp:S.play m=⟨(S.up.act m).e,(S.up.act m).i,(S.up.act m).S.note [oH (S.up.act m).S m.c.toNat,oD (S.up.act m).S m.c.toNat]⟩:=by
   unfold Ws.play
   rw[if_neg (fun q=>q hb)]
   rfl
  rw[hp]
  exact⟨q.PH,q.PD,q.mx⟩
 ·have hp:(S.play m).S=S:=by
   unfold Ws.play
   rw[if_pos hb]
  rw[hp]
  exact⟨rfl,rfl,rfl⟩
section
variable {P:Pm} {mx n:Nat} {s s':Sd}
end
end Go.Proofs.YtenilkloffnjlaaGreat
namespace Go.Proofs.YtenilkloffnjlaaGreat
open Tryz
open Go.RowKit Go.Maps
set_option linter.unusedVariables false
theorem oK (f g:Nat→Bool) (n:Nat) (h:∀ k,k<n→f k=g k):PM.V f n=PM.V g n:=by
 induction n with
 | zero=>rfl
 | succ n ih=>show 2*PM.V f n + (f n).toNat=2*PM.V g n + (g n).toNat;rw[ih (fun k hk=>h k (by omega)),h n (by omega)]
theorem sh (f:Nat→Bool) (n:Nat) (h:∀ k,k<n→f k=false):PM.V f n=0:=by
 induction n with
 | zero=>rfl
 | succ n ih=>show 2*PM.V f n + (f n).toNat=0;rw[ih (fun k hk=>h k (by omega)),h n (by omega)];rfl
theorem aau (x s:Nat) (hx:x<2 ^ s) (i:Nat) (hi:i≤s):PM.V (fun k=>x.testBit (s-1-k)) i=x >>> (s-i):=by
 induction i with
 | zero=>show 0=_;rw[Nat.shiftRight_eq_div_pow,Nat.sub_zero,Nat.div_eq_of_lt hx]
 | succ i ih=>
  show 2*PM.V (fun k=>x.testBit (s-1-k)) i + (x.testBit (s-1-i)).toNat=_
  rw[ih (by omega),PM.shr_step x (s - (i+1)) (s-i) (by omega),show s-1-i=s - (i+1) by omega]
theorem abW {at_ x n:Nat} (h:at_+PM.bl x≤n):PM.V (PM.ly at_ (PM.bl x) x (PM.bl x)) n=PM.C x (2 ^ (n-at_-PM.bl x)):=by
 obtain⟨d,rfl⟩:∃ d,n=at_+PM.bl x+d:=⟨n-at_-PM.bl x,by omega⟩
 rw[PM.V_add,PM.V_add,sh (PM.ly at_ (PM.bl x) x (PM.bl x)) at_ (fun k hk=>by unfold PM.ly;rw[decide_eq_false (by omega)];rfl),
  sh (fun i=>PM.ly at_ (PM.bl x) x (PM.bl x) (at_+PM.bl x+i)) d (fun k hk=>by unfold PM.ly;rw[decide_eq_false (by omega)];rfl),
  oK (fun i=>PM.ly at_ (PM.bl x) x (PM.bl x) (at_+i)) (fun k=>x.testBit (PM.bl x-1-k)) (PM.bl x) (fun k hk=>by unfold PM.ly;rw[decide_eq_true (by omega),Bool.true_and,show at_+k-at_=k by omega]),
  aau x (PM.bl x) (PM.lt_bl x) (PM.bl x) (Nat.le_refl _),Nat.sub_self,Nat.shiftRight_zero,Nat.xor_zero,show at_+PM.bl x+d-at_-PM.bl x=d by omega,PM.C_pow_right 0,Nat.zero_mul,Nat.zero_xor]
theorem vm {f q:Nat→Nat} {n at_ x:Nat} (hx:x<4294967296) (hx0:x≠0) (hfit:at_+PM.bl x≤8*n) (hq:∀ k,k<8*n→PM.fb q k=PM.ly at_ (PM.bl x) x (PM.bl x) k) (hf:PM.R PM.g 32 (PM.V (PM.fb f) (8*n))=0) :
  ¬ PM.R PM.g 32 (PM.V (PM.fb (xr f q)) (8*n))=0:=by
 intro h
 rw[show xr f q=fun i=>f i ^^^ q i from rfl,PM.V_bytes_xor,PM.R_xor,hf,Nat.zero_xor,oK (PM.fb q) _ _ hq,abW hfit]at h
 exact hx0 (PM.burst x _ hx h)
theorem rd {f:Fm} (hf:DE f.2 f.1=0) {a x:Nat} (hx:x<4294967296) (h0:x≠0) (hfit:a+PM.bl x≤8*f.1):DE (qZ f a x).2 (qZ f a x).1=42:=by
 obtain⟨h1,h2,h3,_⟩:=gN hf
 exact oI h1 h2 (vm hx h0 hfit (fun k _=>vn a x k) h3)
def Ek (F:Fm):Prop:=F.1=0∨DE F.2 F.1=0
theorem jm:Ek cZ:=.inl rfl
theorem jl {k c s n f len:Nat} {bs:Nat→Nat} (hc:c<4294967296) (hs:s<4294967296) (hn:n<4294967296):Ek (cS k c s n f len bs):=by
 by_cases h:LW k c s n f len len=0
 ·right
  have hl:len≤8:=by have:=(fO h).2.2.2.1;omega
  have e:=(m8 k c s n f len bs hc hs hn hl h).1
  have hF:cS k c s n f len bs=(15+len+4,PM.sl (fr k c s n f len bs) (15+len)):=if_pos h
  rw[hF]
  exact e
 ·left
  have hF:cS k c s n f len bs=cZ:=if_neg h
  rw[hF]
  rfl
section
variable {P:Pm} {mx n:Nat} {s:Sd}
theorem fU (hP:Pok P) (hs:s.ss<4294967296) (k num fl len:Nat) (bs:Nat→Nat) (hn:num<4294967296):Ek (dK P s k num fl len bs):=jl hP.c hs hn
theorem gS (h:s.ss<4294967296):(bT s).ss<4294967296:=by
 unfold bT
 split
 ·split
  ·exact h
  ·show 0<4294967296
   decide
 ·exact h
theorem vi (hP:Pok P) (M:Mo mx n s) (hu:s.st≠6):Ek (bL P mx n s).f:=by
 have hv:=wg (mx:=mx) (n:=n) (s:=s.ms) M.n10 (M.off hu) M.l0 M.mxl
 have hm:=M.mxl
 unfold bL
 generalize nx mx n s.ms.bs false s.ms=X at *
 split
 ·exact fU hP (by show 0<4294967296;decide) _ _ _ _ _ (by decide)
 ·split
  ·exact jm
  ·next e0=>
   have e0:X.e=0:=by simpa using e0
   refine fU hP ?_ _ _ _ _ _ (by decide)
   show X.v<4294967296
   have:=hv.1 e0
   omega
theorem yr (hP:Pok P) (M:Mo mx n s) (hs:s.ss<4294967296) (hu:s.st≠6):Ek (cj P mx n s).f:=by
 unfold cj
 split
 ·exact fU hP (gS hs) _ _ _ _ _ (by decide)
 ·split
  ·exact fU hP (gS hs) _ _ _ _ _ (by decide)
  ·exact vi hP M.odd (jX hu)
theorem yp (hP:Pok P) (iv:Iv P s) (M:Mo mx n s) (hu:s.st≠6) (k ss num fl len:Nat) (bs:Nat→Nat):Ek (bc P mx n s k ss num fl len bs).f:=by
 have r:∀ x:Int,Ek (aW P s x).f:=fun x=>fU hP (gS iv.ss) _ _ _ _ _ (by decide)
 unfold bc
 split
 ·split
  ·exact yr hP M iv.ss hu
  ·exact r _
 ·split
  ·split
   ·refine fU hP ?_ _ _ _ _ _ (by decide)
    unfold bN
    split <;> exact iv.ss
   ·exact r _
  ·split
   ·refine fU hP ?_ _ _ _ _ _ (by decide)
    unfold cN
    split <;> exact iv.ss
   ·split
    ·next q=>
     refine fU hP iv.ss _ _ _ _ _ ?_
     have h1:=(iv.run q.2.1.2.1)
     have:=hP.n
     omega
    ·split
     ·refine fU hP ?_ _ _ _ _ _ hP.n
      show (aN (jJ { s with nm:=P.n }) 80).ss<4294967296
      rw[(gu _ _).2.1]
      exact iv.ss
     ·exact r _
theorem yn (hP:Pok P) (iv:Iv P s) (M:Mo mx n s) (len:Nat) (bs:Nat→Nat):Ek (ay P mx n s len bs).f:=by
 have hh:s.st≠6→Ek (bR P mx n s len bs).f:=by
  intro hu
  unfold bR
  split
  ·exact jm
  ·split
   ·exact jm
   ·split
    ·exact jm
    ·exact yp hP iv M hu _ _ _ _ _ _
 unfold ay
 split
 ·exact jm
 ·next hu=>
  split
  ·exact hh hu
  ·exact hh hu
end
theorem vA (s:Sh):(aR s).ss=s.ss∧(((aR s).st=s.st∧(aR s).sn=s.sn)∨(aR s).st=1):=by
 unfold aR
 split
 ·exact⟨rfl,.inl ⟨rfl,rfl⟩⟩
 ·split
  ·exact⟨rfl,.inl ⟨rfl,rfl⟩⟩
  ·refine⟨?_,.inr rfl⟩
   show (if s.st=4 then be { s with ms:=s.ms+1 } 131 else { s with ms:=s.ms+1 }).ss=s.ss
   split
   ·exact (cD _ _).2.1
   ·rfl
theorem yo {P:Pm} {s:Sh} (hP:Pok P) (ih:Ih P s):Ek (aL P s):=by
 unfold aL
 split
 ·exact jm
 ·next h5=>
  obtain⟨e1,e2⟩:=vA s
  have hs:(aR s).ss<4294967296:=by rw[e1];exact ih.ss
  unfold bj
  split
  ·exact jl hP.c (by decide) (by decide)
  ·split
   ·exact jl hP.c hs (by decide)
   ·split
    ·exact jl hP.c hs (by decide)
    ·next h1 h2 h3=>
     have hsn:(aR s).sn+1<4294967296:=by
      rcases e2 with ⟨a,b⟩ | a
      ·rw[b]
       have q1:=ih.st1
       have q5:=ih.st5
       exact ih.sentY hP (by omega)
      ·exact absurd a h1
     split
     ·exact jl hP.c hs hsn
     ·exact jl hP.c hs hsn
def Ws.Bv (S:Ws):Prop:=∀ f,f ∈ S.bg→DE f.2 f.1=0
theorem zN {S:Ws} (h:S.Bv) (k s:Nat) {f:Fm} (hf:Ek f):(S.put k s f).Bv:=by
 unfold Ws.put
 split
 ·exact h
 ·next h0=>
  intro g hg
  rcases List.mem_append.1 hg with q | q
  ·exact h g q
  ·obtain rfl:=List.mem_singleton.1 q
   rcases hf with e | e
   ·exact absurd e h0
   ·exact e
theorem sV (S:Ws) (k:Nat) (f:Fm):(S.toD2 k f).bg=S.bg:=by
 unfold Ws.toD2
 split <;> rfl
structure Ws.In' (S:Ws):Prop where
 ih:∀ k,k<S.n→Ih (S.PH k) (S.hs k)
 iv:∀ k,k<S.n→Iv (S.PD k) (S.ds k)
theorem abF {S:Ws} {m:Mv} (h:S.Bv) (K:S.Kn) (I:S.In') (hk:m.c.toNat<S.n):(S.act m).S.Bv:=by
 unfold Ws.act
 dsimp only
 split
 ·split
  ·exact h
  ·exact h
 ·split
  ·exact zN (S:=S.setH _ _) h _ _ (yo (K.ph _ hk) (I.ih _ hk))
  ·split
   ·split
    ·unfold Ws.toH
     dsimp only
     split
     ·exact h
     ·exact h
    ·unfold Ws.toD
     dsimp only
     refine zN (S:=S.toD2 _ _) (fun f hf=>h f ?_) _ _ (yn (K.pd _ hk) (I.iv _ hk) (K.mo _ hk) _ _)
     rw[sV]at hf
     exact hf
   ·split
    ·split
     ·exact h
     ·exact h
    ·split
     ·split
      ·exact h
      ·exact h
     ·split
      ·split
       ·exact h
       ·exact h
      ·exact h
theorem aaB {S:Ws} {m:Mv} (h:S.Bv) (K:S.Kn) (I:S.In):(S.play m).S.Bv:=by
 by_cases hb:S.bad m=0
 ·have l:=Ws.Law.of hb
  have hp:(S.play m).S=(S.up.act m).S.note [oH (S.up.act m).S m.c.toNat,oD (S.up.act m).S m.c.toNat]:=by
   unfold Ws.play
   rw[if_neg (fun q=>q hb)]
   rfl
  rw[hp]
  have K':S.up.Kn:=⟨K.ph,K.pd,K.ha,K.da,K.mo,K.fb⟩
  have h':S.up.Bv:=h
  have hk:m.c.toNat<S.up.n:=l.kn
  have I':S.up.In':=⟨I.ih,I.iv⟩
  exact abF (m:=m) h' K' I' hk
 ·have hp:(S.play m).S=S:=by
   unfold Ws.play
   rw[if_pos hb]
  rw[hp]
  exact h
theorem tD {S:Ws} {m:Mv} (h:S.Bv) (hb:S.bad m=0) (h4:m.k=4) (hw:m.w<4294967296) :
  (S.play m).i = -1∧((S.play m).e=42∨((S.play m).e=70∧m.s=2∧(S.ds m.c.toNat).st=6)) ∧
  (((S.play m).S.hs m.c.toNat).st=(S.hs m.c.toNat).st∧((S.play m).S.hs m.c.toNat).ss=(S.hs m.c.toNat).ss∧((S.play m).S.hs m.c.toNat).nm=(S.hs m.c.toNat).nm∧((S.play m).S.hs m.c.toNat).sn=(S.hs m.c.toNat).sn∧((S.play m).S.hs m.c.toNat).dc=(S.hs m.c.toNat).dc∧((S.play m).S.hs m.c.toNat).v=(S.hs m.c.toNat).v) ∧
  (((S.play m).S.ds m.c.toNat).st=(S.ds m.c.toNat).st∧((S.play m).S.ds m.c.toNat).ss=(S.ds m.c.toNat).ss∧((S.play m).S.ds m.c.toNat).nm=(S.ds m.c.toNat).nm∧((S.play m).S.ds m.c.toNat).sn=(S.ds m.c.toNat).sn∧((S.play m).S.ds m.c.toNat).dc=(S.ds m.c.toNat).dc∧((S.play m).S.ds m.c.toNat).v=(S.ds m.c.toNat).v):=by
 have l:=Ws.Law.of hb
 obtain⟨e1,e2,e3⟩:=jx S hb
 have hfr:=l.fr (.inr h4)
 have hgb:=l.gb h4
 have hlt:m.f.toNat<S.bg.length:=by
  have:m.f < ((S.bg.length:Nat):Int):=hfr.2
  omega
 have hmem:S.bg.getD m.f.toNat cZ ∈ S.bg:=by
  rw[List.getD_eq_getElem?_getD,List.getElem?_eq_getElem hlt]
  exact List.getElem_mem _
 have hDE:=h _ hmem
 have hfe:S.fr m=qZ (S.bg.getD m.f.toNat cZ) m.a.toNat m.w:=by unfold Ws.fr;rw[if_pos h4]
 have hmk:cF ((S.bg.getD m.f.toNat cZ).1:Nat) m.a m.w=0:=hgb
 have hgo:m.w≠0∧m.a.toNat+PM.bl m.w≤8 * (S.bg.getD m.f.toNat cZ).1:=by
  unfold cF at hmk
  split at hmk
  ·cases hmk
  ·split at hmk
   ·cases hmk
   ·next q=>
    constructor
    ·intro z;exact q (.inl z)
    ·omega
 have hc:DE (S.fr m).2 (S.fr m).1=42:=by rw[hfe];exact rd hDE hw hgo.1 hgo.2
 have hne:DE (S.fr m).2 (S.fr m).1≠0:=by rw[hc];decide
 have hH:cP (S.PH m.c.toNat) (S.hs m.c.toNat) (S.fr m).1 (S.fr m).2=42:=by unfold cP;rw[if_pos hne];exact hc
 have hD:ay (S.PD m.c.toNat) S.mx 16 (S.ds m.c.toNat) (S.fr m).1 (S.fr m).2=(if (S.ds m.c.toNat).st=6 then ⟨S.ds m.c.toNat,cZ,70⟩ else ⟨gv (S.ds m.c.toNat) 42,cZ,42⟩):=by
  unfold ay bR
  rw[if_pos hne,hc]
  split
  ·rfl
  ·rw[if_pos ⟨by show (42:Int)≠0;decide,by show (42:Int)≠70;decide⟩]
 have hk:(m.k=3∨m.k=4):=.inr h4
 have hI:(S.play m).i = -1:=by
  have hp:(S.play m).i=(S.up.act m).i:=by
   unfold Ws.play
   rw[if_neg (fun q=>q hb)]
   rfl
  rw[hp]
  unfold Ws.act
  dsimp only
  rw[if_neg (by omega),if_neg (by omega),if_pos hk]
  split
  ·rfl
  ·unfold Ws.toD
   dsimp only
   show (S.up.toD2 m.c.toNat (S.fr m)).putI (ay (S.PD m.c.toNat) S.mx 16 (S.ds m.c.toNat) (S.fr m).1 (S.fr m).2).f = -1
   rw[hD]
   unfold Ws.putI
   split <;> rfl
 refine⟨hI,?_⟩
 have d:S.actDF m=(if m.s=1 then S.ds m.c.toNat else (ay (S.PD m.c.toNat) S.mx 16 (S.ds m.c.toNat) (S.fr m).1 (S.fr m).2).s):=by unfold Ws.actDF;rw[if_neg (by omega),if_neg (by omega),if_pos hk]
 have g:S.actHF m=(if m.s=1 then bu (S.PH m.c.toNat) (S.hs m.c.toNat) (S.fr m).1 (S.fr m).2 else S.hs m.c.toNat):=by unfold Ws.actHF;rw[if_neg (by omega),if_neg (by omega),if_pos hk]
 have q:S.actEF m=(if m.s=1 then cP (S.PH m.c.toNat) (S.hs m.c.toNat) (S.fr m).1 (S.fr m).2 else (ay (S.PD m.c.toNat) S.mx 16 (S.ds m.c.toNat) (S.fr m).1 (S.fr m).2).e):=by unfold Ws.actEF;rw[if_neg (by omega),if_neg (by omega),if_pos hk]
 rw[e1,e2,e3,d,g,q]
 rcases l.sd (by omega) (by omega) with s1 | s2
 ·rw[if_pos s1,if_pos s1,if_pos s1]
  have hS:bu (S.PH m.c.toNat) (S.hs m.c.toNat) (S.fr m).1 (S.fr m).2=eX (S.hs m.c.toNat) 42:=by unfold bu;rw[hH,if_pos (by decide)]
  rw[hS,hH]
  exact⟨.inl rfl,⟨rfl,rfl,rfl,rfl,rfl,rfl⟩,⟨rfl,rfl,rfl,rfl,rfl,rfl⟩⟩
 ·have n1:¬ m.s=1:=by omega
  rw[if_neg n1,if_neg n1,if_neg n1,hD]
  by_cases h6:(S.ds m.c.toNat).st=6
  ·rw[if_pos h6]
   exact⟨.inr ⟨rfl,s2,h6⟩,⟨rfl,rfl,rfl,rfl,rfl,rfl⟩,⟨rfl,rfl,rfl,rfl,rfl,rfl⟩⟩
  ·rw[if_neg h6]
   exact⟨.inl rfl,⟨rfl,rfl,rfl,rfl,rfl,rfl⟩,⟨rfl,rfl,rfl,rfl,rfl,rfl⟩⟩
end Go.Proofs.YtenilkloffnjlaaGreat
namespace Go.Proofs.YtenilkloffnjlaaGreat
open Tryz
open Go.RowKit
theorem abR {c:Nat} (hc:c≠0):LW ((1:Nat):Int) c (0:Nat) (0:Nat) (0:Nat) (4:Nat) (4:Nat)=0:=by
 unfold LW
 rw[if_neg (by decide),if_neg (by omega),if_neg (by decide),if_neg (by decide),if_neg (by decide),if_neg (by decide)]
theorem abS {c s:Nat} (hc:c≠0) (hs:s≠0):LW ((2:Nat):Int) c s (0:Nat) (0:Nat) (4:Nat) (4:Nat)=0:=by
 unfold LW
 rw[if_neg (by decide),if_neg (by omega),if_neg (by decide),if_neg ?_,if_neg (by decide),if_neg (by decide)]
 show ¬ dy 2 s=false
 unfold dy
 simp
 exact hs
theorem abT {c s:Nat} (hc:c≠0) (hs:s≠0):LW ((3:Nat):Int) c s (0:Nat) (0:Nat) (0:Nat) (0:Nat)=0:=by
 unfold LW
 rw[if_neg (by decide),if_neg (by omega),if_neg (by decide),if_neg ?_,if_neg (by decide),if_neg (by decide)]
 show ¬ dy 3 s=false
 unfold dy
 simp
 exact hs
theorem abU {c s n f len:Nat} (hc:c≠0) (hs:s≠0) (hn:n≠0) (hf:f≤15) (h1:1≤len) (h8:len≤8):LW ((4:Nat):Int) c s n f len len=0:=by
 have e1:sE ((4:Nat):Int)=15:=by decide
 have e2:iN ((4:Nat):Int)=true:=by decide
 have e3:dX ((4:Nat):Int) len=decide ((1:Int)≤len∧(len:Int)≤8):=rfl
 unfold LW
 rw[if_neg (by decide),if_neg (by omega),if_neg ?_,if_neg ?_,if_neg ?_,if_neg ?_]
 ·rw[e1];omega
 ·rw[e2];simp;exact hn
 ·show ¬ dy 4 s=false
  unfold dy
  simp
  exact hs
 ·rw[e3];simp;omega
theorem abV {c s n:Nat} (hc:c≠0) (hs:s≠0) (hn:n≠0):LW ((5:Nat):Int) c s n (0:Nat) (0:Nat) (0:Nat)=0:=by
 have e2:iN ((5:Nat):Int)=true:=by decide
 unfold LW
 rw[if_neg (by decide),if_neg (by omega),if_neg (by decide),if_neg ?_,if_neg ?_,if_neg (by decide)]
 ·rw[e2];simp;exact hn
 ·show ¬ dy 5 s=false
  unfold dy
  simp
  exact hs
theorem tH (s:Sh):bK s≤15:=by
 unfold bK
 split <;> split <;> split <;> split <;> omega
structure Told (F:Fm) (k c s n f len:Nat) (bs:Nat→Nat):Prop where
 de:DE F.2 F.1=0
 ln:F.1-19=len
 k:F.2 0=k
 c:aC F.2 1=c
 s:aC F.2 5=s
 n:aC F.2 9=n
 f:F.2 13=f
 bs:∀ j,j<len→F.2 (15+j)=bs j
theorem fK {k c s n f len:Nat} {bs:Nat→Nat} (hc:c<4294967296) (hs:s<4294967296) (hn:n<4294967296) (h:LW k c s n f len len=0):Told (cS k c s n f len bs) k c s n f len bs:=by
 have hl:len≤8:=by have:=(fO h).2.2.2.1;omega
 obtain⟨e1,e2,e3,e4,e5,e6,e7⟩:=m8 k c s n f len bs hc hs hn hl h
 have hF:cS k c s n f len bs=(15+len+4,PM.sl (fr k c s n f len bs) (15+len)):=if_pos h
 rw[hF]
 exact⟨e1,by show 15+len+4-19=len;omega,e2,e3,e4,e5,e6,e7⟩
section
variable {P:Pm} {s:Sh}
theorem jM (s:Sh):((aR s).st=s.st∧(aR s).ss=s.ss∧(aR s).sn=s.sn∧(aR s).v=s.v∧(aR s).hd=s.hd∧(aR s).ap=s.ap∧(aR s).nm=s.nm)∨((aR s).st=1∧(aR s).ss=s.ss∧(aR s).nm=0∧aE (aR s).v=false):=by
 unfold aR
 split
 ·exact .inl ⟨rfl,rfl,rfl,rfl,rfl,rfl,rfl⟩
 ·split
  ·exact .inl ⟨rfl,rfl,rfl,rfl,rfl,rfl,rfl⟩
  ·refine .inr ⟨rfl,?_,rfl,lE _⟩
   show (if s.st=4 then be { s with ms:=s.ms+1 } 131 else { s with ms:=s.ms+1 }).ss=s.ss
   split
   ·exact (cD _ _).2.1
   ·rfl
theorem pr (hP:Pok P) (hv:Ih P s) (h5:s.st≠5):jq s=0 ∧
  ((∃ k S,(k=1∨k=2∨k=3)∧(∃ len bs,Told (aL P s) k P.c S 0 0 len bs)∧(aM P s).st=k∧(aM P s).ss=s.ss∧((aM P s).st=s.st∨(aM P s).st=1)) ∨
   (s.st=4∧s.sn+1<P.n∧Told (aL P s) 4 P.c s.ss (s.sn+1) (bK s) P.o s.ap∧(aM P s).st=4∧(aM P s).ss=s.ss∧(aM P s).sn=s.sn+1) ∨
   (s.st=4∧s.sn+1=P.n∧(∃ len bs,Told (aL P s) 5 P.c s.ss (s.sn+1) 0 len bs)∧(aM P s).st=5∧(aM P s).ss=s.ss∧aE (aM P s).v=false∧(aM P s).v.lat≠0)):=by
 have hc:P.c≠0:=by have:=hP.ok.1;omega
 have hm:=hv.miss
 have hm5:=mj h5
 have hmc:=jM s
 have eS:aM P s={ (bj P (aR s)).1 with wt:=true }:=by unfold aM;rw[if_neg h5]
 have eF:aL P s=(bj P (aR s)).2:=by unfold aL;rw[if_neg h5]
 refine⟨by unfold jq;rw[if_neg h5],?_⟩
 rw[eS,eF]
 generalize aR s=m at *
 have hms:=hm.st1
 have hm4:=hm.st5
 have hmss:m.ss=s.ss:=by rcases hmc with h | h <;> exact h.2.1
 have hmst:m.st=s.st∨m.st=1:=by
  rcases hmc with h | h
  ·exact .inl h.1
  ·exact .inr h.1
 by_cases c1:m.st=1
 ·have en:bj P m=(m,cS 1 P.c 0 0 0 4 (lL P)):=by unfold bj;rw[if_pos c1]
  rw[en]
  exact .inl ⟨1,0,.inl rfl,⟨_,_,fK hP.c (by omega) (by omega) (abR hc)⟩,c1,hmss,.inr c1⟩
 ·by_cases c2:m.st=2
  ·have en:bj P m=(m,cS 2 P.c m.ss 0 0 4 (lL P)):=by unfold bj;rw[if_neg c1,if_pos c2]
   rw[en]
   exact .inl ⟨2,m.ss,.inr (.inl rfl),⟨_,_,fK hP.c hm.ss (by omega) (abS hc (hm.s4 (.inl c2)))⟩,c2,hmss,hmst⟩
  ·by_cases c3:m.st=3
   ·have en:bj P m=(m,cS 3 P.c m.ss 0 0 0 (fun _=>0)):=by unfold bj;rw[if_neg c1,if_neg c2,if_pos c3]
    rw[en]
    exact .inl ⟨3,m.ss,.inr (.inr rfl),⟨_,_,fK hP.c hm.ss (by omega) (abT hc (hm.s4 (.inr (.inl c3))))⟩,c3,hmss,hmst⟩
   ·have h4:m.st=4:=by omega
    have hs0:=hm.s4 (.inr (.inr h4))
    have hrn:=(hm.run h4).1
    have hn:=hP.n
    obtain⟨m1,m2,m3,m4,m5,m6,m7⟩:m.st=s.st∧m.ss=s.ss∧m.sn=s.sn∧m.v=s.v∧m.hd=s.hd∧m.ap=s.ap∧m.nm=s.nm:=by
     rcases hmc with h | h
     ·exact h
     ·exact absurd h.1 c1
    have hs4:s.st=4:=m1 ▸ h4
    by_cases c4:m.sn+1=P.n
    ·have en:bj P m=(fZ { m with sn:=m.sn+1 },cS 5 P.c m.ss (m.sn+1) 0 0 (fun _=>0)):=by unfold bj;rw[if_neg c1,if_neg c2,if_neg c3,if_pos c4]
     rw[en]
     refine .inr (.inr ⟨hs4,by omega,⟨0,fun _=>0,?_⟩,rfl,?_,?_,?_⟩)
     ·rw[← m2,← m3];exact fK hP.c hm.ss (by omega) (abV hc hs0 (by omega))
     ·show (be { m with sn:=m.sn+1 } 80).ss=s.ss
      rw[(cD _ _).2.1];exact m2
     ·exact lE _
     ·show (dS (be { m with sn:=m.sn+1 } 80).v false).lat≠0
      rw[mR,iP]
      exact mV (by omega)
    ·have en:bj P m=({ m with sn:=m.sn+1 },cS 4 P.c m.ss (m.sn+1) (bK m) P.o m.ap):=by unfold bj;rw[if_neg c1,if_neg c2,if_neg c3,if_neg c4]
     have ef:bK m=bK s:=by unfold bK;rw[m4,m5]
     rw[en]
     refine .inr (.inl ⟨hs4,by omega,?_,h4,m2,by show m.sn+1=_;omega⟩)
     rw[← m2,← m3,← m6,← ef]
     exact fK hP.c hm.ss (by omega) (abU hc hs0 (by omega) (tH m) hP.o1 hP.o8)
theorem pn (P:Pm) (s:Sh) (len:Nat) (bs:Nat→Nat):(cP P s len bs≠0∧bu P s len bs=eX s (cP P s len bs))∨(cP P s len bs=0∧DE bs len=0 ∧
  ((bs 0=17∧s.st=1∧s.ss<aC bs 5∧bu P s len bs=lM { s with st:=2,ss:=aC bs 5 })∨(bs 0=18∧s.st=2∧aC bs 5=s.ss∧bu P s len bs=lM { s with st:=3 })∨(bs 0=19∧s.st=3∧aC bs 5=s.ss∧bu P s len bs=lM { s with st:=4,v:=dS s.v true }) ∨
   (bs 0=20∧s.st=4∧aC bs 5=s.ss∧s.nm<aC bs 9∧aC bs 9<P.n∧len-19=P.i∧bu P s len bs={ lM { s with nm:=aC bs 9 } with v:=dY (fL (dF s.v) (decide (8≤bs 13))) (fun i=>bs (15+i)) })∨(bs 0=21∧s.st=4∧aC bs 5=s.ss∧s.nm<aC bs 9∧aC bs 9=P.n∧bu P s len bs=fZ (lM { s with nm:=aC bs 9 })))):=by
 by_cases hE:cP P s len bs=0
 ·refine .inr ⟨hE,?_⟩
  have eS:bu P s len bs=cr s (bs 0) (aC bs 5) (aC bs 9) (bs 13) (fun i=>bs (15+i)):=by unfold bu;rw[if_neg (by omega)]
  rw[eS]
  unfold cP at hE
  by_cases hD:DE bs len≠0
  ·rw[if_pos hD]at hE;exact absurd hE hD
  ·rw[if_neg hD]at hE
   refine⟨by omega,?_⟩
   clear eS hD
   generalize aC bs 5=ss at *
   generalize aC bs 9=num at *
   generalize (fun i=>bs (15+i))=ds at *
   generalize bs 13=fl at *
   generalize bs 0=k at *
   unfold gh at hE
   by_cases hK:fE (k:Int)=false
   ·rw[if_pos hK]at hE;omega
   ·rw[if_neg hK]at hE
    by_cases hC:aC bs 1≠P.c
    ·rw[if_pos hC]at hE;omega
    ·rw[if_neg hC]at hE
     by_cases h1:s.st=1
     ·rw[if_pos h1]at hE
      unfold jN at hE
      by_cases hk:k≠17∨ss≤s.ss
      ·rw[if_pos hk]at hE;omega
      ·obtain rfl:k=17:=by omega
       exact .inl ⟨rfl,h1,by omega,by unfold cr;rw[if_pos rfl]⟩
     ·rw[if_neg h1]at hE
      by_cases ha:ss≠s.ss∨bY P s k num (len-19)=false
      ·rw[if_pos ha]at hE;omega
      ·have ha2:bY P s k num (len-19)=true:=by
        cases hh:bY P s k num (len-19) with
        | true=>rfl
        | false=>exact absurd (.inr hh) ha
       have hss:ss=s.ss:=by omega
       unfold bY at ha2
       have ha3:=of_decide_eq_true ha2
       rcases ha3 with ⟨rfl,h2⟩ | ⟨rfl,h3⟩ | ⟨rfl,⟨⟨h4,hm⟩,hp⟩,hi⟩ | ⟨rfl,⟨h4,hm⟩,hp⟩
       ·exact .inr (.inl ⟨rfl,h2,hss,by unfold cr;rw[if_neg (by omega),if_pos rfl]⟩)
       ·exact .inr (.inr (.inl ⟨rfl,h3,hss,by unfold cr;rw[if_neg (by omega),if_neg (by omega),if_pos rfl]⟩))
       ·exact .inr (.inr (.inr (.inl ⟨rfl,h4,hss,hm,hp,hi,by unfold cr;rw[if_neg (by omega),if_neg (by omega),if_neg (by omega),if_pos rfl]⟩)))
       ·exact .inr (.inr (.inr (.inr ⟨rfl,h4,hss,hm,hp,by unfold cr;rw[if_neg (by omega),if_neg (by omega),if_neg (by omega),if_neg (by omega),if_pos rfl]⟩)))
 ·exact .inl ⟨hE,by unfold bu;rw[if_pos hE]⟩
theorem mh (s:Sh):(fZ s).st=5∧(fZ s).ss=s.ss∧(fZ s).nm=s.nm∧(fZ s).sn=s.sn∧aE (fZ s).v=false:=by
 obtain⟨_,f2,f3,f4,_⟩:=cD s 80
 exact⟨rfl,f2,f3,f4,lE _⟩
end
end Go.Proofs.YtenilkloffnjlaaGreat
namespace Go.Proofs.YtenilkloffnjlaaGreat
open Tryz
open Go.RowKit Go.Maps
set_option linter.unusedVariables false
theorem oe {k c s n f len:Nat} {bs:Nat→Nat} (hc:c<4294967296) (hs:s<4294967296) (hn:n<4294967296):(cS k c s n f len bs).1=0∨Told (cS k c s n f len bs) k c s n f len bs:=by
 by_cases h:LW k c s n f len len=0
 ·exact .inr (fK hc hs hn h)
 ·left
  unfold cS
  rw[if_neg h]
  rfl
def xN (P:Pm) (ap:Nat→Nat) (F:Fm):Prop:=F.1=0∨∃ k s n f len bs,Told F k P.c s n f len bs∧((17≤k∧k≤22∧k≠20∧k≠21∧n=0)∨(k=20∧n<P.n∧len=P.i∧bs=ap)∨(k=21∧n=P.n))
section
variable {P:Pm} {mx n:Nat} {s:Sd}
theorem iM (ap:Nat→Nat):xN P ap cZ:=.inl rfl
theorem fT (hP:Pok P) (ap:Nat→Nat) {s:Sd} (hs:s.ss<4294967296) {k:Nat} (hk:k=17∨k=18∨k=19∨k=22) (fl len:Nat) (bs:Nat→Nat):xN P ap (dK P s k 0 fl len bs):=by
 unfold dK
 rcases oe (k:=k) (f:=fl) (len:=len) (bs:=bs) hP.c hs (by decide:0<4294967296) with h | h
 ·exact .inl h
 ·exact .inr ⟨_,_,_,_,_,_,h,.inl ⟨by omega,by omega,by omega,by omega,rfl⟩⟩
theorem tv (hP:Pok P) (ap:Nat→Nat) (M:Mo mx n s) (hu:s.st≠6):xN P ap (bL P mx n s).f:=by
 have hv:=wg (mx:=mx) (n:=n) (s:=s.ms) M.n10 (M.off hu) M.l0 M.mxl
 have hm:=M.mxl
 unfold bL
 generalize nx mx n s.ms.bs false s.ms=X at *
 split
 ·exact fT hP ap (by show 0<4294967296;decide) (by omega) _ _ _
 ·split
  ·exact iM ap
  ·next e0=>
   have e0:X.e=0:=by simpa using e0
   refine fT hP ap ?_ (by omega) _ _ _
   show X.v<4294967296
   have:=hv.1 e0
   omega
theorem ve (hP:Pok P) (ap:Nat→Nat) (M:Mo mx n s) (hs:s.ss<4294967296) (hu:s.st≠6):xN P ap (cj P mx n s).f:=by
 unfold cj
 split
 ·exact fT hP ap (gS hs) (by omega) _ _ _
 ·split
  ·exact fT hP ap (gS hs) (by omega) _ _ _
  ·exact tv hP ap M.odd (jX hu)
theorem vd (hP:Pok P) (iv:Iv P s) (M:Mo mx n s) (hu:s.st≠6) (k ss num fl len:Nat) (bs:Nat→Nat):xN P s.ap (bc P mx n s k ss num fl len bs).f:=by
 have r:∀ x:Int,xN P s.ap (aW P s x).f:=fun x=>fT hP _ (gS iv.ss) (by omega) _ _ _
 unfold bc
 split
 ·split
  ·exact ve hP _ M iv.ss hu
  ·exact r _
 ·split
  ·split
   ·refine fT hP _ ?_ (by omega) _ _ _
    unfold bN
    split <;> exact iv.ss
   ·exact r _
  ·split
   ·refine fT hP _ ?_ (by omega) _ _ _
    unfold cN
    split <;> exact iv.ss
   ·split
    ·next q=>
     have h1:=(iv.run q.2.1.2.1)
     have hn:=hP.n
     have hq:=q.2.1.2.2
     have hq2:=q.2.2.1
     unfold dK
     rcases oe (k:=20) (s:=(cV s num fl bs).ss) (n:=s.sn+1) (f:=iu (cV s num fl bs)) (len:=P.i) (bs:=s.ap) hP.c iv.ss (by omega) with h | h
     ·exact .inl h
     ·exact .inr ⟨_,_,_,_,_,_,h,.inr (.inl ⟨rfl,by omega,rfl,rfl⟩)⟩
    ·split
     ·have hs:(eG P s).ss<4294967296:=by
       show (aN (jJ { s with nm:=P.n }) 80).ss<4294967296
       rw[(gu _ _).2.1]
       exact iv.ss
      unfold dK
      rcases oe (k:=21) (s:=(kG (eG P s)).ss) (n:=P.n) (f:=0) (len:=0) (bs:=fun _=>0) hP.c hs hP.n with h | h
      ·exact .inl h
      ·exact .inr ⟨_,_,_,_,_,_,h,.inr (.inr ⟨rfl,rfl⟩)⟩
     ·exact r _
theorem uZ (hP:Pok P) (iv:Iv P s) (M:Mo mx n s) (len:Nat) (bs:Nat→Nat):xN P s.ap (ay P mx n s len bs).f:=by
 have hh:s.st≠6→xN P s.ap (bR P mx n s len bs).f:=by
  intro hu
  unfold bR
  split
  ·exact iM _
  ·split
   ·exact iM _
   ·split
    ·exact iM _
    ·exact vd hP iv M hu _ _ _ _ _ _
 unfold ay
 split
 ·exact iM _
 ·next hu=>
  split
  ·exact hh hu
  ·exact hh hu
end
def Hsy (P:Pm) (s:Sh) (F:Fm):Prop:=∃ k t n f len bs,Told F k P.c t n f len bs∧((1≤k∧k≤3∧n=0)∨(k=4∧n<P.n∧len=P.o∧bs=s.ap)∨(k=5∧n=P.n∧(aM P s).st=5∧(aM P s).v.lat≠0))
theorem vE {P:Pm} {s:Sh} (hP:Pok P) (hv:Ih P s):(aL P s).1=0∨Hsy P s (aL P s):=by
 by_cases h5:s.st=5
 ·left
  unfold aL
  rw[if_pos h5]
  rfl
 ·right
  rcases (pr hP hv h5).2 with ⟨k,S,hk,⟨len,bs,t⟩,_⟩ | ⟨_,hn,t,_⟩ | ⟨_,hn,⟨len,bs,t⟩,h1,_,_,h2⟩
  ·exact⟨k,S,0,0,len,bs,t,.inl ⟨by omega,by omega,rfl⟩⟩
  ·exact⟨_,_,_,_,_,_,t,.inr (.inl ⟨rfl,hn,rfl,rfl⟩)⟩
  ·exact⟨_,_,_,_,_,_,t,.inr (.inr ⟨rfl,hn,h1,h2⟩)⟩
theorem ud (S:Ws) {m:Mv} (hb:S.bad m=0):((S.play m).i = -1∧(S.play m).S.bg=S.bg)∨∃ F:Fm,(S.play m).i=((S.bg.length:Nat):Int)∧(S.play m).S.bg=S.bg ++ [F]∧F.1≠0 ∧
  ((m.k=2∧F=aL (S.PH m.c.toNat) (S.hs m.c.toNat))∨((m.k=3∨m.k=4)∧m.s≠1∧F=(ay (S.PD m.c.toNat) S.mx 16 (S.ds m.c.toNat) (S.fr m).1 (S.fr m).2).f)):=by
 have hp:S.play m=⟨(S.up.act m).e,(S.up.act m).i,(S.up.act m).S.note [oH (S.up.act m).S m.c.toNat,oD (S.up.act m).S m.c.toNat]⟩:=by
  unfold Ws.play
  rw[if_neg (fun q=>q hb)]
  rfl
 have hput:∀ (T:Ws) (k s:Nat) (F:Fm),T.bg=S.bg→((T.putI F = -1∧(T.put k s F).bg=S.bg)∨(T.putI F=((S.bg.length:Nat):Int)∧(T.put k s F).bg=S.bg ++ [F]∧F.1≠0)):=by
  intro T k s F e
  unfold Ws.putI Ws.put
  by_cases z:F.1=0
  ·rw[if_pos z,if_pos z]
   exact .inl ⟨rfl,e⟩
  ·rw[if_neg z,if_neg z]
   exact .inr ⟨by rw[e],by show T.bg ++ [F]=_;rw[e],z⟩
 rw[hp]
 show ((S.up.act m).i = -1∧(S.up.act m).S.bg=S.bg)∨∃ F:Fm,(S.up.act m).i=((S.bg.length:Nat):Int)∧(S.up.act m).S.bg=S.bg ++ [F]∧F.1≠0∧_
 unfold Ws.act
 dsimp only
 split
 ·split
  ·exact .inl ⟨rfl,rfl⟩
  ·exact .inl ⟨rfl,rfl⟩
 ·split
  ·next h2=>
   unfold Ws.snd
   dsimp only
   rcases hput (S.up.setH m.c.toNat (aM (S.up.PH m.c.toNat) (S.up.hs m.c.toNat))) m.c.toNat 1 (aL (S.up.PH m.c.toNat) (S.up.hs m.c.toNat)) rfl with h | h
   ·exact .inl h
   ·exact .inr ⟨_,h.1,h.2.1,h.2.2,.inl ⟨h2,rfl⟩⟩
  ·split
   ·next h3=>
    split
    ·unfold Ws.toH
     dsimp only
     split
     ·exact .inl ⟨rfl,rfl⟩
     ·exact .inl ⟨rfl,rfl⟩
    ·next s1=>
     unfold Ws.toD
     dsimp only
     rcases hput (S.up.toD2 m.c.toNat (S.up.fr m)) m.c.toNat 2 (ay (S.up.PD m.c.toNat) S.up.mx 16 (S.up.ds m.c.toNat) (S.up.fr m).1 (S.up.fr m).2).f (sV _ _ _) with h | h
     ·exact .inl h
     ·exact .inr ⟨_,h.1,h.2.1,h.2.2,.inr ⟨h3,s1,rfl⟩⟩
   ·split
    ·split
     ·exact .inl ⟨rfl,rfl⟩
     ·exact .inl ⟨rfl,rfl⟩
    ·split
     ·split
      ·exact .inl ⟨rfl,rfl⟩
      ·exact .inl ⟨rfl,rfl⟩
     ·split
      ·split
       ·exact .inl ⟨rfl,rfl⟩
       ·exact .inl ⟨rfl,rfl⟩
      ·exact .inl ⟨rfl,rfl⟩
theorem ub {S:Ws} (I:S.In) (K:S.Kn) {m:Mv} (hb:S.bad m=0):((S.play m).i = -1∧(S.play m).S.bg=S.bg)∨∃ F:Fm,(S.play m).i=((S.bg.length:Nat):Int)∧(S.play m).S.bg=S.bg ++ [F] ∧
  ((m.k=2∧Hsy (S.PH m.c.toNat) (S.hs m.c.toNat) F)∨(m.k≠2∧m.s≠1∧xN (S.PD m.c.toNat) (S.ds m.c.toNat).ap F∧F.1≠0)):=by
 have l:=Ws.Law.of hb
 have hk:=l.kn
 rcases ud S hb with h | ⟨F,h1,h2,h3,⟨h4,e⟩ | ⟨h4,h5,e⟩⟩
 ·exact .inl h
 ·refine .inr ⟨F,h1,h2,.inl ⟨h4,?_⟩⟩
  rcases vE (K.ph _ hk) (I.ih _ hk) with y | y
  ·rw[← e]at y
   exact absurd y h3
  ·rw[← e]at y
   exact y
 ·refine .inr ⟨F,h1,h2,.inr ⟨by omega,h5,?_,h3⟩⟩
  have:=uZ (K.pd _ hk) (I.iv _ hk) (K.mo _ hk) (S.fr m).1 (S.fr m).2
  rw[← e]at this
  exact this
end Go.Proofs.YtenilkloffnjlaaGreat
namespace Go.Proofs.YtenilkloffnjlaaGreat
open Tryz
open Go.RowKit Go.Maps
set_option linter.unusedVariables false
structure Pq where
 c:Nat
 o:Int
 i:Int
 t:Int
 n:Nat
def Pq.cs (p:Pq):List Value:=[.int .u32 (p.c:Nat),.int .i64 p.o,.int .i64 p.i,.int .i64 p.t,.int .u32 (p.n:Nat)]
def PqRow (w:World) (a:Option Addr) (len:Nat) (P:Nat→Pq):Prop:=∀ i,i<len→∃ q off,a=af q off∧∀ j u,(P i).cs[j]?=some u→w.cell? ⟨q,off+i*5+j,none⟩=some u
theorem PqRow.below {w w':World} {a:Option Addr} {len:Nat} {P:Nat→Pq} (h:PqRow w a len P) (b:Below w.heap.size w w'):PqRow w' a len P:=fun i hi=>by
 obtain⟨q,off,e,c⟩:=h i hi
 exact⟨q,off,e,fun j u hu=>ag (c j u hu) b⟩
def jt:Value→Nat
 | .int _ i=>i.toNat
 | _=>0
def jQ (P:Nat→Pq) (l c:Nat):Bool:=(List.range l).any fun i=>(P i).c == c
theorem tE (P:Nat→Pq) (l c:Nat):jQ P (l+1) c=(jQ P l c || ((P l).c == c)):=by
 unfold jQ
 rw[List.range_succ,List.any_append]
 simp
theorem ab4 (p:Pq) (x c:Nat) (w:World) (cx:w.cell? ⟨x,0,none⟩=some (.int .u32 (c:Nat))):Calls prog 72 #[.agg #[.int .u32 (p.c:Nat),.int .i64 p.o,.int .i64 p.i,.int .i64 p.t,.int .u32 (p.n:Nat)],ac x 0] w fun r w'=>r=.returned (.bool (((p.c:Nat):Int) == ((c:Nat):Int)))∧Below w.heap.size w w':=by
 have kA:=aB w (.cells #[.int .u32 (p.c:Nat),.int .i64 p.o,.int .i64 p.i,.int .i64 p.t,.int .u32 (p.n:Nat)] 83)
 have bA:=aF (Below.refl _ w) (.cells #[.int .u32 (p.c:Nat),.int .i64 p.o,.int .i64 p.i,.int .i64 p.t,.int .u32 (p.n:Nat)] 83)
 have c1:=ag cx bA
 obtain⟨wa,hwa⟩:∃ z,w.alloc (.cells #[.int .u32 (p.c:Nat),.int .i64 p.o,.int .i64 p.i,.int .i64 p.t,.int .u32 (p.n:Nat)] 83)=z:=⟨_,rfl⟩
 rw[hwa]at kA bA c1
 obtain⟨y,hy⟩:∃ z,w.heap.size=z:=⟨_,rfl⟩
 have HB:Hid (Below w.heap.size w wa):=bA
 rw[hy]at kA
 have q0:wa.cell? ⟨y,0,none⟩=some (.int .u32 (p.c:Nat)):=ae wa y 0 _ _ _ kA
 have HE:Hid (_=wa):=hwa
 have HS:Hid (w.heap.size=y):=hy
 clear kA bA hwa hy cx
 go_enter func72,ntmps72
 go_upto_region 1 with fail
 rw[HE.out,HS.out]
 go_wp2_with fail
 go_ret
 exact⟨rfl,HB.out⟩
theorem yU (a:Option Addr) (len cap:Nat) (P:Nat→Pq) (x c:Nat) (w:World) (hr:PqRow w a len P) (cx:w.cell? ⟨x,0,none⟩=some (.int .u32 (c:Nat))) (hlen:len≤1000000):Calls prog 96 #[.slice a len cap,(.func (.func 72) #[] #[ac x 0])] w fun r w'=>∃ k:Int,r=.returned (.int .i64 k)∧Hid ((decide (0≤k))=jQ P len c∧Below w.heap.size w w'):=by
 have HW:Hid (PqRow w a len P):=hr
 have HX:Hid (_):=cx
 clear hr cx
 go_enter func96,ntmps96
 go_wp2_with fail
 go_loopw [4,5,8,9,10,11,12,13,14,15,16,17,18] (fun _ _ c0 _ _ _ _ _ _ _ _ _ _ wr=>∃ i:Nat,i≤len∧c0=.int .i64 ((i:Nat):Int)∧Hid (jQ P i c=false∧Below w.heap.size w wr)) (fun _ _ c0 _ _ _ _ _ _ _ _ _ _ _=>len-jt c0)
 case atStart=>exact⟨0,by omega,rfl,rfl,Below.refl _ _⟩
 case round=>
  obtain⟨i,hi,rfl,HI⟩:=hrel
  by_cases hlt:i<len
  rotate_left
  ·obtain rfl:i=len:=by omega
   have hlt':¬ ((i:Nat):Int) < ((i:Nat):Int):=by omega
   go_wp2_with fail
   go_ret
   exact⟨-1,rfl,by rw[HI.out.1] <;> rfl,HI.out.2⟩
  have hlt':((i:Nat):Int) < ((len:Nat):Int):=by omega
  have hw1:IntKind.i64.wrap (((i:Nat):Int)+1)=((i+1:Nat):Int):=by rw[IntKind.wrap_i64];omega
  obtain⟨q,off,ea,cc⟩:=(PqRow.below HW.out HI.out.2) i hlt
  subst ea
  obtain⟨p,hP⟩:∃ y,P i=y:=⟨_,rfl⟩
  rw[hP]at cc
  have c0:wr.cell? ⟨q,off+i*5,none⟩=some (.int .u32 (p.c:Nat)):=cc 0 _ rfl
  have c1:wr.cell? ⟨q,off+i*5+1,none⟩=some (.int .i64 p.o):=cc 1 _ rfl
  have c2:wr.cell? ⟨q,off+i*5+2,none⟩=some (.int .i64 p.i):=cc 2 _ rfl
  have c3:wr.cell? ⟨q,off+i*5+3,none⟩=some (.int .i64 p.t):=cc 3 _ rfl
  have c4:wr.cell? ⟨q,off+i*5+4,none⟩=some (.int .u32 (p.n:Nat)):=cc 4 _ rfl
  have hC:=ab4 p x c wr (ag HX.out HI.out.2)
  have HP:Hid (_):=hP
  clear cc hP
  by_cases hq:p.c=c
  ·rw[show (((p.c:Nat):Int) == ((c:Nat):Int))=true by rw[bf];exact decide_eq_true hq]at hC
   have HQ:Hid (p.c=c):=hq
   clear hq
   go_wp2_with fail
   refine hC.mono ?_
   rintro r w3 ⟨rfl,b3⟩
   go_wp2_with fail
   go_ret
   refine⟨((i:Nat):Int),rfl,?_,HI.out.2.trans (b3.mono HI.out.2.size)⟩
   rw[decide_eq_true (by omega)]
   refine (List.any_eq_true.2 ⟨i,List.mem_range.2 hlt,?_⟩).symm
   rw[HP.out]
   simpa using HQ.out
  ·rw[show (((p.c:Nat):Int) == ((c:Nat):Int))=false by rw[bf];exact decide_eq_false hq]at hC
   have HN:Hid (jQ P (i+1) c=false):=by
    show jQ P (i+1) c=false
    rw[tE,HI.out.1,HP.out]
    simpa using hq
   clear hq
   go_wp2_with fail
   refine hC.mono ?_
   rintro r w3 ⟨rfl,b3⟩
   have HB3:Hid (_):=b3
   clear b3 hC
   go_wp2_with fail
   exact⟨⟨i+1,by omega,by first | rfl | go_num,HN.out,HI.out.2.trans (HB3.out.mono HI.out.2.size)⟩,by simp only[jt];omega⟩
theorem rC (a:Option Addr) (len cap:Nat) (P:Nat→Pq) (x c:Nat) (w:World) (hr:PqRow w a len P) (cx:w.cell? ⟨x,0,none⟩=some (.int .u32 (c:Nat))) (hlen:len≤1000000):Calls prog 73 #[.slice a len cap,(.func (.func 72) #[] #[ac x 0])] w fun r w'=>r=.returned (.bool (jQ P len c))∧Hid (Below w.heap.size w w'):=by
 have hI:=yU a len cap P x c w hr cx hlen
 obtain⟨B,hB⟩:∃ y,jQ P len c=y:=⟨_,rfl⟩
 rw[hB]at hI ⊢
 clear hr cx hB
 go_enter func73,ntmps73
 go_wp2_with fail
 refine hI.mono ?_
 rintro r w2 ⟨k,rfl,H⟩
 go_wp2_with fail
 go_ret
 exact⟨by rw[← H.out.1] <;> rfl,H.out.2⟩
end Go.Proofs.YtenilkloffnjlaaGreat
