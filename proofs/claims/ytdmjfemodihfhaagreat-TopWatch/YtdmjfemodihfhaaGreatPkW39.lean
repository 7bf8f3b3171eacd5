/- Part 40: contracts that the proof rests on. -/
import Derived.Deep.DeepCutAuto
import Derived.Deep.CutBlock
import Derived.Deep.RegionWith
import Derived.Deep.QuietTactic
import Derived.BigQuiet
import Derived.Test.YtdmjfemodihfhaaGreatPkW38
set_option maxHeartbeats 64000000
set_option maxRecDepth 100000
namespace Go.Proofs.YtdmjfemodihfhaaGreat
set_option maxRecDepth 100000
open Go.RowKit Go.Maps
set_option linter.unusedVariables false
def dY:Value→Nat
 | .int _ i=>i.toNat
 | _=>0
structure Jt (S:Ws) (T:Nat→Nat):Prop where
 I:S.In
 n:S.n=2
 ph:S.PH=qh
 pd:S.PD=qh
 J:Jw S T
 o:∀ j,j<S.n→iZ (S.hs j).v
 b:∀ i,T i≤1073741824
theorem Jt.next {S:Ws} {T:Nat→Nat} (h:Jt S T) (K:S.Kn) {m:Mv} (hb:S.bad m=0):Jt (S.play m).S (bY S m T):=by
 obtain⟨fx1,fx2,_⟩:=mS h.I K m
 have hn:(S.play m).S.n=S.n:=yi S m
 refine⟨h.I.play K,by rw[hn];exact h.n,fx1.trans h.ph,fx2.trans h.pd,h.J.next h.I K h.n (fun j hj=>?_) hb,fun j hj=>wI h.I K m h.o j (by rw[← hn];exact hj),fun i=>?_⟩
 ·rw[h.ph,h.pd]
  have:(qh j).t=10+j:=rfl
  omega
 ·have hp:∀ a v,v≤1073741824→aS T a v i≤1073741824:=fun a v hv=>by
   unfold aS
   split
   ·exact hv
   ·exact h.b i
  unfold bY
  split
  ·split
   ·exact hp _ _ (by omega)
   ·exact h.b i
  ·split
   ·exact hp _ _ (by omega)
   ·split
    ·exact hp _ _ (by omega)
    ·exact h.b i
theorem Jt.start:Jt (sN 2 50 qh qh) (fun _=>0):=⟨yJ _ _ _ _,rfl,rfl,rfl,fun j hj=>⟨Wt.zero (by show 1≤10+j;omega) _,Wt.zero (by show 1≤10+j;omega) _⟩,(fun j hj e=>by cases e),fun _=>by decide⟩
theorem Jt.on {S:Ws} {T:Nat→Nat} (h:Jt S T) {j:Nat} (hj:j<2):((S.PH j).t≤T (2*j)→ax (S.hs j).v=false∧(S.hs j).v.lat≠0)∧((S.PD j).t≤T (2*j+1)→ax (S.ds j).v=false∧(S.ds j).v.lat≠0):=h.J.on h.I h.o h.n hj
theorem mj {S:Ws} {m:Mv} (h:m.k=3∨m.k=4) (e:S.actEF m=0∨S.actEF m=70) (T:Nat→Nat):bY S m T=aS T (2*m.c.toNat+m.s.toNat-1) 0:=by unfold bY;rw[if_pos h,if_pos e]
theorem uC {S:Ws} {m:Mv} (h:m.k=3∨m.k=4) (e:¬ (S.actEF m=0∨S.actEF m=70)) (T:Nat→Nat):bY S m T=T:=by unfold bY;rw[if_pos h,if_neg e]
theorem xo {S:Ws} {m:Mv} (h:m.k=7) (T:Nat→Nat):bY S m T=aS T (2*m.c.toNat+m.s.toNat-1) 0:=by unfold bY;rw[if_neg (by omega),if_pos h]
theorem xF {S:Ws} {m:Mv} (h:m.k=5) (e:S.actEF m=0) (T:Nat→Nat):bY S m T=aS T (2*m.c.toNat+m.s.toNat-1) (min 1073741824 (T (2*m.c.toNat+m.s.toNat-1)+m.n.toNat)):=by unfold bY;rw[if_neg (by omega),if_neg (by omega),if_pos ⟨h,e⟩]
theorem ti {S:Ws} {m:Mv} (h3:¬ (m.k=3∨m.k=4)) (h7:¬ m.k=7) (h:¬ (m.k=5∧S.actEF m=0)) (T:Nat→Nat):bY S m T=T:=by unfold bY;rw[if_neg h3,if_neg h7,if_neg h]
theorem mG {w:World} {g:Nat} (h:PqRow w (some ⟨g,0,none⟩) 2 i7) (j:Nat) (hj:j<2):w.cell? ⟨g,5*j+3,none⟩=some (.int .i64 ((10+j:Nat):Int)):=by
 obtain⟨b,off,e,hc⟩:=h j hj
 obtain⟨rfl,rfl,_⟩:=Addr.mk.inj (Option.some.inj e)
 have:=hc 3 (.int .i64 ((10+j:Nat):Int)) (by rfl)
 rw[show 5*j+3=0+j*5+3 by omega]
 exact this
theorem lD (a:Option Addr) (len cap:Nat) (w:World) (O:OpRow w a len):Calls Tryz.prog 5 #[.slice a len cap] w fun r w'=>r=.returned (.bool true)∧Below w.heap.size w w':=by
 have HO:Hid (OpRow w a len):=O
 have hlen:=O.1
 clear O
 have hNe:=zL w
 have hMk:=fun wx=>zS wx
 go_enter Tryz.func5,Tryz.ntmps5
 go_wp2_with fail
 refine hNe.mono ?_
 rintro r w0 ⟨g0,c0,g1,c1,rfl,H1⟩
 clear hNe
 have k2:=au w0 (.cells #[.slice (some ⟨g0,0,none⟩) 2 c0,.slice (some ⟨g1,0,none⟩) 2 c1,.int .u32 50] 30)
 have b2:=ay (Below.refl _ w0) (.cells #[.slice (some ⟨g0,0,none⟩) 2 c0,.slice (some ⟨g1,0,none⟩) 2 c1,.int .u32 50] 30)
 obtain⟨w1,hw1⟩:∃ z,w0.alloc (.cells #[.slice (some ⟨g0,0,none⟩) 2 c0,.slice (some ⟨g1,0,none⟩) 2 c1,.int .u32 50] 30)=z:=⟨_,rfl⟩
 obtain⟨nb,hnb⟩:∃ z,w0.heap.size=z:=⟨_,rfl⟩
 rw[hw1]at k2 b2
 rw[hnb]at k2
 have y0:w1.cell? ⟨nb,0,none⟩=some (.slice (some ⟨g0,0,none⟩) 2 c0):=ac w1 nb 0 _ _ _ k2
 have y1:w1.cell? ⟨nb,1,none⟩=some (.slice (some ⟨g1,0,none⟩) 2 c1):=ac w1 nb 1 _ _ _ k2
 have y2:w1.cell? ⟨nb,2,none⟩=some (.int .u32 50):=ac w1 nb 2 _ _ _ k2
 have hN:Calls Tryz.prog 11 #[.agg #[.slice (some ⟨g0,0,none⟩) 2 c0,.slice (some ⟨g1,0,none⟩) 2 c1,.int .u32 50]] w1 fun r w'=>∃ L:Pw,r=.returned (.tuple #[.pointer (some ⟨L.x,0,none⟩),.int .i64 0])∧Hid (PW ev w1 w' (fo L) L∧L.S=sN 2 50 qh qh):=xg qh qh g0 0 c0 g1 0 c1 2 50 qx qx (by decide) (by decide) (by decide) (by decide) H1.out.1 H1.out.2.1 w1 (H1.out.2.2.1.below b2) (H1.out.2.2.2.1.below b2) vV
 have HB1:Hid (Below w.heap.size w w1):=H1.out.2.2.2.2.trans (b2.mono H1.out.2.2.2.2.size)
 have HN:Hid (w1.cell? ⟨nb,0,none⟩=some (.slice (some ⟨g0,0,none⟩) 2 c0)∧w1.cell? ⟨nb,1,none⟩=some (.slice (some ⟨g1,0,none⟩) 2 c1)∧(∀ j,j<2→w1.cell? ⟨g0,5*j+3,none⟩=some (.int .i64 ((10+j:Nat):Int)))∧∀ j,j<2→w1.cell? ⟨g1,5*j+3,none⟩=some (.int .i64 ((10+j:Nat):Int))):=⟨y0,y1,mG (H1.out.2.2.1.below b2),mG (H1.out.2.2.2.1.below b2)⟩
 clear H1 k2 b2
 go_wp2_with fail
 refine hN.mono ?_
 rintro r w2 ⟨L,rfl,H2⟩
 clear hN y0 y1 y2 hw1 hnb
 obtain⟨X,hX⟩:∃ y,L.x=y:=⟨_,rfl⟩
 rw[hX]
 have HX:Hid (L.x=X):=hX
 clear hX
 have hAw:=sV w2
 go_wp2_with fail
 refine hAw.mono ?_
 rintro r w3 ⟨rfl,b3⟩
 clear hAw
 have k4:=au w3 (.cells #[.int .i64 0,.int .i64 0,.int .i64 0,.int .i64 0] 3)
 have b4:=ay (Below.refl _ w3) (.cells #[.int .i64 0,.int .i64 0,.int .i64 0,.int .i64 0] 3)
 obtain⟨w4,hw4⟩:∃ y,w3.alloc (.cells #[.int .i64 0,.int .i64 0,.int .i64 0,.int .i64 0] 3)=y:=⟨_,rfl⟩
 rw[hw4]at k4 b4
 obtain⟨q,hq⟩:∃ y,w3.heap.size=y:=⟨_,rfl⟩
 have HS0:Hid (∃ S T,Jt S T∧PWn ev w1 (aA (fo L) (2*0+1) (cH [(q,iA T)])) L w4 S):=by
  have hp:=H2.out.1.n
  rw[H2.out.2]at hp
  exact⟨_,fun _=>0,Jt.start,(hp.below b3).layL b4 (fun j=>by unfold ev;omega) (fun p hp=>by
   simp only[List.mem_cons,List.not_mem_nil,or_false]at hp
   subst hp
   rw[← hq]
   exact k4) (fun p hp=>by
   simp only[List.mem_cons,List.not_mem_nil,or_false]at hp
   subst hp
   rw[← hq]
   exact Nat.le_refl _)⟩
 clear b3 b4 k4 H2
 go_wp2_with fail
 clear hMk hw4 hq
 go_loopw [7,8,9,10,11,12,13,14,28,29,30,31,32,33,34,35,36,37,38,39,40,41,42,43,44,45,46,47,48,49,50,51,52,53,54,55,56,57,58,59,60,61,62,63,64,65,66,67,68,69,70,71,72,73,74,75,76,77,78,79,80,81,82,83,84,85,86,87,88,89,90,91,92,93,94,95,96,97,98,99,100,101,102,103,104,105,106,107,108,109,110,111,112,113,114,115,116,117,118,119,120,121,122,123,124,125,126,127,128,129,130,131,132,133,134,135,136,137,138,139,140,141,142,143,144,145,146,147,148,149,150,151,152] (fun i _ _ _ _ _ _ _ _ _ _ _ _ _ _ _ _ _ _ _ _ _ _ _ _ _ _ _ _ _ _ _ _ _ _ _ _ _ _ _ _ _ _ _ _ _ _ _ _ _ _ _ _ _ _ _ _ _ _ _ _ _ _ _ _ _ _ _ _ _ _ _ _ _ _ _ _ _ _ _ _ _ _ _ _ _ _ _ _ _ _ _ _ _ _ _ _ _ _ _ _ _ _ _ _ _ _ _ _ _ _ _ _ _ _ _ _ _ _ _ _ _ _ _ _ _ _ _ _ _ _ _ _ wr=>∃ k:Nat,k≤len∧k≤300∧i=.int .i64 ((k:Nat):Int)∧Hid (∃ S T,Jt S T∧PWn ev w1 (aA (fo L) (2*0+1) (cH [(q,iA T)])) L wr S)) (fun i _ _ _ _ _ _ _ _ _ _ _ _ _ _ _ _ _ _ _ _ _ _ _ _ _ _ _ _ _ _ _ _ _ _ _ _ _ _ _ _ _ _ _ _ _ _ _ _ _ _ _ _ _ _ _ _ _ _ _ _ _ _ _ _ _ _ _ _ _ _ _ _ _ _ _ _ _ _ _ _ _ _ _ _ _ _ _ _ _ _ _ _ _ _ _ _ _ _ _ _ _ _ _ _ _ _ _ _ _ _ _ _ _ _ _ _ _ _ _ _ _ _ _ _ _ _ _ _ _ _ _ _ _=>len-dY i)
 case atStart=>exact⟨0,by omega,by omega,rfl,HS0⟩
 case round=>
  obtain⟨k,hk,hk3,rfl,HI⟩:=hrel
  clear HS0
  by_cases hlt:k<len
  ·have hlt':((k:Nat):Int) < ((len:Nat):Int):=by omega
   by_cases h3:k<300
   ·have h3':((k:Nat):Int)<300:=by omega
    obtain⟨b,off,rfl,hb,hm⟩:=HO.out.2 (by omega)
    obtain⟨m,d,ok,R,hl,hcl⟩:=hm k hlt
    obtain⟨S,T,g,hp⟩:=HI.out
    have hbr:Below w.heap.size w wr:=by
     obtain⟨t9,L9,h9,_⟩:=hp
     exact HB1.out.trans (h9.1.bel.mono HB1.out.size)
    have p0:wr.cell? ⟨b,off+k*9,none⟩=some (.int .i64 m.k):=af (hcl 0 _ rfl) hbr
    have p1:wr.cell? ⟨b,off+k*9+1,none⟩=some (.int .i64 m.c):=af (hcl 1 _ rfl) hbr
    have p2:wr.cell? ⟨b,off+k*9+2,none⟩=some (.int .i64 m.s):=af (hcl 2 _ rfl) hbr
    have p3:wr.cell? ⟨b,off+k*9+3,none⟩=some (.int .i64 m.f):=af (hcl 3 _ rfl) hbr
    have p4:wr.cell? ⟨b,off+k*9+4,none⟩=some (.int .i64 m.a):=af (hcl 4 _ rfl) hbr
    have p5:wr.cell? ⟨b,off+k*9+5,none⟩=some (.int .u32 (m.w:Nat)):=af (hcl 5 _ rfl) hbr
    have p6:wr.cell? ⟨b,off+k*9+6,none⟩=some (.int .i64 m.n):=af (hcl 6 _ rfl) hbr
    have p7:wr.cell? ⟨b,off+k*9+7,none⟩=some (.bool m.h):=af (hcl 7 _ rfl) hbr
    have p8:wr.cell? ⟨b,off+k*9+8,none⟩=some (.slice d.a m.l d.c):=af (hcl 8 _ rfl) hbr
    have hCo:=xI m d.a d.c wr (R.below hbr) hl
    have HG:Hid (_):=And.intro g (And.intro ok hl)
    have HKn:Hid (S.Kn):=hp.kn
    have HP:Hid (PWn ev w1 (aA (fo L) (2*0+1) (cH [(q,iA T)])) L wr S):=hp
    clear hm R hcl g hp hbr ok hl hb HI
    go_wp2_with fail
    refine hCo.mono ?_
    rintro r w6 ⟨d6,c6,rfl,H6⟩
    clear hCo p0 p1 p2 p3 p4 p5 p6 p7 p8
    have kM:=au w6 (.cells #[.int .i64 m.k,.int .i64 m.c,.int .i64 m.s,.int .i64 m.f,.int .i64 m.a,.int .u32 (m.w:Nat),.int .i64 m.n,.bool m.h,.slice d6 m.l c6] 39)
    have bM:=ay (Below.refl _ w6) (.cells #[.int .i64 m.k,.int .i64 m.c,.int .i64 m.s,.int .i64 m.f,.int .i64 m.a,.int .u32 (m.w:Nat),.int .i64 m.n,.bool m.h,.slice d6 m.l c6] 39)
    obtain⟨w7,hw7⟩:∃ y,w6.alloc (.cells #[.int .i64 m.k,.int .i64 m.c,.int .i64 m.s,.int .i64 m.f,.int .i64 m.a,.int .u32 (m.w:Nat),.int .i64 m.n,.bool m.h,.slice d6 m.l c6] 39)=y:=⟨_,rfl⟩
    rw[hw7]at kM bM
    have hp7:=(HP.out.below H6.out.2.1).layL bM (i:=2*1+1) (fun j=>by unfold ev;omega) (l:=[(w6.heap.size,.cells #[.int .i64 m.k,.int .i64 m.c,.int .i64 m.s,.int .i64 m.f,.int .i64 m.a,.int .u32 (m.w:Nat),.int .i64 m.n,.bool m.h,.slice d6 m.l c6] 39 (0,0))]) (fun p hp=>by
     simp only[List.mem_cons,List.not_mem_nil,or_false]at hp
     subst hp
     exact kM) (fun p hp=>by
     simp only[List.mem_cons,List.not_mem_nil,or_false]at hp
     subst hp
     exact Nat.le_refl _)
    obtain⟨pm,hpm⟩:∃ y,w6.heap.size=y:=⟨_,rfl⟩
    rw[hpm]at kM hp7
    have q0:w7.cell? ⟨pm,0,none⟩=some (.int .i64 m.k):=ac w7 pm 0 _ _ _ kM
    have q1:w7.cell? ⟨pm,1,none⟩=some (.int .i64 m.c):=ac w7 pm 1 _ _ _ kM
    have q2:w7.cell? ⟨pm,2,none⟩=some (.int .i64 m.s):=ac w7 pm 2 _ _ _ kM
    have q3:w7.cell? ⟨pm,3,none⟩=some (.int .i64 m.f):=ac w7 pm 3 _ _ _ kM
    have q4:w7.cell? ⟨pm,4,none⟩=some (.int .i64 m.a):=ac w7 pm 4 _ _ _ kM
    have q5:w7.cell? ⟨pm,5,none⟩=some (.int .u32 (m.w:Nat)):=ac w7 pm 5 _ _ _ kM
    have q6:w7.cell? ⟨pm,6,none⟩=some (.int .i64 m.n):=ac w7 pm 6 _ _ _ kM
    have q7:w7.cell? ⟨pm,7,none⟩=some (.bool m.h):=ac w7 pm 7 _ _ _ kM
    have q8:w7.cell? ⟨pm,8,none⟩=some (.slice d6 m.l c6):=ac w7 pm 8 _ _ _ kM
    have F2:Fre ev (aA (aA (fo L) (2*0+1) (cH [(q,iA T)])) (2*1+1) (cH [(pm,.cells #[.int .i64 m.k,.int .i64 m.c,.int .i64 m.s,.int .i64 m.f,.int .i64 m.a,.int .u32 (m.w:Nat),.int .i64 m.n,.bool m.h,.slice d6 m.l c6] 39 (0,0))])) 2:=((jb L).put _).put _
    have hPl:Calls Tryz.prog 15 #[.pointer (some ⟨X,0,none⟩),.agg #[.int .i64 m.k,.int .i64 m.c,.int .i64 m.s,.int .i64 m.f,.int .i64 m.a,.int .u32 (m.w:Nat),.int .i64 m.n,.bool m.h,.slice d6 m.l c6]] w7 fun r w'=>∃ (A:Array Value) (E:Int),r=.returned (.tuple #[.agg A,.int .i64 E])∧A.size=29∧A.all (·.oneCell')=true∧Hid (E=S.bad m∧PWn ev w1 (aA (aA (fo L) (2*0+1) (cH [(q,iA T)])) (2*1+1) (cH [(pm,.cells #[.int .i64 m.k,.int .i64 m.c,.int .i64 m.s,.int .i64 m.f,.int .i64 m.a,.int .u32 (m.w:Nat),.int .i64 m.n,.bool m.h,.slice d6 m.l c6] 39 (0,0))])) L w' (S.play m).S∧(S.bad m=0→∃ hV dV,RwC A hV dV S m)):=by
     have:=yl (i:=2) m d6 c6 hp7 F2 HG.out.1.I HG.out.2.1 (by rw[HG.out.1.n];decide) (H6.out.1.below bM) (fun y hy h0 e=>by
      have h1:=H6.out.2.2 y hy h0
      have h2:L.x<wr.heap.size:=by
       obtain⟨t9,L9,h9,_,hx9,_⟩:=HP.out
       rw[← hx9.x]
       exact (h9.2.wb h9.1).lt _ (by simp[Wc.U,Pw.core])
      omega) HG.out.2.2
     rw[HX.out]at this
     exact this
    clear kM bM hp7 F2 H6
    go_wp2_with fail
    refine hPl.mono ?_
    rintro r w8 ⟨A,E,rfl,hsA,hoA,H8⟩
    clear hPl hw7 hpm q0 q1 q2 q3 q4 q5 q6 q7 q8
    obtain⟨w9,hst1,hrg1,hbl1⟩:=j6 w8 hsA hoA
    obtain⟨rb,hrb⟩:∃ y,w8.heap.size=y:=⟨_,rfl⟩
    rw[hrb]at hrg1 hst1
    have hp8:=H8.out.2.1
    have kM8:=hp8.box (q:=2*1+1) (fun j=>by unfold ev;omega) (ai _ _ _) _ (List.mem_cons_self ..)
    have hp8':PWn ev w1 (aA (fo L) (2*0+1) (cH [(q,iA T)])) L w8 (S.play m).S:=hp8.drop (fun j=>by unfold ev;omega) (by rw[ag _ _ (by decide)];exact ((jb L) 1 (by decide)).2)
    have hp9:=hp8'.below hbl1
    by_cases hE:E=0
    ·have hb0:S.bad m=0:=by rw[← H8.out.1];exact hE
     have hEb:(E != 0)=false:=by simpa using hE
     obtain⟨hV,dV,sH,oH_,sD,oD_,eH,eD,a9,aH,aD⟩:=H8.out.2.2 hb0
     have kM9:=(hbl1.block pm (Array.getElem?_eq_some_iff.1 kM8).1).trans kM8
     have kq9:=hp9.box (q:=2*0+1) (fun j=>by unfold ev;omega) (ai _ _ _) _ (List.mem_cons_self ..)
     have z0:w9.cell? ⟨pm,0,none⟩=some (.int .i64 m.k):=ac w9 pm 0 _ _ _ kM9
     have z1:w9.cell? ⟨pm,1,none⟩=some (.int .i64 m.c):=ac w9 pm 1 _ _ _ kM9
     have z2:w9.cell? ⟨pm,2,none⟩=some (.int .i64 m.s):=ac w9 pm 2 _ _ _ kM9
     have z6:w9.cell? ⟨pm,6,none⟩=some (.int .i64 m.n):=ac w9 pm 6 _ _ _ kM9
     have zc:w9.cell? ⟨rb,9,none⟩=some (.int .i64 (S.play m).e):=hrg1 9 _ a9
     have HL:Hid (S.up.Law m m.c.toNat):=Ws.Law.of hb0
     have HB0:Hid (S.bad m=0):=hb0
     have hc01:0≤m.c∧m.c≤1:=by
      have h1:=HL.out.c
      have h2:m.c.toNat<2:=by rw[← HG.out.1.n];exact HL.out.kn
      omega
     have hc0:=hc01.1
     have hc1:=hc01.2
     subst hE
     clear H8 hp8 hp8' kM8 kM9 a9 aH aD hc01 hrg1 hbl1 hb0 sH oH_ sD oD_ eH eD
     go_upto_region 12 with fail
     go_upto_region 13 with fail
     obtain⟨av,hav⟩:∃ y,wrap64 (wrap64 (2*m.c+m.s)-1)=y:=⟨_,rfl⟩
     rw[hav]
     have HAV:Hid (wrap64 (wrap64 (2*m.c+m.s)-1)=av):=hav
     clear hav
     obtain⟨ce,hce⟩:∃ y,(S.play m).e=y:=⟨_,rfl⟩
     rw[hce]at zc
     have HPX:Hid (_):=And.intro hp9 kq9
     have HCE:Hid ((S.play m).e=ce):=hce
     have HAT:Hid (m.s=1∨m.s=2→av=((2*m.c.toNat+m.s.toNat-1:Nat):Int)∧2*m.c.toNat+m.s.toNat-1<4):=fun y=>by
      have h1:=HL.out.c
      have h2:m.c.toNat<2:=by rw[← HG.out.1.n];exact HL.out.kn
      have h3:=HAV.out
      have e1:wrap64 (2*m.c+m.s)=2*m.c+m.s:=by unfold wrap64;omega
      have e2:wrap64 (2*m.c+m.s-1)=2*m.c+m.s-1:=by unfold wrap64;omega
      rw[e1,e2]at h3
      omega
     clear hce hp9 kq9 hst1
     obtain⟨wX,hwX⟩:∃ y,w9=y:=⟨_,rfl⟩
     rw[hwX]at z0 z6 zc HPX ⊢
     clear hwX z1 z2
     go_upto_block 2 with fail
     go_cut [60,74,79] (fun _ _ _ wx=>Hid (∃ T2,Jt (S.play m).S T2∧PWn ev w1 (aA (fo L) (2*0+1) (cH [(q,iA T2)])) L wx (S.play m).S))
     case first=>
      obtain⟨hpX,kq⟩:=HPX.out
      by_cases h3:m.k=3
      ·have h3b:(m.k == 3)=true:=by simpa using h3
       obtain⟨hat,ha4⟩:=HAT.out (HL.out.sd (by omega) (by omega))
       obtain⟨a,ha⟩:∃ a:Nat,2*m.c.toNat+m.s.toNat-1=a:=⟨_,rfl⟩
       rw[ha]at hat ha4
       have ha4':((a:Nat):Int)<4:=by omega
       by_cases z:ce=0
       ·have zb:(ce == 0)=true:=by simpa using z
        obtain⟨cq,fq⟩:=dx kq ha4
        have hTo:=gt kq ha4 0
        have hpT:=hpX.turnB (fun j=>by unfold ev;omega) (Off.setCell q a _ _) hTo
        have hup:bY S m T=aS T a 0:=by rw[← ha];exact mj (by omega) (by rw[← (cC S HB0.out).2.2,HCE.out];exact .inl z) T
        have HT:Hid (∃ T2,Jt (S.play m).S T2∧PWn ev w1 (aA (fo L) (2*0+1) (cH [(q,iA T2)])) L (wX.setCell ⟨q,a,none⟩ (.int .i64 ((0:Nat):Int))) (S.play m).S):=⟨_,HG.out.1.next HKn.out HB0.out,by rw[hup];exact hpT⟩
        have HT':Hid (∃ T2,Jt (S.play m).S T2∧PWn ev w1 (aA (fo L) (2*0+1) (cH [(q,iA T2)])) L (wX.setCell ⟨q,a,none⟩ (.int .i64 0)) (S.play m).S):=HT
        clear HT hpT hpX kq hTo ha hup
        go_wp2_with fail
        go_meet
        case rel=>exact HT'
       ·have zb:(ce == 0)=false:=by simpa using z
        by_cases y:ce=70
        ·have yb:(ce == 70)=true:=by simpa using y
         obtain⟨cq,fq⟩:=dx kq ha4
         have hTo:=gt kq ha4 0
         have hpT:=hpX.turnB (fun j=>by unfold ev;omega) (Off.setCell q a _ _) hTo
         have hup:bY S m T=aS T a 0:=by rw[← ha];exact mj (by omega) (by rw[← (cC S HB0.out).2.2,HCE.out];exact .inr y) T
         have HT:Hid (∃ T2,Jt (S.play m).S T2∧PWn ev w1 (aA (fo L) (2*0+1) (cH [(q,iA T2)])) L (wX.setCell ⟨q,a,none⟩ (.int .i64 ((0:Nat):Int))) (S.play m).S):=⟨_,HG.out.1.next HKn.out HB0.out,by rw[hup];exact hpT⟩
         have HT':Hid (∃ T2,Jt (S.play m).S T2∧PWn ev w1 (aA (fo L) (2*0+1) (cH [(q,iA T2)])) L (wX.setCell ⟨q,a,none⟩ (.int .i64 0)) (S.play m).S):=HT
         clear HT hpT hpX kq hTo ha hup
         go_wp2_with fail
         go_meet
         case rel=>exact HT'
        ·have yb:(ce == 70)=false:=by simpa using y
         have hup:bY S m T=T:=uC (by omega) (fun u=>by rw[← (cC S HB0.out).2.2,HCE.out]at u;rcases u with u | u;exact z u;exact y u) T
         have HT:Hid (∃ T2,Jt (S.play m).S T2∧PWn ev w1 (aA (fo L) (2*0+1) (cH [(q,iA T2)])) L wX (S.play m).S):=⟨_,HG.out.1.next HKn.out HB0.out,by rw[hup];exact hpX⟩
         clear hpX kq hup
         go_wp2_with fail
         go_meet
         case rel=>exact HT
      have h3b:(m.k == 3)=false:=by simpa using h3
      by_cases h4:m.k=4
      ·have h4b:(m.k == 4)=true:=by simpa using h4
       obtain⟨hat,ha4⟩:=HAT.out (HL.out.sd (by omega) (by omega))
       obtain⟨a,ha⟩:∃ a:Nat,2*m.c.toNat+m.s.toNat-1=a:=⟨_,rfl⟩
       rw[ha]at hat ha4
       have ha4':((a:Nat):Int)<4:=by omega
       by_cases z:ce=0
       ·have zb:(ce == 0)=true:=by simpa using z
        obtain⟨cq,fq⟩:=dx kq ha4
        have hTo:=gt kq ha4 0
        have hpT:=hpX.turnB (fun j=>by unfold ev;omega) (Off.setCell q a _ _) hTo
        have hup:bY S m T=aS T a 0:=by rw[← ha];exact mj (by omega) (by rw[← (cC S HB0.out).2.2,HCE.out];exact .inl z) T
        have HT:Hid (∃ T2,Jt (S.play m).S T2∧PWn ev w1 (aA (fo L) (2*0+1) (cH [(q,iA T2)])) L (wX.setCell ⟨q,a,none⟩ (.int .i64 ((0:Nat):Int))) (S.play m).S):=⟨_,HG.out.1.next HKn.out HB0.out,by rw[hup];exact hpT⟩
        have HT':Hid (∃ T2,Jt (S.play m).S T2∧PWn ev w1 (aA (fo L) (2*0+1) (cH [(q,iA T2)])) L (wX.setCell ⟨q,a,none⟩ (.int .i64 0)) (S.play m).S):=HT
        clear HT hpT hpX kq hTo ha hup
        go_wp2_with fail
        go_meet
        case rel=>exact HT'
       ·have zb:(ce == 0)=false:=by simpa using z
        by_cases y:ce=70
        ·have yb:(ce == 70)=true:=by simpa using y
         obtain⟨cq,fq⟩:=dx kq ha4
         have hTo:=gt kq ha4 0
         have hpT:=hpX.turnB (fun j=>by unfold ev;omega) (Off.setCell q a _ _) hTo
         have hup:bY S m T=aS T a 0:=by rw[← ha];exact mj (by omega) (by rw[← (cC S HB0.out).2.2,HCE.out];exact .inr y) T
         have HT:Hid (∃ T2,Jt (S.play m).S T2∧PWn ev w1 (aA (fo L) (2*0+1) (cH [(q,iA T2)])) L (wX.setCell ⟨q,a,none⟩ (.int .i64 ((0:Nat):Int))) (S.play m).S):=⟨_,HG.out.1.next HKn.out HB0.out,by rw[hup];exact hpT⟩
         have HT':Hid (∃ T2,Jt (S.play m).S T2∧PWn ev w1 (aA (fo L) (2*0+1) (cH [(q,iA T2)])) L (wX.setCell ⟨q,a,none⟩ (.int .i64 0)) (S.play m).S):=HT
         clear HT hpT hpX kq hTo ha hup
         go_wp2_with fail
         go_meet
         case rel=>exact HT'
        ·have yb:(ce == 70)=false:=by simpa using y
         have hup:bY S m T=T:=uC (by omega) (fun u=>by rw[← (cC S HB0.out).2.2,HCE.out]at u;rcases u with u | u;exact z u;exact y u) T
         have HT:Hid (∃ T2,Jt (S.play m).S T2∧PWn ev w1 (aA (fo L) (2*0+1) (cH [(q,iA T2)])) L wX (S.play m).S):=⟨_,HG.out.1.next HKn.out HB0.out,by rw[hup];exact hpX⟩
         clear hpX kq hup
         go_wp2_with fail
         go_meet
         case rel=>exact HT
      have h4b:(m.k == 4)=false:=by simpa using h4
      by_cases h7:m.k=7
      ·have h7b:(m.k == 7)=true:=by simpa using h7
       obtain⟨hat,ha4⟩:=HAT.out (HL.out.sd (by omega) (by omega))
       obtain⟨a,ha⟩:∃ a:Nat,2*m.c.toNat+m.s.toNat-1=a:=⟨_,rfl⟩
       rw[ha]at hat ha4
       have ha4':((a:Nat):Int)<4:=by omega
       obtain⟨cq,fq⟩:=dx kq ha4
       have hTo:=gt kq ha4 0
       have hpT:=hpX.turnB (fun j=>by unfold ev;omega) (Off.setCell q a _ _) hTo
       have hup:bY S m T=aS T a 0:=by rw[← ha];exact xo h7 T
       have HT:Hid (∃ T2,Jt (S.play m).S T2∧PWn ev w1 (aA (fo L) (2*0+1) (cH [(q,iA T2)])) L (wX.setCell ⟨q,a,none⟩ (.int .i64 ((0:Nat):Int))) (S.play m).S):=⟨_,HG.out.1.next HKn.out HB0.out,by rw[hup];exact hpT⟩
       have HT':Hid (∃ T2,Jt (S.play m).S T2∧PWn ev w1 (aA (fo L) (2*0+1) (cH [(q,iA T2)])) L (wX.setCell ⟨q,a,none⟩ (.int .i64 0)) (S.play m).S):=HT
       clear HT hpT hpX kq hTo ha hup
       go_wp2_with fail
       go_meet
       case rel=>exact HT'
      have h7b:(m.k == 7)=false:=by simpa using h7
      by_cases h5:m.k=5
      ·have h5b:(m.k == 5)=true:=by simpa using h5
       obtain⟨hat,ha4⟩:=HAT.out (HL.out.sd (by omega) (by omega))
       obtain⟨a,ha⟩:∃ a:Nat,2*m.c.toNat+m.s.toNat-1=a:=⟨_,rfl⟩
       rw[ha]at hat ha4
       have ha4':((a:Nat):Int)<4:=by omega
       by_cases z:ce=0
       ·have zb:(ce == 0)=true:=by simpa using z
        obtain⟨cq,fq⟩:=dx kq ha4
        have hn5:=HL.out.n5 h5
        have hTb:T a≤1073741824:=HG.out.1.b a
        have hTo:=gt kq ha4 (min 1073741824 (T a+m.n.toNat))
        have hpT:=hpX.turnB (fun j=>by unfold ev;omega) (Off.setCell q a _ _) hTo
        have hup:bY S m T=aS T a (min 1073741824 (T a+m.n.toNat)):=by rw[← ha];exact xF h5 (by rw[← (cC S HB0.out).2.2,HCE.out];exact z) T
        obtain⟨ta,hta⟩:∃ y,T a=y:=⟨_,rfl⟩
        rw[hta]at cq hpT hTb hup
        obtain⟨N,hN⟩:∃ y:Nat,m.n=((y:Nat):Int):=⟨m.n.toNat,by omega⟩
        have hNt:m.n.toNat=N:=by omega
        rw[hNt]at hpT hup
        have hN2:N≤1048576:=by omega
        obtain⟨mn,hmn⟩:∃ y:Nat,min 1073741824 (ta+N)=y:=⟨_,rfl⟩
        rw[hmn]at hpT hup
        have HT:Hid (∃ T2,Jt (S.play m).S T2∧PWn ev w1 (aA (fo L) (2*0+1) (cH [(q,iA T2)])) L (wX.setCell ⟨q,a,none⟩ (.int .i64 ((mn:Nat):Int))) (S.play m).S):=⟨_,HG.out.1.next HKn.out HB0.out,by rw[hup];exact hpT⟩
        have HMN:Hid (min 1073741824 (ta+N)=mn):=hmn
        rw[hN]at z6
        clear hpT hpX kq hTo ha hup hta hN hNt hn5 hmn
        go_upto_region 22 with fail
        go_region
        have em:((mn:Nat):Int)=min 1073741824 (((ta:Nat):Int) + ((N:Nat):Int)):=by
         have:=HMN.out
         omega
        have HT2:Hid (∃ T2,Jt (S.play m).S T2∧PWn ev w1 (aA (fo L) (2*0+1) (cH [(q,iA T2)])) L (wX.setCell ⟨q,a,none⟩ (.int .i64 (min 1073741824 (((ta:Nat):Int) + ((N:Nat):Int))))).drew (S.play m).S):=by
         obtain⟨T2,g2,h2⟩:=HT.out
         rw[em]at h2
         exact⟨T2,g2,h2.below (Below.drew (Below.refl _ _))⟩
        go_wp2_with fail
        go_meet
        case rel=>exact HT2
       ·have zb:(ce == 0)=false:=by simpa using z
        have hup:bY S m T=T:=ti (by omega) (by omega) (fun y=>z (by rw[← HCE.out,(cC S HB0.out).2.2];exact y.2)) T
        have HT:Hid (∃ T2,Jt (S.play m).S T2∧PWn ev w1 (aA (fo L) (2*0+1) (cH [(q,iA T2)])) L wX (S.play m).S):=⟨_,HG.out.1.next HKn.out HB0.out,by rw[hup];exact hpX⟩
        clear hpX kq hup
        go_wp2_with fail
        go_meet
        case rel=>exact HT
      have h5b:(m.k == 5)=false:=by simpa using h5
      have hup:bY S m T=T:=ti (by omega) (by omega) (fun y=>by have:=y.1;omega) T
      have HT:Hid (∃ T2,Jt (S.play m).S T2∧PWn ev w1 (aA (fo L) (2*0+1) (cH [(q,iA T2)])) L wX (S.play m).S):=⟨_,HG.out.1.next HKn.out HB0.out,by rw[hup];exact hpX⟩
      clear hpX kq hup
      go_wp2_with fail
      go_meet
      case rel=>exact HT
     case rest=>
      obtain⟨T2,g2,hp2⟩:=hcut.out
      obtain⟨S2,hS2⟩:∃ y,(S.play m).S=y:=⟨_,rfl⟩
      rw[hS2]at g2 hp2
      clear HPX hS2 zc z0 z6
      have HV:Hid (_):=And.intro g2 hp2
      clear g2 hp2 hcut
      go_wp2_with fail
      go_loopw [12,13,14,95,96,97,98,99,100,101,102,103,104,105,106,107,108,109,110,111,112,113,114,115,116,117,118,119,120,121,122,123,124,125,126,127,128,129,130,131,132,133,134,135,136,137,138,139,140,141,142,143,144,145,146,147,148,149,150,151,152] (fun kk _ _ _ _ _ _ _ _ _ _ _ _ _ _ _ _ _ _ _ _ _ _ _ _ _ _ _ _ _ _ _ _ _ _ _ _ _ _ _ _ _ _ _ _ _ _ _ _ _ _ _ _ _ _ _ _ _ _ _ _ wr=>∃ j:Nat,j≤2∧kk=.int .i64 ((j:Nat):Int)∧Hid (Below wc.heap.size wc wr)) (fun kk _ _ _ _ _ _ _ _ _ _ _ _ _ _ _ _ _ _ _ _ _ _ _ _ _ _ _ _ _ _ _ _ _ _ _ _ _ _ _ _ _ _ _ _ _ _ _ _ _ _ _ _ _ _ _ _ _ _ _ _ _=>2-dY kk)
      case atStart=>exact⟨0,by omega,rfl,Below.refl _ _⟩
      case round=>
       obtain⟨j,hj,rfl,HJ⟩:=hrel
       have hj3:j=0∨j=1∨j=2:=by omega
       rcases hj3 with rfl | rfl | rfl
       ·obtain⟨fh,fd⟩:=HV.out.1.on (j:=0) (by decide)
        have hEn:Calls Tryz.prog 17 #[.pointer (some ⟨X,0,none⟩),.int .i64 0] wr fun r w'=>∃ A B:Array Value,r=.returned (.tuple #[.agg A,.agg B])∧A.size=9∧A.all (·.oneCell')=true∧B.size=9∧B.all (·.oneCell')=true∧Hid (A.toList[7]?=some (.bool (ax (S2.hs 0).v))∧A.toList[5]?=some (.int .i64 (S2.hs 0).v.lat)∧B.toList[7]?=some (.bool (ax (S2.ds 0).v))∧B.toList[5]?=some (.int .i64 (S2.ds 0).v.lat)∧B.toList[0]?=some (.int .i64 ((S2.ds 0).st:Nat))∧Below wr.heap.size wr w'):=by
         have:=wO (HV.out.2.below HJ.out) (k:=0) (by rw[HV.out.1.n];decide)
         rw[HX.out]at this
         refine this.mono ?_
         rintro r w' ⟨A,B,rfl,h1,h2,h3,h4,H⟩
         exact⟨A,B,rfl,h1,h2,h3,h4,H.out.1.c7,H.out.1.c5,H.out.2.1.c7,H.out.2.1.c5,H.out.2.1.c0,H.out.2.2⟩
        obtain⟨bh,hbh⟩:∃ y,ax (S2.hs 0).v=y:=⟨_,rfl⟩
        obtain⟨bd,hbd⟩:∃ y,ax (S2.ds 0).v=y:=⟨_,rfl⟩
        obtain⟨lh,hlh⟩:∃ y,(S2.hs 0).v.lat=y:=⟨_,rfl⟩
        obtain⟨ld,hld⟩:∃ y,(S2.ds 0).v.lat=y:=⟨_,rfl⟩
        obtain⟨sd,hsd⟩:∃ y,(((S2.ds 0).st:Nat):Int)=y:=⟨_,rfl⟩
        obtain⟨ch,hch⟩:∃ y,T2 0=y:=⟨_,rfl⟩
        obtain⟨cd,hcd⟩:∃ y,T2 1=y:=⟨_,rfl⟩
        rw[hbh,hbd,hlh,hld,hsd]at hEn
        have HC:Hid ((T2 0=ch∧T2 1=cd)∧(10≤ch→bh=false∧lh≠0)∧(10≤cd→bd=false∧ld≠0)):=by
         rw[hbh,hlh,HV.out.1.ph]at fh
         rw[hbd,hld,HV.out.1.pd]at fd
         rw[← hch,← hcd]
         exact⟨⟨rfl,rfl⟩,fh,fd⟩
        clear fh fd hbh hbd hch hcd hlh hld hsd
        go_wp2_with fail
        refine hEn.mono ?_
        rintro r w8 ⟨A,B,rfl,hsA,hoA,hsB,hoB,H8⟩
        clear hEn
        obtain⟨wy,wz,hst1,hst2,hrA,hrB,hbl⟩:=kL w8 hsA hoA hsB hoB
        have bz:Below wc.heap.size wc wz:=(HJ.out.trans (H8.out.2.2.2.2.2.mono HJ.out.size)).trans (hbl.mono (Nat.le_trans HJ.out.size H8.out.2.2.2.2.2.size))
        have HCA:Hid (wz.cell? ⟨w8.heap.size,7,none⟩=some (.bool bh)∧wz.cell? ⟨w8.heap.size,5,none⟩=some (.int .i64 lh)∧wz.cell? ⟨w8.heap.size+1,7,none⟩=some (.bool bd)∧wz.cell? ⟨w8.heap.size+1,5,none⟩=some (.int .i64 ld)∧wz.cell? ⟨w8.heap.size+1,0,none⟩=some (.int .i64 sd)):=⟨hrA 7 _ H8.out.1,hrA 5 _ H8.out.2.1,hrB 7 _ H8.out.2.2.1,hrB 5 _ H8.out.2.2.2.1,hrB 0 _ H8.out.2.2.2.2.1⟩
        have hpz:=HV.out.2.below bz
        have kz:=(hpz.box (q:=2*0+1) (fun j=>by unfold ev;omega) (ai _ _ _) _ (List.mem_cons_self ..))
        have b0:Below w1.heap.size w1 wz:=by
         obtain⟨t9,L9,h9,_⟩:=hpz
         exact h9.1.bel
        have HCQ:Hid (wz.cell? ⟨q,0,none⟩=some (.int .i64 ((ch:Nat):Int))∧wz.cell? ⟨q,1,none⟩=some (.int .i64 ((cd:Nat):Int))∧wz.cell? ⟨nb,0,none⟩=some (.slice (some ⟨g0,0,none⟩) 2 c0)∧wz.cell? ⟨nb,1,none⟩=some (.slice (some ⟨g1,0,none⟩) 2 c1)∧wz.cell? ⟨g0,3,none⟩=some (.int .i64 10)∧wz.cell? ⟨g1,3,none⟩=some (.int .i64 10)):=by
         refine⟨?_,?_,af HN.out.1 b0,af HN.out.2.1 b0,af (HN.out.2.2.1 0 (by decide)) b0,af (HN.out.2.2.2 0 (by decide)) b0⟩
         ·rw[← HC.out.1.1];exact (dx kz (a:=0) (by decide)).1
         ·rw[← HC.out.1.2];exact (dx kz (a:=1) (by decide)).1
        have HBz:Hid (Below wc.heap.size wc wz):=bz
        clear hrA hrB hbl H8 bz kz HJ hpz b0
        go_upto_region 27 with fail
        clear hst1 hst2
        obtain⟨x7,x5,y7,y5,y0⟩:=HCA.out
        obtain⟨q0,q1,n0,n1,gc0,gc1⟩:=HCQ.out
        by_cases hc:10≤ch
        ·obtain⟨ebh,elh⟩:=HC.out.2.1 hc
         have hc':(10:Int) ≤ ((ch:Nat):Int):=by omega
         have elh':(lh == 0)=false:=by simpa using elh
         rw[ebh]at x7
         go_quiet (fail)
         go_wp2_with fail
         by_cases hd:10≤cd
         ·obtain⟨ebd,eld⟩:=HC.out.2.2 hd
          have hd':(10:Int) ≤ ((cd:Nat):Int):=by omega
          have eld':(ld == 0)=false:=by simpa using eld
          rw[ebd]at y7
          by_cases h6:sd=6
          ·subst h6
           go_quiet (fail)
           go_wp2_with fail
           exact⟨⟨1,by decide,rfl,⟨HBz.out.os,HBz.out.tape,HBz.out.output,HBz.out.size,HBz.out.block⟩⟩,by simp[dY]⟩
          ·have h6':(sd != 6)=true:=by simpa using h6
           go_quiet (fail)
           go_wp2_with fail
           exact⟨⟨1,by decide,rfl,⟨HBz.out.os,HBz.out.tape,HBz.out.output,HBz.out.size,HBz.out.block⟩⟩,by simp[dY]⟩
         ·have hd':¬ (10:Int) ≤ ((cd:Nat):Int):=by omega
          go_quiet (fail)
          go_wp2_with fail
          exact⟨⟨1,by decide,rfl,⟨HBz.out.os,HBz.out.tape,HBz.out.output,HBz.out.size,HBz.out.block⟩⟩,by simp[dY]⟩
        ·have hc':¬ (10:Int) ≤ ((ch:Nat):Int):=by omega
         go_quiet (fail)
         go_wp2_with fail
         by_cases hd:10≤cd
         ·obtain⟨ebd,eld⟩:=HC.out.2.2 hd
          have hd':(10:Int) ≤ ((cd:Nat):Int):=by omega
          have eld':(ld == 0)=false:=by simpa using eld
          rw[ebd]at y7
          by_cases h6:sd=6
          ·subst h6
           go_quiet (fail)
           go_wp2_with fail
           exact⟨⟨1,by decide,rfl,⟨HBz.out.os,HBz.out.tape,HBz.out.output,HBz.out.size,HBz.out.block⟩⟩,by simp[dY]⟩
          ·have h6':(sd != 6)=true:=by simpa using h6
           go_quiet (fail)
           go_wp2_with fail
           exact⟨⟨1,by decide,rfl,⟨HBz.out.os,HBz.out.tape,HBz.out.output,HBz.out.size,HBz.out.block⟩⟩,by simp[dY]⟩
         ·have hd':¬ (10:Int) ≤ ((cd:Nat):Int):=by omega
          go_quiet (fail)
          go_wp2_with fail
          exact⟨⟨1,by decide,rfl,⟨HBz.out.os,HBz.out.tape,HBz.out.output,HBz.out.size,HBz.out.block⟩⟩,by simp[dY]⟩
       ·obtain⟨fh,fd⟩:=HV.out.1.on (j:=1) (by decide)
        have hEn:Calls Tryz.prog 17 #[.pointer (some ⟨X,0,none⟩),.int .i64 1] wr fun r w'=>∃ A B:Array Value,r=.returned (.tuple #[.agg A,.agg B])∧A.size=9∧A.all (·.oneCell')=true∧B.size=9∧B.all (·.oneCell')=true∧Hid (A.toList[7]?=some (.bool (ax (S2.hs 1).v))∧A.toList[5]?=some (.int .i64 (S2.hs 1).v.lat)∧B.toList[7]?=some (.bool (ax (S2.ds 1).v))∧B.toList[5]?=some (.int .i64 (S2.ds 1).v.lat)∧B.toList[0]?=some (.int .i64 ((S2.ds 1).st:Nat))∧Below wr.heap.size wr w'):=by
         have:=wO (HV.out.2.below HJ.out) (k:=1) (by rw[HV.out.1.n];decide)
         rw[HX.out]at this
         refine this.mono ?_
         rintro r w' ⟨A,B,rfl,h1,h2,h3,h4,H⟩
         exact⟨A,B,rfl,h1,h2,h3,h4,H.out.1.c7,H.out.1.c5,H.out.2.1.c7,H.out.2.1.c5,H.out.2.1.c0,H.out.2.2⟩
        obtain⟨bh,hbh⟩:∃ y,ax (S2.hs 1).v=y:=⟨_,rfl⟩
        obtain⟨bd,hbd⟩:∃ y,ax (S2.ds 1).v=y:=⟨_,rfl⟩
        obtain⟨lh,hlh⟩:∃ y,(S2.hs 1).v.lat=y:=⟨_,rfl⟩
        obtain⟨ld,hld⟩:∃ y,(S2.ds 1).v.lat=y:=⟨_,rfl⟩
        obtain⟨sd,hsd⟩:∃ y,(((S2.ds 1).st:Nat):Int)=y:=⟨_,rfl⟩
        obtain⟨ch,hch⟩:∃ y,T2 2=y:=⟨_,rfl⟩
        obtain⟨cd,hcd⟩:∃ y,T2 3=y:=⟨_,rfl⟩
        rw[hbh,hbd,hlh,hld,hsd]at hEn
        have HC:Hid ((T2 2=ch∧T2 3=cd)∧(11≤ch→bh=false∧lh≠0)∧(11≤cd→bd=false∧ld≠0)):=by
         rw[hbh,hlh,HV.out.1.ph]at fh
         rw[hbd,hld,HV.out.1.pd]at fd
         rw[← hch,← hcd]
         exact⟨⟨rfl,rfl⟩,fh,fd⟩
        clear fh fd hbh hbd hch hcd hlh hld hsd
        go_wp2_with fail
        refine hEn.mono ?_
        rintro r w8 ⟨A,B,rfl,hsA,hoA,hsB,hoB,H8⟩
        clear hEn
        obtain⟨wy,wz,hst1,hst2,hrA,hrB,hbl⟩:=kL w8 hsA hoA hsB hoB
        have bz:Below wc.heap.size wc wz:=(HJ.out.trans (H8.out.2.2.2.2.2.mono HJ.out.size)).trans (hbl.mono (Nat.le_trans HJ.out.size H8.out.2.2.2.2.2.size))
        have HCA:Hid (wz.cell? ⟨w8.heap.size,7,none⟩=some (.bool bh)∧wz.cell? ⟨w8.heap.size,5,none⟩=some (.int .i64 lh)∧wz.cell? ⟨w8.heap.size+1,7,none⟩=some (.bool bd)∧wz.cell? ⟨w8.heap.size+1,5,none⟩=some (.int .i64 ld)∧wz.cell? ⟨w8.heap.size+1,0,none⟩=some (.int .i64 sd)):=⟨hrA 7 _ H8.out.1,hrA 5 _ H8.out.2.1,hrB 7 _ H8.out.2.2.1,hrB 5 _ H8.out.2.2.2.1,hrB 0 _ H8.out.2.2.2.2.1⟩
        have hpz:=HV.out.2.below bz
        have kz:=(hpz.box (q:=2*0+1) (fun j=>by unfold ev;omega) (ai _ _ _) _ (List.mem_cons_self ..))
        have b0:Below w1.heap.size w1 wz:=by
         obtain⟨t9,L9,h9,_⟩:=hpz
         exact h9.1.bel
        have HCQ:Hid (wz.cell? ⟨q,2,none⟩=some (.int .i64 ((ch:Nat):Int))∧wz.cell? ⟨q,3,none⟩=some (.int .i64 ((cd:Nat):Int))∧wz.cell? ⟨nb,0,none⟩=some (.slice (some ⟨g0,0,none⟩) 2 c0)∧wz.cell? ⟨nb,1,none⟩=some (.slice (some ⟨g1,0,none⟩) 2 c1)∧wz.cell? ⟨g0,8,none⟩=some (.int .i64 11)∧wz.cell? ⟨g1,8,none⟩=some (.int .i64 11)):=by
         refine⟨?_,?_,af HN.out.1 b0,af HN.out.2.1 b0,af (HN.out.2.2.1 1 (by decide)) b0,af (HN.out.2.2.2 1 (by decide)) b0⟩
         ·rw[← HC.out.1.1];exact (dx kz (a:=2) (by decide)).1
         ·rw[← HC.out.1.2];exact (dx kz (a:=3) (by decide)).1
        have HBz:Hid (Below wc.heap.size wc wz):=bz
        clear hrA hrB hbl H8 bz kz HJ hpz b0
        go_upto_region 27 with fail
        clear hst1 hst2
        obtain⟨x7,x5,y7,y5,y0⟩:=HCA.out
        obtain⟨q0,q1,n0,n1,gc0,gc1⟩:=HCQ.out
        by_cases hc:11≤ch
        ·obtain⟨ebh,elh⟩:=HC.out.2.1 hc
         have hc':(11:Int) ≤ ((ch:Nat):Int):=by omega
         have elh':(lh == 0)=false:=by simpa using elh
         rw[ebh]at x7
         go_quiet (fail)
         go_wp2_with fail
         by_cases hd:11≤cd
         ·obtain⟨ebd,eld⟩:=HC.out.2.2 hd
          have hd':(11:Int) ≤ ((cd:Nat):Int):=by omega
          have eld':(ld == 0)=false:=by simpa using eld
          rw[ebd]at y7
          by_cases h6:sd=6
          ·subst h6
           go_quiet (fail)
           go_wp2_with fail
           exact⟨⟨2,by decide,rfl,⟨HBz.out.os,HBz.out.tape,HBz.out.output,HBz.out.size,HBz.out.block⟩⟩,by simp[dY]⟩
          ·have h6':(sd != 6)=true:=by simpa using h6
           go_quiet (fail)
           go_wp2_with fail
           exact⟨⟨2,by decide,rfl,⟨HBz.out.os,HBz.out.tape,HBz.out.output,HBz.out.size,HBz.out.block⟩⟩,by simp[dY]⟩
         ·have hd':¬ (11:Int) ≤ ((cd:Nat):Int):=by omega
          go_quiet (fail)
          go_wp2_with fail
          exact⟨⟨2,by decide,rfl,⟨HBz.out.os,HBz.out.tape,HBz.out.output,HBz.out.size,HBz.out.block⟩⟩,by simp[dY]⟩
        ·have hc':¬ (11:Int) ≤ ((ch:Nat):Int):=by omega
         go_quiet (fail)
         go_wp2_with fail
         by_cases hd:11≤cd
         ·obtain⟨ebd,eld⟩:=HC.out.2.2 hd
          have hd':(11:Int) ≤ ((cd:Nat):Int):=by omega
          have eld':(ld == 0)=false:=by simpa using eld
          rw[ebd]at y7
          by_cases h6:sd=6
          ·subst h6
           go_quiet (fail)
           go_wp2_with fail
           exact⟨⟨2,by decide,rfl,⟨HBz.out.os,HBz.out.tape,HBz.out.output,HBz.out.size,HBz.out.block⟩⟩,by simp[dY]⟩
          ·have h6':(sd != 6)=true:=by simpa using h6
           go_quiet (fail)
           go_wp2_with fail
           exact⟨⟨2,by decide,rfl,⟨HBz.out.os,HBz.out.tape,HBz.out.output,HBz.out.size,HBz.out.block⟩⟩,by simp[dY]⟩
         ·have hd':¬ (11:Int) ≤ ((cd:Nat):Int):=by omega
          go_quiet (fail)
          go_wp2_with fail
          exact⟨⟨2,by decide,rfl,⟨HBz.out.os,HBz.out.tape,HBz.out.output,HBz.out.size,HBz.out.block⟩⟩,by simp[dY]⟩
       ·have HT:Hid (∃ S T,Jt S T∧PWn ev w1 (aA (fo L) (2*0+1) (cH [(q,iA T)])) L wr S):=⟨S2,T2,HV.out.1,HV.out.2.below HJ.out⟩
        clear HV HJ
        go_wp2_with fail
        refine⟨⟨k+1,by omega,by omega,by simp,HT⟩,?_⟩
        have e1:dY (.int .i64 ((k:Nat):Int))=k:=by simp[dY]
        have e2:dY (.int .i64 (((k:Nat):Int)+1))=k+1:=by simp[dY]
        rw[e1,e2]
        omega
    ·have hEb:(E != 0)=true:=by simpa using hE
     have hEb2:(E == 0)=false:=by simpa using hE
     have HT:Hid (∃ S T,Jt S T∧PWn ev w1 (aA (fo L) (2*0+1) (cH [(q,iA T)])) L w9 S):=by
      have hbd:S.bad m≠0:=by rw[← H8.out.1];exact hE
      have hpl:(S.play m).S=S:=by
       unfold Ws.play
       rw[if_pos hbd]
      rw[hpl]at hp9
      exact⟨S,T,HG.out.1,hp9⟩
     clear H8 hp8 hp8' kM8 hp9 hrg1 hbl1
     go_wp2_with fail
     refine⟨⟨k+1,by omega,by omega,by simp,HT⟩,?_⟩
     have e1:dY (.int .i64 ((k:Nat):Int))=k:=by simp[dY]
     have e2:dY (.int .i64 (((k:Nat):Int)+1))=k+1:=by simp[dY]
     rw[e1,e2]
     omega
   ·have h3':¬ ((k:Nat):Int)<300:=by omega
    have HE:Hid (Below w1.heap.size w1 wr):=by
     obtain⟨S,T,_,t9,L9,h9,_⟩:=HI.out
     exact h9.1.bel
    clear HI
    go_wp2_with fail
    go_ret
    exact⟨rfl,HB1.out.trans (HE.out.mono HB1.out.size)⟩
  ·have hlt':¬ ((k:Nat):Int) < ((len:Nat):Int):=by omega
   have HE:Hid (Below w1.heap.size w1 wr):=by
    obtain⟨S,T,_,t9,L9,h9,_⟩:=HI.out
    exact h9.1.bel
   clear HI
   go_wp2_with fail
   go_ret
   exact⟨rfl,HB1.out.trans (HE.out.mono HB1.out.size)⟩
theorem topWatch_walk (a0:Option Addr) (len0 cap0:Nat) (w:World) (w0:OpRow w a0 len0) :
  Calls Tryz.prog 5 #[.slice a0 len0 cap0] w fun e w'=>e=.returned (.bool true)∧Below w.heap.size w w':=lD a0 len0 cap0 w w0
end Go.Proofs.YtdmjfemodihfhaaGreat
