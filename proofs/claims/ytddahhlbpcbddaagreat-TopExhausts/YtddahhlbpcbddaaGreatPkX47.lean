/- Part 48: contracts that the proof rests on. -/
import Derived.Deep.DeepCutAuto
import Derived.Deep.CutBlock
import Derived.Deep.RegionWith
import Derived.Deep.QuietTactic
import Derived.BigQuiet
import Derived.Test.YtddahhlbpcbddaaGreatPkX44
import Derived.Test.YtddahhlbpcbddaaGreatPkX46
set_option maxHeartbeats 64000000
set_option maxRecDepth 100000
namespace Go.Proofs.YtddahhlbpcbddaaGreat
open Tryz
open Go.RowKit Go.Maps
set_option linter.unusedVariables false
def Us (w:World) (pu:Nat) (ok:Bool) (C:Nat) (kd nu:Int) (S:Ws):Prop:=
 w.cell? ⟨pu,0,none⟩=some (.int .i64 kd)∧w.cell? ⟨pu,3,none⟩=some (.int .u32 nu)∧(ok=true→nu ≤ ((C:Nat):Int)∧(nu=((C:Nat):Int) ↔ kd=5∨kd=21)∧(kd=5→(S.hs 0).st=5∧(S.hs 0).v.lat≠0∧Jx C S true))
theorem yU {C:Nat} (h1:2≤C) (h2:C≤6):∀ k,k<1→Pok ((fun _=>Px C) k):=fun k hk=>⟨by unfold rI Px;dsimp only;omega,by unfold Px;dsimp only;omega,by unfold Px;dsimp only;omega⟩
theorem abO {C:Nat} (h1:2≤C) (h2:C≤6):ckE 1 1 50 (fun i=>((fun _=>Px C) i).q) (fun i=>((fun _=>Px C) i).q)=0:=by
 rcases (by omega:C=2∨C=3∨C=4∨C=5∨C=6) with rfl | rfl | rfl | rfl | rfl <;> decide
theorem Jx.start {C:Nat} (h1:2≤C):Jx C (sN 1 50 (fun _=>Px C) (fun _=>Px C)) false:=⟨za _ _ _ _,rfl,rfl,rfl,⟨Nat.zero_le _,fun e=>by have e:0=C:=e;omega⟩,fun y=>by cases y⟩
theorem jM (a:Option Addr) (len cap cn:Nat) (hcn:cn<4294967296) (w:World) (O:OpRow w a len):Calls prog 6 #[.slice a len cap,.int .u32 (cn:Nat)] w fun r w'=>r=.returned (.bool true)∧Below w.heap.size w w':=by
 have HO:Hid (OpRow w a len):=O
 have hlen:=O.1
 clear O
 obtain⟨C,hC⟩:∃ C:Nat,((cn:Nat):Int) % 5+2=((C:Nat):Int):=⟨cn % 5+2,by omega⟩
 have hC2:2≤C:=by omega
 have hC6:C≤6:=by omega
 have hNe:=aa7 C w
 go_enter func6,ntmps6
 go_upto_region 2 with fail
 clear hC
 go_wp2_with fail
 refine hNe.mono ?_
 rintro r w1 ⟨g0,c0,g1,c1,rfl,H1⟩
 clear hNe
 have hN:Calls prog 8 #[.agg #[.slice (af g0 0) 1 c0,.slice (af g1 0) 1 c1,.int .u32 50]] w1 fun r w'=>∃ L:Pw,r=.returned (.tuple #[ac L.x 0,.int .i64 0])∧Hid (PW ev w1 w' (iB L) L∧L.S=sN 1 50 (fun _=>Px C) (fun _=>Px C)):=wC (fun _=>Px C) (fun _=>Px C) g0 0 c0 g1 0 c1 1 50 (yU hC2 hC6) (yU hC2 hC6) (by decide) (by decide) (by decide) (by decide) H1.out.1 H1.out.2.1 w1 H1.out.2.2.1 H1.out.2.2.2.1 (abO hC2 hC6)
 have HB1:Hid (Below w.heap.size w w1):=H1.out.2.2.2.2
 clear H1
 go_wp2_with fail
 refine hN.mono ?_
 rintro r w2 ⟨L,rfl,H2⟩
 clear hN
 obtain⟨X,hX⟩:∃ y,L.x=y:=⟨_,rfl⟩
 rw[hX]
 have HX:Hid (L.x=X):=hX
 clear hX
 have hAw:=pB w2
 go_wp2_with fail
 refine hAw.mono ?_
 rintro r w3 ⟨rfl,b3⟩
 clear hAw
 have HS0:Hid (∃ S,Jx C S false∧PWn ev w1 (iB L) L w3 S):=by
  have hp:=H2.out.1.n
  rw[H2.out.2]at hp
  exact⟨_,Jx.start hC2,hp.below b3⟩
 clear b3 H2 hC2 hC6
 go_wp2_with fail
 go_loopw [8,7,9,10,11,12,13,29,30,31,32,33,34,35,36,37,38,39,40,41,42,43,44,45,46,47,48,49,50,51,52,53,54,55,56,57,58,59,60,61,62,63,64,65,66,67,68,69,70,71,72,73,74,75,76,77,78,79,80,81,82,83,84,85,86,87,88,89,90,91,92,93,94,95,96,97,98,99,100,101,102,103,104,105,106,107,108,109,110,111,112,113,114,115,116,117,118,119,120,121,122,123,124,125,126,127,128,129,130,131,132,133,134,135,136,137,138,139,140,141] (fun i ov _ _ _ _ _ _ _ _ _ _ _ _ _ _ _ _ _ _ _ _ _ _ _ _ _ _ _ _ _ _ _ _ _ _ _ _ _ _ _ _ _ _ _ _ _ _ _ _ _ _ _ _ _ _ _ _ _ _ _ _ _ _ _ _ _ _ _ _ _ _ _ _ _ _ _ _ _ _ _ _ _ _ _ _ _ _ _ _ _ _ _ _ _ _ _ _ _ _ _ _ _ _ _ _ _ _ _ _ _ _ _ _ _ _ _ _ _ _ wr=>∃ (k:Nat) (b:Bool),k≤len∧k≤300∧i=.int .i64 ((k:Nat):Int)∧ov=.bool b∧Hid (∃ S,Jx C S b∧PWn ev w1 (iB L) L wr S)) (fun i ov _ _ _ _ _ _ _ _ _ _ _ _ _ _ _ _ _ _ _ _ _ _ _ _ _ _ _ _ _ _ _ _ _ _ _ _ _ _ _ _ _ _ _ _ _ _ _ _ _ _ _ _ _ _ _ _ _ _ _ _ _ _ _ _ _ _ _ _ _ _ _ _ _ _ _ _ _ _ _ _ _ _ _ _ _ _ _ _ _ _ _ _ _ _ _ _ _ _ _ _ _ _ _ _ _ _ _ _ _ _ _ _ _ _ _ _ _ _ _=>len-je i)
 case atStart=>exact⟨0,false,by omega,by omega,rfl,rfl,HS0⟩
 case round=>
  obtain⟨k,bo,hk,hk3,rfl,rfl,HI⟩:=hrel
  clear HS0
  by_cases hlt:k<len
  ·have hlt':((k:Nat):Int) < ((len:Nat):Int):=by omega
   by_cases h3:k<300
   ·have h3':((k:Nat):Int)<300:=by omega
    obtain⟨b,off,rfl,hb,hm⟩:=HO.out.2 (by omega)
    obtain⟨m,d,ok,R,hl,hcl⟩:=hm k hlt
    obtain⟨S,g,hp⟩:=HI.out
    have hbr:Below w.heap.size w wr:=by
     obtain⟨t9,L9,h9,_⟩:=hp
     exact HB1.out.trans (h9.1.bel.mono HB1.out.size)
    have p0:wr.cell? ⟨b,off+k*9,none⟩=some (.int .i64 m.k):=ag (hcl 0 _ rfl) hbr
    have p1:wr.cell? ⟨b,off+k*9+1,none⟩=some (.int .i64 m.c):=ag (hcl 1 _ rfl) hbr
    have p2:wr.cell? ⟨b,off+k*9+2,none⟩=some (.int .i64 m.s):=ag (hcl 2 _ rfl) hbr
    have p3:wr.cell? ⟨b,off+k*9+3,none⟩=some (.int .i64 m.f):=ag (hcl 3 _ rfl) hbr
    have p4:wr.cell? ⟨b,off+k*9+4,none⟩=some (.int .i64 m.a):=ag (hcl 4 _ rfl) hbr
    have p5:wr.cell? ⟨b,off+k*9+5,none⟩=some (.int .u32 (m.w:Nat)):=ag (hcl 5 _ rfl) hbr
    have p6:wr.cell? ⟨b,off+k*9+6,none⟩=some (.int .i64 m.n):=ag (hcl 6 _ rfl) hbr
    have p7:wr.cell? ⟨b,off+k*9+7,none⟩=some (.bool m.h):=ag (hcl 7 _ rfl) hbr
    have p8:wr.cell? ⟨b,off+k*9+8,none⟩=some (.slice d.a m.l d.c):=ag (hcl 8 _ rfl) hbr
    have hCo:=vh m d.a d.c wr (R.below hbr) hl
    have HG:Hid (_):=And.intro g (And.intro ok hl)
    have HKn:Hid (S.Kn):=hp.kn
    have HP:Hid (PWn ev w1 (iB L) L wr S):=hp
    clear hm R hcl g hp hbr ok hl hb HI
    go_wp2_with fail
    refine hCo.mono ?_
    rintro r w6 ⟨d6,c6,rfl,H6⟩
    clear hCo p0 p1 p2 p3 p4 p5 p6 p7 p8
    have kM:=ay w6 (.cells (aj m m.c d6 c6) 39)
    have bM:=az (Below.refl _ w6) (.cells (aj m m.c d6 c6) 39)
    obtain⟨w7,hw7⟩:∃ y,w6.alloc (.cells (aj m m.c d6 c6) 39)=y:=⟨_,rfl⟩
    rw[hw7]at kM bM
    have hp7:=(HP.out.below H6.out.2.1).layL bM (i:=2*0+1) (fun j=>by unfold ev;omega) (l:=[(w6.heap.size,.cells (aj m m.c d6 c6) 39 (0,0))]) (fun p hp=>by
     simp only[List.mem_cons,List.not_mem_nil,or_false]at hp
     subst hp
     exact kM) (fun p hp=>by
     simp only[List.mem_cons,List.not_mem_nil,or_false]at hp
     subst hp
     exact Nat.le_refl _)
    obtain⟨pm,hpm⟩:∃ y,w6.heap.size=y:=⟨_,rfl⟩
    rw[hpm]at kM hp7
    have q0:w7.cell? ⟨pm,0,none⟩=some (.int .i64 m.k):=ae w7 pm 0 _ _ _ kM
    have q1:w7.cell? ⟨pm,1,none⟩=some (.int .i64 m.c):=ae w7 pm 1 _ _ _ kM
    have q2:w7.cell? ⟨pm,2,none⟩=some (.int .i64 m.s):=ae w7 pm 2 _ _ _ kM
    have q3:w7.cell? ⟨pm,3,none⟩=some (.int .i64 m.f):=ae w7 pm 3 _ _ _ kM
    have q4:w7.cell? ⟨pm,4,none⟩=some (.int .i64 m.a):=ae w7 pm 4 _ _ _ kM
    have q5:w7.cell? ⟨pm,5,none⟩=some (.int .u32 (m.w:Nat)):=ae w7 pm 5 _ _ _ kM
    have q6:w7.cell? ⟨pm,6,none⟩=some (.int .i64 m.n):=ae w7 pm 6 _ _ _ kM
    have q7:w7.cell? ⟨pm,7,none⟩=some (.bool m.h):=ae w7 pm 7 _ _ _ kM
    have q8:w7.cell? ⟨pm,8,none⟩=some (.slice d6 m.l c6):=ae w7 pm 8 _ _ _ kM
    have F2:Fre ev (aV (iB L) (2*0+1) (fI [(pm,.cells (aj m m.c d6 c6) 39 (0,0))])) 1:=(gR L).put _
    have hPl:=uS (i:=1) m d6 c6 hp7 F2 HG.out.1.I HG.out.2.1 (by rw[HG.out.1.n];decide) (H6.out.1.below bM) (fun y hy h0 e=>by
     have h1:=H6.out.2.2 y hy h0
     have h2:L.x<wr.heap.size:=by
      obtain⟨t9,L9,h9,_,hx9,_⟩:=HP.out
      rw[← hx9.x]
      exact (h9.2.wb h9.1).lt _ (by simp[Wc.U,Pw.core])
     omega) HG.out.2.2
    rw[HX.out]at hPl
    clear kM bM hp7 F2 H6
    go_wp2_with fail
    refine hPl.mono ?_
    rintro r w8 ⟨A,E,rfl,hsA,hoA,H8⟩
    clear hPl hw7 hpm q0 q1 q2 q3 q4 q5 q6 q7 q8
    obtain⟨w9,hst1,hrg1,hbl1⟩:=iP w8 hsA hoA
    obtain⟨rb,hrb⟩:∃ y,w8.heap.size=y:=⟨_,rfl⟩
    rw[hrb]at hrg1 hst1
    have hp8:=H8.out.2.1
    have kM8:=hp8.box (q:=2*0+1) (fun j=>by unfold ev;omega) (al _ _ _) _ (List.mem_cons_self ..)
    have hp8':PWn ev w1 (iB L) L w8 (S.play m).S:=hp8.drop (fun j=>by unfold ev;omega) ((gR L) 0 (by decide)).2
    have hp9:=hp8'.below hbl1
    by_cases hE:E=0
    ·have hb0:S.bad m=0:=by rw[← H8.out.1];exact hE
     have hEb:(E != 0)=false:=by simpa using hE
     obtain⟨a9,a10,hV,dV,ah,ch,ad,cd,eH,eD,aH,aD,rH,rD⟩:=H8.out.2.2 hb0
     have kM9:=(hbl1.block pm (Array.getElem?_eq_some_iff.1 kM8).1).trans kM8
     obtain⟨j1,hs⟩:=HG.out.1.next HKn.out hb0
     obtain⟨c0,_⟩:=wP HG.out.1.n hb0
     rw[c0]at eH eD
     have HZ:Hid (w9.cell? ⟨pm,0,none⟩=some (.int .i64 m.k)∧w9.cell? ⟨pm,2,none⟩=some (.int .i64 m.s)):=⟨ae w9 pm 0 _ _ _ kM9,ae w9 pm 2 _ _ _ kM9⟩
     have hir:(prog.info? 45).map (·.size)=some A.size:=by rw[hsA];kernel_rfl
     have HRr:Hid (∀ j v,A.toList[j]?=some v→w9.cell? ⟨rb,j,none⟩=some v):=fun j v hv=>by have:=hrg1 j v hv;rw[Nat.zero_add]at this;exact this
     have HA:Hid (A.toList[11]?=some (.int .i64 (((S.play m).S.hs 0).st:Nat))∧A.toList[16]?=some (.int .i64 ((S.play m).S.hs 0).v.lat)∧A.toList[18]?=some (.bool (aE ((S.play m).S.hs 0).v))∧A.toList[20]?=some (.int .i64 (((S.play m).S.ds 0).st:Nat))∧A.toList[22]?=some (.int .u32 (((S.play m).S.ds 0).nm:Nat))∧A.toList[25]?=some (.int .i64 ((S.play m).S.ds 0).v.lat)∧A.toList[27]?=some (.bool (aE ((S.play m).S.ds 0).v))∧A.toList[10]?=some (.int .i64 (S.play m).i)):=⟨aH 0 _ (by rw[eH];rfl),aH 5 _ (by rw[eH];rfl),aH 7 _ (by rw[eH];rfl),aD 0 _ (by rw[eD];rfl),aD 2 _ (by rw[eD];rfl),aD 5 _ (by rw[eD];rfl),aD 7 _ (by rw[eD];rfl),a10⟩
     have HRx:Hid (w9.rangeAt rb 0 A.toList):=hrg1
     have HP9:Hid (PWn ev w1 (iB L) L w9 (S.play m).S):=hp9
     have HJ:Hid (Jx C (S.play m).S (if m.k=7∧m.s=1 then false else bo)):=j1
     have HS:Hid (_):=hs
     obtain⟨S2,hS2⟩:∃ y,(S.play m).S=y:=⟨_,rfl⟩
     rw[hS2]at HA HP9 HJ HS
     subst hE
     clear H8 hp8 hp8' kM8 kM9 a9 a10 aH aD rH rD eH eD hrg1 hbl1 hb0 j1 hs c0 hp9 hS2
     go_upto_region 12 with fail
     go_cut [12,13] (fun p v wx=>Hid (∃ (pu:Nat) (ok:Bool),p=ac pu 0∧v=.bool ok∧∃ (kd nu:Int),Below w9.heap.size w9 wx∧Us wx pu ok C kd nu S2))
     case first=>
      rcases HS.out with ⟨hi,_⟩ | ⟨F,hi,hbg,hDE,h1,h2,h3⟩
      ·have hSn:=ri X A (-1) w9 (by decide) (by rw[HA.out.2.2.2.2.2.2.2,hi])
       go_wp2_with (refine cT (by kernel_rfl) 45 (.tmp 10) rfl rb 0 rfl A _ HRx.out underlying45 rfl hir ?_)
       refine hSn.mono ?_
       rintro r w10 ⟨rfl,b10⟩
       clear hSn
       have kU:=ay w10 (.cells bL 50)
       have bU:=az (Below.refl _ w10) (.cells bL 50)
       have HT:Hid (∃ (kd nu:Int),Below w9.heap.size w9 (w10.alloc (.cells bL 50))∧Us (w10.alloc (.cells bL 50)) w10.heap.size false C kd nu S2):=⟨0,0,b10.trans (bU.mono b10.size),ae _ w10.heap.size 0 _ _ _ kU,ae _ w10.heap.size 3 _ _ _ kU,fun y=>by cases y⟩
       clear kU bU
       go_wp2_with fail
       go_meet
       case rel=>exact⟨w10.heap.size,false,rfl,rfl,HT.out⟩
      ·have hSn:=rA (F:=F) (n:=S.bg.length) A HP9.out (by rw[hbg];simp) (by rw[hbg];simp) hDE (by rw[HA.out.2.2.2.2.2.2.2,hi])
       rw[HX.out]at hSn
       go_wp2_with (refine cT (by kernel_rfl) 45 (.tmp 10) rfl rb 0 rfl A _ HRx.out underlying45 rfl hir ?_)
       refine hSn.mono ?_
       rintro r w10 ⟨ua,uc,rfl,H10⟩
       clear hSn
       have b10:=H10.out.2
       have HU:Hid (((aC F.2 9:Nat):Int) ≤ ((C:Nat):Int)∧(((aC F.2 9:Nat):Int)=((C:Nat):Int) ↔ ((F.2 0:Nat):Int)=5∨((F.2 0:Nat):Int)=21)∧(((F.2 0:Nat):Int)=5→(S2.hs 0).st=5∧(S2.hs 0).v.lat≠0∧Jx C S2 true)):=⟨by omega,by omega,fun y=>h3 (by omega)⟩
       clear H10 hi hbg hDE h1 h2 h3
       have kU:=ay w10 (.cells #[.int .i64 (F.2 0:Nat),.int .u32 (aC F.2 1:Nat),.int .u32 (aC F.2 5:Nat),.int .u32 (aC F.2 9:Nat),.int .i64 (F.2 13:Nat),.slice ua (F.1-19) uc] 50)
       have bU:=az (Below.refl _ w10) (.cells #[.int .i64 (F.2 0:Nat),.int .u32 (aC F.2 1:Nat),.int .u32 (aC F.2 5:Nat),.int .u32 (aC F.2 9:Nat),.int .i64 (F.2 13:Nat),.slice ua (F.1-19) uc] 50)
       have HT:Hid (∃ (kd nu:Int),Below w9.heap.size w9 (w10.alloc (.cells #[.int .i64 (F.2 0:Nat),.int .u32 (aC F.2 1:Nat),.int .u32 (aC F.2 5:Nat),.int .u32 (aC F.2 9:Nat),.int .i64 (F.2 13:Nat),.slice ua (F.1-19) uc] 50))∧Us (w10.alloc (.cells #[.int .i64 (F.2 0:Nat),.int .u32 (aC F.2 1:Nat),.int .u32 (aC F.2 5:Nat),.int .u32 (aC F.2 9:Nat),.int .i64 (F.2 13:Nat),.slice ua (F.1-19) uc] 50)) w10.heap.size true C kd nu S2):=⟨_,_,b10.trans (bU.mono b10.size),ae _ w10.heap.size 0 _ _ _ kU,ae _ w10.heap.size 3 _ _ _ kU,fun _=>HU.out⟩
       clear kU bU
       go_wp2_with fail
       go_meet
       case rel=>exact⟨w10.heap.size,true,rfl,rfl,HT.out⟩
     case rest=>
      obtain⟨pu,okb,rfl,rfl,kd,nu,bX,u0,u3,hu⟩:=hcut.out
      clear hcut
      have z0:=ag HZ.out.1 bX
      have z2:=ag HZ.out.2 bX
      have hA:=HA.out
      have HU:Hid (okb=true→nu ≤ ((C:Nat):Int)∧(nu=((C:Nat):Int) ↔ kd=5∨kd=21)∧(kd=5→(S2.hs 0).st=5∧(S2.hs 0).v.lat≠0∧Jx C S2 true)):=hu
      have HBX:Hid (Below w9.heap.size w9 wc):=bX
      have HR:Hid (wc.cell? ⟨rb,11,none⟩=some (.int .i64 ((S2.hs 0).st:Nat))∧wc.cell? ⟨rb,16,none⟩=some (.int .i64 (S2.hs 0).v.lat)∧wc.cell? ⟨rb,18,none⟩=some (.bool (aE (S2.hs 0).v))∧wc.cell? ⟨rb,20,none⟩=some (.int .i64 ((S2.ds 0).st:Nat))∧wc.cell? ⟨rb,22,none⟩=some (.int .u32 ((S2.ds 0).nm:Nat))∧wc.cell? ⟨rb,25,none⟩=some (.int .i64 (S2.ds 0).v.lat)∧wc.cell? ⟨rb,27,none⟩=some (.bool (aE (S2.ds 0).v))):=by
       refine⟨?_,?_,?_,?_,?_,?_,?_⟩
       ·exact ag (HRr.out 11 _ hA.1) bX
       ·exact ag (HRr.out 16 _ hA.2.1) bX
       ·exact ag (HRr.out 18 _ hA.2.2.1) bX
       ·exact ag (HRr.out 20 _ hA.2.2.2.1) bX
       ·exact ag (HRr.out 22 _ hA.2.2.2.2.1) bX
       ·exact ag (HRr.out 25 _ hA.2.2.2.2.2.1) bX
       ·exact ag (HRr.out 27 _ hA.2.2.2.2.2.2.1) bX
      obtain⟨wX,hwX⟩:∃ y,wc=y:=⟨_,rfl⟩
      rw[hwX]at u0 u3 z0 z2 HBX HR ⊢
      clear bX hu hA hwX
      obtain⟨RS,hRS⟩:∃ y:Bool,(decide (m.k=7) && decide (m.s=1))=y:=⟨_,rfl⟩
      obtain⟨L5,hL5⟩:∃ y:Bool,(okb && decide (kd=5))=y:=⟨_,rfl⟩
      obtain⟨O1,hO1⟩:∃ y:Bool,(if m.k=7∧m.s=1 then false else bo)=y:=⟨_,rfl⟩
      have HRS:Hid (_=RS):=hRS
      have HL5:Hid (_=L5):=hL5
      have HO1:Hid (_=O1):=hO1
      have HJ1:Hid (Jx C S2 O1):=by rw[← hO1];exact HJ.out
      clear hRS hL5 hO1
      go_upto_region 13 with fail
      go_cut [13,82] (fun o v wx=>Hid (o=.bool okb∧v=.bool false∧wx=wX))
      case first=>
       rcases Bool.eq_false_or_eq_true okb with ho | ho
       ·obtain⟨n1,n2,n3⟩:=HU.out ho
        have g1:¬ ((C:Nat):Int)<nu:=by omega
        by_cases h5:kd=5
        ·have e:nu=((C:Nat):Int):=n2.2 (.inl h5)
         rw[e]at u3
         rw[h5]at u0
         clear n1 n2 n3 g1 h5 e
         go_wp2_with fail
         go_meet
         case rel=>exact⟨by rw[ho],rfl,rfl⟩
        ·by_cases h21:kd=21
         ·have e:nu=((C:Nat):Int):=n2.2 (.inr h21)
          rw[e]at u3
          rw[h21]at u0
          clear n1 n2 n3 g1 h5 h21 e
          go_wp2_with fail
          go_meet
          case rel=>exact⟨by rw[ho],rfl,rfl⟩
         ·have e:nu ≠ ((C:Nat):Int):=fun y=>by rcases n2.1 y with z | z;exact h5 z;exact h21 z
          have eb:(nu == ((C:Nat):Int))=false:=by simpa using e
          have kb5:(kd == 5)=false:=by simpa using h5
          have kb21:(kd == 21)=false:=by simpa using h21
          clear n1 n2 n3 h5 h21 e
          go_wp2_with fail
          go_meet
          case rel=>exact⟨by rw[ho],rfl,rfl⟩
       ·go_wp2_with fail
        go_meet
        case rel=>exact⟨by rw[ho],rfl,rfl⟩
      case rest=>
      obtain⟨rfl,rfl,hwc⟩:=hcut.out
      obtain rfl:=hwc.symm
      clear hcut
      go_upto_region 15 with fail
      go_cut [90] (fun v wx=>Hid (v=.bool RS∧wx=wX))
      case first=>
       by_cases h7:m.k=7
       ·have h7b:(m.k == 7)=true:=by simpa using h7
        by_cases h1:m.s=1
        ·have h1b:(m.s == 1)=true:=by simpa using h1
         have e:RS=true:=by rw[← HRS.out];simp[h7,h1]
         clear h7 h1
         go_wp2_with fail
         go_meet
         case rel=>exact⟨by rw[e],rfl⟩
        ·have h1b:(m.s == 1)=false:=by simpa using h1
         have e:RS=false:=by rw[← HRS.out];simp[h1]
         clear h7 h1
         go_wp2_with fail
         go_meet
         case rel=>exact⟨by rw[e],rfl⟩
       ·have h7b:(m.k == 7)=false:=by simpa using h7
        have e:RS=false:=by rw[← HRS.out];simp[h7]
        clear h7
        go_wp2_with fail
        go_meet
        case rel=>exact⟨by rw[e],rfl⟩
      case rest=>
      obtain⟨rfl,hwc⟩:=hcut.out
      obtain rfl:=hwc.symm
      clear hcut
      go_upto_if 90 with fail
      go_cut [7] (fun o wx=>Hid (o=.bool O1∧wx=wX))
      case first=>
       cases RS
       ·have e1:O1=bo:=by
         rw[← HO1.out]
         have:=HRS.out
         rw[if_neg (fun y=>by rw[decide_eq_true y.1,decide_eq_true y.2]at this;cases this)]
        have HE1:Hid (O1=bo):=e1
        clear e1
        go_wp2_with fail
        go_meet
        case rel=>exact⟨by rw[HE1.out],rfl⟩
       ·have e1:O1=false:=by
         rw[← HO1.out]
         have:=HRS.out
         simp only[Bool.and_eq_true,decide_eq_true_eq]at this
         rw[if_pos this]
        have HE1:Hid (O1=false):=e1
        clear e1
        go_wp2_with fail
        go_meet
        case rel=>exact⟨by rw[HE1.out],rfl⟩
      case rest=>
      obtain⟨rfl,hwc⟩:=hcut.out
      obtain rfl:=hwc.symm
      clear hcut
      go_upto_region 17 with fail
      go_cut [13,96] (fun o v wx=>Hid (o=.bool okb∧v=.bool L5∧wx=wX))
      case first=>
       rcases Bool.eq_false_or_eq_true okb with ho | ho
       ·by_cases h5:kd=5
        ·have h5b:(kd == 5)=true:=by simpa using h5
         have e:L5=true:=by rw[← HL5.out];simp[h5,ho]
         clear h5
         go_wp2_with fail
         go_meet
         case rel=>exact⟨by rw[ho],by rw[e],rfl⟩
        ·have h5b:(kd == 5)=false:=by simpa using h5
         have e:L5=false:=by rw[← HL5.out];simp[h5]
         clear h5
         go_wp2_with fail
         go_meet
         case rel=>exact⟨by rw[ho],by rw[e],rfl⟩
       ·have e:L5=false:=by rw[← HL5.out];simp[ho]
        go_wp2_with fail
        go_meet
        case rel=>exact⟨by rw[ho],by rw[e],rfl⟩
      case rest=>
      obtain⟨rfl,rfl,hwc⟩:=hcut.out
      obtain rfl:=hwc.symm
      clear hcut
      go_upto_if 96 with fail
      go_cut [7] (fun o wx=>Hid (∃ b2:Bool,o=.bool b2∧Jx C S2 b2∧wx=wX))
      case first=>
       cases L5
       ·go_wp2_with fail
        go_meet
        case rel=>exact⟨O1,rfl,HJ1.out,rfl⟩
       ·have h5:okb=true∧kd=5:=by
         have:=HL5.out
         simpa using this
        obtain⟨_,_,n3⟩:=HU.out h5.1
        obtain⟨_,hl,j5⟩:=n3 h5.2
        have c16:=HR.out.2.1
        have hlb:((S2.hs 0).v.lat == 0)=false:=by simpa using hl
        have HJ5:Hid (Jx C S2 true):=j5
        clear h5 n3 hl j5
        go_wp2_with fail
        go_meet
        case rel=>exact⟨true,rfl,HJ5.out,rfl⟩
      case rest=>
      obtain⟨b2,rfl,j2,hwc⟩:=hcut.out
      obtain rfl:=hwc.symm
      clear hcut
      have HJ2:Hid (Jx C S2 b2):=j2
      have HSh:Hid (_):=j2.show_
      clear j2
      go_upto_region 21 with fail
      go_cut [7,112] (fun o v wx=>Hid (o=.bool b2∧v=.bool false∧wx=wX))
      case first=>
       rcases Bool.eq_false_or_eq_true b2 with e | e
       ·have c11:=HR.out.1
        have c18:=HR.out.2.2.1
        obtain⟨s5,on⟩:=HSh.out.1 e
        rw[s5]at c11
        rw[on]at c18
        clear s5 on
        go_wp2_with fail
        go_meet
        case rel=>exact⟨by rw[e],rfl,rfl⟩
       ·go_wp2_with fail
        go_meet
        case rel=>exact⟨by rw[e],rfl,rfl⟩
      case rest=>
      obtain⟨rfl,rfl,hwc⟩:=hcut.out
      obtain rfl:=hwc.symm
      clear hcut
      go_upto_region 23 with fail
      go_cut [141] (fun v wx=>Hid (v=.bool false∧wx=wX))
      case first=>
       obtain⟨_,h1,h2⟩:=HSh.out
       obtain⟨_,_,_,c20,c22,c25,c27⟩:=HR.out
       by_cases hn:(S2.ds 0).nm=C
       ·obtain⟨s5,on,hl⟩:=h2 hn
        rw[hn]at c22
        rw[s5]at c20
        rw[on]at c27
        have hlb:((S2.ds 0).v.lat == 0)=false:=by simpa using hl
        clear s5 on hl h1 h2 hn
        go_wp2_with fail
        go_meet
        case rel=>exact⟨rfl,rfl⟩
       ·have hnb:((((S2.ds 0).nm:Nat):Int) == ((C:Nat):Int))=false:=by
         have:(((S2.ds 0).nm:Nat):Int) ≠ ((C:Nat):Int):=by omega
         simpa using this
        have hg:¬ ((C:Nat):Int) < (((S2.ds 0).nm:Nat):Int):=by omega
        clear h1 h2 hn
        go_wp2_with fail
        go_meet
        case rel=>exact⟨rfl,rfl⟩
      case rest=>
      obtain⟨rfl,hwc⟩:=hcut.out
      obtain rfl:=hwc.symm
      clear hcut
      have HT:Hid (∃ S,Jx C S b2∧PWn ev w1 (iB L) L wX S):=⟨S2,HJ2.out,HP9.out.below HBX.out⟩
      clear u0 u3 z0 z2
      go_wp2_with fail
      refine⟨⟨k+1,b2,by omega,by omega,by simp,rfl,HT⟩,?_⟩
      have e1:je (.int .i64 ((k:Nat):Int))=k:=by simp[je]
      have e2:je (.int .i64 (((k:Nat):Int)+1))=k+1:=by simp[je]
      rw[e1,e2]
      omega
    ·have hEb:(E != 0)=true:=by simpa using hE
     have hEb2:(E == 0)=false:=by simpa using hE
     have HT:Hid (∃ S,Jx C S bo∧PWn ev w1 (iB L) L w9 S):=by
      have hbd:S.bad m≠0:=by rw[← H8.out.1];exact hE
      exact⟨_,HG.out.1.skip hbd,hp9⟩
     clear H8 hp8 hp8' kM8 hp9 hrg1 hbl1
     go_wp2_with fail
     refine⟨⟨k+1,bo,by omega,by omega,by simp,rfl,HT⟩,?_⟩
     have e1:je (.int .i64 ((k:Nat):Int))=k:=by simp[je]
     have e2:je (.int .i64 (((k:Nat):Int)+1))=k+1:=by simp[je]
     rw[e1,e2]
     omega
   ·have h3':¬ ((k:Nat):Int)<300:=by omega
    have HE:Hid (Below w1.heap.size w1 wr):=by
     obtain⟨S,_,t9,L9,h9,_⟩:=HI.out
     exact h9.1.bel
    clear HI
    go_wp2_with fail
    go_ret
    exact⟨rfl,HB1.out.trans (HE.out.mono HB1.out.size)⟩
  ·have hlt':¬ ((k:Nat):Int) < ((len:Nat):Int):=by omega
   have HE:Hid (Below w1.heap.size w1 wr):=by
    obtain⟨S,_,t9,L9,h9,_⟩:=HI.out
    exact h9.1.bel
   clear HI
   go_wp2_with fail
   go_ret
   exact⟨rfl,HB1.out.trans (HE.out.mono HB1.out.size)⟩
theorem topExhausts_walk (a0:Option Addr) (len0 cap0:Nat) (a1:Int) (w:World) (w0:OpRow w a0 len0) (w1:(Lit.int .u32 a1).wf=true) :
  Calls prog 6 #[.slice a0 len0 cap0,.int .u32 a1] w fun e w'=>e=.returned (.bool true)∧Below w.heap.size w w':=by
 obtain⟨x,rfl,hx⟩:=uW w1
 exact jM a0 len0 cap0 x hx w w0
end Go.Proofs.YtddahhlbpcbddaaGreat
