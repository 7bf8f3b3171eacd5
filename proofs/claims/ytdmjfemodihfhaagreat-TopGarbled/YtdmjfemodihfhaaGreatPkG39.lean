/- Part 40: contracts that the proof rests on. -/
import Derived.Deep.DeepCutAuto
import Derived.Deep.CutBlock
import Derived.Deep.RegionWith
import Derived.Test.YtdmjfemodihfhaaGreatPkG38
set_option maxHeartbeats 64000000
set_option maxRecDepth 100000
namespace Go.Proofs.YtdmjfemodihfhaaGreat
set_option maxRecDepth 100000
open Go.RowKit Go.Maps
set_option linter.unusedVariables false
theorem jV (a:Option Addr) (len cap:Nat) (m0:Mv) (ok0:m0.Ok) (d0:Option Addr) (c0:Nat) (w:World) (O:OpRow w a len) (R0:Row8 w d0 m0.l c0 m0.b) (hl0:m0.l≤140737488351232):Calls Tryz.prog 7 #[.slice a len cap,.agg #[.int .i64 m0.k,.int .i64 m0.c,.int .i64 m0.s,.int .i64 m0.f,.int .i64 m0.a,.int .u32 (m0.w:Nat),.int .i64 m0.n,.bool m0.h,.slice d0 m0.l c0]] w fun r w'=>r=.returned (.bool true)∧Below w.heap.size w w':=by
 have HO:Hid (OpRow w a len):=O
 have HR0:Hid (_):=And.intro R0 (And.intro hl0 ok0)
 have hlen:=O.1
 have kA:=au w (.cells #[.int .i64 m0.k,.int .i64 m0.c,.int .i64 m0.s,.int .i64 m0.f,.int .i64 m0.a,.int .u32 (m0.w:Nat),.int .i64 m0.n,.bool m0.h,.slice d0 m0.l c0] 39)
 have bA:=az (Below.refl _ w) (.cells #[.int .i64 m0.k,.int .i64 m0.c,.int .i64 m0.s,.int .i64 m0.f,.int .i64 m0.a,.int .u32 (m0.w:Nat),.int .i64 m0.n,.bool m0.h,.slice d0 m0.l c0] 39)
 obtain⟨wa,hwa⟩:∃ z,w.alloc (.cells #[.int .i64 m0.k,.int .i64 m0.c,.int .i64 m0.s,.int .i64 m0.f,.int .i64 m0.a,.int .u32 (m0.w:Nat),.int .i64 m0.n,.bool m0.h,.slice d0 m0.l c0] 39)=z:=⟨_,rfl⟩
 obtain⟨ob,hob⟩:∃ z,w.heap.size=z:=⟨_,rfl⟩
 rw[hwa]at kA bA
 rw[hob]at kA
 obtain⟨OBJ,hOBJ⟩:∃ z,(Obj.cells #[.int .i64 m0.k,.int .i64 m0.c,.int .i64 m0.s,.int .i64 m0.f,.int .i64 m0.a,.int .u32 (m0.w:Nat),.int .i64 m0.n,.bool m0.h,.slice d0 m0.l c0] 39 (0,0))=z:=⟨_,rfl⟩
 have HOB:Hid ((Obj.cells #[.int .i64 m0.k,.int .i64 m0.c,.int .i64 m0.s,.int .i64 m0.f,.int .i64 m0.a,.int .u32 (m0.w:Nat),.int .i64 m0.n,.bool m0.h,.slice d0 m0.l c0] 39 (0,0))=OBJ):=hOBJ
 have HBA:Hid (Below w.heap.size w wa∧w.heap.size=ob∧wa.heap[ob]?=some OBJ):=⟨bA,hob,by rw[← hOBJ];exact kA⟩
 have hNe:=zq wa
 have HE:Hid (_=wa):=hwa
 have HSb:Hid (w.heap.size=ob):=hob
 clear O R0 hl0 ok0 kA bA hwa hob hOBJ
 go_enter Tryz.func7,Tryz.ntmps7
 go_upto_region 1 with fail
 rw[HE.out,HSb.out]
 go_wp2_with fail
 refine hNe.mono ?_
 rintro r w1 ⟨g0,v0,g1,v1,rfl,H1⟩
 clear hNe
 have hN:Calls Tryz.prog 11 #[.agg #[.slice (some ⟨g0,0,none⟩) 2 v0,.slice (some ⟨g1,0,none⟩) 2 v1,.int .u32 50]] w1 fun r w'=>∃ L:Pw,r=.returned (.tuple #[.pointer (some ⟨L.x,0,none⟩),.int .i64 0])∧Hid (PW ev w1 w' (ij L) L∧L.S=sN 2 50 uz uz):=wZ uz uz g0 0 v0 g1 0 v1 2 50 qg qg (by decide) (by decide) (by decide) (by decide) H1.out.1 H1.out.2.1 w1 H1.out.2.2.1 H1.out.2.2.2.1 wg
 have HB1:Hid (Below wa.heap.size wa w1):=H1.out.2.2.2.2
 clear H1
 go_wp2_with fail
 refine hN.mono ?_
 rintro r w2 ⟨L,rfl,H2⟩
 clear hN
 obtain⟨X,hX⟩:∃ y,L.x=y:=⟨_,rfl⟩
 rw[hX]
 have HX:Hid (L.x=X):=hX
 clear hX
 have hAw:=tJ w2
 go_wp2_with fail
 refine hAw.mono ?_
 rintro r w3 ⟨rfl,b3⟩
 clear hAw
 have HS0:Hid (∃ S,Gg S 0∧PWn ev w (aA (ij L) (2*0+1) (cR [(ob,OBJ)])) L w3 S):=by
  obtain⟨bA,hob,kA⟩:=HBA.out
  have lo:=(Array.getElem?_eq_some_iff.1 kA).1
  have h3:=H2.out.1.below b3
  have z1:=HB1.out.size
  have k3:w3.heap[ob]?=some OBJ:=(h3.1.bel.block ob (by omega)).trans ((HB1.out.block ob lo).trans kA)
  have h4:=(h3.rebaseB (i:=2*0+1) (q:=ob) (bA.trans (HB1.out.mono bA.size)) (fun j=>by unfold ev;omega) (by omega) (by omega) k3).n
  rw[H2.out.2]at h4
  exact⟨_,Gg.start,h4⟩
 clear b3 H2
 go_upto_block 0 with fail
 go_cut [7] (fun _ wx=>Hid (∃ S,Gg S 300∧PWn ev w (aA (ij L) (2*0+1) (cR [(ob,OBJ)])) L wx S))
 case first=>
  go_wp2_with fail
  go_loopw [7,22,23,24,25,26,27,28,29,30,31,32,33,34,35,36,37,38] (fun i _ _ _ _ _ _ _ _ _ _ _ _ _ _ _ _ _ wr=>∃ k:Nat,k≤len∧k≤300∧i=.int .i64 ((k:Nat):Int)∧Hid (∃ S,Gg S k∧PWn ev w (aA (ij L) (2*0+1) (cR [(ob,OBJ)])) L wr S)) (fun i _ _ _ _ _ _ _ _ _ _ _ _ _ _ _ _ _ _=>len-sf i)
  case atStart=>exact⟨0,by omega,by omega,rfl,HS0⟩
  case round=>
   obtain⟨k,hk,hk3,rfl,HI⟩:=hrel
   clear HS0
   have HT:Hid (∃ S,Gg S 300∧PWn ev w (aA (ij L) (2*0+1) (cR [(ob,OBJ)])) L wr S):=by
    obtain⟨S,g,hp⟩:=HI.out
    exact⟨S,⟨g.I,g.n,g.B,by have:=g.mv;omega⟩,hp⟩
   by_cases hlt:k<len
   ·have hlt':((k:Nat):Int) < ((len:Nat):Int):=by omega
    by_cases h3:k<300
    ·clear HT
     have h3':((k:Nat):Int)<300:=by omega
     obtain⟨b,off,rfl,hb,hm⟩:=HO.out.2 (by omega)
     obtain⟨m,d,ok,R,hl,hcl⟩:=hm k hlt
     obtain⟨S,g,hp⟩:=HI.out
     have hbr:Below w.heap.size w wr:=by
      obtain⟨t9,L9,h9,_⟩:=hp
      exact h9.1.bel
     have p0:wr.cell? ⟨b,off+k*9,none⟩=some (.int .i64 m.k):=ae (hcl 0 _ rfl) hbr
     have p1:wr.cell? ⟨b,off+k*9+1,none⟩=some (.int .i64 m.c):=ae (hcl 1 _ rfl) hbr
     have p2:wr.cell? ⟨b,off+k*9+2,none⟩=some (.int .i64 m.s):=ae (hcl 2 _ rfl) hbr
     have p3:wr.cell? ⟨b,off+k*9+3,none⟩=some (.int .i64 m.f):=ae (hcl 3 _ rfl) hbr
     have p4:wr.cell? ⟨b,off+k*9+4,none⟩=some (.int .i64 m.a):=ae (hcl 4 _ rfl) hbr
     have p5:wr.cell? ⟨b,off+k*9+5,none⟩=some (.int .u32 (m.w:Nat)):=ae (hcl 5 _ rfl) hbr
     have p6:wr.cell? ⟨b,off+k*9+6,none⟩=some (.int .i64 m.n):=ae (hcl 6 _ rfl) hbr
     have p7:wr.cell? ⟨b,off+k*9+7,none⟩=some (.bool m.h):=ae (hcl 7 _ rfl) hbr
     have p8:wr.cell? ⟨b,off+k*9+8,none⟩=some (.slice d.a m.l d.c):=ae (hcl 8 _ rfl) hbr
     have hCo:=tc m d.a d.c wr (R.below hbr) hl
     have HG:Hid (_):=And.intro g (And.intro ok hl)
     have HP:Hid (PWn ev w (aA (ij L) (2*0+1) (cR [(ob,OBJ)])) L wr S):=hp
     clear hm R hcl g hp hbr ok hl hb HI
     go_wp2_with fail
     refine hCo.mono ?_
     rintro r w6 ⟨d6,c6,rfl,H6⟩
     clear hCo p0 p1 p2 p3 p4 p5 p6 p7 p8
     have hPl:Calls Tryz.prog 15 #[.pointer (some ⟨X,0,none⟩),.agg #[.int .i64 m.k,.int .i64 m.c,.int .i64 m.s,.int .i64 m.f,.int .i64 m.a,.int .u32 (m.w:Nat),.int .i64 m.n,.bool m.h,.slice d6 m.l c6]] w6 fun r w'=>∃ (A:Array Value) (E:Int),r=.returned (.tuple #[.agg A,.int .i64 E])∧Hid (PWn ev w (aA (ij L) (2*0+1) (cR [(ob,OBJ)])) L w' (S.play m).S):=by
      have:=xN (i:=1) m d6 c6 (HP.out.below H6.out.2.1) ((jd L).put _) HG.out.1.I HG.out.2.1 (by rw[HG.out.1.n];decide) H6.out.1 (fun y hy h0 e=>by
       have h1:=H6.out.2.2 y hy h0
       have h2:L.x<wr.heap.size:=by
        obtain⟨t9,L9,h9,_,hx9,_⟩:=HP.out
        rw[← hx9.x]
        exact (h9.2.wb h9.1).lt _ (by simp[Wc.U,Pw.core])
       omega) HG.out.2.2
      rw[HX.out]at this
      refine this.mono ?_
      rintro r w' ⟨A,E,rfl,_,_,H⟩
      exact⟨A,E,rfl,H.out.2.1⟩
     go_wp2_with fail
     refine hPl.mono ?_
     rintro r w7 ⟨A0,E,rfl,H7⟩
     clear hPl
     have HT:Hid (∃ S,Gg S (k+1)∧PWn ev w (aA (ij L) (2*0+1) (cR [(ob,OBJ)])) L w7 S):=⟨_,HG.out.1.next HP.out.kn,H7.out⟩
     clear HG HP H6 H7
     go_wp2_with fail
     refine⟨⟨k+1,by omega,by omega,by simp,HT⟩,?_⟩
     have e1:sf (.int .i64 ((k:Nat):Int))=k:=by simp[sf]
     have e2:sf (.int .i64 (((k:Nat):Int)+1))=k+1:=by simp[sf]
     rw[e1,e2]
     omega
    ·have h3':¬ ((k:Nat):Int)<300:=by omega
     clear HI
     go_wp2_with fail
     go_meet
     case rel=>exact HT
   ·have hlt':¬ ((k:Nat):Int) < ((len:Nat):Int):=by omega
    clear HI
    go_wp2_with fail
    go_meet
    case rel=>exact HT
 case rest=>
  clear HS0
  obtain⟨S,g,hp⟩:=hcut.out
  have ko:=hp.box (q:=2*0+1) (fun j=>by unfold ev;omega) (ai _ _ _) _ (List.mem_cons_self ..)
  rw[← HOB.out]at ko
  have o0:wc.cell? ⟨ob,0,none⟩=some (.int .i64 m0.k):=ac wc ob 0 _ _ _ ko
  have o1:wc.cell? ⟨ob,1,none⟩=some (.int .i64 m0.c):=ac wc ob 1 _ _ _ ko
  have o2:wc.cell? ⟨ob,2,none⟩=some (.int .i64 m0.s):=ac wc ob 2 _ _ _ ko
  have oz:=fun k=>frozen_of_row wc ob k _ _ ko
  go_upto_region 11 with fail
  obtain⟨c1,hc1,hc2⟩:∃ y:Nat,wrap64 ((IntKind.u64.wrap m0.c).tmod 2)=((y:Nat):Int)∧y<2:=vn m0.c
  obtain⟨s1,hs1,hs2⟩:∃ y:Nat,wrap64 (1+wrap64 ((IntKind.u64.wrap m0.s).tmod 2))=((y:Nat):Int)∧(y=1∨y=2):=uA m0.s
  rw[hc1,hs1]
  have k8:((( wc.setCell ⟨ob,0,none⟩ (.int .i64 4)).setCell ⟨ob,1,none⟩ (.int .i64 ((c1:Nat):Int))).setCell ⟨ob,2,none⟩ (.int .i64 ((s1:Nat):Int))).heap[ob]?=some (Obj.cells #[.int .i64 4,.int .i64 ((c1:Nat):Int),.int .i64 ((s1:Nat):Int),.int .i64 m0.f,.int .i64 m0.a,.int .u32 (m0.w:Nat),.int .i64 m0.n,.bool m0.h,.slice d0 m0.l c0] 39 (0,0)):=heap_setCell_same _ _ _ _ _ _ (heap_setCell_same _ _ _ _ _ _ (heap_setCell_same _ _ _ _ _ _ ko))
  have o8:Off [ob] wc (((wc.setCell ⟨ob,0,none⟩ (.int .i64 4)).setCell ⟨ob,1,none⟩ (.int .i64 ((c1:Nat):Int))).setCell ⟨ob,2,none⟩ (.int .i64 ((s1:Nat):Int))):=((Off.setCell _ _ _ _).trans (Off.setCell _ _ _ _)).trans (Off.setCell _ _ _ _)
  have hp8:=hp.turnB (fun j=>by unfold ev;omega) o8 k8
  obtain⟨w8,hw8⟩:∃ y,((wc.setCell ⟨ob,0,none⟩ (.int .i64 4)).setCell ⟨ob,1,none⟩ (.int .i64 ((c1:Nat):Int))).setCell ⟨ob,2,none⟩ (.int .i64 ((s1:Nat):Int))=y:=⟨_,rfl⟩
  rw[hw8]at k8 hp8 ⊢
  have hFr:=lD hp8
  rw[HX.out]at hFr
  obtain⟨N,hN⟩:∃ y,S.bg.length=y:=⟨_,rfl⟩
  have HNb:Hid (S.bg.length=N):=hN
  rw[hN]at hFr
  have HG:Hid (Gg S 300):=g
  have HBn:Hid (N≤300):=by rw[← hN];have:=g.I.bg;have:=g.mv;show S.bg.length≤300;omega
  have HP8:Hid (PWn ev w (aA (ij L) (2*0+1) (cR [(ob,(Obj.cells #[.int .i64 4,.int .i64 ((c1:Nat):Int),.int .i64 ((s1:Nat):Int),.int .i64 m0.f,.int .i64 m0.a,.int .u32 (m0.w:Nat),.int .i64 m0.n,.bool m0.h,.slice d0 m0.l c0] 39 (0,0)))])) L w8 S):=hp8
  clear hc1 hs1 o0 o1 o2 oz ko o8 hw8 hp hp8 hcut g hN
  go_wp2_with fail
  refine hFr.mono ?_
  rintro r w9 ⟨rfl,rfl⟩
  clear hFr
  go_upto_if 55 with fail
  go_cut [55] (fun _ wx=>Hid (∃ f1:Int,(-9223372036854775808≤f1∧f1≤9223372036854775807)∧(0<N→0≤f1∧f1 < ((N:Nat):Int))∧PWn ev w (aA (ij L) (2*0+1) (cR [(ob,(Obj.cells #[.int .i64 4,.int .i64 ((c1:Nat):Int),.int .i64 ((s1:Nat):Int),.int .i64 f1,.int .i64 m0.a,.int .u32 (m0.w:Nat),.int .i64 m0.n,.bool m0.h,.slice d0 m0.l c0] 39 (0,0)))])) L wx S))
  case first=>
   by_cases hz:0<N
   ·have hz1:(0:Int) < ((N:Nat):Int):=by omega
    have o3:w9.drew.cell? ⟨ob,3,none⟩=some (.int .i64 m0.f):=ac w9.drew ob 3 _ _ _ k8
    have oz:=fun k=>frozen_of_row w9 ob k _ _ k8
    have hFr:∀ wx,Below w9.heap.size w9 wx→Calls Tryz.prog 20 #[.pointer (some ⟨X,0,none⟩)] wx fun r w'=>r=.returned (.int .i64 (N:Nat))∧w'=wx:=fun wx b=>by
     have:=lD (HP8.out.below b)
     rw[HX.out,HNb.out]at this
     exact this
    have hFd:=hFr w9.drew (Below.drew (Below.refl _ _))
    have ozd:w9.drew.frozen? ⟨ob,3,none⟩=false:=frozen_of_row w9.drew ob 3 _ _ k8
    have zQ:IntKind.u64.wrap ((N:Nat):Int)=((N:Nat):Int):=xM HBn.out
    have hn0:¬ ((N:Nat):Int)=0:=by omega
    have hn1:(((N:Nat):Int) == 0)=false:=by simpa using hn0
    have hn2:¬ N=0:=by omega
    obtain⟨hf1,hf2⟩:=uT m0.f hz HBn.out
    have k9:(w9.setCell ⟨ob,3,none⟩ (.int .i64 (IntKind.i64.wrap ((IntKind.u64.wrap m0.f).tmod ((N:Nat):Int))))).heap[ob]?=some (Obj.cells #[.int .i64 4,.int .i64 ((c1:Nat):Int),.int .i64 ((s1:Nat):Int),.int .i64 (IntKind.i64.wrap ((IntKind.u64.wrap m0.f).tmod ((N:Nat):Int))),.int .i64 m0.a,.int .u32 (m0.w:Nat),.int .i64 m0.n,.bool m0.h,.slice d0 m0.l c0] 39 (0,0)):=heap_setCell_same _ _ _ _ _ _ k8
    have hp9:=(HP8.out.turnB (fun j=>by unfold ev;omega) (Off.setCell ob 3 w9 (.int .i64 (IntKind.i64.wrap ((IntKind.u64.wrap m0.f).tmod ((N:Nat):Int))))) k9).below (Below.drew (Below.refl _ _))
    have HT:Hid (∃ f1:Int,(-9223372036854775808≤f1∧f1≤9223372036854775807)∧(0<N→0≤f1∧f1 < ((N:Nat):Int))∧PWn ev w (aA (ij L) (2*0+1) (cR [(ob,(Obj.cells #[.int .i64 4,.int .i64 ((c1:Nat):Int),.int .i64 ((s1:Nat):Int),.int .i64 f1,.int .i64 m0.a,.int .u32 (m0.w:Nat),.int .i64 m0.n,.bool m0.h,.slice d0 m0.l c0] 39 (0,0)))])) L (w9.setCell ⟨ob,3,none⟩ (.int .i64 (IntKind.i64.wrap ((IntKind.u64.wrap m0.f).tmod ((N:Nat):Int))))).drew S):=⟨_,by have:=HBn.out;omega,fun _=>⟨hf1,hf2⟩,hp9⟩
    clear hFr k9 hp9 oz hf1 hf2 k8
    go_upto_region 12 with fail
    go_region_with (first | (go_at_call 20;refine hFd.mono ?_;rintro e w2 ⟨rfl,rfl⟩))
    all_goals
     go_wp2_with fail
     go_meet
     case rel=>exact HT
   ·have hz1:¬ (0:Int) < ((N:Nat):Int):=by omega
    have HT:Hid (∃ f1:Int,(-9223372036854775808≤f1∧f1≤9223372036854775807)∧(0<N→0≤f1∧f1 < ((N:Nat):Int))∧PWn ev w (aA (ij L) (2*0+1) (cR [(ob,(Obj.cells #[.int .i64 4,.int .i64 ((c1:Nat):Int),.int .i64 ((s1:Nat):Int),.int .i64 f1,.int .i64 m0.a,.int .u32 (m0.w:Nat),.int .i64 m0.n,.bool m0.h,.slice d0 m0.l c0] 39 (0,0)))])) L w9 S):=⟨m0.f,HR0.out.2.2.f,fun y=>absurd y hz,HP8.out⟩
    go_wp2_with fail
    go_meet
    case rel=>exact HT
  case rest=>
   obtain⟨f1,hfr,hfN,hpC⟩:=hcut.out
   have ko:=hpC.box (q:=2*0+1) (fun j=>by unfold ev;omega) (ai _ _ _) _ (List.mem_cons_self ..)
   have o1:wc.cell? ⟨ob,1,none⟩=some (.int .i64 ((c1:Nat):Int)):=ac wc ob 1 _ _ _ ko
   have hEn:Calls Tryz.prog 17 #[.pointer (some ⟨X,0,none⟩),.int .i64 ((c1:Nat):Int)] wc fun r w'=>∃ A B:Array Value,r=.returned (.tuple #[.agg A,.agg B])∧A.size=9∧A.all (·.oneCell')=true∧B.size=9∧B.all (·.oneCell')=true∧Hid (∃ ra rc qa qc,A=#[.int .i64 ((S.hs c1).st:Nat),.int .u32 ((S.hs c1).ss:Nat),.int .u32 ((S.hs c1).nm:Nat),.int .u32 ((S.hs c1).sn:Nat),.int .i64 ((S.hs c1).dc:Nat),.int .i64 (S.hs c1).v.lat,.bool (ak (S.hs c1).v),.bool (ax (S.hs c1).v),.slice ra (S.PH c1).i rc]∧B=#[.int .i64 ((S.ds c1).st:Nat),.int .u32 ((S.ds c1).ss:Nat),.int .u32 ((S.ds c1).nm:Nat),.int .u32 ((S.ds c1).sn:Nat),.int .i64 ((S.ds c1).dc:Nat),.int .i64 (S.ds c1).v.lat,.bool (ak (S.ds c1).v),.bool (ax (S.ds c1).v),.slice qa (S.PD c1).o qc]∧Row8 w' ra (S.PH c1).i rc (cu (S.hs c1).v)∧Row8 w' qa (S.PD c1).o qc (cu (S.ds c1).v)∧Below wc.heap.size wc w'∧(∀ y,ra=some y→0 < (S.PH c1).i→wc.heap.size≤y.block)∧(∀ y,qa=some y→0 < (S.PD c1).o→wc.heap.size≤y.block)∧∀ y z,ra=some y→qa=some z→0 < (S.PH c1).i→0 < (S.PD c1).o→y.block≠z.block):=by
    have hk:c1<S.n:=by rw[HG.out.n];exact hc2
    have:=yP L.x c1 (S.PH c1).i (S.PD c1).o _ _ _ _ _ _ _ _ _ _ _ _ _ _ _ _ (cu (S.hs c1).v) (cu (S.ds c1).v) wc (fun w1 b1=>xW (hpC.below b1) hk) (fun w1 b1=>xF (hpC.below b1) hk)
    rw[HX.out]at this
    refine this.mono ?_
    rintro r w' ⟨ra,rc,qa,qc,rfl,H⟩
    exact⟨_,_,rfl,rfl,by kernel_rfl,rfl,by kernel_rfl,ra,rc,qa,qc,rfl,rfl,H.out⟩
   have HPC:Hid (PWn ev w (aA (ij L) (2*0+1) (cR [(ob,(Obj.cells #[.int .i64 4,.int .i64 ((c1:Nat):Int),.int .i64 ((s1:Nat):Int),.int .i64 f1,.int .i64 m0.a,.int .u32 (m0.w:Nat),.int .i64 m0.n,.bool m0.h,.slice d0 m0.l c0] 39 (0,0)))])) L wc S):=hpC
   have HF1:Hid (_):=And.intro hfr hfN
   clear hcut hpC ko hfr hfN k8
   go_wp2_with fail
   refine hEn.mono ?_
   rintro r w10 ⟨A,B,rfl,hsA,hoA,hsB,hoB,H10⟩
   clear hEn
   obtain⟨wy,wz,hst1,hst2,hrA,hrB,hbl⟩:=ro w10 hsA hoA hsB hoB
   obtain⟨ra,rc,qa,qc,eA,eB,Ra,Rb,bE,nA,nB,ap⟩:=H10.out
   have lA:w10.heap.size<wz.heap.size:=World.block_lt_of_cell? wz _ (hrA 0 A[0] (by rw[Array.getElem?_toList,Array.getElem?_eq_getElem (by omega)]))
   have lB:w10.heap.size+1<wz.heap.size:=World.block_lt_of_cell? wz _ (hrB 0 B[0] (by rw[Array.getElem?_toList,Array.getElem?_eq_getElem (by omega)]))
   obtain⟨oA,hoA2⟩:∃ o,wz.heap[w10.heap.size]?=some o:=⟨_,Array.getElem?_eq_getElem lA⟩
   obtain⟨oB,hoB2⟩:∃ o,wz.heap[w10.heap.size+1]?=some o:=⟨_,Array.getElem?_eq_getElem lB⟩
   have h1:=HPC.out.lay2 bE (i:=2*1+1) (j:=2*2+1) (fun j=>by unfold ev;omega) (fun j=>by unfold ev;omega) (by decide) Ra Rb nA nB ap
   have h2:=h1.layL hbl (i:=2*3+1) (fun j=>by unfold ev;omega) (l:=[(w10.heap.size,oA),(w10.heap.size+1,oB)]) (fun p hp=>by
    simp only[List.mem_cons,List.not_mem_nil,or_false]at hp
    rcases hp with rfl | rfl
    ·exact hoA2
    ·exact hoB2) (fun p hp=>by
    simp only[List.mem_cons,List.not_mem_nil,or_false]at hp
    rcases hp with rfl | rfl
    ·exact Nat.le_refl _
    ·exact Nat.le_succ _)
   have F4:Fre ev (aA (aA (aA (aA (ij L) (2*0+1) (cR [(ob,(Obj.cells #[.int .i64 4,.int .i64 ((c1:Nat):Int),.int .i64 ((s1:Nat):Int),.int .i64 f1,.int .i64 m0.a,.int .u32 (m0.w:Nat),.int .i64 m0.n,.bool m0.h,.slice d0 m0.l c0] 39 (0,0)))])) (2*1+1) (dH ra (S.PH c1).i rc (cu (S.hs c1).v))) (2*2+1) (dH qa (S.PD c1).o qc (cu (S.ds c1).v))) (2*3+1) (cR [(w10.heap.size,oA),(w10.heap.size+1,oB)])) 4:=((((jd L).put _).put _).put _).put _
   have ko:=h2.box (q:=2*0+1) (fun j=>by unfold ev;omega) (by rw[ag _ _ (by decide),ag _ _ (by decide),ag _ _ (by decide)];exact ai _ _ _) _ (List.mem_cons_self ..)
   have bz:Below w.heap.size w wz:=by
    obtain⟨t9,L9,h9,_⟩:=h2
    exact h9.1.bel
   have n0:wz.cell? ⟨ob,0,none⟩=some (.int .i64 4):=ac wz ob 0 _ _ _ ko
   have n1:wz.cell? ⟨ob,1,none⟩=some (.int .i64 ((c1:Nat):Int)):=ac wz ob 1 _ _ _ ko
   have n2:wz.cell? ⟨ob,2,none⟩=some (.int .i64 ((s1:Nat):Int)):=ac wz ob 2 _ _ _ ko
   have n3:wz.cell? ⟨ob,3,none⟩=some (.int .i64 f1):=ac wz ob 3 _ _ _ ko
   have n4:wz.cell? ⟨ob,4,none⟩=some (.int .i64 m0.a):=ac wz ob 4 _ _ _ ko
   have n5:wz.cell? ⟨ob,5,none⟩=some (.int .u32 (m0.w:Nat)):=ac wz ob 5 _ _ _ ko
   have n6:wz.cell? ⟨ob,6,none⟩=some (.int .i64 m0.n):=ac wz ob 6 _ _ _ ko
   have n7:wz.cell? ⟨ob,7,none⟩=some (.bool m0.h):=ac wz ob 7 _ _ _ ko
   have n8:wz.cell? ⟨ob,8,none⟩=some (.slice d0 m0.l c0):=ac wz ob 8 _ _ _ ko
   have hCo:Calls Tryz.prog 14 #[.agg #[.int .i64 4,.int .i64 ((c1:Nat):Int),.int .i64 ((s1:Nat):Int),.int .i64 f1,.int .i64 m0.a,.int .u32 (m0.w:Nat),.int .i64 m0.n,.bool m0.h,.slice d0 m0.l c0]] wz fun r w'=>∃ d6 c6,r=.returned (.agg #[.int .i64 4,.int .i64 ((c1:Nat):Int),.int .i64 ((s1:Nat):Int),.int .i64 f1,.int .i64 m0.a,.int .u32 (m0.w:Nat),.int .i64 m0.n,.bool m0.h,.slice d6 m0.l c6])∧Hid (Row8 w' d6 m0.l c6 m0.b∧Below wz.heap.size wz w'∧∀ y,d6=some y→0<m0.l→wz.heap.size≤y.block):=tc (⟨4,((c1:Nat):Int),((s1:Nat):Int),f1,m0.a,m0.w,m0.n,m0.h,m0.l,m0.b⟩:Mv) d0 c0 wz (HR0.out.1.below bz) HR0.out.2.1
   have H2:Hid (PWn ev w (aA (aA (aA (aA (ij L) (2*0+1) (cR [(ob,(Obj.cells #[.int .i64 4,.int .i64 ((c1:Nat):Int),.int .i64 ((s1:Nat):Int),.int .i64 f1,.int .i64 m0.a,.int .u32 (m0.w:Nat),.int .i64 m0.n,.bool m0.h,.slice d0 m0.l c0] 39 (0,0)))])) (2*1+1) (dH ra (S.PH c1).i rc (cu (S.hs c1).v))) (2*2+1) (dH qa (S.PD c1).o qc (cu (S.ds c1).v))) (2*3+1) (cR [(w10.heap.size,oA),(w10.heap.size+1,oB)])) L wz S∧Fre ev (aA (aA (aA (aA (ij L) (2*0+1) (cR [(ob,(Obj.cells #[.int .i64 4,.int .i64 ((c1:Nat):Int),.int .i64 ((s1:Nat):Int),.int .i64 f1,.int .i64 m0.a,.int .u32 (m0.w:Nat),.int .i64 m0.n,.bool m0.h,.slice d0 m0.l c0] 39 (0,0)))])) (2*1+1) (dH ra (S.PH c1).i rc (cu (S.hs c1).v))) (2*2+1) (dH qa (S.PD c1).o qc (cu (S.ds c1).v))) (2*3+1) (cR [(w10.heap.size,oA),(w10.heap.size+1,oB)])) 4):=⟨h2,F4⟩
   have HAB:Hid (_):=And.intro eA (And.intro eB (And.intro hrA (And.intro hrB (And.intro hoA2 hoB2))))
   clear h1 h2 F4 ko bz hrA hrB hbl lA lB Ra Rb nA nB ap H10 o1 eA eB hoA2 hoB2 bE
   go_wp2_with fail
   refine hCo.mono ?_
   rintro r w11 ⟨d6,c6,rfl,H11⟩
   clear hCo hst1 hst2 n0 n1 n2 n3 n4 n5 n6 n7 n8
   have hPl:=xx (i:=4) (⟨4,((c1:Nat):Int),((s1:Nat):Int),f1,m0.a,m0.w,m0.n,m0.h,m0.l,m0.b⟩:Mv) d6 c6 (H2.out.1.below H11.out.2.1) H2.out.2 HG.out.I ⟨by show (-9223372036854775808:Int)≤4∧(4:Int)≤9223372036854775807;decide,by show (-9223372036854775808:Int) ≤ ((c1:Nat):Int)∧((c1:Nat):Int)≤9223372036854775807;omega,by show (-9223372036854775808:Int) ≤ ((s1:Nat):Int)∧((s1:Nat):Int)≤9223372036854775807;omega,HF1.out.1,HR0.out.2.2.a,HR0.out.2.2.w,HR0.out.2.2.n⟩ (by rw[HG.out.n];decide) H11.out.1 (fun y hy h0 e=>by
     have q1:=H11.out.2.2 y hy h0
     have q2:L.x<wz.heap.size:=by
      obtain⟨t9,L9,h9,_,hx9,_⟩:=H2.out.1
      rw[← hx9.x]
      exact (h9.2.wb h9.1).lt _ (by simp[Wc.U,Pw.core])
     omega) HR0.out.2.1
   rw[HX.out]at hPl
   have HPl:Hid (_):=hPl
   clear hPl
   go_wp2_with fail
   refine Calls.mono HPl.out ?_
   rintro r w12 ⟨A2,E,rfl,hsA2,hoA2',H12⟩
   clear HPl
   obtain⟨w13,hst3,hrg3,hbl3⟩:=jP w12 hsA2 hoA2'
   have HBW:Hid (Below w.heap.size w w13):=by
    obtain⟨t9,L9,h9,_⟩:=H12.out.2.1
    exact h9.1.bel.trans (hbl3.mono h9.1.bel.size)
   have hbd:=um (S:=S) (m:=(⟨4,((c1:Nat):Int),((s1:Nat):Int),f1,m0.a,m0.w,m0.n,m0.h,m0.l,m0.b⟩:Mv)) HPC.out.kn (by have:=HG.out.mv;omega) rfl ⟨by show (0:Int) ≤ ((c1:Nat):Int);omega,by show ((c1:Nat):Int) < ((S.n:Nat):Int);rw[HG.out.n];omega⟩ (by show ((s1:Nat):Int)=1∨((s1:Nat):Int)=2;omega)
   rw[← H12.out.1]at hbd
   rcases hbd with hE | hE | hE
   ·have hb0:S.bad (⟨4,((c1:Nat):Int),((s1:Nat):Int),f1,m0.a,m0.w,m0.n,m0.h,m0.l,m0.b⟩:Mv)=0:=by rw[← H12.out.1];exact hE
    obtain⟨a9,a10,hV,dV,ah,ch,ad,cd,eH,eD,aH,aD,rH,rD⟩:=H12.out.2.2 hb0
    obtain⟨gi,ge,gh,gd⟩:=rF HG.out.B hb0 rfl HR0.out.2.2.w
    obtain⟨fx1,fx2,_⟩:=tK HG.out.I HPC.out.kn (⟨4,((c1:Nat):Int),((s1:Nat):Int),f1,m0.a,m0.w,m0.n,m0.h,m0.l,m0.b⟩:Mv)
    have ec:(⟨4,((c1:Nat):Int),((s1:Nat):Int),f1,m0.a,m0.w,m0.n,m0.h,m0.l,m0.b⟩:Mv).c.toNat=c1:=Int.toNat_natCast c1
    rw[gi]at a10
    rw[ec]at eH eD rH rD gh gd ge
    rw[gh.1,gh.2.1,gh.2.2.1,gh.2.2.2.1,gh.2.2.2.2.1,gh.2.2.2.2.2,fx1]at eH
    rw[gd.1,gd.2.1,gd.2.2.1,gd.2.2.2.1,gd.2.2.2.2.1,gd.2.2.2.2.2,fx2]at eD
    rw[gh.2.2.2.2.2,fx1]at rH
    rw[gd.2.2.2.2.2,fx2]at rD
    have r1:=H12.out.2.1.rowq (q:=2*1+1) (fun j=>by unfold ev;omega) (by rw[ag _ _ (by decide),ag _ _ (by decide)];exact ai _ _ _)
    have r2:=H12.out.2.1.rowq (q:=2*2+1) (fun j=>by unfold ev;omega) (by rw[ag _ _ (by decide)];exact ai _ _ _)
    have kA:=H12.out.2.1.box (q:=2*3+1) (fun j=>by unfold ev;omega) (ai _ _ _) (w10.heap.size,oA) (by simp)
    have kB:=H12.out.2.1.box (q:=2*3+1) (fun j=>by unfold ev;omega) (ai _ _ _) (w10.heap.size+1,oB) (by simp)
    have ko:=H12.out.2.1.box (q:=2*0+1) (fun j=>by unfold ev;omega) (by rw[ag _ _ (by decide),ag _ _ (by decide),ag _ _ (by decide)];exact ai _ _ _) _ (List.mem_cons_self ..)
    have sV:hV.size=9:=by rw[eH];rfl
    have sD:dV.size=9:=by rw[eD];rfl
    have hSH:∀ wx,Below w12.heap.size w12 wx→Calls Tryz.prog 21 #[.agg A,.agg hV] wx fun e w'=>e=.returned (.bool true)∧Below wx.heap.size wx w':=fun wx b=>by
     rw[HAB.out.1,eH]
     exact jg _ _ _ _ _ _ _ _ _ _ _ _ _ _ _ _ wx (r1.below b) (rH.below b) rfl
    have hSD:∀ wx,Below w12.heap.size w12 wx→Calls Tryz.prog 21 #[.agg B,.agg dV] wx fun e w'=>e=.returned (.bool true)∧Below wx.heap.size wx w':=fun wx b=>by
     rw[HAB.out.2.1,eD]
     exact jg _ _ _ _ _ _ _ _ _ _ _ _ _ _ _ _ wx (r2.below b) (rD.below b) rfl
    have cA:w13.rangeAt w10.heap.size 0 A.toList:=fun j v hv=>(World.cell?_of_block (a:=⟨w10.heap.size,0+j,none⟩) ((hbl3.block _ (Array.getElem?_eq_some_iff.1 kA).1).trans (kA.trans HAB.out.2.2.2.2.1.symm))).trans (HAB.out.2.2.1 j v hv)
    have cB:w13.rangeAt (w10.heap.size+1) 0 B.toList:=fun j v hv=>(World.cell?_of_block (a:=⟨w10.heap.size+1,0+j,none⟩) ((hbl3.block _ (Array.getElem?_eq_some_iff.1 kB).1).trans (kB.trans HAB.out.2.2.2.2.2.symm))).trans (HAB.out.2.2.2.1 j v hv)
    have cH:w13.rangeAt w12.heap.size 11 hV.toList:=fun j v hv=>by have:=hrg3 (11+j) v (aH j v hv);rw[Nat.zero_add]at this;exact this
    have cD:w13.rangeAt w12.heap.size 20 dV.toList:=fun j v hv=>by have:=hrg3 (20+j) v (aD j v hv);rw[Nat.zero_add]at this;exact this
    have c9:w13.cell? ⟨w12.heap.size,9,none⟩=some (.int .i64 (S.play (⟨4,((c1:Nat):Int),((s1:Nat):Int),f1,m0.a,m0.w,m0.n,m0.h,m0.l,m0.b⟩:Mv)).e):=hrg3 9 _ a9
    have c10:w13.cell? ⟨w12.heap.size,10,none⟩=some (.int .i64 (-1)):=hrg3 10 _ a10
    have co:w13.cell? ⟨ob,2,none⟩=some (.int .i64 ((s1:Nat):Int)):=ae (ac w12 ob 2 _ _ _ ko) hbl3
    have cd0:w13.cell? ⟨w10.heap.size+1,0,none⟩=some (.int .i64 ((S.ds c1).st:Nat)):=cB 0 _ (by rw[HAB.out.2.1];rfl)
    have hiA:(Tryz.prog.info? 43).map (·.size)=some A.size:=by rw[hsA];kernel_rfl
    have hiB:(Tryz.prog.info? 43).map (·.size)=some B.size:=by rw[hsB];kernel_rfl
    have hiH:(Tryz.prog.info? 43).map (·.size)=some hV.size:=by rw[sV];kernel_rfl
    have hiD:(Tryz.prog.info? 43).map (·.size)=some dV.size:=by rw[sD];kernel_rfl
    obtain⟨pa,hpa⟩:∃ y,w10.heap.size=y:=⟨_,rfl⟩
    obtain⟨rb,hrb⟩:∃ y,w12.heap.size=y:=⟨_,rfl⟩
    have HSD:Hid (_):=hSD
    have hSH3:=hSH w13 hbl3
    have HW:Hid (Below w12.heap.size w12 w13):=hbl3
    have HGE:Hid (_):=ge
    rw[hpa]at cA cB cd0
    rw[hrb]at cH cD c9 c10 hst3
    have HcA:Hid (_):=And.intro cA (And.intro cB (And.intro cH cD))
    subst hE
    clear cA cB cH cD gi gh gd fx1 fx2 ec a9 a10 aH aD eH eD rH rD r1 r2 kA kB ko sV sD hSH hSD hrg3 hbl3 ge HAB H12 hb0 H2 H11 HF1
    rcases HGE.out with e42 | ⟨e70,es,e6⟩
    ·rw[e42]at c9
     clear e42
     go_upto_region 19 with fail
     go_wp2_with (first | refine bk (by kernel_rfl) 43 (.tmp 8) rfl pa 0 rfl A _ HcA.out.1 Tryz.underlying43 rfl hiA ?_ | refine bk (by kernel_rfl) 43 (.tmp 111) rfl rb 11 rfl hV _ HcA.out.2.2.1 Tryz.underlying43 rfl hiH ?_)
     refine hSH3.mono ?_
     rintro r w14 ⟨rfl,b14⟩
     have hSD4:=HSD.out w14 (HW.out.trans (b14.mono HW.out.size))
     have HcB:Hid (w14.rangeAt (pa+1) 0 B.toList∧w14.rangeAt rb 20 dV.toList):=⟨fun j v hv=>ae (HcA.out.2.1 j v hv) b14,fun j v hv=>ae (HcA.out.2.2.2 j v hv) b14⟩
     have HBF:Hid (Below w.heap.size w w14):=HBW.out.trans (b14.mono HBW.out.size)
     clear b14 hSH3
     go_wp2_with (first | refine bk (by kernel_rfl) 43 (.tmp 9) rfl (pa+1) 0 rfl B _ HcB.out.1 Tryz.underlying43 rfl hiB ?_ | refine bk (by kernel_rfl) 43 (.tmp 117) rfl rb 20 rfl dV _ HcB.out.2 Tryz.underlying43 rfl hiD ?_)
     refine hSD4.mono ?_
     rintro r w15 ⟨rfl,b15⟩
     go_wp2_with fail
     go_ret
     exact⟨rfl,HBF.out.trans (b15.mono HBF.out.size)⟩
    ·rw[e70]at c9
     have es2:((s1:Nat):Int)=2:=es
     have es':s1=2:=by omega
     subst es'
     rw[e6]at cd0
     clear e70 es es2 e6
     go_upto_region 19 with fail
     go_wp2_with (first | refine bk (by kernel_rfl) 43 (.tmp 8) rfl pa 0 rfl A _ HcA.out.1 Tryz.underlying43 rfl hiA ?_ | refine bk (by kernel_rfl) 43 (.tmp 111) rfl rb 11 rfl hV _ HcA.out.2.2.1 Tryz.underlying43 rfl hiH ?_)
     refine hSH3.mono ?_
     rintro r w14 ⟨rfl,b14⟩
     have hSD4:=HSD.out w14 (HW.out.trans (b14.mono HW.out.size))
     have HcB:Hid (w14.rangeAt (pa+1) 0 B.toList∧w14.rangeAt rb 20 dV.toList):=⟨fun j v hv=>ae (HcA.out.2.1 j v hv) b14,fun j v hv=>ae (HcA.out.2.2.2 j v hv) b14⟩
     have HBF:Hid (Below w.heap.size w w14):=HBW.out.trans (b14.mono HBW.out.size)
     clear b14 hSH3
     go_wp2_with (first | refine bk (by kernel_rfl) 43 (.tmp 9) rfl (pa+1) 0 rfl B _ HcB.out.1 Tryz.underlying43 rfl hiB ?_ | refine bk (by kernel_rfl) 43 (.tmp 117) rfl rb 20 rfl dV _ HcB.out.2 Tryz.underlying43 rfl hiD ?_)
     refine hSD4.mono ?_
     rintro r w15 ⟨rfl,b15⟩
     go_wp2_with fail
     go_ret
     exact⟨rfl,HBF.out.trans (b15.mono HBF.out.size)⟩
   ·subst hE
    clear H12 HAB hrg3 hbl3
    go_wp2_with fail
    go_ret
    exact⟨rfl,HBW.out⟩
   ·subst hE
    clear H12 HAB hrg3 hbl3
    go_wp2_with fail
    go_ret
    exact⟨rfl,HBW.out⟩
theorem topGarbled_walk (a0:Option Addr) (len0 cap0:Nat) (a1_0:Int) (a1_1:Int) (a1_2:Int) (a1_3:Int) (a1_4:Int) (a1_5:Int) (a1_6:Int) (a1_7:Bool) (a1_8:Option Addr) (len1_8 cap1_8:Nat) (z1_8:List Int) (w:World) (w0:OpRow w a0 len0) (w1_0:(Lit.int .i64 a1_0).wf=true) (w1_1:(Lit.int .i64 a1_1).wf=true) (w1_2:(Lit.int .i64 a1_2).wf=true) (w1_3:(Lit.int .i64 a1_3).wf=true) (w1_4:(Lit.int .i64 a1_4).wf=true) (w1_5:(Lit.int .u32 a1_5).wf=true) (w1_6:(Lit.int .i64 a1_6).wf=true) (w1_8:BRow .u8 w a1_8 len1_8 cap1_8 z1_8) (s1_8:len1_8≤140737488351232) :
  Calls Tryz.prog 7 #[.slice a0 len0 cap0,.agg #[.int .i64 a1_0,.int .i64 a1_1,.int .i64 a1_2,.int .i64 a1_3,.int .i64 a1_4,.int .u32 a1_5,.int .i64 a1_6,.bool a1_7,.slice a1_8 len1_8 cap1_8]] w fun e w'=>e=.returned (.bool true)∧Below w.heap.size w w':=by
 obtain⟨x,rfl,hx⟩:=tr w1_5
 exact jV a0 len0 cap0 ⟨a1_0,a1_1,a1_2,a1_3,a1_4,x,a1_6,a1_7,len1_8,fun i=>(z1_8.getD i 0).toNat⟩ ⟨dI w1_0,dI w1_1,dI w1_2,dI w1_3,dI w1_4,hx,dI w1_6⟩ a1_8 cap1_8 w w0 w1_8.row8 s1_8
end Go.Proofs.YtdmjfemodihfhaaGreat
