/- Part 46: contracts that the proof rests on. -/
import Derived.Deep.DeepCutAuto
import Derived.Deep.CutBlock
import Derived.Deep.RegionWith
import Derived.Deep.QuietTactic
import Derived.BigQuiet
import Derived.Test.YtddahhlbpcbddaaGreatPkX44
set_option maxHeartbeats 64000000
set_option maxRecDepth 100000
namespace Go.Proofs.YtddahhlbpcbddaaGreat
open Tryz
open Go.RowKit Go.Maps
set_option linter.unusedVariables false
structure Gn (S:Ws) (k:Nat):Prop where
 I:S.In
 n:S.n=3
 B:S.Bv
 mv:S.mv≤k
 ph:S.PH=sW
 pd:S.PD=sW
theorem Gn.start:Gn (sN 3 50 sW sW) 0:=⟨za _ _ _ _,rfl,(fun f hf=>by cases hf),Nat.le_refl _,rfl,rfl⟩
theorem Gn.next {S:Ws} {k:Nat} (h:Gn S k) (K:S.Kn) {m:Mv}:Gn (S.play m).S (k+1):=by
 obtain⟨fx1,fx2,_⟩:=kS h.I K m
 exact⟨h.I.play K,by rw[us];exact h.n,aap h.B K h.I,yd h.I K h.mv,fx1.trans h.ph,fx2.trans h.pd⟩
theorem sq:∀ k,k<3→Pok (sW k):=fun k hk=>by
 rcases (by omega:k=0∨k=1∨k=2) with rfl | rfl | rfl <;> exact⟨by unfold rI sW;dsimp only;omega,by decide,by decide⟩
theorem xG:ckE 3 3 50 (fun i=>(sW i).q) (fun i=>(sW i).q)=0:=by decide
theorem ne7 {a c:Nat} (h:¬ a=7+c):(((a:Nat):Int) != 7 + ((c:Nat):Int))=true:=by
 have:((a:Nat):Int)≠7 + ((c:Nat):Int):=by omega
 simpa using this
theorem aa2 {c:Nat} (h:c<3):wrap64 (7 + ((c:Nat):Int))=7 + ((c:Nat):Int):=by unfold wrap64;omega
theorem aaR {c:Nat} (h:c<3):IntKind.u32.wrap (7 + ((c:Nat):Int))=7 + ((c:Nat):Int):=by
 have e:IntKind.u32.wrap (7 + ((c:Nat):Int))=(7 + ((c:Nat):Int)) % 4294967296:=by simp[IntKind.wrap,IntKind.signed,IntKind.bits]
 rw[e]
 omega
theorem tD (x:Int):∃ y:Nat,wrap64 ((IntKind.u64.wrap x).tmod 3)=((y:Nat):Int)∧y<3:=by
 have h:=qR x
 generalize IntKind.u64.wrap x=u at *
 rw[Int.tmod_eq_emod_of_nonneg h]
 exact⟨(u % 3).toNat,by unfold wrap64;omega,by omega⟩
theorem aaf {e:Nat→Nat} {w0 w:World} {t:Nat→Thing} {L:Pw} {S:Ws} {c1:Nat} (h:PWn e w0 t L w S) (hk:c1<S.n):Calls prog 14 #[ac L.x 0,.int .i64 ((c1:Nat):Int)] w fun r w'=>∃ A B:Array Value,r=.returned (.tuple #[.agg A,.agg B])∧A.size=9∧A.all (·.oneCell')=true∧B.size=9∧B.all (·.oneCell')=true∧Hid (∃ ra rc qa qc,A=#[.int .i64 ((S.hs c1).st:Nat),.int .u32 ((S.hs c1).ss:Nat),.int .u32 ((S.hs c1).nm:Nat),.int .u32 ((S.hs c1).sn:Nat),.int .i64 ((S.hs c1).dc:Nat),.int .i64 (S.hs c1).v.lat,.bool (aq (S.hs c1).v),.bool (aE (S.hs c1).v),.slice ra (S.PH c1).i rc]∧B=#[.int .i64 ((S.ds c1).st:Nat),.int .u32 ((S.ds c1).ss:Nat),.int .u32 ((S.ds c1).nm:Nat),.int .u32 ((S.ds c1).sn:Nat),.int .i64 ((S.ds c1).dc:Nat),.int .i64 (S.ds c1).v.lat,.bool (aq (S.ds c1).v),.bool (aE (S.ds c1).v),.slice qa (S.PD c1).o qc]∧Row8 w' ra (S.PH c1).i rc (dy (S.hs c1).v)∧Row8 w' qa (S.PD c1).o qc (dy (S.ds c1).v)∧Below w.heap.size w w'∧(∀ y,ra=some y→0 < (S.PH c1).i→w.heap.size≤y.block)∧(∀ y,qa=some y→0 < (S.PD c1).o→w.heap.size≤y.block)∧∀ y z,ra=some y→qa=some z→0 < (S.PH c1).i→0 < (S.PD c1).o→y.block≠z.block):=by
 refine (abo L.x c1 (S.PH c1).i (S.PD c1).o _ _ _ _ _ _ _ _ _ _ _ _ _ _ _ _ (dy (S.hs c1).v) (dy (S.ds c1).v) w (fun w1 b1=>zG (h.below b1) hk) (fun w1 b1=>zT (h.below b1) hk)).mono ?_
 rintro r w' ⟨ra,rc,qa,qc,rfl,H⟩
 exact⟨_,_,rfl,rfl,by kernel_rfl,rfl,by kernel_rfl,ra,rc,qa,qc,rfl,rfl,H.out⟩
theorem kf (a:Option Addr) (len cap:Nat) (fr cn sd:Int) (w:World) (O:OpRow w a len):Calls prog 5 #[.slice a len cap,.int .i64 fr,.int .i64 cn,.int .i64 sd] w fun r w'=>r=.returned (.bool true)∧Below w.heap.size w w':=by
 have HO:Hid (OpRow w a len):=O
 have hlen:=O.1
 clear O
 have hNe:=aba w
 go_enter func5,ntmps5
 go_wp2_with fail
 refine hNe.mono ?_
 rintro r w1 ⟨g0,v0,g1,v1,rfl,H1⟩
 clear hNe
 have hN:Calls prog 8 #[.agg #[.slice (af g0 0) 3 v0,.slice (af g1 0) 3 v1,.int .u32 50]] w1 fun r w'=>∃ L:Pw,r=.returned (.tuple #[ac L.x 0,.int .i64 0])∧Hid (PW ev w1 w' (iB L) L∧L.S=sN 3 50 sW sW):=wC sW sW g0 0 v0 g1 0 v1 3 50 sq sq (by decide) (by decide) (by decide) (by decide) H1.out.1 H1.out.2.1 w1 H1.out.2.2.1 H1.out.2.2.2.1 xG
 have HB1:Hid (Below w.heap.size w w1):=H1.out.2.2.2.2
 clear H1
 go_wp2_with fail
 refine hN.mono ?_
 rintro r w2 ⟨L,rfl,H2⟩
 clear hN
 obtain⟨X,hX⟩:∃ y,L.x=y:=⟨_,rfl⟩
 rw[hX]
 have HX:Hid (L.x=X):=hX
 clear hX
 have hAw:=pB w2
 go_wp2_with fail
 refine hAw.mono ?_
 rintro r w3 ⟨rfl,b3⟩
 clear hAw
 have HS0:Hid (∃ S,Gn S 0∧PWn ev w1 (iB L) L w3 S):=by
  have hp:=H2.out.1.n
  rw[H2.out.2]at hp
  exact⟨_,Gn.start,hp.below b3⟩
 clear b3 H2
 go_upto_block 0 with fail
 go_cut [11] (fun _ wx=>Hid (∃ S,Gn S 300∧PWn ev w1 (iB L) L wx S))
 case first=>
  go_wp2_with fail
  go_loopw [11,32,33,34,35,36,37,38,39,40,41,42,43,44,45,46,47,48] (fun i _ _ _ _ _ _ _ _ _ _ _ _ _ _ _ _ _ wr=>∃ k:Nat,k≤len∧k≤300∧i=.int .i64 ((k:Nat):Int)∧Hid (∃ S,Gn S k∧PWn ev w1 (iB L) L wr S)) (fun i _ _ _ _ _ _ _ _ _ _ _ _ _ _ _ _ _ _=>len-je i)
  case atStart=>exact⟨0,by omega,by omega,rfl,HS0⟩
  case round=>
   obtain⟨k,hk,hk3,rfl,HI⟩:=hrel
   clear HS0
   have HT:Hid (∃ S,Gn S 300∧PWn ev w1 (iB L) L wr S):=by
    obtain⟨S,g,hp⟩:=HI.out
    exact⟨S,⟨g.I,g.n,g.B,by have:=g.mv;omega,g.ph,g.pd⟩,hp⟩
   by_cases hlt:k<len
   ·have hlt':((k:Nat):Int) < ((len:Nat):Int):=by omega
    by_cases h3:k<300
    ·clear HT
     have h3':((k:Nat):Int)<300:=by omega
     obtain⟨b,off,rfl,hb,hm⟩:=HO.out.2 (by omega)
     obtain⟨m,d,ok,R,hl,hcl⟩:=hm k hlt
     obtain⟨S,g,hp⟩:=HI.out
     have hbr:Below w.heap.size w wr:=by
      obtain⟨t9,L9,h9,_⟩:=hp
      exact HB1.out.trans (h9.1.bel.mono HB1.out.size)
     have p0:wr.cell? ⟨b,off+k*9,none⟩=some (.int .i64 m.k):=ag (hcl 0 _ rfl) hbr
     have p1:wr.cell? ⟨b,off+k*9+1,none⟩=some (.int .i64 m.c):=ag (hcl 1 _ rfl) hbr
     have p2:wr.cell? ⟨b,off+k*9+2,none⟩=some (.int .i64 m.s):=ag (hcl 2 _ rfl) hbr
     have p3:wr.cell? ⟨b,off+k*9+3,none⟩=some (.int .i64 m.f):=ag (hcl 3 _ rfl) hbr
     have p4:wr.cell? ⟨b,off+k*9+4,none⟩=some (.int .i64 m.a):=ag (hcl 4 _ rfl) hbr
     have p5:wr.cell? ⟨b,off+k*9+5,none⟩=some (.int .u32 (m.w:Nat)):=ag (hcl 5 _ rfl) hbr
     have p6:wr.cell? ⟨b,off+k*9+6,none⟩=some (.int .i64 m.n):=ag (hcl 6 _ rfl) hbr
     have p7:wr.cell? ⟨b,off+k*9+7,none⟩=some (.bool m.h):=ag (hcl 7 _ rfl) hbr
     have p8:wr.cell? ⟨b,off+k*9+8,none⟩=some (.slice d.a m.l d.c):=ag (hcl 8 _ rfl) hbr
     have hCo:=vh m d.a d.c wr (R.below hbr) hl
     have HG:Hid (_):=And.intro g (And.intro ok hl)
     have HP:Hid (PWn ev w1 (iB L) L wr S):=hp
     clear hm R hcl g hp hbr ok hl hb HI
     go_wp2_with fail
     refine hCo.mono ?_
     rintro r w6 ⟨d6,c6,rfl,H6⟩
     clear hCo p0 p1 p2 p3 p4 p5 p6 p7 p8
     have hPl:Calls prog 12 #[ac X 0,.agg (aj m m.c d6 c6)] w6 fun r w'=>∃ (A:Array Value) (E:Int),r=.returned (.tuple #[.agg A,.int .i64 E])∧Hid (PWn ev w1 (iB L) L w' (S.play m).S):=by
      have:=zQ (i:=0) m d6 c6 (HP.out.below H6.out.2.1) (gR L) HG.out.1.I HG.out.2.1 (by rw[HG.out.1.n];decide) H6.out.1 (fun y hy h0 e=>by
       have h1:=H6.out.2.2 y hy h0
       have h2:L.x<wr.heap.size:=by
        obtain⟨t9,L9,h9,_,hx9,_⟩:=HP.out
        rw[← hx9.x]
        exact (h9.2.wb h9.1).lt _ (by simp[Wc.U,Pw.core])
       omega) HG.out.2.2
      rw[HX.out]at this
      refine this.mono ?_
      rintro r w' ⟨A,E,rfl,_,_,H⟩
      exact⟨A,E,rfl,H.out.2.1⟩
     go_wp2_with fail
     refine hPl.mono ?_
     rintro r w7 ⟨A0,E,rfl,H7⟩
     clear hPl
     have HT:Hid (∃ S,Gn S (k+1)∧PWn ev w1 (iB L) L w7 S):=⟨_,HG.out.1.next HP.out.kn,H7.out⟩
     clear HG HP H6 H7
     go_wp2_with fail
     refine⟨⟨k+1,by omega,by omega,by simp,HT⟩,?_⟩
     have e1:je (.int .i64 ((k:Nat):Int))=k:=by simp[je]
     have e2:je (.int .i64 (((k:Nat):Int)+1))=k+1:=by simp[je]
     rw[e1,e2]
     omega
    ·have h3':¬ ((k:Nat):Int)<300:=by omega
     clear HI
     go_wp2_with fail
     go_meet
     case rel=>exact HT
   ·have hlt':¬ ((k:Nat):Int) < ((len:Nat):Int):=by omega
    clear HI
    go_wp2_with fail
    go_meet
    case rel=>exact HT
 case rest=>
  clear HS0
  obtain⟨S,g,hp⟩:=hcut.out
  have HBc:Hid (Below w1.heap.size w1 wc):=by
   obtain⟨t9,L9,h9,_⟩:=hp
   exact h9.1.bel
  obtain⟨N,hN⟩:∃ y,S.bg.length=y:=⟨_,rfl⟩
  have HNb:Hid (S.bg.length=N):=hN
  have hFr:∀ wx,Below wc.heap.size wc wx→Calls prog 16 #[ac X 0] wx fun r w'=>r=.returned (.int .i64 (N:Nat))∧w'=wx:=fun wx b=>by
   have:=sb (hp.below b)
   rw[HX.out,hN]at this
   exact this
  have hF1:=hFr wc (Below.refl _ _)
  have HG:Hid (Gn S 300):=g
  have HP:Hid (PWn ev w1 (iB L) L wc S):=hp
  have HBn:Hid (N≤300):=by rw[← hN];have:=g.I.bg;have:=g.mv;show S.bg.length≤300;omega
  clear hcut g hp hN
  go_upto_region 8 with fail
  go_wp2_with fail
  refine hF1.mono ?_
  rintro r w9 ⟨rfl,rfl⟩
  clear hF1
  by_cases hz:0<N
  ·have hz1:¬ ((N:Nat):Int)=0:=by omega
   have hz2:(((N:Nat):Int) == 0)=false:=by simpa using hz1
   have hF1:=hFr w9 (Below.refl _ _)
   have hid:IntKind.u64.wrap ((N:Nat):Int)=((N:Nat):Int):=aaE HBn.out
   obtain⟨f1,hf1,hf2⟩:∃ y:Nat,IntKind.i64.wrap ((IntKind.u64.wrap fr).tmod ((N:Nat):Int))=((y:Nat):Int)∧y<N:=by
    obtain⟨a1,a2⟩:=xg fr hz HBn.out
    exact⟨(IntKind.i64.wrap ((IntKind.u64.wrap fr).tmod ((N:Nat):Int))).toNat,by omega,by omega⟩
   obtain⟨c1,hc1,hc2⟩:∃ y:Nat,wrap64 ((IntKind.u64.wrap cn).tmod 3)=((y:Nat):Int)∧y<3:=tD cn
   obtain⟨s1,hs1,hs2⟩:∃ y:Nat,wrap64 (1+wrap64 ((IntKind.u64.wrap sd).tmod 2))=((y:Nat):Int)∧(y=1∨y=2):=wn sd
   clear hFr
   go_wp2_with fail
   refine hF1.mono ?_
   rintro r w10 ⟨rfl,rfl⟩
   clear hF1
   have kM:=ay w10 (.cells #[.int .i64 3,.int .i64 ((c1:Nat):Int),.int .i64 ((s1:Nat):Int),.int .i64 ((f1:Nat):Int),.int .i64 0,.int .u32 0,.int .i64 0,.bool false,.slice none 0 0] 39)
   have bM:=az (Below.refl _ w10) (.cells #[.int .i64 3,.int .i64 ((c1:Nat):Int),.int .i64 ((s1:Nat):Int),.int .i64 ((f1:Nat):Int),.int .i64 0,.int .u32 0,.int .i64 0,.bool false,.slice none 0 0] 39)
   obtain⟨w11,hw11⟩:∃ y,w10.alloc (.cells #[.int .i64 3,.int .i64 ((c1:Nat):Int),.int .i64 ((s1:Nat):Int),.int .i64 ((f1:Nat):Int),.int .i64 0,.int .u32 0,.int .i64 0,.bool false,.slice none 0 0] 39)=y:=⟨_,rfl⟩
   obtain⟨pm,hpm⟩:∃ y,w10.heap.size=y:=⟨_,rfl⟩
   rw[hw11]at kM bM
   rw[hpm]at kM
   have q1:w11.cell? ⟨pm,1,none⟩=some (.int .i64 ((c1:Nat):Int)):=ae w11 pm 1 _ _ _ kM
   have q3:w11.cell? ⟨pm,3,none⟩=some (.int .i64 ((f1:Nat):Int)):=ae w11 pm 3 _ _ _ kM
   obtain⟨F,hF⟩:∃ y,S.bg.getD f1 cV=y:=⟨_,rfl⟩
   have hfN:f1<S.bg.length:=by rw[HNb.out];exact hf2
   have hb0:S.bad (⟨3,((c1:Nat):Int),((s1:Nat):Int),((f1:Nat):Int),0,0,0,false,0,fun _=>0⟩:Mv)=0:=by
    have h1:=HG.out.mv
    have h2:=HG.out.n
    unfold Ws.bad
    rw[if_neg (by omega),if_neg (by show ¬ ((3:Int)<1∨(8:Int)<3);decide),if_neg (by show ¬ (((c1:Nat):Int)<0∨((S.n:Nat):Int) ≤ ((c1:Nat):Int));omega),if_neg (by show ¬ (eI 3=true∧((s1:Nat):Int)≠1∧((s1:Nat):Int)≠2);omega),if_pos rfl,if_neg (by show ¬ (((f1:Nat):Int)<0∨((S.bg.length:Nat):Int) ≤ ((f1:Nat):Int));omega)]
   obtain⟨hDE,fq1,fq2,fq3,fq4⟩:=uw HG.out.B hb0 rfl (F:=F) (by show S.bg.getD ((f1:Nat):Int).toNat cV=F;rw[Int.toNat_natCast];exact hF)
   have HFq:Hid (_):=And.intro fq1 (And.intro fq2 (And.intro fq3 fq4))
   have HB0:Hid (S.bad (⟨3,((c1:Nat):Int),((s1:Nat):Int),((f1:Nat):Int),0,0,0,false,0,fun _=>0⟩:Mv)=0):=hb0
   have hFm:=rF ((f1:Nat):Int) (HP.out.below bM)
   rw[if_neg (by omega),HX.out]at hFm
   have HM:Hid (_):=And.intro kM (And.intro bM hpm)
   have HDE:Hid (DE F.2 F.1=0):=hDE
   have HFb:Hid (S.bg.getD f1 cV=F∧f1<S.bg.length):=⟨hF,hfN⟩
   have HE11:Hid (_=w11):=hw11
   have HPm:Hid (w10.heap.size=pm):=hpm
   clear kM bM fq1 fq2 fq3 fq4 hb0 hDE hF hfN hw11 hpm
   go_upto_region 11 with fail
   rw[HE11.out,HPm.out]
   go_wp2_with fail
   refine hFm.mono ?_
   rintro r w12 ⟨fa,fn,fc,rfl,H12⟩
   clear hFm
   obtain⟨b12,q12⟩:=H12.out
   obtain⟨hfn,R12,_⟩:=q12 (by have:=HFb.out.2;omega)
   rw[Int.toNat_natCast,HFb.out.1]at hfn R12
   subst hfn
   have hDc:=li fa F.1 fc F.2 w12 R12 HDE.out
   clear q12 R12 H12
   go_wp2_with fail
   refine hDc.mono ?_
   rintro r w13 ⟨ua,uc,rfl,H13⟩
   clear hDc
   have kU:=ay w13 (.cells #[.int .i64 (F.2 0:Nat),.int .u32 (aC F.2 1:Nat),.int .u32 (aC F.2 5:Nat),.int .u32 (aC F.2 9:Nat),.int .i64 (F.2 13:Nat),.slice ua (F.1-19) uc] 50)
   have bU:=az (Below.refl _ w13) (.cells #[.int .i64 (F.2 0:Nat),.int .u32 (aC F.2 1:Nat),.int .u32 (aC F.2 5:Nat),.int .u32 (aC F.2 9:Nat),.int .i64 (F.2 13:Nat),.slice ua (F.1-19) uc] 50)
   obtain⟨w14,hw14⟩:∃ y,w13.alloc (.cells #[.int .i64 (F.2 0:Nat),.int .u32 (aC F.2 1:Nat),.int .u32 (aC F.2 5:Nat),.int .u32 (aC F.2 9:Nat),.int .i64 (F.2 13:Nat),.slice ua (F.1-19) uc] 50)=y:=⟨_,rfl⟩
   obtain⟨pu,hpu⟩:∃ y,w13.heap.size=y:=⟨_,rfl⟩
   rw[hw14]at kU bU
   rw[hpu]at kU
   have b10:Below w10.heap.size w10 w14:=((HM.out.2.1.trans (b12.mono HM.out.2.1.size)).trans (H13.out.2.mono (Nat.le_trans HM.out.2.1.size b12.size))).trans (bU.mono (Nat.le_trans (Nat.le_trans HM.out.2.1.size b12.size) H13.out.2.size))
   have kM14:w14.heap[pm]?=some (.cells #[.int .i64 3,.int .i64 ((c1:Nat):Int),.int .i64 ((s1:Nat):Int),.int .i64 ((f1:Nat):Int),.int .i64 0,.int .u32 0,.int .i64 0,.bool false,.slice none 0 0] 39 (0,0)):=by
    have b11:Below w11.heap.size w11 w14:=(b12.trans (H13.out.2.mono b12.size)).trans (bU.mono (Nat.le_trans b12.size H13.out.2.size))
    exact (b11.block pm (Array.getElem?_eq_some_iff.1 HM.out.1).1).trans HM.out.1
   have h0:=HP.out.layL b10 (i:=2*0+1) (fun j=>by unfold ev;omega) (l:=[(pm,.cells #[.int .i64 3,.int .i64 ((c1:Nat):Int),.int .i64 ((s1:Nat):Int),.int .i64 ((f1:Nat):Int),.int .i64 0,.int .u32 0,.int .i64 0,.bool false,.slice none 0 0] 39 (0,0)),(pu,.cells #[.int .i64 (F.2 0:Nat),.int .u32 (aC F.2 1:Nat),.int .u32 (aC F.2 5:Nat),.int .u32 (aC F.2 9:Nat),.int .i64 (F.2 13:Nat),.slice ua (F.1-19) uc] 50 (0,0))]) (fun p hp=>by
    simp only[List.mem_cons,List.not_mem_nil,or_false]at hp
    rcases hp with rfl | rfl
    ·exact kM14
    ·exact kU) (fun p hp=>by
    simp only[List.mem_cons,List.not_mem_nil,or_false]at hp
    rcases hp with rfl | rfl
    ·exact Nat.le_of_eq HM.out.2.2
    ·have h1:=HM.out.2.1.size
     have h2:=b12.size
     have h3:=H13.out.2.size
     show w10.heap.size≤pu
     omega)
   have q1:w14.cell? ⟨pm,1,none⟩=some (.int .i64 ((c1:Nat):Int)):=ae w14 pm 1 _ _ _ kM14
   have hEn:=aaf h0 (c1:=c1) (by rw[HG.out.n];exact hc2)
   rw[HX.out]at hEn
   have HPU:Hid (_):=h0
   clear kU bU b10 kM14 h0 H13 b12
   go_wp2_with fail
   refine hEn.mono ?_
   rintro r w15 ⟨A,B,rfl,hsA,hoA,hsB,hoB,H15⟩
   clear hEn hw14 hpu
   obtain⟨wy,wz,hst1,hst2,hrA,hrB,hbl⟩:=tl w15 hsA hoA hsB hoB
   obtain⟨ra,rc,qa,qc,eA,eB,Ra,Rb,bE,nA,nB,ap⟩:=H15.out
   have lA:w15.heap.size<wz.heap.size:=World.block_lt_of_cell? wz _ (hrA 0 A[0] (by rw[Array.getElem?_toList,Array.getElem?_eq_getElem (by omega)]))
   have lB:w15.heap.size+1<wz.heap.size:=World.block_lt_of_cell? wz _ (hrB 0 B[0] (by rw[Array.getElem?_toList,Array.getElem?_eq_getElem (by omega)]))
   obtain⟨oA,hoA2⟩:∃ o,wz.heap[w15.heap.size]?=some o:=⟨_,Array.getElem?_eq_getElem lA⟩
   obtain⟨oB,hoB2⟩:∃ o,wz.heap[w15.heap.size+1]?=some o:=⟨_,Array.getElem?_eq_getElem lB⟩
   have h1:=PWn.lay2 HPU.out bE (i:=2*1+1) (j:=2*2+1) (fun j=>by unfold ev;omega) (fun j=>by unfold ev;omega) (by decide) Ra Rb nA nB ap
   have h2:=PWn.layL h1 hbl (i:=2*3+1) (fun j=>by unfold ev;omega) (l:=[(w15.heap.size,oA),(w15.heap.size+1,oB)]) (fun p hp=>by
    simp only[List.mem_cons,List.not_mem_nil,or_false]at hp
    rcases hp with rfl | rfl
    ·exact hoA2
    ·exact hoB2) (fun p hp=>by
    simp only[List.mem_cons,List.not_mem_nil,or_false]at hp
    rcases hp with rfl | rfl
    ·exact Nat.le_refl _
    ·exact Nat.le_succ _)
   have F4:Fre ev (aV (aV (aV (aV (iB L) (2*0+1) (fI [(pm,.cells #[.int .i64 3,.int .i64 ((c1:Nat):Int),.int .i64 ((s1:Nat):Int),.int .i64 ((f1:Nat):Int),.int .i64 0,.int .u32 0,.int .i64 0,.bool false,.slice none 0 0] 39 (0,0)),(pu,.cells #[.int .i64 (F.2 0:Nat),.int .u32 (aC F.2 1:Nat),.int .u32 (aC F.2 5:Nat),.int .u32 (aC F.2 9:Nat),.int .i64 (F.2 13:Nat),.slice ua (F.1-19) uc] 50 (0,0))])) (2*1+1) (eV ra (S.PH c1).i rc (dy (S.hs c1).v))) (2*2+1) (eV qa (S.PD c1).o qc (dy (S.ds c1).v))) (2*3+1) (fI [(w15.heap.size,oA),(w15.heap.size+1,oB)])) 4:=((((gR L).put _).put _).put _).put _
   have ko:=PWn.box h2 (q:=2*0+1) (fun j=>by unfold ev;omega) (by rw[ak _ _ (by decide),ak _ _ (by decide),ak _ _ (by decide)];exact al _ _ _) _ (List.mem_cons_self ..)
   have n0:wz.cell? ⟨pm,0,none⟩=some (.int .i64 3):=ae wz pm 0 _ _ _ ko
   have n1:wz.cell? ⟨pm,1,none⟩=some (.int .i64 ((c1:Nat):Int)):=ae wz pm 1 _ _ _ ko
   have n2:wz.cell? ⟨pm,2,none⟩=some (.int .i64 ((s1:Nat):Int)):=ae wz pm 2 _ _ _ ko
   have n3:wz.cell? ⟨pm,3,none⟩=some (.int .i64 ((f1:Nat):Int)):=ae wz pm 3 _ _ _ ko
   have n4:wz.cell? ⟨pm,4,none⟩=some (.int .i64 0):=ae wz pm 4 _ _ _ ko
   have n5:wz.cell? ⟨pm,5,none⟩=some (.int .u32 0):=ae wz pm 5 _ _ _ ko
   have n6:wz.cell? ⟨pm,6,none⟩=some (.int .i64 0):=ae wz pm 6 _ _ _ ko
   have n7:wz.cell? ⟨pm,7,none⟩=some (.bool false):=ae wz pm 7 _ _ _ ko
   have n8:wz.cell? ⟨pm,8,none⟩=some (.slice none 0 0):=ae wz pm 8 _ _ _ ko
   have hPl:=uS (i:=4) (⟨3,((c1:Nat):Int),((s1:Nat):Int),((f1:Nat):Int),0,0,0,false,0,fun _=>0⟩:Mv) none 0 h2 F4 HG.out.I ⟨by show (-9223372036854775808:Int)≤3∧(3:Int)≤9223372036854775807;decide,by show -9223372036854775808 ≤ ((c1:Nat):Int)∧((c1:Nat):Int)≤9223372036854775807;omega,by show -9223372036854775808 ≤ ((s1:Nat):Int)∧((s1:Nat):Int)≤9223372036854775807;omega,by show -9223372036854775808 ≤ ((f1:Nat):Int)∧((f1:Nat):Int)≤9223372036854775807;have:=HBn.out;omega,by show (-9223372036854775808:Int)≤0∧(0:Int)≤9223372036854775807;decide,by show (0:Nat)<4294967296;decide,by show (-9223372036854775808:Int)≤0∧(0:Int)≤9223372036854775807;decide⟩ (by rw[HG.out.n];decide) (dJ _ _) (fun y hy=>by cases hy) (by show (0:Nat)≤140737488351232;decide)
   rw[HX.out]at hPl
   have HPl:Hid (_):=hPl
   have HAB:Hid (_):=And.intro eA (And.intro eB (And.intro hrA (And.intro hrB (And.intro hoA2 hoB2))))
   clear hPl h1 h2 F4 ko hrA hrB hbl lA lB Ra Rb nA nB ap H15 eA eB hoA2 hoB2 bE q1
   go_wp2_with fail
   refine Calls.mono HPl.out ?_
   rintro r w17 ⟨A2,E,rfl,hsA2,hoA2',H17⟩
   clear HPl n0 n1 n2 n3 n4 n5 n6 n7 n8
   obtain⟨w18,hst3,hrg3,hbl3⟩:=iP w17 hsA2 hoA2'
   have HBW:Hid (Below w.heap.size w w18):=by
    obtain⟨t9,L9,h9,_⟩:=H17.out.2.1
    exact HB1.out.trans ((h9.1.bel.trans (hbl3.mono h9.1.bel.size)).mono HB1.out.size)
   have hE:E=0:=H17.out.1.trans HB0.out
   obtain⟨a9,a10,hV,dV,ah,ch,ad,cd,eH,eD,aH,aD,rH,rD⟩:=H17.out.2.2 HB0.out
   obtain⟨fx1,fx2,_⟩:=kS HG.out.I HP.out.kn (⟨3,((c1:Nat):Int),((s1:Nat):Int),((f1:Nat):Int),0,0,0,false,0,fun _=>0⟩:Mv)
   have ec:Mv.c (⟨3,((c1:Nat):Int),((s1:Nat):Int),((f1:Nat):Int),0,0,0,false,0,fun _=>0⟩:Mv)=((c1:Nat):Int):=rfl
   have ec2:(Mv.c (⟨3,((c1:Nat):Int),((s1:Nat):Int),((f1:Nat):Int),0,0,0,false,0,fun _=>0⟩:Mv)).toNat=c1:=Int.toNat_natCast c1
   rw[ec2]at eH eD rH rD
   have r1:=H17.out.2.1.rowq (q:=2*1+1) (fun j=>by unfold ev;omega) (by rw[ak _ _ (by decide),ak _ _ (by decide)];exact al _ _ _)
   have r2:=H17.out.2.1.rowq (q:=2*2+1) (fun j=>by unfold ev;omega) (by rw[ak _ _ (by decide)];exact al _ _ _)
   have kA:=H17.out.2.1.box (q:=2*3+1) (fun j=>by unfold ev;omega) (al _ _ _) (w15.heap.size,oA) (by simp)
   have kB:=H17.out.2.1.box (q:=2*3+1) (fun j=>by unfold ev;omega) (al _ _ _) (w15.heap.size+1,oB) (by simp)
   have ko:=H17.out.2.1.box (q:=2*0+1) (fun j=>by unfold ev;omega) (by rw[ak _ _ (by decide),ak _ _ (by decide),ak _ _ (by decide)];exact al _ _ _) _ (List.mem_cons_self ..)
   have ku:=H17.out.2.1.box (q:=2*0+1) (fun j=>by unfold ev;omega) (by rw[ak _ _ (by decide),ak _ _ (by decide),ak _ _ (by decide)];exact al _ _ _) (pu,.cells #[.int .i64 (F.2 0:Nat),.int .u32 (aC F.2 1:Nat),.int .u32 (aC F.2 5:Nat),.int .u32 (aC F.2 9:Nat),.int .i64 (F.2 13:Nat),.slice ua (F.1-19) uc] 50 (0,0)) (by simp)
   have sV:hV.size=9:=by rw[eH];rfl
   have sD:dV.size=9:=by rw[eD];rfl
   have HSH:Hid (∀ x:Int,Qt S (⟨3,((c1:Nat):Int),((s1:Nat):Int),((f1:Nat):Int),0,0,0,false,0,fun _=>0⟩:Mv) x→∀ wx,Below w17.heap.size w17 wx→Calls prog 20 #[.agg A,.agg hV] wx fun e w'=>e=.returned (.bool true)∧Below wx.heap.size wx w'):=fun x q wx b=>by
    have gh:=q.hs
    rw[ec2]at gh
    have eH2:=eH
    have rH2:=rH.below b
    rw[gh.1,gh.2.1,gh.2.2.1,gh.2.2.2.1,gh.2.2.2.2.1,gh.2.2.2.2.2,fx1]at eH2
    rw[gh.2.2.2.2.2,fx1]at rH2
    rw[HAB.out.1,eH2]
    exact lj _ _ _ _ _ _ _ _ _ _ _ _ _ _ _ _ wx (r1.below b) rH2 rfl
   have HSD:Hid (∀ x:Int,Qt S (⟨3,((c1:Nat):Int),((s1:Nat):Int),((f1:Nat):Int),0,0,0,false,0,fun _=>0⟩:Mv) x→∀ wx,Below w17.heap.size w17 wx→Calls prog 20 #[.agg B,.agg dV] wx fun e w'=>e=.returned (.bool true)∧Below wx.heap.size wx w'):=fun x q wx b=>by
    have gd:=q.ds
    rw[ec2]at gd
    have eD2:=eD
    have rD2:=rD.below b
    rw[gd.1,gd.2.1,gd.2.2.1,gd.2.2.2.1,gd.2.2.2.2.1,gd.2.2.2.2.2,fx2]at eD2
    rw[gd.2.2.2.2.2,fx2]at rD2
    rw[HAB.out.2.1,eD2]
    exact lj _ _ _ _ _ _ _ _ _ _ _ _ _ _ _ _ wx (r2.below b) rD2 rfl
   have cA:w18.rangeAt w15.heap.size 0 A.toList:=fun j v hv=>(World.cell?_of_block (a:=⟨w15.heap.size,0+j,none⟩) ((hbl3.block _ (Array.getElem?_eq_some_iff.1 kA).1).trans (kA.trans HAB.out.2.2.2.2.1.symm))).trans (HAB.out.2.2.1 j v hv)
   have cB:w18.rangeAt (w15.heap.size+1) 0 B.toList:=fun j v hv=>(World.cell?_of_block (a:=⟨w15.heap.size+1,0+j,none⟩) ((hbl3.block _ (Array.getElem?_eq_some_iff.1 kB).1).trans (kB.trans HAB.out.2.2.2.2.2.symm))).trans (HAB.out.2.2.2.1 j v hv)
   have cH:w18.rangeAt w17.heap.size 11 hV.toList:=fun j v hv=>by have:=hrg3 (11+j) v (aH j v hv);rw[Nat.zero_add]at this;exact this
   have cD:w18.rangeAt w17.heap.size 20 dV.toList:=fun j v hv=>by have:=hrg3 (20+j) v (aD j v hv);rw[Nat.zero_add]at this;exact this
   have c9:w18.cell? ⟨w17.heap.size,9,none⟩=some (.int .i64 (S.play (⟨3,((c1:Nat):Int),((s1:Nat):Int),((f1:Nat):Int),0,0,0,false,0,fun _=>0⟩:Mv)).e):=hrg3 9 _ a9
   have c10:w18.cell? ⟨w17.heap.size,10,none⟩=some (.int .i64 (S.play (⟨3,((c1:Nat):Int),((s1:Nat):Int),((f1:Nat):Int),0,0,0,false,0,fun _=>0⟩:Mv)).i):=hrg3 10 _ a10
   have p1:w18.cell? ⟨pm,1,none⟩=some (.int .i64 ((c1:Nat):Int)):=ag (ae w17 pm 1 _ _ _ ko) hbl3
   have p2:w18.cell? ⟨pm,2,none⟩=some (.int .i64 ((s1:Nat):Int)):=ag (ae w17 pm 2 _ _ _ ko) hbl3
   have d0:w18.cell? ⟨w15.heap.size+1,0,none⟩=some (.int .i64 ((S.ds c1).st:Nat)):=cB 0 _ (by rw[HAB.out.2.1];rfl)
   have u0:w18.cell? ⟨pu,0,none⟩=some (.int .i64 (F.2 0:Nat)):=ag (ae w17 pu 0 _ _ _ ku) hbl3
   have u1:w18.cell? ⟨pu,1,none⟩=some (.int .u32 (aC F.2 1:Nat)):=ag (ae w17 pu 1 _ _ _ ku) hbl3
   have HcA:Hid (w18.rangeAt w15.heap.size 0 A.toList∧w18.rangeAt (w15.heap.size+1) 0 B.toList∧w18.rangeAt w17.heap.size 11 hV.toList∧w18.rangeAt w17.heap.size 20 dV.toList):=⟨cA,cB,cH,cD⟩
   have HC9:Hid (w18.cell? ⟨w17.heap.size,9,none⟩=some (.int .i64 (S.play (⟨3,((c1:Nat):Int),((s1:Nat):Int),((f1:Nat):Int),0,0,0,false,0,fun _=>0⟩:Mv)).e)∧w18.cell? ⟨w17.heap.size,10,none⟩=some (.int .i64 (S.play (⟨3,((c1:Nat):Int),((s1:Nat):Int),((f1:Nat):Int),0,0,0,false,0,fun _=>0⟩:Mv)).i)):=⟨c9,c10⟩
   have hiA:(prog.info? 43).map (·.size)=some A.size:=by rw[hsA];kernel_rfl
   have hiB:(prog.info? 43).map (·.size)=some B.size:=by rw[hsB];kernel_rfl
   have hiH:(prog.info? 43).map (·.size)=some hV.size:=by rw[sV];kernel_rfl
   have hiD:(prog.info? 43).map (·.size)=some dV.size:=by rw[sD];kernel_rfl
   have HW:Hid (Below w17.heap.size w17 w18):=hbl3
   have HFF:Hid (_):=HFq.out
   have hPc:(if Mv.s (⟨3,((c1:Nat):Int),((s1:Nat):Int),((f1:Nat):Int),0,0,0,false,0,fun _=>0⟩:Mv)=1 then (S.PH (Mv.c (⟨3,((c1:Nat):Int),((s1:Nat):Int),((f1:Nat):Int),0,0,0,false,0,fun _=>0⟩:Mv)).toNat).c else (S.PD (Mv.c (⟨3,((c1:Nat):Int),((s1:Nat):Int),((f1:Nat):Int),0,0,0,false,0,fun _=>0⟩:Mv)).toNat).c)=7+c1:=by
    rw[ec2,HG.out.ph,HG.out.pd]
    split <;> rfl
   have HPc:Hid (_):=hPc
   have HD6:Hid ((Mv.c (⟨3,((c1:Nat):Int),((s1:Nat):Int),((f1:Nat):Int),0,0,0,false,0,fun _=>0⟩:Mv)).toNat=c1):=ec2
   subst hE
   clear eH eD rH rD r1 r2 kA kB ko ku sV sD fx1 fx2 ec ec2 cA cB cH cD a9 a10 aH aD hrg3 hbl3 H17 HAB hPc c9 c10
   go_upto_block 2 with fail
   go_cut [20,113,122,130] (fun wt _ _ _ wx=>Hid (∃ x:Int,wt=.int .i64 x∧Qt S (⟨3,((c1:Nat):Int),((s1:Nat):Int),((f1:Nat):Int),0,0,0,false,0,fun _=>0⟩:Mv) x∧Below w18.heap.size w18 wx))
   case first=>
    try clear hf1
    try clear hc1
    try clear hs1
    try clear hid
    try clear hz1
    try clear hz2
    try clear hz
    try clear hf2
    have hw1:=aa2 hc2
    have hw2:=aaR hc2
    rcases hs2 with rfl | rfl
    ·cases hk:cJ ((F.2 0:Nat):Int)
     ·have qH:∀ wx,Calls prog 19 #[.int .i64 ((F.2 0:Nat):Int)] wx fun e w'=>e=.returned (.bool false)∧w'=wx:=fun wx=>by
       have:=eC ((F.2 0:Nat):Int) wx
       rw[hk]at this
       exact this
      go_wp2_with fail
      go_quiet ((go_at_call 19;exact Calls.quiet_of_same (qH _)))
      by_cases hcd:aC F.2 1=7+c1
      ·have u1':w18.cell? ⟨pu,1,none⟩=some (.int .u32 (7 + ((c1:Nat):Int))):=by rw[u1,hcd,Int.natCast_add];rfl
       obtain⟨e1,e2,e3⟩:=HFF.out.2.2.2 (fun y=>absurd y (by show ¬ ((1:Nat):Int)=2;decide)) (.inr ⟨rfl,hk⟩) (hcd.trans HPc.out.symm)
       have c9:=HC9.out.1
       obtain⟨ev,hev⟩:∃ y,(S.play (⟨3,((c1:Nat):Int),((1:Nat):Int),((f1:Nat):Int),0,0,0,false,0,fun _=>0⟩:Mv)).e=y:=⟨_,rfl⟩
       rw[hev]at e1 e2 e3 c9
       have n1:(ev != 43)=true:=by simpa using e1
       have n2:(ev != 44)=true:=by simpa using e2
       have n3:(ev != 42)=true:=by simpa using e3
       clear hev e1 e2 e3 u1 hcd
       go_wp2_with fail
       go_ret
       exact⟨rfl,by first | exact HBW.out | exact Below.drew HBW.out | exact bO HBW.out _⟩
      ·have hce:=ne7 hcd
       have HT:Hid (Qt S (⟨3,((c1:Nat):Int),((1:Nat):Int),((f1:Nat):Int),0,0,0,false,0,fun _=>0⟩:Mv) 44):=HFF.out.2.2.1 (fun y=>absurd y (by show ¬ ((1:Nat):Int)=2;decide)) (.inr ⟨rfl,hk⟩) (fun y=>hcd (y.trans HPc.out))
       clear hcd
       go_wp2_with fail
       go_meet
       case rel=>exact⟨44,rfl,HT.out,by first | exact Below.refl _ _ | exact Below.drew (Below.refl _ _) | exact bO (Below.refl _ _) _⟩
     ·have qH:∀ wx,Calls prog 19 #[.int .i64 ((F.2 0:Nat):Int)] wx fun e w'=>e=.returned (.bool true)∧w'=wx:=fun wx=>by
       have:=eC ((F.2 0:Nat):Int) wx
       rw[hk]at this
       exact this
      go_wp2_with fail
      go_quiet ((go_at_call 19;exact Calls.quiet_of_same (qH _)))
      have HT:Hid (Qt S (⟨3,((c1:Nat):Int),((1:Nat):Int),((f1:Nat):Int),0,0,0,false,0,fun _=>0⟩:Mv) 43):=HFF.out.2.1 (fun y=>absurd y (by show ¬ ((1:Nat):Int)=2;decide)) (.inr ⟨rfl,hk⟩)
      go_wp2_with fail
      go_meet
      case rel=>exact⟨43,rfl,HT.out,by first | exact Below.refl _ _ | exact Below.drew (Below.refl _ _) | exact bO (Below.refl _ _) _⟩
    ·by_cases h6:(S.ds c1).st=6
     ·rw[h6]at d0
      have HT:Hid (Qt S (⟨3,((c1:Nat):Int),((2:Nat):Int),((f1:Nat):Int),0,0,0,false,0,fun _=>0⟩:Mv) 70):=HFF.out.1 rfl (by rw[HD6.out];exact h6)
      go_wp2_with fail
      go_meet
      case rel=>exact⟨70,rfl,HT.out,by first | exact Below.refl _ _ | exact Below.drew (Below.refl _ _) | exact bO (Below.refl _ _) _⟩
     ·have h6i:(((S.ds c1).st:Nat):Int)≠6:=by omega
      have h6b:((((S.ds c1).st:Nat):Int) == 6)=false:=by simpa using h6i
      have h6:(S.ds (Mv.c (⟨3,((c1:Nat):Int),((2:Nat):Int),((f1:Nat):Int),0,0,0,false,0,fun _=>0⟩:Mv)).toNat).st≠6:=by rw[HD6.out];exact h6
      cases hk:cJ ((F.2 0:Nat):Int)
      ·have qH:∀ wx,Calls prog 19 #[.int .i64 ((F.2 0:Nat):Int)] wx fun e w'=>e=.returned (.bool false)∧w'=wx:=fun wx=>by
        have:=eC ((F.2 0:Nat):Int) wx
        rw[hk]at this
        exact this
       go_wp2_with fail
       go_quiet ((go_at_call 19;exact Calls.quiet_of_same (qH _)))
       have HT:Hid (Qt S (⟨3,((c1:Nat):Int),((2:Nat):Int),((f1:Nat):Int),0,0,0,false,0,fun _=>0⟩:Mv) 43):=HFF.out.2.1 (fun y=>h6) (.inl ⟨rfl,hk⟩)
       go_wp2_with fail
       go_meet
       case rel=>exact⟨43,rfl,HT.out,by first | exact Below.refl _ _ | exact Below.drew (Below.refl _ _) | exact bO (Below.refl _ _) _⟩
      ·have qH:∀ wx,Calls prog 19 #[.int .i64 ((F.2 0:Nat):Int)] wx fun e w'=>e=.returned (.bool true)∧w'=wx:=fun wx=>by
        have:=eC ((F.2 0:Nat):Int) wx
        rw[hk]at this
        exact this
       go_wp2_with fail
       go_quiet ((go_at_call 19;exact Calls.quiet_of_same (qH _)))
       by_cases hcd:aC F.2 1=7+c1
       ·have u1':w18.cell? ⟨pu,1,none⟩=some (.int .u32 (7 + ((c1:Nat):Int))):=by rw[u1,hcd,Int.natCast_add];rfl
        obtain⟨e1,e2,e3⟩:=HFF.out.2.2.2 (fun y=>h6) (.inl ⟨rfl,hk⟩) (hcd.trans HPc.out.symm)
        have c9:=HC9.out.1
        obtain⟨ev,hev⟩:∃ y,(S.play (⟨3,((c1:Nat):Int),((2:Nat):Int),((f1:Nat):Int),0,0,0,false,0,fun _=>0⟩:Mv)).e=y:=⟨_,rfl⟩
        rw[hev]at e1 e2 e3 c9
        have n1:(ev != 43)=true:=by simpa using e1
        have n2:(ev != 44)=true:=by simpa using e2
        have n3:(ev != 42)=true:=by simpa using e3
        clear hev e1 e2 e3 u1 hcd
        go_wp2_with fail
        go_ret
        exact⟨rfl,by first | exact HBW.out | exact Below.drew HBW.out | exact bO HBW.out _⟩
       ·have hce:=ne7 hcd
        have HT:Hid (Qt S (⟨3,((c1:Nat):Int),((2:Nat):Int),((f1:Nat):Int),0,0,0,false,0,fun _=>0⟩:Mv) 44):=HFF.out.2.2.1 (fun y=>h6) (.inl ⟨rfl,hk⟩) (fun y=>hcd (y.trans HPc.out))
        clear hcd
        go_wp2_with fail
        go_meet
        case rel=>exact⟨44,rfl,HT.out,by first | exact Below.refl _ _ | exact Below.drew (Below.refl _ _) | exact bO (Below.refl _ _) _⟩
   case rest=>
    obtain⟨x,rfl,HQ,HBx⟩:=hcut.out
    have e9:=ag HC9.out.1 HBx
    have e10:=ag HC9.out.2 HBx
    rw[HQ.e]at e9
    rw[HQ.i]at e10
    have hSH3:=HSH.out x HQ wc (HW.out.trans (HBx.mono HW.out.size))
    have HQ2:Hid (_):=HQ
    have HBX:Hid (Below w18.heap.size w18 wc):=HBx
    clear HQ HBx hcut
    go_wp2_with (first | refine cT (by kernel_rfl) 43 (.tmp 17) rfl w15.heap.size 0 rfl A _ (fun j v hv=>ag (HcA.out.1 j v hv) HBX.out) underlying43 rfl hiA ?_ | refine cT (by kernel_rfl) 43 (.tmp 149) rfl w17.heap.size 11 rfl hV _ (fun j v hv=>ag (HcA.out.2.2.1 j v hv) HBX.out) underlying43 rfl hiH ?_)
    refine hSH3.mono ?_
    rintro r w19 ⟨rfl,b19⟩
    have hSD4:=HSD.out x HQ2.out w19 (HW.out.trans ((HBX.out.trans (b19.mono HBX.out.size)).mono HW.out.size))
    have HcB:Hid (w19.rangeAt (w15.heap.size+1) 0 B.toList∧w19.rangeAt w17.heap.size 20 dV.toList):=⟨fun j v hv=>ag (ag (HcA.out.2.1 j v hv) HBX.out) b19,fun j v hv=>ag (ag (HcA.out.2.2.2 j v hv) HBX.out) b19⟩
    have HBF:Hid (Below w.heap.size w w19):=HBW.out.trans ((HBX.out.trans (b19.mono HBX.out.size)).mono HBW.out.size)
    clear b19 hSH3
    go_wp2_with (first | refine cT (by kernel_rfl) 43 (.tmp 18) rfl (w15.heap.size+1) 0 rfl B _ HcB.out.1 underlying43 rfl hiB ?_ | refine cT (by kernel_rfl) 43 (.tmp 155) rfl w17.heap.size 20 rfl dV _ HcB.out.2 underlying43 rfl hiD ?_)
    refine hSD4.mono ?_
    rintro r w20 ⟨rfl,b20⟩
    go_wp2_with fail
    go_ret
    exact⟨rfl,HBF.out.trans (b20.mono HBF.out.size)⟩
  ·have hz1:N=0:=by omega
   subst hz1
   go_wp2_with fail
   go_ret
   exact⟨rfl,HB1.out.trans (HBc.out.mono HB1.out.size)⟩
theorem topForeign_walk (a0:Option Addr) (len0 cap0:Nat) (v1 v2 v3:Int) (w:World) (w0:OpRow w a0 len0) (w1:(Lit.int .i64 v1).wf=true) (w2:(Lit.int .i64 v2).wf=true) (w3:(Lit.int .i64 v3).wf=true) :
  Calls prog 5 #[.slice a0 len0 cap0,.int .i64 v1,.int .i64 v2,.int .i64 v3] w fun e w'=>e=.returned (.bool true)∧Below w.heap.size w w':=kf a0 len0 cap0 v1 v2 v3 w w0
end Go.Proofs.YtddahhlbpcbddaaGreat
