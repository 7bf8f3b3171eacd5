/- Part 29: contracts that the proof rests on. -/
import Derived.Deep.Upon
import Derived.Deep.MidRow
import Derived.Deep.RegionLaw
import Derived.Deep.DeepCutAuto
import Derived.Deep.CutBlock
import Derived.Deep.RegionWith
import Derived.Deep.QuietTactic
import Derived.BigQuiet
import Derived.Test.YtenilkloffnjlaaGreatPkM27
set_option maxHeartbeats 64000000
set_option maxRecDepth 100000
namespace Go.Proofs.YtenilkloffnjlaaGreat
open Tryz
open Go.RowKit Go.Maps
set_option linter.unusedVariables false
theorem jm:∀ k,k<3→Pok (oj k):=fun k hk=>by
 have:k=0∨k=1∨k=2:=by omega
 rcases this with rfl | rfl | rfl <;> exact⟨by unfold sr oj;decide,by decide,by decide⟩
theorem qX:zO 3 3 50 (fun i=>(oj i).q) (fun i=>(oj i).q)=0:=by decide
theorem oN (a:Option Addr) (len cap:Nat) (cn:Int) (w:World) (O:OppRow w a len):Calls prog 5 #[.slice a len cap,.int .i64 cn] w fun r w'=>r=.returned (.bool true)∧Below w.heap.size w w':=by
 have HO:Hid (OppRow w a len):=O
 have hlen:=O.1
 clear O
 have hNe:=aal w
 go_enter func5,ntmps5
 go_wp2_with fail
 refine hNe.mono ?_
 rintro r w1 ⟨g0,v0,g1,v1,rfl,H1⟩
 clear hNe
 have kN:=aA w1 (.cells #[.slice (af g0 0) 3 v0,.slice (af g1 0) 3 v1,.int .u32 50] 30)
 have bN:=aC (Below.refl _ w1) (.cells #[.slice (af g0 0) 3 v0,.slice (af g1 0) 3 v1,.int .u32 50] 30)
 obtain⟨w2,hw2⟩:∃ y,w1.alloc (.cells #[.slice (af g0 0) 3 v0,.slice (af g1 0) 3 v1,.int .u32 50] 30)=y:=⟨_,rfl⟩
 obtain⟨pn,hpn⟩:∃ y,w1.heap.size=y:=⟨_,rfl⟩
 rw[hw2]at kN bN
 rw[hpn]at kN
 have n0:w2.cell? ⟨pn,0,none⟩=some (.slice (af g0 0) 3 v0):=ae w2 pn 0 _ _ _ kN
 have n1:w2.cell? ⟨pn,1,none⟩=some (.slice (af g1 0) 3 v1):=ae w2 pn 1 _ _ _ kN
 have n2:w2.cell? ⟨pn,2,none⟩=some (.int .u32 50):=ae w2 pn 2 _ _ _ kN
 have HQ:Hid (3≤v0∧3≤v1∧PqRow w2 (af g0 0) 3 gv∧PqRow w2 (af g1 0) 3 gv):=⟨H1.out.1,H1.out.2.1,PqRow.below H1.out.2.2.1 bN,PqRow.below H1.out.2.2.2.1 bN⟩
 have hNa:Calls prog 7 #[.agg #[.slice (af g0 0) 3 v0,.slice (af g1 0) 3 v1,.int .u32 50]] w2 fun r w'=>∃ L:Pw,r=.returned (.tuple #[ac L.x 0,.int .i64 0])∧Hid (PW ev w2 w' (mR L) L∧L.S=sN 3 50 oj oj):=vD oj oj g0 0 v0 g1 0 v1 3 50 jm jm (by decide) (by decide) (by decide) (by decide) HQ.out.1 HQ.out.2.1 w2 (PqRow.below HQ.out.2.2.1 (Below.refl _ _)) (PqRow.below HQ.out.2.2.2 (Below.refl _ _)) qX
 have HB2:Hid (Below w.heap.size w w2):=H1.out.2.2.2.2.trans (bN.mono H1.out.2.2.2.2.size)
 clear H1 kN bN
 go_wp2_with fail
 refine hNa.mono ?_
 rintro r w3 ⟨A,rfl,H3⟩
 clear hNa hw2 hpn
 obtain⟨xa,hxa⟩:∃ y,A.x=y:=⟨_,rfl⟩
 rw[hxa]
 have HXA:Hid (A.x=xa):=hxa
 clear hxa
 have b3:Below w2.heap.size w2 w3:=H3.out.1.1.bel
 have n0b:=ai n0 b3
 have n1b:=ai n1 b3
 have n2b:=ai n2 b3
 have hNb:Calls prog 7 #[.agg #[.slice (af g0 0) 3 v0,.slice (af g1 0) 3 v1,.int .u32 50]] w3 fun r w'=>∃ L:Pw,r=.returned (.tuple #[ac L.x 0,.int .i64 0])∧Hid (PW ev w3 w' (mR L) L∧L.S=sN 3 50 oj oj):=vD oj oj g0 0 v0 g1 0 v1 3 50 jm jm (by decide) (by decide) (by decide) (by decide) HQ.out.1 HQ.out.2.1 w3 (PqRow.below HQ.out.2.2.1 b3) (PqRow.below HQ.out.2.2.2 b3) qX
 clear n0 n1 n2 b3
 go_wp2_with fail
 refine hNb.mono ?_
 rintro r w4 ⟨B,rfl,H4⟩
 clear hNb n0b n1b n2b
 obtain⟨xb,hxb⟩:∃ y,B.x=y:=⟨_,rfl⟩
 rw[hxb]
 have HXB:Hid (B.x=xb):=hxb
 clear hxb
 have hAw:=tn w4
 go_wp2_with fail
 refine hAw.mono ?_
 rintro r w5 ⟨rfl,b5⟩
 clear hAw
 have hD:D2 w2 A.x B.x w4 A.S B.S (fun _=>di):=D2.join H3.out.1 H4.out.1
 rw[HXA.out,HXB.out,H3.out.2,H4.out.2]at hD
 obtain⟨c,hc,hc3⟩:∃ y:Nat,wrap64 ((IntKind.u64.wrap cn).tmod 3)=((y:Nat):Int)∧y<3:=ro cn
 have hD5:=(hD.below b5).start
 obtain⟨sB,hsB⟩:∃ y,w5.heap.size=y:=⟨_,rfl⟩
 rw[hsB]at hD5
 have HS0:Hid (∃ SA SB v L l,Tmy SA SB c L l (0)∧D2 w2 xa xb (w5.alloc (.cells #[.slice none 0 0,.slice none 0 0,.slice none 0 0] 60)) SA SB (zX sB v L (.slice none 0 0) l (fun _=>di))):=⟨_,_,_,_,_,Tmy.start c,hD5⟩
 have hms:=yM
 clear hD hD5 b5 H3 H4 HQ HXA HXB
 go_wp2_with fail
 try rw[hc]
 clear hms hc
 go_loopw [13,12,14,15,16,17,18,19,20,47,48,49,50,51,52,53,54,55,56,57,58,59,60,61,62,63,64,65,66,67,68,69,70,71,72,73,74,75,76,77,78,79,80,81,82,83,84,85,86,87,88,89,90,91,92,93,94,95,96,97,98,99,100,101,102,103,104,105,106,107,108,109,110,111,112,113,114,115,116,117,118,119,120,121,122,123,124,125,126,127,128,129,130,131,132,133,134,135,136,137,138,139,140,141,142,143,144,145,146,147,148,149,150,151,152,153,154,155,156,157,158,159,160,161,162,163,164,165,166,167,168,169] (fun i uu _ _ _ _ _ _ _ _ _ _ _ _ _ _ _ _ _ _ _ _ _ _ _ _ _ _ _ _ _ _ _ _ _ _ _ _ _ _ _ _ _ _ _ _ _ _ _ _ _ _ _ _ _ _ _ _ _ _ _ _ _ _ _ _ _ _ _ _ _ _ _ _ _ _ _ _ _ _ _ _ _ _ _ _ _ _ _ _ _ _ _ _ _ _ _ _ _ _ _ _ _ _ _ _ _ _ _ _ _ _ _ _ _ _ _ _ _ _ _ _ _ _ _ _ _ _ _ _ _ _ wr=>∃ k:Nat,k≤len∧k≤300∧i=.int .i64 ((k:Nat):Int)∧Hid (∃ SA SB v L l,Tmy SA SB c L l (k)∧D2 w2 xa xb wr SA SB (zX sB v L uu l (fun _=>di)))) (fun i uu _ _ _ _ _ _ _ _ _ _ _ _ _ _ _ _ _ _ _ _ _ _ _ _ _ _ _ _ _ _ _ _ _ _ _ _ _ _ _ _ _ _ _ _ _ _ _ _ _ _ _ _ _ _ _ _ _ _ _ _ _ _ _ _ _ _ _ _ _ _ _ _ _ _ _ _ _ _ _ _ _ _ _ _ _ _ _ _ _ _ _ _ _ _ _ _ _ _ _ _ _ _ _ _ _ _ _ _ _ _ _ _ _ _ _ _ _ _ _ _ _ _ _ _ _ _ _ _ _ _ _=>len-eG i)
 case atStart=>exact⟨0,by omega,by omega,rfl,HS0⟩
 case round=>
  obtain⟨k,hk,hk3,rfl,HI⟩:=hrel
  clear HS0
  by_cases hlt:k<len
  ·have hlt':((k:Nat):Int) < ((len:Nat):Int):=by omega
   by_cases h3:k<300
   ·have h3':((k:Nat):Int)<300:=by omega
    obtain⟨b,off,rfl,hb,hm⟩:=HO.out.2 (by omega)
    obtain⟨pc,m,d,ok,R,hl,hcl⟩:=hm k hlt
    obtain⟨SA,SB,v,L,l,g,hp⟩:=HI.out
    have hbr:Below w.heap.size w wr:=HB2.out.trans (hp.bel.mono HB2.out.size)
    obtain⟨c1,hc1,hc13⟩:∃ y:Nat,wrap64 ((IntKind.u64.wrap pc).tmod 3)=((y:Nat):Int)∧y<3:=ro pc
    have hc13':((c1:Nat):Int)<3:=by omega
    obtain⟨hva,hvo⟩:=hp.rdA hc13
    obtain⟨a1,cp1,hv1,hga⟩:=jK (v:=v c1) (xs:=L c1) hvo
    rw[hv1]at hva
    obtain⟨N1,hN1⟩:∃ y,(L c1).length=y:=⟨_,rfl⟩
    rw[hN1]at hva
    obtain⟨fA,hfA⟩:∃ y,lp m (L c1)=y:=⟨_,rfl⟩
    obtain⟨OK,hOK⟩:∃ y,su m (L c1)=y:=⟨_,rfl⟩
    have HG:Hid (Tmy SA SB c L l k):=g
    have HOk:Hid (m.Ok∧m.l≤140737488351232):=⟨ok,hl⟩
    have HP:Hid (D2 w2 xa xb wr SA SB (zX sB v L u12 l (fun _=>di))):=hp
    have HR:Hid (Row8 w d.a m.l d.c m.b):=R
    have HBR:Hid (Below w.heap.size w wr):=hbr
    have HN1:Hid ((L c1).length=N1):=hN1
    have HFA:Hid (lp m (L c1)=fA):=hfA
    have HOK:Hid (su m (L c1)=OK):=hOK
    have HK3:Hid (k<300):=h3
    have HC1:Hid (c1<3):=hc13
    have hx:∀ wx,Below wr.heap.size wr wx→wx.cell? ⟨b,off+k*10,none⟩=some (.int .i64 pc)∧wx.cell? ⟨b,off+k*10+1,none⟩=some (.int .i64 m.k)∧wx.cell? ⟨b,off+k*10+2,none⟩=some (.int .i64 m.c)∧wx.cell? ⟨b,off+k*10+3,none⟩=some (.int .i64 m.s)∧wx.cell? ⟨b,off+k*10+4,none⟩=some (.int .i64 m.f)∧wx.cell? ⟨b,off+k*10+5,none⟩=some (.int .i64 m.a)∧wx.cell? ⟨b,off+k*10+6,none⟩=some (.int .u32 (m.w:Nat))∧wx.cell? ⟨b,off+k*10+7,none⟩=some (.int .i64 m.n)∧wx.cell? ⟨b,off+k*10+8,none⟩=some (.bool m.h)∧wx.cell? ⟨b,off+k*10+9,none⟩=some (.slice d.a m.l d.c)∧wx.cell? ⟨sB,c1,none⟩=some (.slice a1 N1 cp1):=fun wx bx=>⟨ai (ai (hcl 0 _ rfl) hbr) bx,ai (ai (hcl 1 _ rfl) hbr) bx,ai (ai (hcl 2 _ rfl) hbr) bx,ai (ai (hcl 3 _ rfl) hbr) bx,ai (ai (hcl 4 _ rfl) hbr) bx,ai (ai (hcl 5 _ rfl) hbr) bx,ai (ai (hcl 6 _ rfl) hbr) bx,ai (ai (hcl 7 _ rfl) hbr) bx,ai (ai (hcl 8 _ rfl) hbr) bx,ai (ai (hcl 9 _ rfl) hbr) bx,ai hva bx⟩
    have HX:Hid (∀ wx,Below w.heap.size w wx→wx.cell? ⟨b,off+k*10,none⟩=some (.int .i64 pc)∧wx.cell? ⟨b,off+k*10+1,none⟩=some (.int .i64 m.k)∧wx.cell? ⟨b,off+k*10+2,none⟩=some (.int .i64 m.c)∧wx.cell? ⟨b,off+k*10+3,none⟩=some (.int .i64 m.s)∧wx.cell? ⟨b,off+k*10+4,none⟩=some (.int .i64 m.f)∧wx.cell? ⟨b,off+k*10+5,none⟩=some (.int .i64 m.a)∧wx.cell? ⟨b,off+k*10+6,none⟩=some (.int .u32 (m.w:Nat))∧wx.cell? ⟨b,off+k*10+7,none⟩=some (.int .i64 m.n)∧wx.cell? ⟨b,off+k*10+8,none⟩=some (.bool m.h)∧wx.cell? ⟨b,off+k*10+9,none⟩=some (.slice d.a m.l d.c)):=fun wx bx=>⟨ai (hcl 0 _ rfl) bx,ai (hcl 1 _ rfl) bx,ai (hcl 2 _ rfl) bx,ai (hcl 3 _ rfl) bx,ai (hcl 4 _ rfl) bx,ai (hcl 5 _ rfl) bx,ai (hcl 6 _ rfl) bx,ai (hcl 7 _ rfl) bx,ai (hcl 8 _ rfl) bx,ai (hcl 9 _ rfl) bx⟩
    have hOw:∀ wx,Below wr.heap.size wr wx→Calls prog 15 #[.agg #[.int .i64 pc,.int .i64 m.k,.int .i64 m.c,.int .i64 m.s,.int .i64 m.f,.int .i64 m.a,.int .u32 (m.w:Nat),.int .i64 m.n,.bool m.h,.slice d.a m.l d.c],.int .i64 ((c1:Nat):Int),.slice a1 N1 cp1] wx fun r w'=>∃ x,r=.returned x∧((∃ d6 c6,x=.tuple #[.agg (eQ m.k ((c1:Nat):Int) m.s fA m.a m.w m.n m.h d6 m.l c6),.bool OK]∧Hid (Row8 w' d6 m.l c6 m.b∧∀ y,d6=some y→0<m.l→wx.heap.size≤y.block))∧Below wx.heap.size wx w'):=fun wx bx=>by
     have:=zf pc m d.a d.c c1 a1 cp1 (L c1) wx ((HR.out.below hbr).below bx) HOk.out.2 (Nat.le_trans (HG.out.lk c1).1 (by omega)) (fun h=>by obtain⟨q,e,f⟩:=hga h;exact⟨q,e,fun i y hy=>ai (f i y hy) bx⟩)
     rw[hN1,hfA,hOK]at this
     refine this.mono ?_
     rintro r w' ⟨d6,c6,rfl,H⟩
     exact⟨_,rfl,⟨d6,c6,rfl,H.out.1,H.out.2.2⟩,H.out.2.1⟩
    have hz:∀ wx,Below (wr.alloc (.cells #[.int .i64 0,.int .i64 0,.int .i64 0,.int .i64 0,.int .i64 0,.int .u32 0,.int .i64 0,.bool false,.slice none 0 0] 39)).heap.size (wr.alloc (.cells #[.int .i64 0,.int .i64 0,.int .i64 0,.int .i64 0,.int .i64 0,.int .u32 0,.int .i64 0,.bool false,.slice none 0 0] 39)) wx→wx.heap[wr.heap.size]?=some (.cells #[.int .i64 0,.int .i64 0,.int .i64 0,.int .i64 0,.int .i64 0,.int .u32 0,.int .i64 0,.bool false,.slice none 0 0] 39 (0,0))∧(wx.cell? ⟨wr.heap.size,0,none⟩=some (.int .i64 0)∧wx.cell? ⟨wr.heap.size,1,none⟩=some (.int .i64 0)∧wx.cell? ⟨wr.heap.size,2,none⟩=some (.int .i64 0)∧wx.cell? ⟨wr.heap.size,3,none⟩=some (.int .i64 0)∧wx.cell? ⟨wr.heap.size,4,none⟩=some (.int .i64 0)∧wx.cell? ⟨wr.heap.size,5,none⟩=some (.int .u32 0)∧wx.cell? ⟨wr.heap.size,6,none⟩=some (.int .i64 0)∧wx.cell? ⟨wr.heap.size,7,none⟩=some (.bool false)∧wx.cell? ⟨wr.heap.size,8,none⟩=some (.slice none 0 0))∧(wx.frozen? ⟨wr.heap.size,0,none⟩=false∧wx.frozen? ⟨wr.heap.size,1,none⟩=false∧wx.frozen? ⟨wr.heap.size,2,none⟩=false∧wx.frozen? ⟨wr.heap.size,3,none⟩=false∧wx.frozen? ⟨wr.heap.size,4,none⟩=false∧wx.frozen? ⟨wr.heap.size,5,none⟩=false∧wx.frozen? ⟨wr.heap.size,6,none⟩=false∧wx.frozen? ⟨wr.heap.size,7,none⟩=false∧wx.frozen? ⟨wr.heap.size,8,none⟩=false):=fun wx bx=>by
     have kz:=aA wr (.cells #[.int .i64 0,.int .i64 0,.int .i64 0,.int .i64 0,.int .i64 0,.int .u32 0,.int .i64 0,.bool false,.slice none 0 0] 39)
     have kz:=(bx.block _ (Array.getElem?_eq_some_iff.1 kz).1).trans kz
     exact⟨kz,⟨ae wx wr.heap.size 0 _ _ _ kz,ae wx wr.heap.size 1 _ _ _ kz,ae wx wr.heap.size 2 _ _ _ kz,ae wx wr.heap.size 3 _ _ _ kz,ae wx wr.heap.size 4 _ _ _ kz,ae wx wr.heap.size 5 _ _ _ kz,ae wx wr.heap.size 6 _ _ _ kz,ae wx wr.heap.size 7 _ _ _ kz,ae wx wr.heap.size 8 _ _ _ kz⟩,⟨frozen_of_row wx wr.heap.size 0 _ _ kz,frozen_of_row wx wr.heap.size 1 _ _ kz,frozen_of_row wx wr.heap.size 2 _ _ kz,frozen_of_row wx wr.heap.size 3 _ _ kz,frozen_of_row wx wr.heap.size 4 _ _ kz,frozen_of_row wx wr.heap.size 5 _ _ kz,frozen_of_row wx wr.heap.size 6 _ _ kz,frozen_of_row wx wr.heap.size 7 _ _ kz,frozen_of_row wx wr.heap.size 8 _ _ kz⟩⟩
    obtain⟨p0,p1,p2,p3,p4,p5,p6,p7,p8,p9,p10⟩:=hx wr (Below.refl _ _)
    obtain⟨pa0,pa1,pa2,pa3,pa4,pa5,pa6,pa7,pa8,pa9,pa10⟩:=hx (wr.alloc (.cells #[.int .i64 0,.int .i64 0,.int .i64 0,.int .i64 0,.int .i64 0,.int .u32 0,.int .i64 0,.bool false,.slice none 0 0] 39)) (aC (Below.refl _ _) _)
    clear hm R hcl hb g hp hbr ok hl HI hva hvo hv1 hga hN1 hfA hOK hc13
    go_upto_region 13 with fail
    try rw[hc1]
    clear hc1
    go_cut [15,16] (fun p o wx=>∃ pm d6 c6,p=ac pm 0∧o=.bool OK∧Hid (RelP wr m c1 fA pm d6 c6 wx))
    case first=>
     go_region_law (first
      | (refine ql 15 #[.tmp 69,.tmp 70,.tmp 74] #[62,3,60] rfl (by kernel_rfl) #[.agg #[.int .i64 pc,.int .i64 m.k,.int .i64 m.c,.int .i64 m.s,.int .i64 m.f,.int .i64 m.a,.int .u32 (m.w:Nat),.int .i64 m.n,.bool m.h,.slice d.a m.l d.c],.int .i64 ((c1:Nat):Int),.slice a1 N1 cp1] (by kernel_rfl) (hOw _ (by repeat (first | with_reducible assumption | with_reducible exact Below.refl _ _ | with_reducible refine Below.drew ?_ | with_reducible refine aC ?_ _))) ?_;rintro x w6 ⟨⟨d6,c6,rfl,h6⟩,b6⟩;have B6:=Below.trans (show Below wr.heap.size wr _ by repeat (first | with_reducible assumption | with_reducible exact Below.refl _ _ | with_reducible refine Below.drew ?_ | with_reducible refine aC ?_ _)) (b6.mono (Below.size (show Below wr.heap.size wr _ by repeat (first | with_reducible assumption | with_reducible exact Below.refl _ _ | with_reducible refine Below.drew ?_ | with_reducible refine aC ?_ _))));have n6:∀ y,d6=some y→0<m.l→wr.heap.size≤y.block:=fun y e h0=>Nat.le_trans (Below.size (show Below wr.heap.size wr _ by repeat (first | with_reducible assumption | with_reducible exact Below.refl _ _ | with_reducible refine Below.drew ?_ | with_reducible refine aC ?_ _))) (h6.out.2 y e h0);obtain⟨p0,p1,p2,p3,p4,p5,p6,p7,p8,p9,p10⟩:=hx _ B6;try (have hz6:=hz w6 (Below.trans (Below.drew (Below.refl _ _)) b6);obtain⟨z00,⟨z0,z1,z2,z3,z4,z5,z6,z7,z8⟩,⟨f0,f1,f2,f3,f4,f5,f6,f7,f8⟩⟩:=hz6;have n7:∀ y,d6=some y→0<m.l→wr.heap.size+1≤y.block:=fun y e h0=>by have q:(wr.alloc (.cells #[.int .i64 0,.int .i64 0,.int .i64 0,.int .i64 0,.int .i64 0,.int .u32 0,.int .i64 0,.bool false,.slice none 0 0] 39)).heap.size≤y.block:=h6.out.2 y e h0;rw[iQ]at q;exact q))
      | fail)
     all_goals
      go_wp2_with fail
      go_meet
      first
       | (refine⟨_,d6,c6,rfl,rfl,(?_:RelP _ _ _ _ _ _ _ _)⟩;with_reducible exact ul B6 h6.out.1 n6)
       | (refine⟨_,d6,c6,rfl,rfl,(?_:RelP _ _ _ _ _ _ _ _)⟩;with_reducible exact um z00 B6 h6.out.1 n7)
       | (refine⟨_,d6,c6,rfl,rfl,(?_:RelP _ _ _ _ _ _ _ _)⟩;with_reducible exact (ul B6 h6.out.1 n6).drew)
       | (refine⟨_,d6,c6,rfl,rfl,(?_:RelP _ _ _ _ _ _ _ _)⟩;with_reducible exact (um z00 B6 h6.out.1 n7).drew)
    case rest=>
    obtain⟨pm,d6,c6,rfl,rfl,H⟩:=hcut
    obtain⟨w6,hw6⟩:∃ y,wc=y:=⟨_,rfl⟩
    rw[hw6]at H ⊢
    clear hw6 hx hOw hz p0 p1 p2 p3 p4 p5 p6 p7 p8 p9 p10 pa0 pa1 pa2 pa3 pa4 pa5 pa6 pa7 pa8 pa9 pa10
    have HP6:Hid (D2 w2 xa xb w6 SA SB (zX sB v L u12 l (aF (fun _=>di) 5 (cS [(pm,xS m c1 fA d6 c6)])))):=HP.out.layB H.out.bel (by decide) H.out.b H.out.new
    cases OK
    ·have HT:Hid (∃ SA SB v L l,Tmy SA SB c L l (k+1)∧D2 w2 xa xb w6 SA SB (zX sB v L u12 l (fun _=>di))):=⟨SA,SB,v,L,l,HG.out.more,HP.out.below H.out.bel⟩
     clear HP6
     go_wp2_with fail
     refine⟨⟨k+1,by omega,by omega,by simp,HT⟩,?_⟩
     have e1:eG (.int .i64 ((k:Nat):Int))=k:=by simp[eG]
     have e2:eG (.int .i64 (((k:Nat):Int)+1))=k+1:=by simp[eG]
     rw[e1,e2]
     omega
    ·have q0:w6.cell? ⟨pm,0,none⟩=some (.int .i64 m.k):=ae w6 pm 0 _ _ _ H.out.b
     have q1:w6.cell? ⟨pm,1,none⟩=some (.int .i64 ((c1:Nat):Int)):=ae w6 pm 1 _ _ _ H.out.b
     have q2:w6.cell? ⟨pm,2,none⟩=some (.int .i64 m.s):=ae w6 pm 2 _ _ _ H.out.b
     have q3:w6.cell? ⟨pm,3,none⟩=some (.int .i64 fA):=ae w6 pm 3 _ _ _ H.out.b
     have q4:w6.cell? ⟨pm,4,none⟩=some (.int .i64 m.a):=ae w6 pm 4 _ _ _ H.out.b
     have q5:w6.cell? ⟨pm,5,none⟩=some (.int .u32 (m.w:Nat)):=ae w6 pm 5 _ _ _ H.out.b
     have q6:w6.cell? ⟨pm,6,none⟩=some (.int .i64 m.n):=ae w6 pm 6 _ _ _ H.out.b
     have q7:w6.cell? ⟨pm,7,none⟩=some (.bool m.h):=ae w6 pm 7 _ _ _ H.out.b
     have q8:w6.cell? ⟨pm,8,none⟩=some (.slice d6 m.l c6):=ae w6 pm 8 _ _ _ H.out.b
     have hfr:=mr (xs:=L c1) HOk.out.1 (fun x hx=>by have:=(HG.out.lk c1).2 x hx;have:=HG.out.IA.bg;have:=HG.out.mA;have:=HK3.out;omega)
     rw[HFA.out]at hfr
     have hPl:Calls prog 11 #[ac xa 0,.agg (eQ m.k ((c1:Nat):Int) m.s fA m.a m.w m.n m.h d6 m.l c6)] w6 _:=vZ 6 (m.fat c1 fA) d6 c6 HP6.out (fun q hq=>by rw[dh (by omega),ag _ _ (by omega)]) HG.out.IA (pI HOk.out.1 HC1.out hfr) (by rw[HG.out.n3];decide) H.out.r (fun y hy h0 e=>by have:=H.out.dat y hy h0;have:=HP.out.lt.1;omega) HOk.out.2
     clear hfr
     go_wp2_with fail
     refine hPl.mono ?_
     rintro r w8 ⟨Ar,E,rfl,hsA,hoA,H8⟩
     clear hPl q0 q1 q2 q3 q4 q5 q6 q7 q8
     obtain⟨w9,hst1,hrg1,hbl1⟩:=fU w8 hsA hoA
     obtain⟨pr,hpr⟩:∃ y,w8.heap.size=y:=⟨_,rfl⟩
     rw[hpr]at hrg1 hst1
     have lpr:pr<w9.heap.size:=World.block_lt_of_cell? w9 _ (hrg1 0 Ar[0] (by rw[Array.getElem?_toList,Array.getElem?_eq_getElem (by omega)]))
     obtain⟨oR,hoR⟩:∃ o,w9.heap[pr]?=some o:=⟨_,Array.getElem?_eq_getElem lpr⟩
     have HRG:Hid (w9.rangeAt pr 0 Ar.toList∧w9.heap[pr]?=some oR∧Below w8.heap.size w8 w9∧w8.heap.size≤pr):=⟨hrg1,hoR,hbl1,by omega⟩
     clear lpr hoR
     by_cases hb0:SA.bad (m.fat c1 fA)=0
     ·obtain⟨a7,c7,ah,ch,ad,cd,eA,hD8⟩:∃ a c ah ch ad cd,Ar=ja (m.fat c1 fA) (SA.play (m.fat c1 fA)) (m.fat c1 fA).c.toNat a c ah ch ad cd∧D2 w2 xa xb w8 (SA.play (m.fat c1 fA)).S SB (ri (zX sB v L u12 l (aF (fun _=>di) 5 (cS [(pm,xS m c1 fA d6 c6)]))) 6 (m.fat c1 fA) (SA.play (m.fat c1 fA)).S (m.fat c1 fA).c.toNat a c ah ch ad cd):=by
       rcases H8.out.2 with ⟨q,_⟩ | ⟨_,q⟩
       ·exact absurd hb0 q
       ·exact q
      have hE:E=0:=H8.out.1.trans hb0
      subst hE
      have ec1:(m.fat c1 fA).c.toNat=c1:=Int.toNat_natCast c1
      rw[ec1]at eA hD8
      rw[yj (by decide)]at hD8
      have hD9:=hD8.layB HRG.out.2.2.1 (q:=10) (by decide) HRG.out.2.1 HRG.out.2.2.2
      obtain⟨S',hS'⟩:∃ y,(SA.play (m.fat c1 fA)).S=y:=⟨_,rfl⟩
      obtain⟨iA,hiA⟩:∃ y,(SA.play (m.fat c1 fA)).i=y:=⟨_,rfl⟩
      obtain⟨CE,hCE⟩:∃ y,(SA.play (m.fat c1 fA)).e=y:=⟨_,rfl⟩
      obtain⟨Z,hZ⟩:∃ y,aF (ri (aF (fun _=>di) 5 (cS [(pm,xS m c1 fA d6 c6)])) 6 (m.fat c1 fA) (SA.play (m.fat c1 fA)).S c1 a7 c7 ah ch ad cd) 10 (cS [(pr,oR)])=y:=⟨_,rfl⟩
      rw[hZ,hS']at hD9
      have HZ:Hid (Z 5=cS [(pm,xS m c1 fA d6 c6)]∧Z 8=dF ah (S'.PH c1).i ch (cO (S'.hs c1).v)∧Z 9=dF ad (S'.PD c1).o cd (cO (S'.ds c1).v)∧Z 10=cS [(pr,oR)]∧∀ q,11≤q→Z q=di):=by
       rw[← hZ,← hS']
       unfold ri
       refine⟨?_,?_,?_,al _ _ _,fun q hq=>?_⟩
       ·rw[ag _ _ (by decide),ag _ _ (by decide),ag _ _ (by decide),ag _ _ (by decide)]
        exact al _ _ _
       ·rw[ag _ _ (by decide),ag _ _ (by decide)]
        exact al _ _ _
       ·rw[ag _ _ (by decide)]
        exact al _ _ _
       ·rw[ag _ _ (by omega),ag _ _ (by omega),ag _ _ (by omega),ag _ _ (by omega),ag _ _ (by omega)]
      have e9:Ar.toList[9]?=some (.int .i64 CE):=by rw[eA,← hCE];rfl
      have e10:Ar.toList[10]?=some (.int .i64 iA):=by rw[eA,← hiA];rfl
      have HEA:Hid (w9.cell? ⟨pr,9,none⟩=some (.int .i64 CE)∧w9.cell? ⟨pr,10,none⟩=some (.int .i64 iA)∧w9.rangeAt pr 11 (#[.int .i64 ((S'.hs c1).st:Nat),.int .u32 ((S'.hs c1).ss:Nat),.int .u32 ((S'.hs c1).nm:Nat),.int .u32 ((S'.hs c1).sn:Nat),.int .i64 ((S'.hs c1).dc:Nat),.int .i64 (S'.hs c1).v.lat,.bool (aq (S'.hs c1).v),.bool (aB (S'.hs c1).v),.slice ah (S'.PH c1).i ch]:Array Value).toList∧w9.rangeAt pr 20 (#[.int .i64 ((S'.ds c1).st:Nat),.int .u32 ((S'.ds c1).ss:Nat),.int .u32 ((S'.ds c1).nm:Nat),.int .u32 ((S'.ds c1).sn:Nat),.int .i64 ((S'.ds c1).dc:Nat),.int .i64 (S'.ds c1).v.lat,.bool (aq (S'.ds c1).v),.bool (aB (S'.ds c1).v),.slice ad (S'.PD c1).o cd]:Array Value).toList):=by
       refine⟨?_,?_,fun j u hu=>?_,fun j u hu=>?_⟩
       ·have:=hrg1 9 _ e9
        rw[Nat.zero_add]at this
        exact this
       ·have:=hrg1 10 _ e10
        rw[Nat.zero_add]at this
        exact this
       ·have:=hrg1 (11+j) u (by rw[eA,← hu,← hS'];exact uI _ _ _ _ _ _ _ _ _ j (by have:=(List.getElem?_eq_some_iff.1 hu).1;simpa using this))
        rw[Nat.zero_add]at this
        exact this
       ·have:=hrg1 (20+j) u (by rw[eA,← hu,← hS'];exact uH _ _ _ _ _ _ _ _ _ j (by have:=(List.getElem?_eq_some_iff.1 hu).1;simpa using this))
        rw[Nat.zero_add]at this
        exact this
      have HTA:Hid (SA.bad (m.fat c1 fA)=0∧(SA.play (m.fat c1 fA)).S=S'∧(SA.play (m.fat c1 fA)).i=iA∧(SA.play (m.fat c1 fA)).e=CE):=⟨hb0,hS',hiA,hCE⟩
      have HD9:Hid (D2 w2 xa xb w9 S' SB (zX sB v L u12 l Z)):=hD9
      have hiR:iA≤1000000:=by
       rw[← hiA]
       rcases fQ SA hb0 with ⟨_,z,_⟩ | ⟨_,z,_⟩
       ·omega
       ·have:=HG.out.IA.bg
        have:=HG.out.mA
        have:=HK3.out
        omega
      have r10:=HEA.out.2.1
      have HIR:Hid (iA≤1000000):=hiR
      clear hb0 eA hD8 hD9 hZ hS' hiA hCE e9 e10 H8 ec1 hrg1 hbl1 hiR HP6
      obtain⟨RS,hRS⟩:∃ y:Bool,decide (0≤iA)=y:=⟨_,rfl⟩
      have HRS:Hid (decide (0≤iA)=RS):=hRS
      clear hRS
      go_upto_region 16 with fail
      clear hst1 hsA hoA
      go_cut [92] (fun v wx=>Hid (v=.bool RS∧wx=w9))
      case first=>
       by_cases hi:0≤iA
       ·have e:RS=true:=by rw[← HRS.out];exact decide_eq_true hi
        have hi2:iA ≥ 0:=hi
        have hi3:decide (iA ≥ 0)=true:=decide_eq_true hi
        go_wp2_with fail
        go_meet
        case rel=>exact⟨by rw[e],rfl⟩
       ·have e:RS=false:=by rw[← HRS.out];exact decide_eq_false hi
        have hi2:¬ iA ≥ 0:=hi
        have hi3:decide (iA ≥ 0)=false:=decide_eq_false hi
        go_wp2_with fail
        go_meet
        case rel=>exact⟨by rw[e],rfl⟩
      case rest=>
      obtain⟨rfl,hwc⟩:=hcut.out
      obtain rfl:=hwc.symm
      clear hcut r10
      go_upto_if 92 with fail
      go_cut [14] (fun o wx=>Hid (o=.int .i64 ((c1:Nat):Int)∧∃ VV,D2 w2 xa xb wx S' SB (zX sB VV (bR L c1 iA) u12 l Z)))
      case first=>
       cases RS
       ·have hi:iA<0:=by have:=of_decide_eq_false HRS.out;omega
        have HT:Hid (∃ VV,D2 w2 xa xb w9 S' SB (zX sB VV (bR L c1 iA) u12 l Z)):=⟨v,by unfold bR;rw[if_pos hi];exact HD9.out⟩
        clear hi
        go_wp2_with fail
        go_meet
        case rel=>exact⟨rfl,HT.out⟩
       ·have hi:0≤iA:=of_decide_eq_true HRS.out
        obtain⟨nA,rfl⟩:∃ n:Nat,iA=((n:Nat):Int):=⟨iA.toNat,by omega⟩
        clear hi
        have sv:=(HD9.out.rdA HC1.out).1
        have HSS:Hid (∀ w',Below w9.heap.size w9 w'→w'.cell? ⟨pr,10,none⟩=some (.int .i64 ((nA:Nat):Int))):=fun w' b=>ai HEA.out.2.1 b
        have HS0:=HSS.out w9.drew (Below.drew (Below.refl _ _))
        have b9:Below w9.heap.size w9 (w9.drew.alloc (.cells #[.int .i64 ((nA:Nat):Int)] 3)):=(Below.drew (Below.refl _ _)).alloc (Nat.le_refl _) _
        have sv0:=ai sv (Below.drew (Below.refl _ _))
        have sv9:=ai sv b9
        have HB9:Hid (Below w9.heap.size w9 (w9.drew.alloc (.cells #[.int .i64 ((nA:Nat):Int)] 3))):=b9
        have sv9b:=ai sv (aC (Below.refl _ w9) (.cells #[.int .i64 ((nA:Nat):Int)] 3))
        have HO9:Hid ((w9.drew.alloc (.cells #[.int .i64 ((nA:Nat):Int)] 3)).ownsRow 0 3 1 (v c1) (L c1).length (kD (L c1))∧(w9.drew.alloc (.cells #[.int .i64 ((nA:Nat):Int)] 3)).heap[w9.heap.size]?=some (.cells #[.int .i64 ((nA:Nat):Int)] 3 (0,0))):=⟨((HD9.out.below b9).rdA HC1.out).2,aA w9.drew _⟩
        have hc13:c1<3:=HC1.out
        have hc13':((c1:Nat):Int)<3:=by omega
        clear sv b9
        go_wp2_with fail
        refine wp_region_held_drew (S:=fun w'=>w'.cell? ⟨pr,10,none⟩=some (.int .i64 ((nA:Nat):Int))) (by kernel_rfl) HS0 (fun _=>?_)
        refine an (i:=0) (v:=Value.slice (af sB 0) 3 3) ?_
        refine an (i:=1) (v:=Value.int .i64 ((c1:Nat):Int)) ?_
        refine an (i:=2) (v:=Value.slice (af sB 0) 3 3) ?_
        refine an (i:=3) (v:=Value.int .i64 ((c1:Nat):Int)) ?_
        refine an (i:=4) (v:=ac sB c1) ?_
        refine an (i:=6) (v:=ac pr 10) ?_
        refine an (i:=7) (v:=Value.int .i64 ((nA:Nat):Int)) ?_
        refine pN (i:=5) (j:=8) (by kernel_rfl) ?_ ?_
        ·refine dP (o:=_) (v c1) w9.drew rfl (by kernel_rfl) (by go_simp) ⟨HS0,?_⟩
         refine gr (i:=8) (by kernel_rfl) (dP (.slice (af w9.heap.size 0) 1 1) (w9.drew.alloc (.cells #[.int .i64 ((nA:Nat):Int)] 3)) rfl (by kernel_rfl) (by go_simp) ⟨HSS.out _ HB9.out,?_⟩)
         refine gr (i:=9) (by kernel_rfl) (wpOp_step rfl (fun K' hK'=>?_))
         refine lE rfl (.tmp 98) (.tmp 101) rfl rfl w9.heap.size (L c1) nA (v c1) (by kernel_rfl) (by kernel_rfl) HO9.out.1 HO9.out.2 (by have:=(HG.out.lk c1).1;have:=HK3.out;omega) ?_
         intro vN wN h3'
         obtain⟨gN,cN,rfl⟩:=oe (n:=(L c1).length) (by have q:=h3'.out.1;rw[List.length_append]at q;exact q)
         obtain⟨kb3,⟨zz,hzz,hDw⟩,hD3⟩:=(HD9.out.below HB9.out).addA HC1.out h3'.out.1 h3'.out.2.1 h3'.out.2.2
         have kp3:wN.heap[pr]?=some oR:=(hDw.get (q:=10) ((hzz 10 (by decide)).trans HZ.out.2.2.2.1)) _ (List.mem_cons_self ..)
         have kp4:(wN.setCell ⟨sB,c1,none⟩ (.slice (af gN 0) ((L c1).length+1) cN)).heap[pr]?=some oR:=hD3.atB (q:=10) (by decide) HZ.out.2.2.2.1
         have HS3:wN.cell? ⟨pr,10,none⟩=some (.int .i64 ((nA:Nat):Int)):=fF (kp3.trans HRG.out.2.1.symm) 10 HEA.out.2.1
         have HS4:(wN.setCell ⟨sB,c1,none⟩ (.slice (af gN 0) ((L c1).length+1) cN)).cell? ⟨pr,10,none⟩=some (.int .i64 ((nA:Nat):Int)):=fF (kp4.trans HRG.out.2.1.symm) 10 HEA.out.2.1
         have y8:=ae wN sB c1 _ _ _ kb3
         have yz:=frozen_of_row wN sB c1 _ _ kb3
         have HT:Hid (∃ VV,D2 w2 xa xb (wN.setCell ⟨sB,c1,none⟩ (.slice (af gN 0) ((L c1).length+1) cN)) S' SB (zX sB VV (bR L c1 ((nA:Nat):Int)) u12 l Z)):=⟨bf v c1 (.slice (af gN 0) ((L c1).length+1) cN),by
          have e:bR L c1 ((nA:Nat):Int)=bf L c1 (L c1 ++ [nA]):=by unfold bR;rw[if_neg (by omega),Int.toNat_natCast]
          rw[e]
          exact hD3⟩
         clear hD3 hDw hzz kp3 kp4
         refine hK' _ _ ⟨HS3,?_⟩
         refine wpAnyH_take (i:=10) (v:=ac sB c1) rfl (by kernel_rfl) (by kernel_rfl) (by kernel_rfl) (fun _ _ _ h=>h) (Or.inl ⟨by kernel_rfl,fun w hSw=>by go_simp⟩) HS3 ?_
         refine cj (i:=11) (wN.setCell ⟨sB,c1,none⟩ (.slice (af gN 0) ((L c1).length+1) cN)) (by kernel_rfl) rfl (by kernel_rfl) (by go_simp) HS4 ?_
         refine aG (a':={ tmps:=#[.slice (af b off) len cap,.int .i64 cn,undef,undef,u4,ac pn 0,ac xa 0,.int .i64 0,ac xb 0,.int .i64 0,.int .i64 ((c:Nat):Int),.slice (af sB 0) 3 3,u12,.int .i64 ((k:Nat):Int),.int .i64 ((c1:Nat):Int),ac pm 0,.bool true,ac pr 0,.int .i64 0,u19,u20,.agg #[.slice (af g0 0) 3 v0,.slice (af g1 0) 3 v1,.int .u32 50],.tuple #[ac xa 0,.int .i64 0],.agg #[.slice (af g0 0) 3 v0,.slice (af g1 0) 3 v1,.int .u32 50],.tuple #[ac xa 0,.int .i64 0],ac xa 0,.int .i64 0,.tuple #[ac xb 0,.int .i64 0],.agg #[.slice (af g0 0) 3 v0,.slice (af g1 0) 3 v1,.int .u32 50],.tuple #[ac xb 0,.int .i64 0],ac xb 0,.int .i64 0,.int .i64 0,.bool false,.bool false,.int .i64 0,.bool false,.bool false,.bool false,.bool true,.bool false,.bool false,.int .i64 cn,.int .u64 (IntKind.u64.wrap cn),.int .u64 ((IntKind.u64.wrap cn).tmod 3),.int .i64 ((c:Nat):Int),.slice (af sB 0) 3 3,u47,u48,u49,u50,u51,u52,u53,u54,u55,u56,u57,u58,u59,u60,u61,u62,u63,u64,u65,u66,u67,u68,u69,u70,u71,u72,u73,u74,u75,u76,u77,u78,u79,u80,u81,u82,u83,u84,u85,u86,u87,u88,u89,u90,u91,.bool true,.slice (af sB 0) 3 3,.int .i64 ((c1:Nat):Int),.slice (af sB 0) 3 3,.int .i64 ((c1:Nat):Int),ac sB c1,v c1,ac pr 10,.int .i64 ((nA:Nat):Int),(.slice (af w9.heap.size 0) 1 1),(.slice (af gN 0) ((L c1).length+1) cN),ac sB c1,u104,u105,u106,u107,u108,u109,u110,u111,u112,u113,u114,u115,u116,u117,u118,u119,u120,u121,u122,u123,u124,u125,u126,u127,u128,u129,u130,u131,u132,u133,u134,u135,u136,u137,u138,u139,u140,u141,u142,u143,u144,u145,u146,u147,u148,u149,u150,u151,u152,u153,u154,u155,u156,u157,u158,u159,u160,u161,u162,u163,u164,u165,u166,u167,u168,u169],defers:=[] }) (by kernel_rfl) rfl ?_
         refine wpAnyH_done (by kernel_rfl) ?_ _
         clear HS3 HS4 y8 yz hK' kb3 h3'
         go_wp2_with fail
         go_meet
         case rel=>exact⟨rfl,HT.out⟩
        ·refine dP (o:=_) (.slice (af w9.heap.size 0) 1 1) (w9.drew.alloc (.cells #[.int .i64 ((nA:Nat):Int)] 3)) rfl (by kernel_rfl) (by go_simp) ⟨HSS.out _ HB9.out,?_⟩
         refine gr (i:=5) (by kernel_rfl) (dP (v c1) (w9.drew.alloc (.cells #[.int .i64 ((nA:Nat):Int)] 3)) rfl (by kernel_rfl) (by go_simp) ⟨HSS.out _ HB9.out,?_⟩)
         refine gr (i:=9) (by kernel_rfl) (wpOp_step rfl (fun K' hK'=>?_))
         refine lE rfl (.tmp 98) (.tmp 101) rfl rfl w9.heap.size (L c1) nA (v c1) (by kernel_rfl) (by kernel_rfl) HO9.out.1 HO9.out.2 (by have:=(HG.out.lk c1).1;have:=HK3.out;omega) ?_
         intro vN wN h3'
         obtain⟨gN,cN,rfl⟩:=oe (n:=(L c1).length) (by have q:=h3'.out.1;rw[List.length_append]at q;exact q)
         obtain⟨kb3,⟨zz,hzz,hDw⟩,hD3⟩:=(HD9.out.below HB9.out).addA HC1.out h3'.out.1 h3'.out.2.1 h3'.out.2.2
         have kp3:wN.heap[pr]?=some oR:=(hDw.get (q:=10) ((hzz 10 (by decide)).trans HZ.out.2.2.2.1)) _ (List.mem_cons_self ..)
         have kp4:(wN.setCell ⟨sB,c1,none⟩ (.slice (af gN 0) ((L c1).length+1) cN)).heap[pr]?=some oR:=hD3.atB (q:=10) (by decide) HZ.out.2.2.2.1
         have HS3:wN.cell? ⟨pr,10,none⟩=some (.int .i64 ((nA:Nat):Int)):=fF (kp3.trans HRG.out.2.1.symm) 10 HEA.out.2.1
         have HS4:(wN.setCell ⟨sB,c1,none⟩ (.slice (af gN 0) ((L c1).length+1) cN)).cell? ⟨pr,10,none⟩=some (.int .i64 ((nA:Nat):Int)):=fF (kp4.trans HRG.out.2.1.symm) 10 HEA.out.2.1
         have y8:=ae wN sB c1 _ _ _ kb3
         have yz:=frozen_of_row wN sB c1 _ _ kb3
         have HT:Hid (∃ VV,D2 w2 xa xb (wN.setCell ⟨sB,c1,none⟩ (.slice (af gN 0) ((L c1).length+1) cN)) S' SB (zX sB VV (bR L c1 ((nA:Nat):Int)) u12 l Z)):=⟨bf v c1 (.slice (af gN 0) ((L c1).length+1) cN),by
          have e:bR L c1 ((nA:Nat):Int)=bf L c1 (L c1 ++ [nA]):=by unfold bR;rw[if_neg (by omega),Int.toNat_natCast]
          rw[e]
          exact hD3⟩
         clear hD3 hDw hzz kp3 kp4
         refine hK' _ _ ⟨HS3,?_⟩
         refine wpAnyH_take (i:=10) (v:=ac sB c1) rfl (by kernel_rfl) (by kernel_rfl) (by kernel_rfl) (fun _ _ _ h=>h) (Or.inl ⟨by kernel_rfl,fun w hSw=>by go_simp⟩) HS3 ?_
         refine cj (i:=11) (wN.setCell ⟨sB,c1,none⟩ (.slice (af gN 0) ((L c1).length+1) cN)) (by kernel_rfl) rfl (by kernel_rfl) (by go_simp) HS4 ?_
         refine aG (a':={ tmps:=#[.slice (af b off) len cap,.int .i64 cn,undef,undef,u4,ac pn 0,ac xa 0,.int .i64 0,ac xb 0,.int .i64 0,.int .i64 ((c:Nat):Int),.slice (af sB 0) 3 3,u12,.int .i64 ((k:Nat):Int),.int .i64 ((c1:Nat):Int),ac pm 0,.bool true,ac pr 0,.int .i64 0,u19,u20,.agg #[.slice (af g0 0) 3 v0,.slice (af g1 0) 3 v1,.int .u32 50],.tuple #[ac xa 0,.int .i64 0],.agg #[.slice (af g0 0) 3 v0,.slice (af g1 0) 3 v1,.int .u32 50],.tuple #[ac xa 0,.int .i64 0],ac xa 0,.int .i64 0,.tuple #[ac xb 0,.int .i64 0],.agg #[.slice (af g0 0) 3 v0,.slice (af g1 0) 3 v1,.int .u32 50],.tuple #[ac xb 0,.int .i64 0],ac xb 0,.int .i64 0,.int .i64 0,.bool false,.bool false,.int .i64 0,.bool false,.bool false,.bool false,.bool true,.bool false,.bool false,.int .i64 cn,.int .u64 (IntKind.u64.wrap cn),.int .u64 ((IntKind.u64.wrap cn).tmod 3),.int .i64 ((c:Nat):Int),.slice (af sB 0) 3 3,u47,u48,u49,u50,u51,u52,u53,u54,u55,u56,u57,u58,u59,u60,u61,u62,u63,u64,u65,u66,u67,u68,u69,u70,u71,u72,u73,u74,u75,u76,u77,u78,u79,u80,u81,u82,u83,u84,u85,u86,u87,u88,u89,u90,u91,.bool true,.slice (af sB 0) 3 3,.int .i64 ((c1:Nat):Int),.slice (af sB 0) 3 3,.int .i64 ((c1:Nat):Int),ac sB c1,v c1,ac pr 10,.int .i64 ((nA:Nat):Int),(.slice (af w9.heap.size 0) 1 1),(.slice (af gN 0) ((L c1).length+1) cN),ac sB c1,u104,u105,u106,u107,u108,u109,u110,u111,u112,u113,u114,u115,u116,u117,u118,u119,u120,u121,u122,u123,u124,u125,u126,u127,u128,u129,u130,u131,u132,u133,u134,u135,u136,u137,u138,u139,u140,u141,u142,u143,u144,u145,u146,u147,u148,u149,u150,u151,u152,u153,u154,u155,u156,u157,u158,u159,u160,u161,u162,u163,u164,u165,u166,u167,u168,u169],defers:=[] }) (by kernel_rfl) rfl ?_
         refine wpAnyH_done (by kernel_rfl) ?_ _
         clear HS3 HS4 y8 yz hK' kb3 h3'
         go_wp2_with fail
         go_meet
         case rel=>exact⟨rfl,HT.out⟩
      case rest=>
      obtain⟨rfl,VV,hDV⟩:=hcut.out
      obtain⟨wC,hwC⟩:∃ y,wc=y:=⟨_,rfl⟩
      rw[hwC]at hDV ⊢
      have HDV:Hid (D2 w2 xa xb wC S' SB (zX sB VV (bR L c1 iA) u12 l Z)):=hDV
      clear hcut hDV hwC HD9
      by_cases hcc:c1=c
      ·obtain rfl:=hcc
       have hne:(((c1:Nat):Int) != ((c1:Nat):Int))=false:=by simp
       have hne2:(((c1:Nat):Int) == ((c1:Nat):Int))=true:=by simp
       have ZNO:=HZ.out.2.2.2.2
       have HBW:Hid (Below w.heap.size w wC):=HB2.out.trans (HDV.out.bel.mono HB2.out.size)
       obtain⟨a2,cp2,hu2,hg2⟩:=jK (v:=u12) (xs:=l) (HDV.out).rdB
       obtain⟨hoB,hfs⟩:=HG.out.frs (Nat.le_of_lt HK3.out) (m:=m) HOK.out
       rw[HFA.out]at hfs
       obtain⟨fB,hfB⟩:∃ y,lp m l=y:=⟨_,rfl⟩
       rw[hfB]at hfs
       have HFS:Hid (tf SA SB m fA fB):=hfs
       have hbw:Below w.heap.size w wC:=HBW.out
       have hOw2:Calls prog 15 #[.agg #[.int .i64 pc,.int .i64 m.k,.int .i64 m.c,.int .i64 m.s,.int .i64 m.f,.int .i64 m.a,.int .u32 (m.w:Nat),.int .i64 m.n,.bool m.h,.slice d.a m.l d.c],.int .i64 ((c1:Nat):Int),u12] wC fun r w'=>∃ A11:Array Value,r=.returned (.tuple #[.agg A11,.bool true])∧A11.size=9∧A11.all (·.oneCell')=true∧Hid (∃ d c,A11=(eQ m.k ((c1:Nat):Int) m.s fB m.a m.w m.n m.h d m.l c)∧Row8 w' d m.l c m.b∧Below wC.heap.size wC w'∧∀ y,d=some y→0<m.l→wC.heap.size≤y.block):=by
        have:=zf pc m d.a d.c c1 a2 cp2 l wC (HR.out.below hbw) HOk.out.2 (by have:=(HG.out.lk c1).1;have:=HG.out.ln;have:=HK3.out;omega) hg2
        rw[hfB,hoB,← hu2]at this
        refine this.mono ?_
        rintro r w' ⟨d11,c11,rfl,H⟩
        exact⟨_,rfl,rfl,by kernel_rfl,d11,c11,rfl,H.out⟩
       obtain⟨p0,p1,p2,p3,p4,p5,p6,p7,p8,p9⟩:=HX.out wC hbw
       have HfB:Hid (lp m l=fB):=hfB
       clear hu2 hg2 hoB hfs hfB hbw
       go_wp2_with fail
       refine hOw2.mono ?_
       rintro r w11 ⟨A11,rfl,hs11,ho11,H11⟩
       clear hOw2 p0 p1 p2 p3 p4 p5 p6 p7 p8 p9
       obtain⟨d11,c11,e11,R11,b11,nw11⟩:=H11.out
       have hD11:=(HDV.out).below b11
       have kpm:=hD11.atB (q:=5) (by decide) HZ.out.1
       obtain⟨w12,hst3,hrg3,ho3⟩:=dC (w:=w11) (x:=pm) (aV kpm rfl) hs11 ho11
       have hD12:=hD11.offB (q:=5) (by decide) HZ.out.1 ho3
       have HR11:Hid (w12.rangeAt pm 0 A11.toList):=hrg3
       have hlp:pm<wC.heap.size:=(Array.getElem?_eq_some_iff.1 ((HDV.out).atB (q:=5) (by decide) HZ.out.1)).1
       have R12:Row8 w12 d11 m.l c11 m.b:=R11.offY ho3 (fun y hy h0=>by
        have:=nw11 y hy h0
        simp
        omega)
       have hfr:=mr (xs:=l) HOk.out.1 (fun x hx=>by have:=HG.out.ll x hx;have:=HG.out.IB.bg;have:=HG.out.mB;have:=HK3.out;omega)
       rw[HfB.out]at hfr
       have hbB:=mK HG.out.t HFS.out (by have:=HG.out.mA;have:=HK3.out;omega) (by have:=HG.out.mB;have:=HK3.out;omega)
       have hPl2:Calls prog 11 #[ac xb 0,.agg A11] w12 fun r w'=>∃ (A:Array Value) (E:Int),r=.returned (.tuple #[.agg A,.int .i64 E])∧A.size=29∧A.all (·.oneCell')=true∧Hid (E=SB.bad (m.fat c1 fB)∧((SB.bad (m.fat c1 fB)≠0∧A=oI∧D2 w2 xa xb w' S' SB (zX sB VV (bR L c1 iA) u12 l (aF Z 5 di)))∨(SB.bad (m.fat c1 fB)=0∧∃ a c ah ch ad cd,A=ja (m.fat c1 fB) (SB.play (m.fat c1 fB)) (m.fat c1 fB).c.toNat a c ah ch ad cd∧D2 w2 xa xb w' S' (SB.play (m.fat c1 fB)).S (ri (zX sB VV (bR L c1 iA) u12 l (aF Z 5 di)) 11 (m.fat c1 fB) (SB.play (m.fat c1 fB)).S (m.fat c1 fB).c.toNat a c ah ch ad cd)))):=by
        rw[e11]
        exact qJ 11 (m.fat c1 fB) d11 c11 hD12 (fun q hq=>by rw[dh (by omega),ag _ _ (by omega)];exact ZNO q hq) HG.out.IB (pI HOk.out.1 HC1.out hfr) (by rw[← HG.out.t.n,HG.out.n3];decide) R12 (fun y hy h0 e=>by have:=nw11 y hy h0;have:=(HDV.out).lt.2;omega) HOk.out.2
       have hi11:(prog.info? 39).map (·.size)=some A11.size:=by rw[hs11];kernel_rfl
       have HBB:Hid (_):=hbB
       clear hD11 hD12 kpm hrg3 ho3 R11 R12 hfr hlp b11 nw11 e11 hbB
       go_wp2_with (refine aJ (by kernel_rfl) 39 (.tmp 15) rfl pm 0 rfl A11 _ HR11.out underlying39 rfl hi11 ?_)
       refine hPl2.mono ?_
       rintro r w13 ⟨Br,E2,rfl,hsB,hoBr,H13⟩
       clear hPl2 HR11 hi11 hs11 ho11 H11 hst3
       obtain⟨w14,hst2,hrg2,hbl2⟩:=fU w13 hsB hoBr
       obtain⟨pq,hpq⟩:∃ y,w13.heap.size=y:=⟨_,rfl⟩
       rw[hpq]at hrg2 hst2
       have lpq:pq<w14.heap.size:=World.block_lt_of_cell? w14 _ (hrg2 0 Br[0] (by rw[Array.getElem?_toList,Array.getElem?_eq_getElem (by omega)]))
       obtain⟨oQ,hoQ⟩:∃ o,w14.heap[pq]?=some o:=⟨_,Array.getElem?_eq_getElem lpq⟩
       have HQG:Hid (w14.rangeAt pq 0 Br.toList∧w14.heap[pq]?=some oQ∧Below w13.heap.size w13 w14∧w13.heap.size≤pq):=⟨hrg2,hoQ,hbl2,by omega⟩
       clear lpq hoQ
       obtain⟨_,hown⟩:=HG.out.own HP.out.kA HP.out.kB HFS.out (by have:=HK3.out;omega)
       obtain⟨t1,t2,t3,t4⟩:=hown HTA.out.1
       have hB0:SB.bad (m.fat c1 fB)=0:=HBB.out.symm.trans HTA.out.1
       obtain⟨a8,c8,bh,kh,bd,kd,eB,hD13⟩:∃ a c ah ch ad cd,Br=ja (m.fat c1 fB) (SB.play (m.fat c1 fB)) (m.fat c1 fB).c.toNat a c ah ch ad cd∧D2 w2 xa xb w13 S' (SB.play (m.fat c1 fB)).S (ri (zX sB VV (bR L c1 iA) u12 l (aF Z 5 di)) 11 (m.fat c1 fB) (SB.play (m.fat c1 fB)).S (m.fat c1 fB).c.toNat a c ah ch ad cd):=by
        rcases H13.out.2 with ⟨q,_⟩ | ⟨_,q⟩
        ·exact absurd hB0 q
        ·exact q
       have hE2:E2=0:=H13.out.1.trans hB0
       subst hE2
       rw[HTA.out.2.1]at t3 t4
       rw[HTA.out.2.2.1]at t2 t4
       rw[HTA.out.2.2.2]at t1
       have ec1:(m.fat c1 fB).c.toNat=c1:=Int.toNat_natCast c1
       rw[ec1]at eB hD13
       rw[yj (by decide)]at hD13
       have hD14:=hD13.layB HQG.out.2.2.1 (q:=15) (by decide) HQG.out.2.1 HQG.out.2.2.2
       obtain⟨S2,hS2⟩:∃ y,(SB.play (m.fat c1 fB)).S=y:=⟨_,rfl⟩
       obtain⟨iB,hiB⟩:∃ y,(SB.play (m.fat c1 fB)).i=y:=⟨_,rfl⟩
       have hCB:(SB.play (m.fat c1 fB)).e=CE:=t1.symm
       obtain⟨Y,hY⟩:∃ y,aF (ri (aF Z 5 di) 11 (m.fat c1 fB) (SB.play (m.fat c1 fB)).S c1 a8 c8 bh kh bd kd) 15 (cS [(pq,oQ)])=y:=⟨_,rfl⟩
       rw[hY,hS2]at hD14
       rw[hS2]at t3 t4
       rw[hiB]at t2 t4
       have HY:Hid (Y 8=dF ah (S'.PH c1).i ch (cO (S'.hs c1).v)∧Y 9=dF ad (S'.PD c1).o cd (cO (S'.ds c1).v)∧Y 10=cS [(pr,oR)]∧Y 13=dF bh (S2.PH c1).i kh (cO (S2.hs c1).v)∧Y 14=dF bd (S2.PD c1).o kd (cO (S2.ds c1).v)∧Y 15=cS [(pq,oQ)]):=by
        rw[← hY,← hS2]
        unfold ri
        refine⟨?_,?_,?_,?_,?_,al _ _ _⟩
        ·rw[ag _ _ (by decide),ag _ _ (by decide),ag _ _ (by decide),ag _ _ (by decide),ag _ _ (by decide)]
         exact HZ.out.2.1
        ·rw[ag _ _ (by decide),ag _ _ (by decide),ag _ _ (by decide),ag _ _ (by decide),ag _ _ (by decide)]
         exact HZ.out.2.2.1
        ·rw[ag _ _ (by decide),ag _ _ (by decide),ag _ _ (by decide),ag _ _ (by decide),ag _ _ (by decide)]
         exact HZ.out.2.2.2.1
        ·rw[ag _ _ (by decide),ag _ _ (by decide)]
         exact al _ _ _
        ·rw[ag _ _ (by decide)]
         exact al _ _ _
       have e9:Br.toList[9]?=some (.int .i64 CE):=by rw[eB,← hCB];rfl
       have e10:Br.toList[10]?=some (.int .i64 iB):=by rw[eB,← hiB];rfl
       have HEB:Hid (w14.cell? ⟨pq,9,none⟩=some (.int .i64 CE)∧w14.cell? ⟨pq,10,none⟩=some (.int .i64 iB)∧w14.rangeAt pq 11 (#[.int .i64 ((S2.hs c1).st:Nat),.int .u32 ((S2.hs c1).ss:Nat),.int .u32 ((S2.hs c1).nm:Nat),.int .u32 ((S2.hs c1).sn:Nat),.int .i64 ((S2.hs c1).dc:Nat),.int .i64 (S2.hs c1).v.lat,.bool (aq (S2.hs c1).v),.bool (aB (S2.hs c1).v),.slice bh (S2.PH c1).i kh]:Array Value).toList∧w14.rangeAt pq 20 (#[.int .i64 ((S2.ds c1).st:Nat),.int .u32 ((S2.ds c1).ss:Nat),.int .u32 ((S2.ds c1).nm:Nat),.int .u32 ((S2.ds c1).sn:Nat),.int .i64 ((S2.ds c1).dc:Nat),.int .i64 (S2.ds c1).v.lat,.bool (aq (S2.ds c1).v),.bool (aB (S2.ds c1).v),.slice bd (S2.PD c1).o kd]:Array Value).toList):=by
        refine⟨?_,?_,fun j u hu=>?_,fun j u hu=>?_⟩
        ·have:=HQG.out.1 9 _ e9
         rw[Nat.zero_add]at this
         exact this
        ·have:=HQG.out.1 10 _ e10
         rw[Nat.zero_add]at this
         exact this
        ·have:=HQG.out.1 (11+j) u (by rw[eB,← hu,← hS2];exact uI _ _ _ _ _ _ _ _ _ j (by have:=(List.getElem?_eq_some_iff.1 hu).1;simpa using this))
         rw[Nat.zero_add]at this
         exact this
        ·have:=HQG.out.1 (20+j) u (by rw[eB,← hu,← hS2];exact uH _ _ _ _ _ _ _ _ _ j (by have:=(List.getElem?_eq_some_iff.1 hu).1;simpa using this))
         rw[Nat.zero_add]at this
         exact this
       have HD14:Hid (D2 w2 xa xb w14 S' S2 (zX sB VV (bR L c1 iA) u12 l Y)):=hD14
       have HTB:Hid (Tmc S' S2 c1∧Tmy S' S2 c1 (bR L c1 iA) (bR (fun _=>l) c1 iB c1) (k+1)∧(iA<0 ↔ iB<0)):=⟨t3,t4,t2⟩
       have s10:=HEB.out.2.1
       obtain⟨RT,hRT⟩:∃ y:Bool,decide (0≤iB)=y:=⟨_,rfl⟩
       have HRT:Hid (decide (0≤iB)=RT):=hRT
       clear hown t1 t2 t3 t4 hB0 eB hD13 hD14 ec1 hS2 hiB hCB hY e9 e10 H13 hrg2 hbl2 hRT ZNO
       go_upto_region 21 with fail
       clear hst2 hsB hoBr
       go_cut [129] (fun v wx=>Hid (v=.bool RT∧wx=w14))
       case first=>
        by_cases hi:0≤iB
        ·have e:RT=true:=by rw[← HRT.out];exact decide_eq_true hi
         have hi2:iB ≥ 0:=hi
         have hi3:decide (iB ≥ 0)=true:=decide_eq_true hi
         go_wp2_with fail
         go_meet
         case rel=>exact⟨by rw[e],rfl⟩
        ·have e:RT=false:=by rw[← HRT.out];exact decide_eq_false hi
         have hi2:¬ iB ≥ 0:=hi
         have hi3:decide (iB ≥ 0)=false:=decide_eq_false hi
         go_wp2_with fail
         go_meet
         case rel=>exact⟨by rw[e],rfl⟩
       case rest=>
       obtain⟨rfl,hwc⟩:=hcut.out
       obtain rfl:=hwc.symm
       clear hcut
       go_upto_if 129 with fail
       go_cut [12] (fun u2 wx=>Hid (D2 w2 xa xb wx S' S2 (zX sB VV (bR L c1 iA) u2 (bR (fun _=>l) c1 iB c1) Y)))
       case first=>
        cases RT
        ·have hi:iB<0:=by have:=of_decide_eq_false HRT.out;omega
         have HT:Hid (D2 w2 xa xb w14 S' S2 (zX sB VV (bR L c1 iA) u12 (bR (fun _=>l) c1 iB c1) Y)):=by
          have e:bR (fun _=>l) c1 iB c1=l:=by unfold bR;rw[if_pos hi]
          rw[e]
          exact HD14.out
         clear hi
         go_wp2_with fail
         go_meet
         case rel=>exact HT.out
        ·have hi:0≤iB:=of_decide_eq_true HRT.out
         obtain⟨nB,rfl⟩:∃ n:Nat,iB=((n:Nat):Int):=⟨iB.toNat,by omega⟩
         clear hi
         have HO14:Hid ((w14.alloc (.cells #[.int .i64 ((nB:Nat):Int)] 3)).ownsRow 0 3 1 u12 l.length (kD l)∧(w14.alloc (.cells #[.int .i64 ((nB:Nat):Int)] 3)).heap[w14.heap.size]?=some (.cells #[.int .i64 ((nB:Nat):Int)] 3 (0,0))∧D2 w2 xa xb (w14.alloc (.cells #[.int .i64 ((nB:Nat):Int)] 3)) S' S2 (zX sB VV (bR L c1 iA) u12 l Y)):=⟨(HD14.out.below (aC (Below.refl _ _) _)).rdB,aA _ _,HD14.out.below (aC (Below.refl _ _) _)⟩
         go_wp2_with (refine pa rfl (.tmp 130) (.tmp 133) rfl rfl w14.heap.size l nB u12 (by simp[Act.eval]) (by simp[Act.eval]) HO14.out.1 HO14.out.2.1 (by have:=HG.out.ln;have:=(HG.out.lk c1).1;have:=HK3.out;omega) ?_;intro v9 w15 h15)
         have HT:Hid (D2 w2 xa xb w15 S' S2 (zX sB VV (bR L c1 iA) v9 (bR (fun _=>l) c1 ((nB:Nat):Int) c1) Y)):=by
          have e:bR (fun _=>l) c1 ((nB:Nat):Int) c1=l ++ [nB]:=by
           unfold bR
           rw[if_neg (by omega),Int.toNat_natCast]
           exact aj _ _ _
          rw[e]
          exact HO14.out.2.2.addB h15.out.1 h15.out.2.1 h15.out.2.2
         clear h15
         go_wp2_with fail
         go_meet
         case rel=>exact HT.out
       case rest=>
       obtain⟨wD,hwD⟩:∃ y,wc=y:=⟨_,rfl⟩
       rw[hwD]at hcut ⊢
       have HDD:Hid (D2 w2 xa xb wD S' S2 (zX sB VV (bR L c1 iA) u12 (bR (fun _=>l) c1 iB c1) Y)):=hcut.out
       clear hcut hwD s10
       have kpr:wD.heap[pr]?=w9.heap[pr]?:=(HDD.out.atB (q:=10) (by decide) HY.out.2.2.1).trans HRG.out.2.1.symm
       have kpq:wD.heap[pq]?=w14.heap[pq]?:=(HDD.out.atB (q:=15) (by decide) HY.out.2.2.2.2.2).trans HQG.out.2.1.symm
       have r9:=fF kpr 9 HEA.out.1
       have r10:=fF kpr 10 HEA.out.2.1
       have s9:=fF kpq 9 HEB.out.1
       have s10:=fF kpq 10 HEB.out.2.1
       have hee:(CE != CE)=false:=by simp
       have hee2:(CE == CE)=true:=by simp
       obtain⟨TT,hT1⟩:∃ y:Bool,decide (iA<0)=y:=⟨_,rfl⟩
       have hT2:decide (iB<0)=TT:=by rw[← hT1];exact decide_eq_decide.2 HTB.out.2.2.symm
       have hT3:(TT != TT)=false:=by simp
       have hT4:(TT == TT)=true:=by simp
       have HcA:Hid (wD.rangeAt pr 11 (#[.int .i64 ((S'.hs c1).st:Nat),.int .u32 ((S'.hs c1).ss:Nat),.int .u32 ((S'.hs c1).nm:Nat),.int .u32 ((S'.hs c1).sn:Nat),.int .i64 ((S'.hs c1).dc:Nat),.int .i64 (S'.hs c1).v.lat,.bool (aq (S'.hs c1).v),.bool (aB (S'.hs c1).v),.slice ah (S'.PH c1).i ch]:Array Value).toList∧wD.rangeAt pq 11 (#[.int .i64 ((S2.hs c1).st:Nat),.int .u32 ((S2.hs c1).ss:Nat),.int .u32 ((S2.hs c1).nm:Nat),.int .u32 ((S2.hs c1).sn:Nat),.int .i64 ((S2.hs c1).dc:Nat),.int .i64 (S2.hs c1).v.lat,.bool (aq (S2.hs c1).v),.bool (aB (S2.hs c1).v),.slice bh (S2.PH c1).i kh]:Array Value).toList∧wD.rangeAt pr 20 (#[.int .i64 ((S'.ds c1).st:Nat),.int .u32 ((S'.ds c1).ss:Nat),.int .u32 ((S'.ds c1).nm:Nat),.int .u32 ((S'.ds c1).sn:Nat),.int .i64 ((S'.ds c1).dc:Nat),.int .i64 (S'.ds c1).v.lat,.bool (aq (S'.ds c1).v),.bool (aB (S'.ds c1).v),.slice ad (S'.PD c1).o cd]:Array Value).toList∧wD.rangeAt pq 20 (#[.int .i64 ((S2.ds c1).st:Nat),.int .u32 ((S2.ds c1).ss:Nat),.int .u32 ((S2.ds c1).nm:Nat),.int .u32 ((S2.ds c1).sn:Nat),.int .i64 ((S2.ds c1).dc:Nat),.int .i64 (S2.ds c1).v.lat,.bool (aq (S2.ds c1).v),.bool (aB (S2.ds c1).v),.slice bd (S2.PD c1).o kd]:Array Value).toList):=⟨sG kpr HEA.out.2.2.1,sG kpq HEB.out.2.2.1,sG kpr HEA.out.2.2.2,sG kpq HEB.out.2.2.2⟩
       have HRW:Hid (Row8 wD ah (S'.PH c1).i ch (cO (S'.hs c1).v)∧Row8 wD bh (S2.PH c1).i kh (cO (S2.hs c1).v)∧Row8 wD ad (S'.PD c1).o cd (cO (S'.ds c1).v)∧Row8 wD bd (S2.PD c1).o kd (cO (S2.ds c1).v)):=⟨HDD.out.atR (by decide) HY.out.1,HDD.out.atR (by decide) HY.out.2.2.2.1,HDD.out.atR (by decide) HY.out.2.1,HDD.out.atR (by decide) HY.out.2.2.2.2.1⟩
       clear kpr kpq
       have hiA:(prog.info? 43).map (·.size)=some (#[.int .i64 ((S'.hs c1).st:Nat),.int .u32 ((S'.hs c1).ss:Nat),.int .u32 ((S'.hs c1).nm:Nat),.int .u32 ((S'.hs c1).sn:Nat),.int .i64 ((S'.hs c1).dc:Nat),.int .i64 (S'.hs c1).v.lat,.bool (aq (S'.hs c1).v),.bool (aB (S'.hs c1).v),.slice ah (S'.PH c1).i ch]:Array Value).size:=by kernel_rfl
       have hiB:(prog.info? 43).map (·.size)=some (#[.int .i64 ((S2.hs c1).st:Nat),.int .u32 ((S2.hs c1).ss:Nat),.int .u32 ((S2.hs c1).nm:Nat),.int .u32 ((S2.hs c1).sn:Nat),.int .i64 ((S2.hs c1).dc:Nat),.int .i64 (S2.hs c1).v.lat,.bool (aq (S2.hs c1).v),.bool (aB (S2.hs c1).v),.slice bh (S2.PH c1).i kh]:Array Value).size:=by kernel_rfl
       have hiC:(prog.info? 43).map (·.size)=some (#[.int .i64 ((S'.ds c1).st:Nat),.int .u32 ((S'.ds c1).ss:Nat),.int .u32 ((S'.ds c1).nm:Nat),.int .u32 ((S'.ds c1).sn:Nat),.int .i64 ((S'.ds c1).dc:Nat),.int .i64 (S'.ds c1).v.lat,.bool (aq (S'.ds c1).v),.bool (aB (S'.ds c1).v),.slice ad (S'.PD c1).o cd]:Array Value).size:=by kernel_rfl
       have hiD:(prog.info? 43).map (·.size)=some (#[.int .i64 ((S2.ds c1).st:Nat),.int .u32 ((S2.ds c1).ss:Nat),.int .u32 ((S2.ds c1).nm:Nat),.int .u32 ((S2.ds c1).sn:Nat),.int .i64 ((S2.ds c1).dc:Nat),.int .i64 (S2.ds c1).v.lat,.bool (aq (S2.ds c1).v),.bool (aB (S2.ds c1).v),.slice bd (S2.PD c1).o kd]:Array Value).size:=by kernel_rfl
       have hSH:Calls prog 16 #[.agg #[.int .i64 ((S'.hs c1).st:Nat),.int .u32 ((S'.hs c1).ss:Nat),.int .u32 ((S'.hs c1).nm:Nat),.int .u32 ((S'.hs c1).sn:Nat),.int .i64 ((S'.hs c1).dc:Nat),.int .i64 (S'.hs c1).v.lat,.bool (aq (S'.hs c1).v),.bool (aB (S'.hs c1).v),.slice ah (S'.PH c1).i ch],.agg #[.int .i64 ((S2.hs c1).st:Nat),.int .u32 ((S2.hs c1).ss:Nat),.int .u32 ((S2.hs c1).nm:Nat),.int .u32 ((S2.hs c1).sn:Nat),.int .i64 ((S2.hs c1).dc:Nat),.int .i64 (S2.hs c1).v.lat,.bool (aq (S2.hs c1).v),.bool (aB (S2.hs c1).v),.slice bh (S2.PH c1).i kh]] wD fun e w'=>e=.returned (.bool true)∧Below wD.heap.size wD w':=by rw[← HTB.out.1.hs,← HTB.out.1.ph];exact fi _ _ _ _ _ _ _ _ _ _ _ _ _ _ _ _ wD HRW.out.1 (by have:=HRW.out.2.1;rw[← HTB.out.1.hs,← HTB.out.1.ph]at this;exact this) rfl
       go_wp2_with (first | refine aJ (by kernel_rfl) 43 (.tmp 155) rfl pr 11 rfl #[.int .i64 ((S'.hs c1).st:Nat),.int .u32 ((S'.hs c1).ss:Nat),.int .u32 ((S'.hs c1).nm:Nat),.int .u32 ((S'.hs c1).sn:Nat),.int .i64 ((S'.hs c1).dc:Nat),.int .i64 (S'.hs c1).v.lat,.bool (aq (S'.hs c1).v),.bool (aB (S'.hs c1).v),.slice ah (S'.PH c1).i ch] _ HcA.out.1 underlying43 rfl hiA ?_ | refine aJ (by kernel_rfl) 43 (.tmp 157) rfl pq 11 rfl #[.int .i64 ((S2.hs c1).st:Nat),.int .u32 ((S2.hs c1).ss:Nat),.int .u32 ((S2.hs c1).nm:Nat),.int .u32 ((S2.hs c1).sn:Nat),.int .i64 ((S2.hs c1).dc:Nat),.int .i64 (S2.hs c1).v.lat,.bool (aq (S2.hs c1).v),.bool (aB (S2.hs c1).v),.slice bh (S2.PH c1).i kh] _ HcA.out.2.1 underlying43 rfl hiB ?_)
       refine hSH.mono ?_
       rintro r w17 ⟨rfl,b17⟩
       clear hSH
       have HcB:Hid (w17.rangeAt pr 20 (#[.int .i64 ((S'.ds c1).st:Nat),.int .u32 ((S'.ds c1).ss:Nat),.int .u32 ((S'.ds c1).nm:Nat),.int .u32 ((S'.ds c1).sn:Nat),.int .i64 ((S'.ds c1).dc:Nat),.int .i64 (S'.ds c1).v.lat,.bool (aq (S'.ds c1).v),.bool (aB (S'.ds c1).v),.slice ad (S'.PD c1).o cd]:Array Value).toList∧w17.rangeAt pq 20 (#[.int .i64 ((S2.ds c1).st:Nat),.int .u32 ((S2.ds c1).ss:Nat),.int .u32 ((S2.ds c1).nm:Nat),.int .u32 ((S2.ds c1).sn:Nat),.int .i64 ((S2.ds c1).dc:Nat),.int .i64 (S2.ds c1).v.lat,.bool (aq (S2.ds c1).v),.bool (aB (S2.ds c1).v),.slice bd (S2.PD c1).o kd]:Array Value).toList):=⟨fun j v hv=>ai (HcA.out.2.2.1 j v hv) b17,fun j v hv=>ai (HcA.out.2.2.2 j v hv) b17⟩
       have hSD:Calls prog 16 #[.agg #[.int .i64 ((S'.ds c1).st:Nat),.int .u32 ((S'.ds c1).ss:Nat),.int .u32 ((S'.ds c1).nm:Nat),.int .u32 ((S'.ds c1).sn:Nat),.int .i64 ((S'.ds c1).dc:Nat),.int .i64 (S'.ds c1).v.lat,.bool (aq (S'.ds c1).v),.bool (aB (S'.ds c1).v),.slice ad (S'.PD c1).o cd],.agg #[.int .i64 ((S2.ds c1).st:Nat),.int .u32 ((S2.ds c1).ss:Nat),.int .u32 ((S2.ds c1).nm:Nat),.int .u32 ((S2.ds c1).sn:Nat),.int .i64 ((S2.ds c1).dc:Nat),.int .i64 (S2.ds c1).v.lat,.bool (aq (S2.ds c1).v),.bool (aB (S2.ds c1).v),.slice bd (S2.PD c1).o kd]] w17 fun e w'=>e=.returned (.bool true)∧Below w17.heap.size w17 w':=by rw[← HTB.out.1.ds,← HTB.out.1.pd];exact fi _ _ _ _ _ _ _ _ _ _ _ _ _ _ _ _ w17 (HRW.out.2.2.1.below b17) (by have:=HRW.out.2.2.2.below b17;rw[← HTB.out.1.ds,← HTB.out.1.pd]at this;exact this) rfl
       have HB17:Hid (Below wD.heap.size wD w17):=b17
       clear b17
       go_wp2_with (first | refine aJ (by kernel_rfl) 43 (.tmp 163) rfl pr 20 rfl #[.int .i64 ((S'.ds c1).st:Nat),.int .u32 ((S'.ds c1).ss:Nat),.int .u32 ((S'.ds c1).nm:Nat),.int .u32 ((S'.ds c1).sn:Nat),.int .i64 ((S'.ds c1).dc:Nat),.int .i64 (S'.ds c1).v.lat,.bool (aq (S'.ds c1).v),.bool (aB (S'.ds c1).v),.slice ad (S'.PD c1).o cd] _ HcB.out.1 underlying43 rfl hiC ?_ | refine aJ (by kernel_rfl) 43 (.tmp 165) rfl pq 20 rfl #[.int .i64 ((S2.ds c1).st:Nat),.int .u32 ((S2.ds c1).ss:Nat),.int .u32 ((S2.ds c1).nm:Nat),.int .u32 ((S2.ds c1).sn:Nat),.int .i64 ((S2.ds c1).dc:Nat),.int .i64 (S2.ds c1).v.lat,.bool (aq (S2.ds c1).v),.bool (aB (S2.ds c1).v),.slice bd (S2.PD c1).o kd] _ HcB.out.2 underlying43 rfl hiD ?_)
       refine hSD.mono ?_
       rintro r w18 ⟨rfl,b18⟩
       clear hSD
       have HT:Hid (∃ SA SB v L l,Tmy SA SB c1 L l (k+1)∧D2 w2 xa xb w18 SA SB (zX sB v L u12 l (fun _=>di))):=⟨S',S2,VV,_,_,HTB.out.2.1,((HDD.out.below HB17.out).below b18).back⟩
       clear b18
       go_wp2_with fail
       refine⟨⟨k+1,by omega,by omega,by simp,HT⟩,?_⟩
       have e1:eG (.int .i64 ((k:Nat):Int))=k:=by simp[eG]
       have e2:eG (.int .i64 (((k:Nat):Int)+1))=k+1:=by simp[eG]
       rw[e1,e2]
       omega
      ·have hcb:(((c1:Nat):Int) != ((c:Nat):Int))=true:=by simp;omega
       have hcb2:(((c1:Nat):Int) == ((c:Nat):Int))=false:=by simp;omega
       have HT:Hid (∃ SA SB v L l,Tmy SA SB c L l (k+1)∧D2 w2 xa xb wC SA SB (zX sB v L u12 l (fun _=>di))):=by
        have hb0:=HTA.out.1
        have t:=HG.out.other HP.out.kA hb0 (by show ((c1:Nat):Int).toNat≠c;rw[Int.toNat_natCast];exact hcc)
        rw[show (m.fat c1 fA).c.toNat=c1 from Int.toNat_natCast c1,HTA.out.2.1,HTA.out.2.2.1]at t
        exact⟨S',SB,VV,_,l,t,HDV.out.back⟩
       clear hcc HDV
       go_wp2_with fail
       refine⟨⟨k+1,by omega,by omega,by simp,HT⟩,?_⟩
       have e1:eG (.int .i64 ((k:Nat):Int))=k:=by simp[eG]
       have e2:eG (.int .i64 (((k:Nat):Int)+1))=k+1:=by simp[eG]
       rw[e1,e2]
       omega
     ·obtain⟨eA,hD8⟩:Ar=oI∧D2 w2 xa xb w8 SA SB (zX sB v L u12 l (aF (fun _=>di) 5 (cS [(pm,xS m c1 fA d6 c6)]))):=by
       rcases H8.out.2 with ⟨_,q⟩ | ⟨q,_⟩
       ·exact q
       ·exact absurd q hb0
      have hEb:(E == 0)=false:=by rw[H8.out.1];simpa using hb0
      have hEc:(E != 0)=true:=by rw[H8.out.1];simpa using hb0
      have hD9:=hD8.layB HRG.out.2.2.1 (q:=10) (by decide) HRG.out.2.1 HRG.out.2.2.2
      obtain⟨Z,hZ⟩:∃ y,aF (aF (fun _=>di) 5 (cS [(pm,xS m c1 fA d6 c6)])) 10 (cS [(pr,oR)])=y:=⟨_,rfl⟩
      rw[hZ]at hD9
      have HZ:Hid (Z 5=cS [(pm,xS m c1 fA d6 c6)]∧Z 10=cS [(pr,oR)]∧∀ q,11≤q→Z q=di):=by
       rw[← hZ]
       refine⟨?_,al _ _ _,fun q hq=>?_⟩
       ·rw[ag _ _ (by decide)]
        exact al _ _ _
       ·rw[ag _ _ (by omega),ag _ _ (by omega)]
      have HEA:Hid (w9.cell? ⟨pr,9,none⟩=some (.int .i64 0)∧w9.cell? ⟨pr,10,none⟩=some (.int .i64 0)∧w9.rangeAt pr 11 iV.toList∧w9.rangeAt pr 20 iV.toList):=by
       rw[eA]at hrg1
       refine⟨?_,?_,fun j u hu=>?_,fun j u hu=>?_⟩
       ·have:=hrg1 9 _ rfl
        rw[Nat.zero_add]at this
        exact this
       ·have:=hrg1 10 _ rfl
        rw[Nat.zero_add]at this
        exact this
       ·have:=hrg1 (11+j) u (by rw[← hu];exact (mE j (by have:=(List.getElem?_eq_some_iff.1 hu).1;simpa [iV] using this)).1)
        rw[Nat.zero_add]at this
        exact this
       ·have:=hrg1 (20+j) u (by rw[← hu];exact (mE j (by have:=(List.getElem?_eq_some_iff.1 hu).1;simpa [iV] using this)).2)
        rw[Nat.zero_add]at this
        exact this
      have HTA:Hid (SA.bad (m.fat c1 fA)≠0∧E=SA.bad (m.fat c1 fA)):=⟨hb0,H8.out.1⟩
      have HD9:Hid (D2 w2 xa xb w9 SA SB (zX sB v L u12 l Z)):=hD9
      clear hb0 eA hD8 hD9 hZ H8 hrg1 hbl1 HP6
      by_cases hcc:c1=c
      ·obtain rfl:=hcc
       have hne:(((c1:Nat):Int) != ((c1:Nat):Int))=false:=by simp
       have hne2:(((c1:Nat):Int) == ((c1:Nat):Int))=true:=by simp
       have ZNO:=HZ.out.2.2
       have HBW:Hid (Below w.heap.size w w9):=HB2.out.trans (HD9.out.bel.mono HB2.out.size)
       go_upto_region 16 with fail
       clear hst1 hsA hoA
       obtain⟨a2,cp2,hu2,hg2⟩:=jK (v:=u12) (xs:=l) (HD9.out).rdB
       obtain⟨hoB,hfs⟩:=HG.out.frs (Nat.le_of_lt HK3.out) (m:=m) HOK.out
       rw[HFA.out]at hfs
       obtain⟨fB,hfB⟩:∃ y,lp m l=y:=⟨_,rfl⟩
       rw[hfB]at hfs
       have HFS:Hid (tf SA SB m fA fB):=hfs
       have hbw:Below w.heap.size w w9:=HBW.out
       have hOw2:Calls prog 15 #[.agg #[.int .i64 pc,.int .i64 m.k,.int .i64 m.c,.int .i64 m.s,.int .i64 m.f,.int .i64 m.a,.int .u32 (m.w:Nat),.int .i64 m.n,.bool m.h,.slice d.a m.l d.c],.int .i64 ((c1:Nat):Int),u12] w9 fun r w'=>∃ A11:Array Value,r=.returned (.tuple #[.agg A11,.bool true])∧A11.size=9∧A11.all (·.oneCell')=true∧Hid (∃ d c,A11=(eQ m.k ((c1:Nat):Int) m.s fB m.a m.w m.n m.h d m.l c)∧Row8 w' d m.l c m.b∧Below w9.heap.size w9 w'∧∀ y,d=some y→0<m.l→w9.heap.size≤y.block):=by
        have:=zf pc m d.a d.c c1 a2 cp2 l w9 (HR.out.below hbw) HOk.out.2 (by have:=(HG.out.lk c1).1;have:=HG.out.ln;have:=HK3.out;omega) hg2
        rw[hfB,hoB,← hu2]at this
        refine this.mono ?_
        rintro r w' ⟨d11,c11,rfl,H⟩
        exact⟨_,rfl,rfl,by kernel_rfl,d11,c11,rfl,H.out⟩
       obtain⟨p0,p1,p2,p3,p4,p5,p6,p7,p8,p9⟩:=HX.out w9 hbw
       have HfB:Hid (lp m l=fB):=hfB
       clear hu2 hg2 hoB hfs hfB hbw
       go_wp2_with fail
       refine hOw2.mono ?_
       rintro r w11 ⟨A11,rfl,hs11,ho11,H11⟩
       clear hOw2 p0 p1 p2 p3 p4 p5 p6 p7 p8 p9
       obtain⟨d11,c11,e11,R11,b11,nw11⟩:=H11.out
       have hD11:=(HD9.out).below b11
       have kpm:=hD11.atB (q:=5) (by decide) HZ.out.1
       obtain⟨w12,hst3,hrg3,ho3⟩:=dC (w:=w11) (x:=pm) (aV kpm rfl) hs11 ho11
       have hD12:=hD11.offB (q:=5) (by decide) HZ.out.1 ho3
       have HR11:Hid (w12.rangeAt pm 0 A11.toList):=hrg3
       have hlp:pm<w9.heap.size:=(Array.getElem?_eq_some_iff.1 ((HD9.out).atB (q:=5) (by decide) HZ.out.1)).1
       have R12:Row8 w12 d11 m.l c11 m.b:=R11.offY ho3 (fun y hy h0=>by
        have:=nw11 y hy h0
        simp
        omega)
       have hfr:=mr (xs:=l) HOk.out.1 (fun x hx=>by have:=HG.out.ll x hx;have:=HG.out.IB.bg;have:=HG.out.mB;have:=HK3.out;omega)
       rw[HfB.out]at hfr
       have hbB:=mK HG.out.t HFS.out (by have:=HG.out.mA;have:=HK3.out;omega) (by have:=HG.out.mB;have:=HK3.out;omega)
       have hPl2:Calls prog 11 #[ac xb 0,.agg A11] w12 fun r w'=>∃ (A:Array Value) (E:Int),r=.returned (.tuple #[.agg A,.int .i64 E])∧A.size=29∧A.all (·.oneCell')=true∧Hid (E=SB.bad (m.fat c1 fB)∧((SB.bad (m.fat c1 fB)≠0∧A=oI∧D2 w2 xa xb w' SA SB (zX sB v L u12 l (aF Z 5 di)))∨(SB.bad (m.fat c1 fB)=0∧∃ a c ah ch ad cd,A=ja (m.fat c1 fB) (SB.play (m.fat c1 fB)) (m.fat c1 fB).c.toNat a c ah ch ad cd∧D2 w2 xa xb w' SA (SB.play (m.fat c1 fB)).S (ri (zX sB v L u12 l (aF Z 5 di)) 11 (m.fat c1 fB) (SB.play (m.fat c1 fB)).S (m.fat c1 fB).c.toNat a c ah ch ad cd)))):=by
        rw[e11]
        exact qJ 11 (m.fat c1 fB) d11 c11 hD12 (fun q hq=>by rw[dh (by omega),ag _ _ (by omega)];exact ZNO q hq) HG.out.IB (pI HOk.out.1 HC1.out hfr) (by rw[← HG.out.t.n,HG.out.n3];decide) R12 (fun y hy h0 e=>by have:=nw11 y hy h0;have:=(HD9.out).lt.2;omega) HOk.out.2
       have hi11:(prog.info? 39).map (·.size)=some A11.size:=by rw[hs11];kernel_rfl
       have HBB:Hid (_):=hbB
       clear hD11 hD12 kpm hrg3 ho3 R11 R12 hfr hlp b11 nw11 e11 hbB
       go_wp2_with (refine aJ (by kernel_rfl) 39 (.tmp 15) rfl pm 0 rfl A11 _ HR11.out underlying39 rfl hi11 ?_)
       refine hPl2.mono ?_
       rintro r w13 ⟨Br,E2,rfl,hsB,hoBr,H13⟩
       clear hPl2 HR11 hi11 hs11 ho11 H11 hst3
       obtain⟨w14,hst2,hrg2,hbl2⟩:=fU w13 hsB hoBr
       obtain⟨pq,hpq⟩:∃ y,w13.heap.size=y:=⟨_,rfl⟩
       rw[hpq]at hrg2 hst2
       have lpq:pq<w14.heap.size:=World.block_lt_of_cell? w14 _ (hrg2 0 Br[0] (by rw[Array.getElem?_toList,Array.getElem?_eq_getElem (by omega)]))
       obtain⟨oQ,hoQ⟩:∃ o,w14.heap[pq]?=some o:=⟨_,Array.getElem?_eq_getElem lpq⟩
       have HQG:Hid (w14.rangeAt pq 0 Br.toList∧w14.heap[pq]?=some oQ∧Below w13.heap.size w13 w14∧w13.heap.size≤pq):=⟨hrg2,hoQ,hbl2,by omega⟩
       clear lpq hoQ
       have hB0:SB.bad (m.fat c1 fB)≠0:=by rw[← HBB.out];exact HTA.out.1
       obtain⟨eB,hD13⟩:Br=oI∧D2 w2 xa xb w13 SA SB (zX sB v L u12 l (aF Z 5 di)):=by
        rcases H13.out.2 with ⟨_,q⟩ | ⟨q,_⟩
        ·exact q
        ·exact absurd q hB0
       have hE2:E2=E:=H13.out.1.trans (HBB.out.symm.trans HTA.out.2.symm)
       subst hE2
       have hD14:=hD13.layB HQG.out.2.2.1 (q:=15) (by decide) HQG.out.2.1 HQG.out.2.2.2
       have HD14:Hid (D2 w2 xa xb w14 SA SB (zX sB v L u12 l (aF (aF Z 5 di) 15 (cS [(pq,oQ)])))):=hD14
       have kpr:w14.heap[pr]?=w9.heap[pr]?:=(hD14.atB (q:=10) (by decide) (by rw[ag _ _ (by decide),ag _ _ (by decide)];exact HZ.out.2.1)).trans HRG.out.2.1.symm
       rw[eB]at hrg2
       have s9:w14.cell? ⟨pq,9,none⟩=some (.int .i64 0):=by have:=hrg2 9 _ rfl;rw[Nat.zero_add]at this;exact this
       have s10:w14.cell? ⟨pq,10,none⟩=some (.int .i64 0):=by have:=hrg2 10 _ rfl;rw[Nat.zero_add]at this;exact this
       have r9:=fF kpr 9 HEA.out.1
       have r10:=fF kpr 10 HEA.out.2.1
       have HcA:Hid (w14.rangeAt pr 11 iV.toList∧w14.rangeAt pq 11 iV.toList∧w14.rangeAt pr 20 iV.toList∧w14.rangeAt pq 20 iV.toList):=by
        refine⟨sG kpr HEA.out.2.2.1,fun j u hu=>?_,sG kpr HEA.out.2.2.2,fun j u hu=>?_⟩
        ·have:=hrg2 (11+j) u (by rw[← hu];exact (mE j (by have:=(List.getElem?_eq_some_iff.1 hu).1;simpa [iV] using this)).1)
         rw[Nat.zero_add]at this
         exact this
        ·have:=hrg2 (20+j) u (by rw[← hu];exact (mE j (by have:=(List.getElem?_eq_some_iff.1 hu).1;simpa [iV] using this)).2)
         rw[Nat.zero_add]at this
         exact this
       have hee:(E2 != E2)=false:=by simp
       have hee2:(E2 == E2)=true:=by simp
       clear hB0 eB hD13 hD14 H13 hrg2 hbl2 kpr ZNO
       go_upto_region 21 with fail
       clear hst2 hsB hoBr
       have hiA:(prog.info? 43).map (·.size)=some (iV:Array Value).size:=by kernel_rfl
       have hiB:(prog.info? 43).map (·.size)=some (iV:Array Value).size:=by kernel_rfl
       have hiC:(prog.info? 43).map (·.size)=some (iV:Array Value).size:=by kernel_rfl
       have hiD:(prog.info? 43).map (·.size)=some (iV:Array Value).size:=by kernel_rfl
       have hSH:Calls prog 16 #[.agg iV,.agg iV] w14 fun e w'=>e=.returned (.bool true)∧Below w14.heap.size w14 w':=fi 0 0 0 0 0 0 false false none none 0 0 0 0 (fun _=>0) (fun _=>0) w14 (cD _ _) (cD _ _) rfl
       go_wp2_with (first | refine aJ (by kernel_rfl) 43 (.tmp 155) rfl pr 11 rfl iV _ HcA.out.1 underlying43 rfl hiA ?_ | refine aJ (by kernel_rfl) 43 (.tmp 157) rfl pq 11 rfl iV _ HcA.out.2.1 underlying43 rfl hiB ?_)
       refine hSH.mono ?_
       rintro r w17 ⟨rfl,b17⟩
       clear hSH
       have HcB:Hid (w17.rangeAt pr 20 (iV:Array Value).toList∧w17.rangeAt pq 20 (iV:Array Value).toList):=⟨fun j v hv=>ai (HcA.out.2.2.1 j v hv) b17,fun j v hv=>ai (HcA.out.2.2.2 j v hv) b17⟩
       have hSD:Calls prog 16 #[.agg iV,.agg iV] w17 fun e w'=>e=.returned (.bool true)∧Below w17.heap.size w17 w':=fi 0 0 0 0 0 0 false false none none 0 0 0 0 (fun _=>0) (fun _=>0) w17 (cD _ _) (cD _ _) rfl
       have HB17:Hid (Below w14.heap.size w14 w17):=b17
       clear b17
       go_wp2_with (first | refine aJ (by kernel_rfl) 43 (.tmp 163) rfl pr 20 rfl iV _ HcB.out.1 underlying43 rfl hiC ?_ | refine aJ (by kernel_rfl) 43 (.tmp 165) rfl pq 20 rfl iV _ HcB.out.2 underlying43 rfl hiD ?_)
       refine hSD.mono ?_
       rintro r w18 ⟨rfl,b18⟩
       clear hSD
       have HT:Hid (∃ SA SB v L l,Tmy SA SB c1 L l (k+1)∧D2 w2 xa xb w18 SA SB (zX sB v L u12 l (fun _=>di))):=⟨SA,SB,v,L,l,HG.out.more,((HD14.out.below HB17.out).below b18).back⟩
       clear b18
       go_wp2_with fail
       refine⟨⟨k+1,by omega,by omega,by simp,HT⟩,?_⟩
       have e1:eG (.int .i64 ((k:Nat):Int))=k:=by simp[eG]
       have e2:eG (.int .i64 (((k:Nat):Int)+1))=k+1:=by simp[eG]
       rw[e1,e2]
       omega
      ·have hcb:(((c1:Nat):Int) != ((c:Nat):Int))=true:=by simp;omega
       have hcb2:(((c1:Nat):Int) == ((c:Nat):Int))=false:=by simp;omega
       have HT:Hid (∃ SA SB v L l,Tmy SA SB c L l (k+1)∧D2 w2 xa xb w9 SA SB (zX sB v L u12 l (fun _=>di))):=⟨SA,SB,v,L,l,HG.out.more,HD9.out.back⟩
       clear hcc
       go_upto_region 16 with fail
       clear hst1 hsA hoA
       go_wp2_with fail
       refine⟨⟨k+1,by omega,by omega,by simp,HT⟩,?_⟩
       have e1:eG (.int .i64 ((k:Nat):Int))=k:=by simp[eG]
       have e2:eG (.int .i64 (((k:Nat):Int)+1))=k+1:=by simp[eG]
       rw[e1,e2]
       omega
   ·have h3':¬ ((k:Nat):Int)<300:=by omega
    have HE:Hid (Below w2.heap.size w2 wr):=by
     obtain⟨_,_,_,_,_,_,h9⟩:=HI.out
     exact h9.bel
    clear HI
    go_wp2_with fail
    go_ret
    exact⟨rfl,HB2.out.trans (HE.out.mono HB2.out.size)⟩
  ·have hlt':¬ ((k:Nat):Int) < ((len:Nat):Int):=by omega
   have HE:Hid (Below w2.heap.size w2 wr):=by
    obtain⟨_,_,_,_,_,_,h9⟩:=HI.out
    exact h9.bel
   clear HI
   go_wp2_with fail
   go_ret
   exact⟨rfl,HB2.out.trans (HE.out.mono HB2.out.size)⟩
theorem topMany_walk (a0:Option Addr) (len0 cap0:Nat) (p1:Int) (w:World) (w0:OppRow w a0 len0) :
  Calls prog 5 #[.slice a0 len0 cap0,.int .i64 p1] w fun e w'=>e=.returned (.bool true)∧Below w.heap.size w w':=oN a0 len0 cap0 p1 w w0
end Go.Proofs.YtenilkloffnjlaaGreat
