/- Part 50: contracts that the proof rests on. -/
import Derived.Deep.DeepCutAuto
import Derived.Deep.CutBlock
import Derived.Test.YtgaeofgdiaknpaaGreatPkR48
set_option maxHeartbeats 64000000
namespace Go.Proofs.YtgaeofgdiaknpaaGreat
set_option maxRecDepth 100000
open Go.RowKit Go.Maps
set_option linter.unusedVariables false
def natT:Value→Nat
 | .int _ i=>i.toNat
 | _=>0
theorem topReset_any (a:Option Addr) (len cap:Nat) (w:World) (O:OpRow w a len):Calls Tryz.prog 7 #[.slice a len cap] w fun r w'=>r=.returned (.bool true)∧Below w.heap.size w w':=by
 have HO:Hid (OpRow w a len):=O
 have hlen:=O.1
 clear O
 have hNe:=pnet1 w
 have hMk:=fun wx=>make4 wx
 go_enter Tryz.func7,Tryz.ntmps7
 go_wp2_with fail
 refine hNe.mono ?_
 rintro r w1 ⟨g0,c0,g1,c1,rfl,H1⟩
 clear hNe
 have hN:Calls Tryz.prog 9 #[.agg #[.slice (some ⟨g0,0,none⟩) 2 c0,.slice (some ⟨g1,0,none⟩) 2 c1,.int .u32 50]] w1 fun r w'=>∃ L:Pw,r=.returned (.tuple #[.pointer (some ⟨L.x,0,none⟩),.int .i64 0])∧Hid (PW ev w1 w' (evT L) L∧L.S=sN 2 50 pgM pgM):=wnewQ pgM pgM g0 0 c0 g1 0 c1 2 50 pgM1_ok pgM1_ok (by decide) (by decide) (by decide) (by decide) H1.out.1 H1.out.2.1 w1 H1.out.2.2.1 H1.out.2.2.2.1 pgM1_ck
 have HB1:Hid (Below w.heap.size w w1):=H1.out.2.2.2.2
 clear H1
 go_wp2_with fail
 refine hN.mono ?_
 rintro r w2 ⟨L,rfl,H2⟩
 clear hN
 obtain⟨X,hX⟩:∃ y,L.x=y:=⟨_,rfl⟩
 rw[hX]
 have HX:Hid (L.x=X):=hX
 clear hX
 have hAw:=awake17q w2
 go_wp2_with fail
 refine hAw.mono ?_
 rintro r w3 ⟨rfl,b3⟩
 clear hAw
 have k4:=heap_alloc_new w3 (.cells #[.int .i64 0,.int .i64 0,.int .i64 0,.int .i64 0] 3)
 have b4:=belY (Below.refl _ w3) (.cells #[.int .i64 0,.int .i64 0,.int .i64 0,.int .i64 0] 3)
 obtain⟨w4,hw4⟩:∃ y,w3.alloc (.cells #[.int .i64 0,.int .i64 0,.int .i64 0,.int .i64 0] 3)=y:=⟨_,rfl⟩
 rw[hw4]at k4 b4
 obtain⟨q,hq⟩:∃ y,w3.heap.size=y:=⟨_,rfl⟩
 have HS0:Hid (∃ S T,Jr S 0 T∧PWn ev w1 (putT (evT L) (2*0+1) (blT [(q,tkO T)])) L w4 S):=by
  have hp:=H2.out.1.n
  rw[H2.out.2]at hp
  exact⟨_,fun _=>0,Jr.start,(hp.below b3).layL b4 (fun j=>by unfold ev;omega) (fun p hp=>by
   simp only[List.mem_cons,List.not_mem_nil,or_false]at hp
   subst hp
   rw[← hq]
   exact k4) (fun p hp=>by
   simp only[List.mem_cons,List.not_mem_nil,or_false]at hp
   subst hp
   rw[← hq]
   exact Nat.le_refl _)⟩
 clear b3 b4 k4 H2
 go_wp2_with fail
 clear hMk hw4 hq
 go_loopw [6,7,8,9,10,11,12,13,14,27,28,29,30,31,32,33,34,35,36,37,38,39,40,41,42,43,44,45,46,47,48,49,50,51,52,53,54,55,56,57,58,59,60,61,62,63,64,65,66,67,68,69,70,71,72,73,74,75,76,77,78,79,80,81,82,83,84,85,86,87,88,89,90,91,92,93,94,95,96,97,98,99,100,101,102,103,104,105,106,107,108,109,110,111,112,113,114,115,116,117,118,119,120,121,122,123,124,125,126,127,128,129,130,131,132,133,134,135,136] (fun i _ _ _ _ _ _ _ _ _ _ _ _ _ _ _ _ _ _ _ _ _ _ _ _ _ _ _ _ _ _ _ _ _ _ _ _ _ _ _ _ _ _ _ _ _ _ _ _ _ _ _ _ _ _ _ _ _ _ _ _ _ _ _ _ _ _ _ _ _ _ _ _ _ _ _ _ _ _ _ _ _ _ _ _ _ _ _ _ _ _ _ _ _ _ _ _ _ _ _ _ _ _ _ _ _ _ _ _ _ _ _ _ _ _ _ _ _ _ wr=>∃ k:Nat,k≤len∧k≤300∧i=.int .i64 ((k:Nat):Int)∧Hid (∃ S T,Jr S k T∧PWn ev w1 (putT (evT L) (2*0+1) (blT [(q,tkO T)])) L wr S)) (fun i _ _ _ _ _ _ _ _ _ _ _ _ _ _ _ _ _ _ _ _ _ _ _ _ _ _ _ _ _ _ _ _ _ _ _ _ _ _ _ _ _ _ _ _ _ _ _ _ _ _ _ _ _ _ _ _ _ _ _ _ _ _ _ _ _ _ _ _ _ _ _ _ _ _ _ _ _ _ _ _ _ _ _ _ _ _ _ _ _ _ _ _ _ _ _ _ _ _ _ _ _ _ _ _ _ _ _ _ _ _ _ _ _ _ _ _ _ _ _=>len-natT i)
 case atStart=>exact⟨0,by omega,by omega,rfl,HS0⟩
 case round=>
  obtain⟨k,hk,hk3,rfl,HI⟩:=hrel
  clear HS0
  by_cases hlt:k<len
  ·have hlt':((k:Nat):Int) < ((len:Nat):Int):=by omega
   by_cases h3:k<300
   ·have h3':((k:Nat):Int)<300:=by omega
    obtain⟨b,off,rfl,hb,hm⟩:=HO.out.2 (by omega)
    obtain⟨m,d,ok,R,hl,hcl⟩:=hm k hlt
    obtain⟨S,T,g,hp⟩:=HI.out
    have hbr:Below w.heap.size w wr:=by
     obtain⟨t9,L9,h9,_⟩:=hp
     exact HB1.out.trans (h9.1.bel.mono HB1.out.size)
    have p0:wr.cell? ⟨b,off+k*9,none⟩=some (.int .i64 m.k):=cellY (hcl 0 _ rfl) hbr
    have p1:wr.cell? ⟨b,off+k*9+1,none⟩=some (.int .i64 m.c):=cellY (hcl 1 _ rfl) hbr
    have p2:wr.cell? ⟨b,off+k*9+2,none⟩=some (.int .i64 m.s):=cellY (hcl 2 _ rfl) hbr
    have p3:wr.cell? ⟨b,off+k*9+3,none⟩=some (.int .i64 m.f):=cellY (hcl 3 _ rfl) hbr
    have p4:wr.cell? ⟨b,off+k*9+4,none⟩=some (.int .i64 m.a):=cellY (hcl 4 _ rfl) hbr
    have p5:wr.cell? ⟨b,off+k*9+5,none⟩=some (.int .u32 (m.w:Nat)):=cellY (hcl 5 _ rfl) hbr
    have p6:wr.cell? ⟨b,off+k*9+6,none⟩=some (.int .i64 m.n):=cellY (hcl 6 _ rfl) hbr
    have p7:wr.cell? ⟨b,off+k*9+7,none⟩=some (.bool m.h):=cellY (hcl 7 _ rfl) hbr
    have p8:wr.cell? ⟨b,off+k*9+8,none⟩=some (.slice d.a m.l d.c):=cellY (hcl 8 _ rfl) hbr
    have hCo:=pcopyY m d.a d.c wr (R.below hbr) hl
    have HG:Hid (_):=And.intro g (And.intro ok hl)
    have HKn:Hid (S.Kn):=hp.kn
    have HP:Hid (PWn ev w1 (putT (evT L) (2*0+1) (blT [(q,tkO T)])) L wr S):=hp
    clear hm R hcl g hp hbr ok hl hb HI
    go_wp2_with fail
    refine hCo.mono ?_
    rintro r w6 ⟨d6,c6,rfl,H6⟩
    clear hCo p0 p1 p2 p3 p4 p5 p6 p7 p8
    have kM:=heap_alloc_new w6 (.cells #[.int .i64 m.k,.int .i64 m.c,.int .i64 m.s,.int .i64 m.f,.int .i64 m.a,.int .u32 (m.w:Nat),.int .i64 m.n,.bool m.h,.slice d6 m.l c6] 38)
    have bM:=belY (Below.refl _ w6) (.cells #[.int .i64 m.k,.int .i64 m.c,.int .i64 m.s,.int .i64 m.f,.int .i64 m.a,.int .u32 (m.w:Nat),.int .i64 m.n,.bool m.h,.slice d6 m.l c6] 38)
    obtain⟨w7,hw7⟩:∃ y,w6.alloc (.cells #[.int .i64 m.k,.int .i64 m.c,.int .i64 m.s,.int .i64 m.f,.int .i64 m.a,.int .u32 (m.w:Nat),.int .i64 m.n,.bool m.h,.slice d6 m.l c6] 38)=y:=⟨_,rfl⟩
    rw[hw7]at kM bM
    have hp7:=(HP.out.below H6.out.2.1).layL bM (i:=2*1+1) (fun j=>by unfold ev;omega) (l:=[(w6.heap.size,.cells #[.int .i64 m.k,.int .i64 m.c,.int .i64 m.s,.int .i64 m.f,.int .i64 m.a,.int .u32 (m.w:Nat),.int .i64 m.n,.bool m.h,.slice d6 m.l c6] 38 (0,0))]) (fun p hp=>by
     simp only[List.mem_cons,List.not_mem_nil,or_false]at hp
     subst hp
     exact kM) (fun p hp=>by
     simp only[List.mem_cons,List.not_mem_nil,or_false]at hp
     subst hp
     exact Nat.le_refl _)
    obtain⟨pm,hpm⟩:∃ y,w6.heap.size=y:=⟨_,rfl⟩
    rw[hpm]at kM hp7
    have q0:w7.cell? ⟨pm,0,none⟩=some (.int .i64 m.k):=cell_of_row w7 pm 0 _ _ _ kM
    have q1:w7.cell? ⟨pm,1,none⟩=some (.int .i64 m.c):=cell_of_row w7 pm 1 _ _ _ kM
    have q2:w7.cell? ⟨pm,2,none⟩=some (.int .i64 m.s):=cell_of_row w7 pm 2 _ _ _ kM
    have q3:w7.cell? ⟨pm,3,none⟩=some (.int .i64 m.f):=cell_of_row w7 pm 3 _ _ _ kM
    have q4:w7.cell? ⟨pm,4,none⟩=some (.int .i64 m.a):=cell_of_row w7 pm 4 _ _ _ kM
    have q5:w7.cell? ⟨pm,5,none⟩=some (.int .u32 (m.w:Nat)):=cell_of_row w7 pm 5 _ _ _ kM
    have q6:w7.cell? ⟨pm,6,none⟩=some (.int .i64 m.n):=cell_of_row w7 pm 6 _ _ _ kM
    have q7:w7.cell? ⟨pm,7,none⟩=some (.bool m.h):=cell_of_row w7 pm 7 _ _ _ kM
    have q8:w7.cell? ⟨pm,8,none⟩=some (.slice d6 m.l c6):=cell_of_row w7 pm 8 _ _ _ kM
    have F2:Fre ev (putT (putT (evT L) (2*0+1) (blT [(q,tkO T)])) (2*1+1) (blT [(pm,.cells #[.int .i64 m.k,.int .i64 m.c,.int .i64 m.s,.int .i64 m.f,.int .i64 m.a,.int .u32 (m.w:Nat),.int .i64 m.n,.bool m.h,.slice d6 m.l c6] 38 (0,0))])) 2:=((evT_fre L).put _).put _
    have hPl:Calls Tryz.prog 12 #[.pointer (some ⟨X,0,none⟩),.agg #[.int .i64 m.k,.int .i64 m.c,.int .i64 m.s,.int .i64 m.f,.int .i64 m.a,.int .u32 (m.w:Nat),.int .i64 m.n,.bool m.h,.slice d6 m.l c6]] w7 fun r w'=>∃ (A:Array Value) (E:Int),r=.returned (.tuple #[.agg A,.int .i64 E])∧A.size=29∧A.all (·.oneCell')=true∧Hid (E=S.bad m∧PWn ev w1 (putT (putT (evT L) (2*0+1) (blT [(q,tkO T)])) (2*1+1) (blT [(pm,.cells #[.int .i64 m.k,.int .i64 m.c,.int .i64 m.s,.int .i64 m.f,.int .i64 m.a,.int .u32 (m.w:Nat),.int .i64 m.n,.bool m.h,.slice d6 m.l c6] 38 (0,0))])) L w' (S.play m).S∧(S.bad m=0→∃ hV dV,RwC A hV dV S m)):=by
     have:=pplayR (i:=2) m d6 c6 hp7 F2 HG.out.1.I HG.out.2.1 (by rw[HG.out.1.n];decide) (H6.out.1.below bM) (fun y hy h0 e=>by
      have h1:=H6.out.2.2 y hy h0
      have h2:L.x<wr.heap.size:=by
       obtain⟨t9,L9,h9,_,hx9,_⟩:=HP.out
       rw[← hx9.x]
       exact (h9.2.wb h9.1).lt _ (by simp[Wc.U,Pw.core])
      omega) HG.out.2.2
     rw[HX.out]at this
     exact this
    have HF2:Hid (_):=F2
    clear kM bM hp7 F2 H6
    go_wp2_with fail
    refine hPl.mono ?_
    rintro r w8 ⟨A,E,rfl,hsA,hoA,H8⟩
    clear hPl hw7 hpm q0 q1 q2 q3 q4 q5 q6 q7 q8
    obtain⟨w9,hst1,hrg1,hbl1⟩:=storeRow w8 hsA hoA
    obtain⟨rb,hrb⟩:∃ y,w8.heap.size=y:=⟨_,rfl⟩
    rw[hrb]at hrg1 hst1
    have hp8:=H8.out.2.1
    have kM8:=hp8.box (q:=2*1+1) (fun j=>by unfold ev;omega) (putT_same _ _ _) _ (List.mem_cons_self ..)
    have hp8':PWn ev w1 (putT (evT L) (2*0+1) (blT [(q,tkO T)])) L w8 (S.play m).S:=hp8.drop (fun j=>by unfold ev;omega) (by rw[putT_ne _ _ (by decide)];exact ((evT_fre L) 1 (by decide)).2)
    have hp9:=hp8'.below hbl1
    by_cases hE:E=0
    ·have hb0:S.bad m=0:=by rw[← H8.out.1];exact hE
     have hEb:(E != 0)=false:=by simpa using hE
     obtain⟨hV,dV,sH,oH_,sD,oD_,eH,eD,a9,aH,aD⟩:=H8.out.2.2 hb0
     have kM9:=(hbl1.block pm (Array.getElem?_eq_some_iff.1 kM8).1).trans kM8
     have kq9:=hp9.box (q:=2*0+1) (fun j=>by unfold ev;omega) (putT_same _ _ _) _ (List.mem_cons_self ..)
     have z0:w9.cell? ⟨pm,0,none⟩=some (.int .i64 m.k):=cell_of_row w9 pm 0 _ _ _ kM9
     have z1:w9.cell? ⟨pm,1,none⟩=some (.int .i64 m.c):=cell_of_row w9 pm 1 _ _ _ kM9
     have z2:w9.cell? ⟨pm,2,none⟩=some (.int .i64 m.s):=cell_of_row w9 pm 2 _ _ _ kM9
     have zc:w9.cell? ⟨rb,9,none⟩=some (.int .i64 (S.play m).e):=hrg1 9 _ a9
     have hS11:w9.rangeAt rb 11 hV.toList:=fun j v hv=>by have:=hrg1 (11+j) v (aH j v hv);rw[Nat.zero_add]at this;exact this
     have hS20:w9.rangeAt rb 20 dV.toList:=fun j v hv=>by have:=hrg1 (20+j) v (aD j v hv);rw[Nat.zero_add]at this;exact this
     have hiH:(Tryz.prog.info? 42).map (·.size)=some hV.size:=by rw[sH];kernel_rfl
     have hiD:(Tryz.prog.info? 42).map (·.size)=some dV.size:=by rw[sD];kernel_rfl
     obtain⟨w10,hst2,hrx,hblx,hthx⟩:=storeEnd w9 sH oH_
     obtain⟨xb,hxb⟩:∃ y,w9.heap.size=y:=⟨_,rfl⟩
     rw[hxb]at hst2 hrx hthx
     have HL:Hid (S.up.Law m m.c.toNat):=Ws.Law.of hb0
     have HB0:Hid (S.bad m=0):=hb0
     have hc01:0≤m.c∧m.c≤1:=by
      have h1:=HL.out.c
      have h2:m.c.toNat<2:=by rw[← HG.out.1.n];exact HL.out.kn
      omega
     have hc0:=hc01.1
     have hc1:=hc01.2
     subst hE
     clear H8 hp8 hp8' kM8 kM9 a9 aH aD hc01 hrg1 hbl1 hb0
     go_upto_region 12 with fail
     obtain⟨av,hav⟩:∃ y,wrap64 (wrap64 (2*m.c+m.s)-1)=y:=⟨_,rfl⟩
     rw[hav]
     have HAV:Hid (wrap64 (wrap64 (2*m.c+m.s)-1)=av):=hav
     clear hav
     have d1:w10.cell? ⟨pm,2,none⟩=some (.int .i64 m.s):=cellY z2 hblx
     have dr:w10.rangeAt rb 20 dV.toList:=fun j v hv=>cellY (hS20 j v hv) hblx
     go_upto_if 61 with (refine wpList_loadAG (by kernel_rfl) 42 (.tmp 57) rfl rb 11 rfl hV _ hS11 Tryz.underlying42 rfl hiH ?_)
     go_cut [61] (fun _ wx=>Hid (Below w9.heap.size w9 wx∧(m.k=7→wx.cell? ⟨xb,1,none⟩=some (.int .u32 0)∧wx.cell? ⟨xb,4,none⟩=some (.int .i64 0)∧wx.cell? ⟨xb,5,none⟩=some (.int .i64 0)∧wx.cell? ⟨xb,6,none⟩=some (.bool false)∧wx.cell? ⟨xb,7,none⟩=some (.bool false))))
     case first=>
      by_cases s2:m.s=2
      ·obtain⟨w11,hst3,hrx2,hof2⟩:=storeOver hthx sD oD_
       have HT:Hid (Below w9.heap.size w9 w11∧(m.k=7→w11.cell? ⟨xb,1,none⟩=some (.int .u32 0)∧w11.cell? ⟨xb,4,none⟩=some (.int .i64 0)∧w11.cell? ⟨xb,5,none⟩=some (.int .i64 0)∧w11.cell? ⟨xb,6,none⟩=some (.bool false)∧w11.cell? ⟨xb,7,none⟩=some (.bool false))):=by
        refine⟨hof2.below hblx (by rw[← hxb];simp) hblx.size,fun h7=>?_⟩
        obtain⟨v1,v2,v3⟩:=(reset_ends HB0.out h7).2 s2
        have x1:=hrx2 1 _ eD.c1
        have x4:=hrx2 4 _ eD.c4
        have x5:=hrx2 5 _ eD.c5
        have x6:=hrx2 6 _ eD.c6
        have x7:=hrx2 7 _ eD.c7
        rw[v1]at x5 x6 x7
        rw[v2]at x1
        rw[v3]at x4
        exact⟨x1,x4,x5,x6,x7⟩
       have hs2:(m.s == 2)=true:=by simpa using s2
       clear s2 hrx2 hof2
       go_wp2_with (refine wpList_loadAG (by kernel_rfl) 42 (.tmp 62) rfl rb 20 rfl dV _ dr Tryz.underlying42 rfl hiD ?_)
       go_meet
       case rel=>exact HT
      ·have HT:Hid (Below w9.heap.size w9 w10∧(m.k=7→w10.cell? ⟨xb,1,none⟩=some (.int .u32 0)∧w10.cell? ⟨xb,4,none⟩=some (.int .i64 0)∧w10.cell? ⟨xb,5,none⟩=some (.int .i64 0)∧w10.cell? ⟨xb,6,none⟩=some (.bool false)∧w10.cell? ⟨xb,7,none⟩=some (.bool false))):=by
        refine⟨hblx,fun h7=>?_⟩
        have s1:m.s=1:=by
         rcases HL.out.sd (by omega) (by omega) with y | y
         ·exact y
         ·exact absurd y s2
        obtain⟨v1,v2,v3⟩:=(reset_ends HB0.out h7).1 s1
        have x1:=hrx 1 _ eH.c1
        have x4:=hrx 4 _ eH.c4
        have x5:=hrx 5 _ eH.c5
        have x6:=hrx 6 _ eH.c6
        have x7:=hrx 7 _ eH.c7
        rw[v1]at x5 x6 x7
        rw[v2]at x1
        rw[v3]at x4
        exact⟨x1,x4,x5,x6,x7⟩
       have hs2:(m.s == 2)=false:=by simpa using s2
       go_wp2_with fail
       go_meet
       case rel=>exact HT
     case rest=>
      have bX:=hcut.out.1
      have d0:wc.cell? ⟨pm,0,none⟩=some (.int .i64 m.k):=cellY z0 bX
      have d9:wc.cell? ⟨rb,9,none⟩=some (.int .i64 (S.play m).e):=cellY zc bX
      have hpX:PWn ev w1 (putT (evT L) (2*0+1) (blT [(q,tkO T)])) L wc (S.play m).S:=hp9.below bX
      have kq:=hpX.box (q:=2*0+1) (fun j=>by unfold ev;omega) (putT_same _ _ _) _ (List.mem_cons_self ..)
      have hxq:xb≠q:=fun e=>by
       have:=(Array.getElem?_eq_some_iff.1 kq9).1
       omega
      obtain⟨ce,hce⟩:∃ y,(S.play m).e=y:=⟨_,rfl⟩
      rw[hce]at d9
      have HXc:Hid (_):=And.intro hcut.out.2 hxq
      have HPX:Hid (_):=And.intro hpX kq
      have HCE:Hid ((S.play m).e=ce):=hce
      have HAT:Hid (m.s=1∨m.s=2→av=((2*m.c.toNat+m.s.toNat-1:Nat):Int)∧2*m.c.toNat+m.s.toNat-1<4):=fun y=>by
       have h1:=HL.out.c
       have h2:m.c.toNat<2:=by rw[← HG.out.1.n];exact HL.out.kn
       have h3:=HAV.out
       have e1:wrap64 (2*m.c+m.s)=2*m.c+m.s:=by unfold wrap64;omega
       have e2:wrap64 (2*m.c+m.s-1)=2*m.c+m.s-1:=by unfold wrap64;omega
       rw[e1,e2]at h3
       omega
      clear hpX kq hxq bX hce hcut hst2 hrx hblx hthx d1 dr z0 z1 z2 zc hS11 hS20 hiH hiD hp9 kq9 hst1
      obtain⟨wX,hwX⟩:∃ y,wc=y:=⟨_,rfl⟩
      rw[hwX]at d0 d9 HXc HPX ⊢
      clear hwX
      go_upto_block 2 with fail
      go_cut [10,65,66] (fun _ _ _ wx=>Hid (∃ T2,Jr (S.play m).S (k+1) T2∧PWn ev w1 (putT (evT L) (2*0+1) (blT [(q,tkO T2)])) L wx (S.play m).S))
      case first=>
       obtain⟨hpX,kq⟩:=HPX.out
       by_cases h7:m.k=7
       ·have h7b:(m.k == 7)=true:=by simpa using h7
        obtain⟨hat,ha4⟩:=HAT.out (HL.out.sd (by omega) (by omega))
        obtain⟨a,ha⟩:∃ a:Nat,2*m.c.toNat+m.s.toNat-1=a:=⟨_,rfl⟩
        rw[ha]at hat ha4
        have ha4':((a:Nat):Int)<4:=by omega
        obtain⟨cq,fq⟩:=tkO_get kq ha4
        have hTo:=tkO_set kq ha4 0
        obtain⟨hx7,hxq⟩:=HXc.out
        obtain⟨x1,x4,x5,x6,x7⟩:=hx7 h7
        have y1:=(World.cell?_setCell_other wX ⟨q,a,none⟩ ⟨xb,1,none⟩ (.int .i64 ((0:Nat):Int)) (fun z=>hxq (congrArg Addr.block z).symm)).trans x1
        have y4:=(World.cell?_setCell_other wX ⟨q,a,none⟩ ⟨xb,4,none⟩ (.int .i64 ((0:Nat):Int)) (fun z=>hxq (congrArg Addr.block z).symm)).trans x4
        have y5:=(World.cell?_setCell_other wX ⟨q,a,none⟩ ⟨xb,5,none⟩ (.int .i64 ((0:Nat):Int)) (fun z=>hxq (congrArg Addr.block z).symm)).trans x5
        have y6:=(World.cell?_setCell_other wX ⟨q,a,none⟩ ⟨xb,6,none⟩ (.int .i64 ((0:Nat):Int)) (fun z=>hxq (congrArg Addr.block z).symm)).trans x6
        have y7:=(World.cell?_setCell_other wX ⟨q,a,none⟩ ⟨xb,7,none⟩ (.int .i64 ((0:Nat):Int)) (fun z=>hxq (congrArg Addr.block z).symm)).trans x7
        have hpT:=hpX.turnB (fun j=>by unfold ev;omega) (Off.setCell q a _ _) hTo
        obtain⟨wt,hwt⟩:∃ y,wX.setCell ⟨q,a,none⟩ (.int .i64 ((0:Nat):Int))=y:=⟨_,rfl⟩
        rw[hwt]at y1 y4 y5 y6 y7 hpT
        have hwt0:wX.setCell ⟨q,a,none⟩ (.int .i64 0)=wt:=hwt
        have HT:Hid (∃ T2,Jr (S.play m).S (k+1) T2∧PWn ev w1 (putT (evT L) (2*0+1) (blT [(q,tkO T2)])) L wt (S.play m).S):=⟨_,HG.out.1.next HKn.out HB0.out,by rw[cntT_7 h7,ha];exact hpT⟩
        clear hpT hpX kq hTo x1 x4 x5 x6 x7 hxq hx7 ha hwt
        go_wp2_with fail
        go_meet
        case rel=>exact HT
       ·have h7b:(m.k == 7)=false:=by simpa using h7
        by_cases h3:m.k=3
        ·have h3b:(m.k == 3)=true:=by simpa using h3
         obtain⟨hat,ha4⟩:=HAT.out (HL.out.sd (by omega) (by omega))
         obtain⟨a,ha⟩:∃ a:Nat,2*m.c.toNat+m.s.toNat-1=a:=⟨_,rfl⟩
         rw[ha]at hat ha4
         have ha4':((a:Nat):Int)<4:=by omega
         by_cases z:ce=0
         ·have zb:(ce == 0)=true:=by simpa using z
          obtain⟨cq,fq⟩:=tkO_get kq ha4
          have hTo:=tkO_set kq ha4 (T a+1)
          have hpT:=hpX.turnB (fun j=>by unfold ev;omega) (Off.setCell q a _ _) hTo
          have hTb:T a≤k:=HG.out.1.b a
          have hup:cntT S m T=putF T a (T a+1):=by rw[← ha];exact cntT_up h7 ⟨by omega,by rw[← (play_ends S HB0.out).2.2,HCE.out];exact z⟩ T
          obtain⟨ta,hta⟩:∃ y,T a=y:=⟨_,rfl⟩
          rw[hta]at cq hpT hTb hup
          have HT:Hid (∃ T2,Jr (S.play m).S (k+1) T2∧PWn ev w1 (putT (evT L) (2*0+1) (blT [(q,tkO T2)])) L (wX.setCell ⟨q,a,none⟩ (.int .i64 (((ta:Nat):Int)+1))) (S.play m).S):=⟨_,HG.out.1.next HKn.out HB0.out,by rw[hup];exact hpT⟩
          clear hpT hpX kq hTo ha hup hta
          go_wp2_with fail
          go_meet
          case rel=>exact HT
         ·have zb:(ce == 0)=false:=by simpa using z
          have hup:cntT S m T=T:=cntT_no h7 (fun y=>z (by rw[← HCE.out,(play_ends S HB0.out).2.2];exact y.2)) T
          have HT:Hid (∃ T2,Jr (S.play m).S (k+1) T2∧PWn ev w1 (putT (evT L) (2*0+1) (blT [(q,tkO T2)])) L wX (S.play m).S):=⟨_,HG.out.1.next HKn.out HB0.out,by rw[hup];exact hpX⟩
          clear hpX kq ha hup
          go_wp2_with fail
          go_meet
          case rel=>exact HT
        have h3b:(m.k == 3)=false:=by simpa using h3
        by_cases h4:m.k=4
        ·have h4b:(m.k == 4)=true:=by simpa using h4
         obtain⟨hat,ha4⟩:=HAT.out (HL.out.sd (by omega) (by omega))
         obtain⟨a,ha⟩:∃ a:Nat,2*m.c.toNat+m.s.toNat-1=a:=⟨_,rfl⟩
         rw[ha]at hat ha4
         have ha4':((a:Nat):Int)<4:=by omega
         by_cases z:ce=0
         ·have zb:(ce == 0)=true:=by simpa using z
          obtain⟨cq,fq⟩:=tkO_get kq ha4
          have hTo:=tkO_set kq ha4 (T a+1)
          have hpT:=hpX.turnB (fun j=>by unfold ev;omega) (Off.setCell q a _ _) hTo
          have hTb:T a≤k:=HG.out.1.b a
          have hup:cntT S m T=putF T a (T a+1):=by rw[← ha];exact cntT_up h7 ⟨by omega,by rw[← (play_ends S HB0.out).2.2,HCE.out];exact z⟩ T
          obtain⟨ta,hta⟩:∃ y,T a=y:=⟨_,rfl⟩
          rw[hta]at cq hpT hTb hup
          have HT:Hid (∃ T2,Jr (S.play m).S (k+1) T2∧PWn ev w1 (putT (evT L) (2*0+1) (blT [(q,tkO T2)])) L (wX.setCell ⟨q,a,none⟩ (.int .i64 (((ta:Nat):Int)+1))) (S.play m).S):=⟨_,HG.out.1.next HKn.out HB0.out,by rw[hup];exact hpT⟩
          clear hpT hpX kq hTo ha hup hta
          go_wp2_with fail
          go_meet
          case rel=>exact HT
         ·have zb:(ce == 0)=false:=by simpa using z
          have hup:cntT S m T=T:=cntT_no h7 (fun y=>z (by rw[← HCE.out,(play_ends S HB0.out).2.2];exact y.2)) T
          have HT:Hid (∃ T2,Jr (S.play m).S (k+1) T2∧PWn ev w1 (putT (evT L) (2*0+1) (blT [(q,tkO T2)])) L wX (S.play m).S):=⟨_,HG.out.1.next HKn.out HB0.out,by rw[hup];exact hpX⟩
          clear hpX kq ha hup
          go_wp2_with fail
          go_meet
          case rel=>exact HT
        have h4b:(m.k == 4)=false:=by simpa using h4
        have hup:cntT S m T=T:=cntT_no h7 (fun y=>by have:=y.1;omega) T
        have HT:Hid (∃ T2,Jr (S.play m).S (k+1) T2∧PWn ev w1 (putT (evT L) (2*0+1) (blT [(q,tkO T2)])) L wX (S.play m).S):=⟨_,HG.out.1.next HKn.out HB0.out,by rw[hup];exact hpX⟩
        clear hpX kq hup
        go_wp2_with fail
        go_meet
        case rel=>exact HT
      case rest=>
       obtain⟨T2,g2,hp2⟩:=hcut.out
       obtain⟨S2,hS2⟩:∃ y,(S.play m).S=y:=⟨_,rfl⟩
       rw[hS2]at g2 hp2
       clear HPX HXc hS2
       have HV:Hid (_):=And.intro g2 hp2
       clear g2 hp2 hcut
       go_wp2_with fail
       go_loopw [12,13,14,104,105,106,107,108,109,110,111,112,113,114,115,116,117,118,119,120,121,122,123,124,125,126,127,128,129,130,131,132,133,134,135,136] (fun kk _ _ _ _ _ _ _ _ _ _ _ _ _ _ _ _ _ _ _ _ _ _ _ _ _ _ _ _ _ _ _ _ _ _ _ wr=>∃ j:Nat,j≤2∧kk=.int .i64 ((j:Nat):Int)∧Hid (Below wc.heap.size wc wr)) (fun kk _ _ _ _ _ _ _ _ _ _ _ _ _ _ _ _ _ _ _ _ _ _ _ _ _ _ _ _ _ _ _ _ _ _ _ _=>2-natT kk)
       case atStart=>exact⟨0,by omega,rfl,Below.refl _ _⟩
       case round=>
        obtain⟨j,hj,rfl,HJ⟩:=hrel
        have hj3:j=0∨j=1∨j=2:=by omega
        rcases hj3 with rfl | rfl | rfl
        ·obtain⟨fh,fd⟩:=HV.out.1.on (j:=0) (by decide)
         have hEn:Calls Tryz.prog 13 #[.pointer (some ⟨X,0,none⟩),.int .i64 0] wr fun r w'=>∃ A B:Array Value,r=.returned (.tuple #[.agg A,.agg B])∧A.size=9∧A.all (·.oneCell')=true∧B.size=9∧B.all (·.oneCell')=true∧Hid (A.toList[7]?=some (.bool (von (S2.hs 0).v))∧B.toList[7]?=some (.bool (von (S2.ds 0).v))∧Below wr.heap.size wr w'):=by
          have:=pends (HV.out.2.below HJ.out) (k:=0) (by rw[HV.out.1.n];decide)
          rw[HX.out]at this
          refine this.mono ?_
          rintro r w' ⟨A,B,rfl,h1,h2,h3,h4,H⟩
          exact⟨A,B,rfl,h1,h2,h3,h4,H.out.1.c7,H.out.2.1.c7,H.out.2.2⟩
         obtain⟨bh,hbh⟩:∃ y,von (S2.hs 0).v=y:=⟨_,rfl⟩
         obtain⟨bd,hbd⟩:∃ y,von (S2.ds 0).v=y:=⟨_,rfl⟩
         obtain⟨ch,hch⟩:∃ y,T2 0=y:=⟨_,rfl⟩
         obtain⟨cd,hcd⟩:∃ y,T2 1=y:=⟨_,rfl⟩
         have fh2:bh=true→4≤ch:=fun e=>by rw[← hch];exact fh (hbh.trans e)
         have fd2:bd=true→4≤cd:=fun e=>by rw[← hcd];exact fd (hbd.trans e)
         rw[hbh,hbd]at hEn
         have HC:Hid (T2 0=ch∧T2 1=cd):=⟨hch,hcd⟩
         clear fh fd hbh hbd hch hcd
         go_wp2_with fail
         refine hEn.mono ?_
         rintro r w8 ⟨A,B,rfl,hsA,hoA,hsB,hoB,H8⟩
         clear hEn
         obtain⟨wy,wz,hst1,hst2,hrA,hrB,hbl⟩:=storeEnds w8 hsA hoA hsB hoB
         have cA:wz.cell? ⟨w8.heap.size,7,none⟩=some (.bool bh):=hrA 7 _ H8.out.1
         have cB:wz.cell? ⟨w8.heap.size+1,7,none⟩=some (.bool bd):=hrB 7 _ H8.out.2.1
         have bz:Below wc.heap.size wc wz:=(HJ.out.trans (H8.out.2.2.mono HJ.out.size)).trans (hbl.mono (Nat.le_trans HJ.out.size H8.out.2.2.size))
         have kz:=((HV.out.2.below bz).box (q:=2*0+1) (fun j=>by unfold ev;omega) (putT_same _ _ _) _ (List.mem_cons_self ..))
         have cq0:wz.cell? ⟨q,0,none⟩=some (.int .i64 ((ch:Nat):Int)):=by rw[← HC.out.1];exact (tkO_get kz (a:=0) (by decide)).1
         have cq1:wz.cell? ⟨q,1,none⟩=some (.int .i64 ((cd:Nat):Int)):=by rw[← HC.out.2];exact (tkO_get kz (a:=1) (by decide)).1
         have HBz:Hid (Below wc.heap.size wc wz):=bz
         clear hrA hrB hbl H8 bz kz HJ
         cases bh <;> cases bd
         all_goals
          have vh:¬ (((ch:Nat):Int)<4∧true=false):=fun y=>by cases y.2
          first
           | (have u1:=fh2 rfl;have v1:¬ ((ch:Nat):Int)<4:=by omega
              have u2:=fd2 rfl;have v2:¬ ((cd:Nat):Int)<4:=by omega
              clear u1 u2)
           | (have u1:=fh2 rfl;have v1:¬ ((ch:Nat):Int)<4:=by omega
              clear u1)
           | (have u2:=fd2 rfl;have v2:¬ ((cd:Nat):Int)<4:=by omega
              clear u2)
           | skip
          clear vh
          go_wp2_with fail
          refine⟨⟨1,by omega,by simp,HBz⟩,by simp[natT]⟩
        ·obtain⟨fh,fd⟩:=HV.out.1.on (j:=1) (by decide)
         have hEn:Calls Tryz.prog 13 #[.pointer (some ⟨X,0,none⟩),.int .i64 1] wr fun r w'=>∃ A B:Array Value,r=.returned (.tuple #[.agg A,.agg B])∧A.size=9∧A.all (·.oneCell')=true∧B.size=9∧B.all (·.oneCell')=true∧Hid (A.toList[7]?=some (.bool (von (S2.hs 1).v))∧B.toList[7]?=some (.bool (von (S2.ds 1).v))∧Below wr.heap.size wr w'):=by
          have:=pends (HV.out.2.below HJ.out) (k:=1) (by rw[HV.out.1.n];decide)
          rw[HX.out]at this
          refine this.mono ?_
          rintro r w' ⟨A,B,rfl,h1,h2,h3,h4,H⟩
          exact⟨A,B,rfl,h1,h2,h3,h4,H.out.1.c7,H.out.2.1.c7,H.out.2.2⟩
         obtain⟨bh,hbh⟩:∃ y,von (S2.hs 1).v=y:=⟨_,rfl⟩
         obtain⟨bd,hbd⟩:∃ y,von (S2.ds 1).v=y:=⟨_,rfl⟩
         obtain⟨ch,hch⟩:∃ y,T2 2=y:=⟨_,rfl⟩
         obtain⟨cd,hcd⟩:∃ y,T2 3=y:=⟨_,rfl⟩
         have fh2:bh=true→4≤ch:=fun e=>by rw[← hch];exact fh (hbh.trans e)
         have fd2:bd=true→4≤cd:=fun e=>by rw[← hcd];exact fd (hbd.trans e)
         rw[hbh,hbd]at hEn
         have HC:Hid (T2 2=ch∧T2 3=cd):=⟨hch,hcd⟩
         clear fh fd hbh hbd hch hcd
         go_wp2_with fail
         refine hEn.mono ?_
         rintro r w8 ⟨A,B,rfl,hsA,hoA,hsB,hoB,H8⟩
         clear hEn
         obtain⟨wy,wz,hst1,hst2,hrA,hrB,hbl⟩:=storeEnds w8 hsA hoA hsB hoB
         have cA:wz.cell? ⟨w8.heap.size,7,none⟩=some (.bool bh):=hrA 7 _ H8.out.1
         have cB:wz.cell? ⟨w8.heap.size+1,7,none⟩=some (.bool bd):=hrB 7 _ H8.out.2.1
         have bz:Below wc.heap.size wc wz:=(HJ.out.trans (H8.out.2.2.mono HJ.out.size)).trans (hbl.mono (Nat.le_trans HJ.out.size H8.out.2.2.size))
         have kz:=((HV.out.2.below bz).box (q:=2*0+1) (fun j=>by unfold ev;omega) (putT_same _ _ _) _ (List.mem_cons_self ..))
         have cq0:wz.cell? ⟨q,2,none⟩=some (.int .i64 ((ch:Nat):Int)):=by rw[← HC.out.1];exact (tkO_get kz (a:=2) (by decide)).1
         have cq1:wz.cell? ⟨q,3,none⟩=some (.int .i64 ((cd:Nat):Int)):=by rw[← HC.out.2];exact (tkO_get kz (a:=3) (by decide)).1
         have HBz:Hid (Below wc.heap.size wc wz):=bz
         clear hrA hrB hbl H8 bz kz HJ
         cases bh <;> cases bd
         all_goals
          have vh:¬ (((ch:Nat):Int)<4∧true=false):=fun y=>by cases y.2
          first
           | (have u1:=fh2 rfl;have v1:¬ ((ch:Nat):Int)<4:=by omega
              have u2:=fd2 rfl;have v2:¬ ((cd:Nat):Int)<4:=by omega
              clear u1 u2)
           | (have u1:=fh2 rfl;have v1:¬ ((ch:Nat):Int)<4:=by omega
              clear u1)
           | (have u2:=fd2 rfl;have v2:¬ ((cd:Nat):Int)<4:=by omega
              clear u2)
           | skip
          clear vh
          go_wp2_with fail
          refine⟨⟨2,by omega,by simp,HBz⟩,by simp[natT]⟩
        ·have HT:Hid (∃ S T,Jr S (k+1) T∧PWn ev w1 (putT (evT L) (2*0+1) (blT [(q,tkO T)])) L wr S):=⟨S2,T2,HV.out.1,HV.out.2.below HJ.out⟩
         clear HV HJ
         go_wp2_with fail
         refine⟨⟨k+1,by omega,by omega,by simp,HT⟩,?_⟩
         have e1:natT (.int .i64 ((k:Nat):Int))=k:=by simp[natT]
         have e2:natT (.int .i64 (((k:Nat):Int)+1))=k+1:=by simp[natT]
         rw[e1,e2]
         omega
    ·have hEb:(E != 0)=true:=by simpa using hE
     have hEb2:(E == 0)=false:=by simpa using hE
     have HT:Hid (∃ S T,Jr S (k+1) T∧PWn ev w1 (putT (evT L) (2*0+1) (blT [(q,tkO T)])) L w9 S):=by
      have hbd:S.bad m≠0:=by rw[← H8.out.1];exact hE
      have hpl:(S.play m).S=S:=by
       unfold Ws.play
       rw[if_pos hbd]
      rw[hpl]at hp9
      exact⟨S,T,HG.out.1.skip,hp9⟩
     clear H8 hp8 hp8' kM8 hp9 hrg1 hbl1
     go_wp2_with fail
     refine⟨⟨k+1,by omega,by omega,by simp,HT⟩,?_⟩
     have e1:natT (.int .i64 ((k:Nat):Int))=k:=by simp[natT]
     have e2:natT (.int .i64 (((k:Nat):Int)+1))=k+1:=by simp[natT]
     rw[e1,e2]
     omega
   ·have h3':¬ ((k:Nat):Int)<300:=by omega
    have HE:Hid (Below w1.heap.size w1 wr):=by
     obtain⟨S,T,_,t9,L9,h9,_⟩:=HI.out
     exact h9.1.bel
    clear HI
    go_wp2_with fail
    go_ret
    exact⟨rfl,HB1.out.trans (HE.out.mono HB1.out.size)⟩
  ·have hlt':¬ ((k:Nat):Int) < ((len:Nat):Int):=by omega
   have HE:Hid (Below w1.heap.size w1 wr):=by
    obtain⟨S,T,_,t9,L9,h9,_⟩:=HI.out
    exact h9.1.bel
   clear HI
   go_wp2_with fail
   go_ret
   exact⟨rfl,HB1.out.trans (HE.out.mono HB1.out.size)⟩
theorem topReset_walk (a0:Option Addr) (len0 cap0:Nat) (w:World) (w0:OpRow w a0 len0) :
  Calls Tryz.prog 7 #[.slice a0 len0 cap0] w fun e w'=>e=.returned (.bool true)∧Below w.heap.size w w':=topReset_any a0 len0 cap0 w w0
end Go.Proofs.YtgaeofgdiaknpaaGreat
