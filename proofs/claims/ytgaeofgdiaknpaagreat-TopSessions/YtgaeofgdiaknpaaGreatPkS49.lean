/- Part 50 of the texts on which the proof rests: contracts of Go functions. -/
import Derived.Test.YtgaeofgdiaknpaaGreatPkS37
import Derived.Test.YtgaeofgdiaknpaaGreatPkS47
import Derived.Test.YtgaeofgdiaknpaaGreatPkS48
namespace Go.Proofs.YtgaeofgdiaknpaaGreat
set_option maxRecDepth 100000
open Go.RowKit Go.Maps
set_option linter.unusedVariables false
theorem pgM0_ok:∀ k,k<1→Pok (pgM k):=fun k hk=>by
 obtain rfl:k=0:=by omega
 exact⟨by unfold okP pgM;decide,by decide,by decide⟩
theorem pgM0_ck {mx:Nat} (h:0<mx):ckE 1 1 mx (fun i=>(pgM i).q) (fun i=>(pgM i).q)=0:=by
 unfold ckE
 rw[if_neg (by omega),if_neg (by decide),if_neg (by decide)]
structure Sg (S:Ws) (mx last now:Nat):Prop where
 I:S.In
 n:0<S.n
 me:S.mx=mx
 vm:vz (S.ds 0).ms.bs≤mx
 la:last≤vz (S.ds 0).ms.bs
 no:now=(S.ds 0).ss
theorem Sg.start (mx:Nat):Sg (sN 1 mx pgM pgM) mx 0 0:=⟨sN_in _ _ _ _,Nat.zero_lt_one,rfl,by show vz (dnew M0).ms.bs≤mx;exact Nat.le_trans (Nat.le_of_eq (by decide:vz (dnew M0).ms.bs=0)) (Nat.zero_le _),Nat.zero_le _,rfl⟩
theorem Sg.next {S:Ws} {mx last now:Nat} (h:Sg S mx last now) (K:S.Kn) (m:Mv) {s':Nat} (hs:s'=((S.play m).S.ds 0).ss):(s'≠now→s'≠0→last<s'∧s'≤mx∧Sg (S.play m).S mx s' s')∧Sg (S.play m).S mx last s':=by
 have d:=dstPlay h.I K m h.n
 have I':(S.play m).S.In:=h.I.play K
 have n':0 < (S.play m).S.n:=by rw[play_n];exact h.n
 have m':(S.play m).S.mx=mx:=(play_fix h.I K m).2.2.trans h.me
 have v':vz ((S.play m).S.ds 0).ms.bs≤mx:=by
  have:=d.vb
  rw[h.me]at this
  exact this h.vm
 have zz:=d.zz
 have la:=h.la
 refine⟨fun h1 h0=>?_,⟨I',n',m',v',by omega,hs⟩⟩
 have hz:s'=vz ((S.play m).S.ds 0).ms.bs:=by
  rcases (I'.iv 0 n').z with q | q
  ·exact absurd (hs.trans q) h0
  ·exact hs.trans q
 have up:=d.up
 rw[← hs]at up
 have hl:last<s':=by
  rcases up with u | u | u
  ·exact absurd (u.trans h.no.symm) h1
  ·exact absurd u h0
  ·omega
 exact⟨hl,by omega,⟨I',n',m',v',by omega,hs⟩⟩
def natT:Value→Nat
 | .int _ i=>i.toNat
 | _=>0
set_option maxHeartbeats 16000000 in
theorem topSessions_any (a:Option Addr) (len cap most:Nat) (hmo:most<4294967296) (w:World) (O:OpRow w a len):Calls Tryz.prog 6 #[.slice a len cap,.int .u32 (most:Nat)] w fun r w'=>r=.returned (.bool true)∧Below w.heap.size w w':=by
 have HO:Hid (OpRow w a len):=O
 have hlen:=O.1
 clear O
 have hNe:=pnet0 w
 go_enter Tryz.func6,Tryz.ntmps6
 go_wp2_with fail
 refine hNe.mono ?_
 rintro r w1 ⟨g0,c0,g1,c1,rfl,H1⟩
 clear hNe
 have k2:=heap_alloc_new w1 (.cells #[.slice (some ⟨g0,0,none⟩) 1 c0,.slice (some ⟨g1,0,none⟩) 1 c1,.int .u32 50] 26)
 have b2:=belY (Below.refl _ w1) (.cells #[.slice (some ⟨g0,0,none⟩) 1 c0,.slice (some ⟨g1,0,none⟩) 1 c1,.int .u32 50] 26)
 obtain⟨w2,hw2⟩:∃ z,w1.alloc (.cells #[.slice (some ⟨g0,0,none⟩) 1 c0,.slice (some ⟨g1,0,none⟩) 1 c1,.int .u32 50] 26)=z:=⟨_,rfl⟩
 obtain⟨y,hy⟩:∃ z,w1.heap.size=z:=⟨_,rfl⟩
 rw[hw2]at k2 b2
 rw[hy]at k2
 have y0:=cell_of_row w2 y 0 _ _ _ k2
 have y1:=cell_of_row w2 y 1 _ _ _ k2
 have y2:=cell_of_row w2 y 2 _ _ _ k2
 have yz:=fun k=>frozen_of_row w2 y k _ _ k2
 go_upto_region 2 with fail
 go_upto_region 3 with fail
 obtain⟨mx,hmx⟩:∃ mx:Nat,((most:Nat):Int) % 12+1=((mx:Nat):Int):=⟨most % 12+1,by omega⟩
 have hm0:0<mx:=by omega
 have hm1:mx<4294967296:=by omega
 rw[hmx]
 have k3:(w2.setCell ⟨y,2,none⟩ (.int .u32 (mx:Nat))).heap[y]?=some (.cells #[.slice (some ⟨g0,0,none⟩) 1 c0,.slice (some ⟨g1,0,none⟩) 1 c1,.int .u32 (mx:Nat)] 26 (0,0)):=heap_setCell_same _ _ _ _ _ _ k2
 have b3:Below w1.heap.size w1 (w2.setCell ⟨y,2,none⟩ (.int .u32 (mx:Nat))):=b2.setCell (by rw[hy];exact Nat.le_refl _) _
 obtain⟨w3,hw3⟩:∃ z,w2.setCell ⟨y,2,none⟩ (.int .u32 (mx:Nat))=z:=⟨_,rfl⟩
 rw[hw3]at k3 b3 ⊢
 have z0:w3.cell? ⟨y,0,none⟩=some (.slice (some ⟨g0,0,none⟩) 1 c0):=cell_of_row w3 y 0 _ _ _ k3
 have z1:w3.cell? ⟨y,1,none⟩=some (.slice (some ⟨g1,0,none⟩) 1 c1):=cell_of_row w3 y 1 _ _ _ k3
 have z2:w3.cell? ⟨y,2,none⟩=some (.int .u32 (mx:Nat)):=cell_of_row w3 y 2 _ _ _ k3
 have hN:Calls Tryz.prog 9 #[.agg #[.slice (some ⟨g0,0,none⟩) 1 c0,.slice (some ⟨g1,0,none⟩) 1 c1,.int .u32 (mx:Nat)]] w3 fun r w'=>∃ L:Pw,r=.returned (.tuple #[.pointer (some ⟨L.x,0,none⟩),.int .i64 0])∧Hid (PW ev w3 w' (evT L) L∧L.S=sN 1 mx pgM pgM):=wnewQ pgM pgM g0 0 c0 g1 0 c1 1 mx pgM0_ok pgM0_ok hm1 (by omega) (by decide) (by decide) H1.out.1 H1.out.2.1 w3 (H1.out.2.2.1.below b3) (H1.out.2.2.2.1.below b3) (pgM0_ck hm0)
 have HB3:Hid (Below w.heap.size w w3):=H1.out.2.2.2.2.trans (b3.mono H1.out.2.2.2.2.size)
 have HK3:Hid (w3.heap[y]?=some (.cells #[.slice (some ⟨g0,0,none⟩) 1 c0,.slice (some ⟨g1,0,none⟩) 1 c1,.int .u32 (mx:Nat)] 26 (0,0))):=k3
 clear k2 b2 hw2 hy y0 y1 y2 yz hw3 k3 b3 H1 hmx
 go_wp2_with fail
 refine hN.mono ?_
 rintro r w4 ⟨L,rfl,H4⟩
 clear hN z0 z1 z2
 obtain⟨X,hX⟩:∃ y,L.x=y:=⟨_,rfl⟩
 rw[hX]
 have HX:Hid (L.x=X):=hX
 clear hX
 have hAw:=awake17q w4
 go_wp2_with fail
 refine hAw.mono ?_
 rintro r w5 ⟨rfl,b5⟩
 clear hAw
 have HS0:Hid (∃ S,Sg S mx 0 0∧PWn ev w3 (evT L) L w5 S):=⟨_,Sg.start mx,by have:=H4.out.1.n;rw[H4.out.2]at this;exact this.below b5⟩
 clear b5 H4
 go_wp2_with fail
 go_loopw [8,9,10,11,12,29,30,31,32,33,34,35,36,37,38,39,40,41,42,43,44,45,46,47,48,49,50,51,52,53,54,55,56,57,58,59,60,61,62,63,64,65,66,67,68,69,70,71,72,73,74] (fun la no i _ _ _ _ _ _ _ _ _ _ _ _ _ _ _ _ _ _ _ _ _ _ _ _ _ _ _ _ _ _ _ _ _ _ _ _ _ _ _ _ _ _ _ _ _ _ _ _ wr=>∃ k last now:Nat,k≤len∧k≤300∧la=.int .u32 ((last:Nat):Int)∧no=.int .u32 ((now:Nat):Int)∧i=.int .i64 ((k:Nat):Int)∧Hid (∃ S,Sg S mx last now∧PWn ev w3 (evT L) L wr S)) (fun la no i _ _ _ _ _ _ _ _ _ _ _ _ _ _ _ _ _ _ _ _ _ _ _ _ _ _ _ _ _ _ _ _ _ _ _ _ _ _ _ _ _ _ _ _ _ _ _ _ _=>len-natT i)
 case atStart=>exact⟨0,0,0,by omega,by omega,rfl,rfl,rfl,HS0⟩
 case round=>
  obtain⟨k,last,now,hk,hk3,rfl,rfl,rfl,HI⟩:=hrel
  clear HS0
  by_cases hlt:k<len
  ·have hlt':((k:Nat):Int) < ((len:Nat):Int):=by omega
   by_cases h3:k<300
   ·have h3':((k:Nat):Int)<300:=by omega
    obtain⟨b,off,rfl,hb,hm⟩:=HO.out.2 (by omega)
    obtain⟨m,d,ok,R,hl,hcl⟩:=hm k hlt
    obtain⟨S,g,hp⟩:=HI.out
    have hbr:Below w.heap.size w wr:=by
     obtain⟨t9,L9,h9,_⟩:=hp
     exact HB3.out.trans (h9.1.bel.mono HB3.out.size)
    have p0:wr.cell? ⟨b,off+k*9,none⟩=some (.int .i64 m.k):=cellY (hcl 0 _ rfl) hbr
    have p1:wr.cell? ⟨b,off+k*9+1,none⟩=some (.int .i64 m.c):=cellY (hcl 1 _ rfl) hbr
    have p2:wr.cell? ⟨b,off+k*9+2,none⟩=some (.int .i64 m.s):=cellY (hcl 2 _ rfl) hbr
    have p3:wr.cell? ⟨b,off+k*9+3,none⟩=some (.int .i64 m.f):=cellY (hcl 3 _ rfl) hbr
    have p4:wr.cell? ⟨b,off+k*9+4,none⟩=some (.int .i64 m.a):=cellY (hcl 4 _ rfl) hbr
    have p5:wr.cell? ⟨b,off+k*9+5,none⟩=some (.int .u32 (m.w:Nat)):=cellY (hcl 5 _ rfl) hbr
    have p6:wr.cell? ⟨b,off+k*9+6,none⟩=some (.int .i64 m.n):=cellY (hcl 6 _ rfl) hbr
    have p7:wr.cell? ⟨b,off+k*9+7,none⟩=some (.bool m.h):=cellY (hcl 7 _ rfl) hbr
    have p8:wr.cell? ⟨b,off+k*9+8,none⟩=some (.slice d.a m.l d.c):=cellY (hcl 8 _ rfl) hbr
    have hCo:=pcopyY m d.a d.c wr (R.below hbr) hl
    have HG:Hid (_):=And.intro g (And.intro ok hl)
    have HP:Hid (PWn ev w3 (evT L) L wr S):=hp
    clear hm R hcl g hp hbr ok hl hb HI
    go_wp2_with fail
    refine hCo.mono ?_
    rintro r w6 ⟨d6,c6,rfl,H6⟩
    clear hCo p0 p1 p2 p3 p4 p5 p6 p7 p8
    have hPl:Calls Tryz.prog 12 #[.pointer (some ⟨X,0,none⟩),.agg #[.int .i64 m.k,.int .i64 m.c,.int .i64 m.s,.int .i64 m.f,.int .i64 m.a,.int .u32 (m.w:Nat),.int .i64 m.n,.bool m.h,.slice d6 m.l c6]] w6 fun r w'=>∃ (A:Array Value) (E:Int),r=.returned (.tuple #[.agg A,.int .i64 E])∧Hid (PWn ev w3 (evT L) L w' (S.play m).S):=by
     have:=pplayD m d6 c6 (HP.out.below H6.out.2.1) (evT_fre L) HG.out.1.I HG.out.2.1 HG.out.1.n H6.out.1 (fun y hy h0 e=>by
      have h1:=H6.out.2.2 y hy h0
      have h2:L.x<wr.heap.size:=by
       obtain⟨t9,L9,h9,_,hx9,_⟩:=HP.out
       rw[← hx9.x]
       exact (h9.2.wb h9.1).lt _ (by simp[Wc.U,Pw.core])
      omega) HG.out.2.2
     rw[HX.out]at this
     exact this
    go_wp2_with fail
    refine hPl.mono ?_
    rintro r w7 ⟨A0,E,rfl,H7⟩
    clear hPl
    obtain⟨s',hs'⟩:∃ s',((S.play m).S.ds 0).ss=s':=⟨_,rfl⟩
    have hn1:0 < (S.play m).S.n:=by rw[play_n];exact HG.out.1.n
    have hEn:Calls Tryz.prog 13 #[.pointer (some ⟨X,0,none⟩),.int .i64 0] w7 fun r w'=>∃ A B:Array Value,r=.returned (.tuple #[.agg A,.agg B])∧A.size=9∧A.all (·.oneCell')=true∧B.size=9∧B.all (·.oneCell')=true∧Hid (B.toList[1]?=some (.int .u32 (s':Nat))∧Below w7.heap.size w7 w'):=by
     have:=pends H7.out (k:=0) hn1
     rw[HX.out]at this
     refine this.mono ?_
     rintro r w' ⟨A,B,rfl,h1,h2,h3,h4,H⟩
     exact⟨A,B,rfl,h1,h2,h3,h4,by rw[← hs'];exact H.out.2.1.c1,H.out.2.2⟩
    have HN:Hid (_):=HG.out.1.next HP.out.kn m hs'.symm
    clear hn1 hs'
    go_wp2_with fail
    refine hEn.mono ?_
    rintro r w8 ⟨A,B,rfl,hsA,hoA,hsB,hoB,H8⟩
    clear hEn
    obtain⟨wy,wz,hst1,hst2,hrA,hrB,hbl⟩:=storeEnds w8 hsA hoA hsB hoB
    have cB:wz.cell? ⟨w8.heap.size+1,1,none⟩=some (.int .u32 (s':Nat)):=hrB 1 _ H8.out.1
    have HZ:Hid (PWn ev w3 (evT L) L wz (S.play m).S):=(H7.out.below H8.out.2).below hbl
    have cM:wz.cell? ⟨y,2,none⟩=some (.int .u32 (mx:Nat)):=by
     have bz:Below w3.heap.size w3 wz:=by
      obtain⟨t9,L9,h9,_⟩:=HZ.out
      exact h9.1.bel
     exact cell_of_row wz y 2 _ _ _ ((bz.block y (Array.getElem?_eq_some_iff.1 HK3.out).1).trans HK3.out)
    clear hrA hrB hbl H8 H7 H6 HP HG
    by_cases q1:s'=now
    ·have HT:Hid (∃ S,Sg S mx last s'∧PWn ev w3 (evT L) L wz S):=⟨_,HN.out.2,HZ.out⟩
     subst q1
     go_wp2_with fail
     refine⟨⟨k+1,last,s',by omega,by omega,rfl,rfl,by simp,HT⟩,?_⟩
     have e1:natT (.int .i64 ((k:Nat):Int))=k:=by simp[natT]
     have e2:natT (.int .i64 (((k:Nat):Int)+1))=k+1:=by simp[natT]
     rw[e1,e2]
     omega
    ·have n1:¬ ((s':Nat):Int)=((now:Nat):Int):=by omega
     have n2:(((s':Nat):Int) == ((now:Nat):Int))=false:=by simpa using n1
     have n3:(((s':Nat):Int) != ((now:Nat):Int))=true:=by simpa using n1
     by_cases q0:s'=0
     ·have HT:Hid (∃ S,Sg S mx last s'∧PWn ev w3 (evT L) L wz S):=⟨_,HN.out.2,HZ.out⟩
      subst q0
      have m1:¬ (0:Int)=((now:Nat):Int):=by omega
      have m2:((0:Int) == ((now:Nat):Int))=false:=by simpa using m1
      have m3:((0:Int) != ((now:Nat):Int))=true:=by simpa using m1
      go_wp2_with fail
      refine⟨⟨k+1,last,0,by omega,by omega,rfl,rfl,by simp,HT⟩,?_⟩
      have e1:natT (.int .i64 ((k:Nat):Int))=k:=by simp[natT]
      have e2:natT (.int .i64 (((k:Nat):Int)+1))=k+1:=by simp[natT]
      rw[e1,e2]
      omega
     ·have z1:¬ ((s':Nat):Int)=0:=by omega
      have z2:(((s':Nat):Int) == 0)=false:=by simpa using z1
      have z3:(((s':Nat):Int) != 0)=true:=by simpa using z1
      obtain⟨u1,u2,u3⟩:=HN.out.1 q1 q0
      have v1:¬ ((s':Nat):Int) ≤ ((last:Nat):Int):=by omega
      have v2:¬ ((mx:Nat):Int) < ((s':Nat):Int):=by omega
      have HT:Hid (∃ S,Sg S mx s' s'∧PWn ev w3 (evT L) L wz S):=⟨_,u3,HZ.out⟩
      clear u3
      go_wp2_with fail
      refine⟨⟨k+1,s',s',by omega,by omega,rfl,rfl,by simp,HT⟩,?_⟩
      have e1:natT (.int .i64 ((k:Nat):Int))=k:=by simp[natT]
      have e2:natT (.int .i64 (((k:Nat):Int)+1))=k+1:=by simp[natT]
      rw[e1,e2]
      omega
   ·have h3':¬ ((k:Nat):Int)<300:=by omega
    have HE:Hid (Below w3.heap.size w3 wr):=by
     obtain⟨S,_,t9,L9,h9,_⟩:=HI.out
     exact h9.1.bel
    clear HI
    go_wp2_with fail
    go_ret
    exact⟨rfl,HB3.out.trans (HE.out.mono HB3.out.size)⟩
  ·have hlt':¬ ((k:Nat):Int) < ((len:Nat):Int):=by omega
   have HE:Hid (Below w3.heap.size w3 wr):=by
    obtain⟨S,_,t9,L9,h9,_⟩:=HI.out
    exact h9.1.bel
   clear HI
   go_wp2_with fail
   go_ret
   exact⟨rfl,HB3.out.trans (HE.out.mono HB3.out.size)⟩
theorem topSessions_walk (a0:Option Addr) (len0 cap0:Nat) (a1:Int) (w:World) (w0:OpRow w a0 len0) (w1:(Lit.int .u32 a1).wf=true) :
  Calls Tryz.prog 6 #[.slice a0 len0 cap0,.int .u32 a1] w fun e w'=>e=.returned (.bool true)∧Below w.heap.size w w':=by
 obtain⟨x,rfl,hx⟩:=u32_sn w1
 exact topSessions_any a0 len0 cap0 x hx w w0
end Go.Proofs.YtgaeofgdiaknpaaGreat
