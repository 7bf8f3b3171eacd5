/- Part 29: contracts that the proof rests on. -/
import Derived.Deep.Upon
import Derived.Deep.MidRow
import Derived.Deep.DeepCutAuto
import Derived.Deep.CutBlock
import Derived.Deep.RegionWith
import Derived.Deep.QuietTactic
import Derived.BigQuiet
import Derived.Test.YtenilkloffnjlaaGreatPkO27
set_option maxHeartbeats 64000000
set_option maxRecDepth 100000
namespace Go.Proofs.YtenilkloffnjlaaGreat
open Tryz
open Go.RowKit Go.Maps
set_option linter.unusedVariables false
theorem jE {P:Program} {ops:Array Oper} {rest:List Oper} {op:Oper} {a:Act} {w:World} {Q:Exit→Act→World→Prop} (hgd:op.guard=none) (t:TypeId) (x y:Operand) (ho:op.op=.buildSlice t 2 #[(0,x),(1,y)]) (A B v:Value) (w':World) (hx:a.eval x=A) (hy:a.eval y=B)
  (hrun:(Instr.buildSlice t 2 #[(0,A),(1,B)]).run P w=.ok v w') (h:wpList P ops Q rest (a.put op.dst v) w'):wpList P ops Q (op :: rest) a w:=
 wpList_plain hgd fun _ hK=>by
  unfold Oper.wp execOp
  simp only[ho,Sem.run_bind,Sem.run_pure,Result.andThen_ok,List.map_toArray,List.map_cons,List.map_nil,hx,hy,hrun]
  exact hK _ _ h
theorem zl {e:Nat→Nat} {w0 w:World} {t:Nat→Thing} {L:Pw} {S:Ws} {c1:Nat} (h:PWn e w0 t L w S) (hk:c1<S.n):Calls prog 13 #[ac L.x 0,.int .i64 ((c1:Nat):Int)] w fun r w'=>∃ A B:Array Value,r=.returned (.tuple #[.agg A,.agg B])∧A.size=9∧A.all (·.oneCell')=true∧B.size=9∧B.all (·.oneCell')=true∧Hid (∃ ra rc qa qc,A=#[.int .i64 ((S.hs c1).st:Nat),.int .u32 ((S.hs c1).ss:Nat),.int .u32 ((S.hs c1).nm:Nat),.int .u32 ((S.hs c1).sn:Nat),.int .i64 ((S.hs c1).dc:Nat),.int .i64 (S.hs c1).v.lat,.bool (aq (S.hs c1).v),.bool (aF (S.hs c1).v),.slice ra (S.PH c1).i rc]∧B=#[.int .i64 ((S.ds c1).st:Nat),.int .u32 ((S.ds c1).ss:Nat),.int .u32 ((S.ds c1).nm:Nat),.int .u32 ((S.ds c1).sn:Nat),.int .i64 ((S.ds c1).dc:Nat),.int .i64 (S.ds c1).v.lat,.bool (aq (S.ds c1).v),.bool (aF (S.ds c1).v),.slice qa (S.PD c1).o qc]∧Row8 w' ra (S.PH c1).i rc (bT (S.hs c1).v)∧Row8 w' qa (S.PD c1).o qc (bT (S.ds c1).v)∧Below w.heap.size w w'∧(∀ y,ra=some y→0 < (S.PH c1).i→w.heap.size≤y.block)∧(∀ y,qa=some y→0 < (S.PD c1).o→w.heap.size≤y.block)∧∀ y z,ra=some y→qa=some z→0 < (S.PH c1).i→0 < (S.PD c1).o→y.block≠z.block):=by
 refine (aaN L.x c1 (S.PH c1).i (S.PD c1).o _ _ _ _ _ _ _ _ _ _ _ _ _ _ _ _ (bT (S.hs c1).v) (bT (S.ds c1).v) w (fun w1 b1=>uT (h.below b1) hk) (fun w1 b1=>uU (h.below b1) hk)).mono ?_
 rintro r w' ⟨ra,rc,qa,qc,rfl,H⟩
 exact⟨_,_,rfl,rfl,by kernel_rfl,rfl,by kernel_rfl,ra,rc,qa,qc,rfl,rfl,H.out⟩
theorem jD (a:Option Addr) (len cap:Nat) (w:World) (O:OpRow w a len):Calls prog 6 #[.slice a len cap] w fun r w'=>r=.returned (.bool true)∧Below w.heap.size w w':=by
 have HO:Hid (OpRow w a len):=O
 have hlen:=O.1
 clear O
 have hAw:=we w
 go_enter func6,ntmps6
 go_wp2_with fail
 refine hAw.mono ?_
 rintro r wa ⟨rfl,ba⟩
 clear hAw
 have hNe:=aax wa
 go_wp2_with fail
 refine hNe.mono ?_
 rintro r w1 ⟨g0,v0,g1,v1,rfl,H1⟩
 clear hNe
 have hN:Calls prog 7 #[.agg #[.slice (af g0 0) 2 v0,.slice (af g1 0) 2 v1,.int .u32 50]] w1 fun r w'=>∃ L:Pw,r=.returned (.tuple #[ac L.x 0,.int .i64 0])∧Hid (PW ev w1 w' (ip L) L∧L.S=sN 2 50 uN uN):=aaP uN uN g0 0 v0 g1 0 v1 2 50 rs rs (by decide) (by decide) (by decide) (by decide) H1.out.1 H1.out.2.1 w1 H1.out.2.2.1 H1.out.2.2.2.1 xg
 have HB1:Hid (Below w.heap.size w w1):=ba.trans (H1.out.2.2.2.2.mono ba.size)
 clear H1 ba
 go_wp2_with fail
 refine hN.mono ?_
 rintro r w2 ⟨L,rfl,H2⟩
 clear hN
 obtain⟨X,hX⟩:∃ y,L.x=y:=⟨_,rfl⟩
 rw[hX]
 have HX:Hid (L.x=X):=hX
 clear hX
 have HS0:Hid (∃ S,Go9 S 0∧PWn ev w1 (ip L) L w2 S):=by
  have hp:=H2.out.1.n
  rw[H2.out.2]at hp
  exact⟨_,Go9.start,hp⟩
 clear H2
 go_wp2_with fail
 go_loopw [5,6,7,8,9,10,11,12,22,23,24,25,26,27,28,29,30,31,32,33,34,35,36,37,38,39,40,41,42,43,44,45,46,47,48,49,50,51,52,53,54,55,56,57,58,59,60,61,62,63,64,65,66,67,68,69,70,71,72,73,74,75,76,77,78,79,80,81,82,83,84,85,86,87,88,89,90,91,92,93,94,95] (fun i _ _ _ _ _ _ _ _ _ _ _ _ _ _ _ _ _ _ _ _ _ _ _ _ _ _ _ _ _ _ _ _ _ _ _ _ _ _ _ _ _ _ _ _ _ _ _ _ _ _ _ _ _ _ _ _ _ _ _ _ _ _ _ _ _ _ _ _ _ _ _ _ _ _ _ _ _ _ _ _ _ wr=>∃ k:Nat,k≤len∧k≤300∧i=.int .i64 ((k:Nat):Int)∧Hid (∃ S,Go9 S (5*k)∧PWn ev w1 (ip L) L wr S)) (fun i _ _ _ _ _ _ _ _ _ _ _ _ _ _ _ _ _ _ _ _ _ _ _ _ _ _ _ _ _ _ _ _ _ _ _ _ _ _ _ _ _ _ _ _ _ _ _ _ _ _ _ _ _ _ _ _ _ _ _ _ _ _ _ _ _ _ _ _ _ _ _ _ _ _ _ _ _ _ _ _ _ _=>len-fi i)
 case atStart=>exact⟨0,by omega,by omega,rfl,HS0⟩
 case round=>
  obtain⟨k,hk,hk3,rfl,HI⟩:=hrel
  clear HS0
  by_cases hlt:k<len
  ·have hlt':((k:Nat):Int) < ((len:Nat):Int):=by omega
   by_cases h3:k<300
   ·have h3':((k:Nat):Int)<300:=by omega
    obtain⟨b,off,rfl,hb,hm⟩:=HO.out.2 (by omega)
    obtain⟨m,d,ok,R,hl,hcl⟩:=hm k hlt
    obtain⟨S0,g,hp⟩:=HI.out
    have hbr:Below w.heap.size w wr:=by
     obtain⟨t9,L9,h9,_⟩:=hp
     exact HB1.out.trans (h9.1.bel.mono HB1.out.size)
    have p0:wr.cell? ⟨b,off+k*9,none⟩=some (.int .i64 m.k):=ag (hcl 0 _ rfl) hbr
    have p1:wr.cell? ⟨b,off+k*9+1,none⟩=some (.int .i64 m.c):=ag (hcl 1 _ rfl) hbr
    have p2:wr.cell? ⟨b,off+k*9+2,none⟩=some (.int .i64 m.s):=ag (hcl 2 _ rfl) hbr
    have p3:wr.cell? ⟨b,off+k*9+3,none⟩=some (.int .i64 m.f):=ag (hcl 3 _ rfl) hbr
    have p4:wr.cell? ⟨b,off+k*9+4,none⟩=some (.int .i64 m.a):=ag (hcl 4 _ rfl) hbr
    have p5:wr.cell? ⟨b,off+k*9+5,none⟩=some (.int .u32 (m.w:Nat)):=ag (hcl 5 _ rfl) hbr
    have p6:wr.cell? ⟨b,off+k*9+6,none⟩=some (.int .i64 m.n):=ag (hcl 6 _ rfl) hbr
    have p7:wr.cell? ⟨b,off+k*9+7,none⟩=some (.bool m.h):=ag (hcl 7 _ rfl) hbr
    have p8:wr.cell? ⟨b,off+k*9+8,none⟩=some (.slice d.a m.l d.c):=ag (hcl 8 _ rfl) hbr
    have hCo:=zi m d.a d.c wr (R.below hbr) hl
    have HG:Hid (_):=And.intro g (And.intro ok hl)
    have HP:Hid (PWn ev w1 (ip L) L wr S0):=hp
    clear hm R hcl g hp hbr ok hl hb HI
    go_wp2_with fail
    refine hCo.mono ?_
    rintro r w6 ⟨d6,c6,rfl,H6⟩
    clear hCo p0 p1 p2 p3 p4 p5 p6 p7 p8
    have hPl:Calls prog 11 #[ac X 0,.agg (aj m m.c d6 c6)] w6 fun r w'=>∃ (A:Array Value) (E:Int),r=.returned (.tuple #[.agg A,.int .i64 E])∧Hid (∃ S,Go9 S (5*k+1)∧PWn ev w1 (ip L) L w' S):=by
     have:=zq (i:=0) m d6 c6 (HP.out.below H6.out.2.1) (gX L) HG.out.1.I HG.out.2.1 (by rw[HG.out.1.n];decide) H6.out.1 (fun y hy h0 e=>by
      have h1:=H6.out.2.2 y hy h0
      have h2:L.x<wr.heap.size:=by
       obtain⟨t9,L9,h9,_,hx9,_⟩:=HP.out
       rw[← hx9.x]
       exact (h9.2.wb h9.1).lt _ (by simp[Wc.U,Pw.core])
      omega) HG.out.2.2
     rw[HX.out]at this
     refine this.mono ?_
     rintro r w' ⟨A,E,rfl,_,_,H⟩
     exact⟨A,E,rfl,_,HG.out.1.next HP.out.kn m,H.out.2.1⟩
    go_wp2_with fail
    refine hPl.mono ?_
    rintro r w7 ⟨A0,E,rfl,H7⟩
    clear hPl HG HP H6
    go_wp2_with fail
    go_loopw [6,7,8,9,10,11,12,39,40,41,42,43,44,45,46,47,48,49,50,51,52,53,54,55,56,57,58,59,60,61,62,63,64,65,66,67,68,69,70,71,72,73,74,75,76,77,78,79,80,81,82,83,84,85,86,87,88,89,90,91,92,93,94,95] (fun kk _ _ _ _ _ _ _ _ _ _ _ _ _ _ _ _ _ _ _ _ _ _ _ _ _ _ _ _ _ _ _ _ _ _ _ _ _ _ _ _ _ _ _ _ _ _ _ _ _ _ _ _ _ _ _ _ _ _ _ _ _ _ _ wr=>∃ j:Nat,j≤2∧kk=.int .i64 ((j:Nat):Int)∧Hid (∃ S,Go9 S (5*k+1+2*j)∧PWn ev w1 (ip L) L wr S)) (fun kk _ _ _ _ _ _ _ _ _ _ _ _ _ _ _ _ _ _ _ _ _ _ _ _ _ _ _ _ _ _ _ _ _ _ _ _ _ _ _ _ _ _ _ _ _ _ _ _ _ _ _ _ _ _ _ _ _ _ _ _ _ _ _ _=>2-fi kk)
    case atStart=>exact⟨0,by omega,rfl,H7⟩
    case round=>
     obtain⟨j,hj,rfl,HJ⟩:=hrel
     clear H7
     by_cases hj2:j<2
     ·have hj2':((j:Nat):Int)<2:=by omega
      obtain⟨S,g,hp⟩:=HJ.out
      have hEn:=zl hp (c1:=j) (by rw[g.n];exact hj2)
      rw[HX.out]at hEn
      have HP:Hid (_):=hp
      have HG:Hid (_):=g
      clear HJ hp g
      go_wp2_with fail
      refine hEn.mono ?_
      rintro r w12 ⟨Ah,Ad,rfl,hsAh,hoAh,hsAd,hoAd,H12⟩
      clear hEn
      obtain⟨wy,wz,hst2,hst3,hrA,hrB,hbl⟩:=tl w12 hsAh hoAh hsAd hoAd
      obtain⟨ra,rc,qa,qc,eA,eB,Ra,Rb,bE,nA,nB,ap⟩:=H12.out
      have HRA:Hid (_):=And.intro hrA hrB
      have hbd:(Instr.buildSlice 67 2 #[(0,.agg Ah),(1,.agg Ad)]).run prog wz=.ok (.slice (af wz.heap.size 0) 2 2) (wz.alloc (.cells (Ah ++ Ad) 43)):=by
       rw[eA,eB]
       kernel_rfl
      have HBD:Hid (_):=hbd
      have lA:w12.heap.size<wz.heap.size:=World.block_lt_of_cell? wz _ (hrA 0 Ah[0] (by rw[Array.getElem?_toList,Array.getElem?_eq_getElem (by omega)]))
      have lB:w12.heap.size+1<wz.heap.size:=World.block_lt_of_cell? wz _ (hrB 0 Ad[0] (by rw[Array.getElem?_toList,Array.getElem?_eq_getElem (by omega)]))
      obtain⟨oA,hoA2⟩:∃ o,wz.heap[w12.heap.size]?=some o:=⟨_,Array.getElem?_eq_getElem lA⟩
      obtain⟨oB,hoB2⟩:∃ o,wz.heap[w12.heap.size+1]?=some o:=⟨_,Array.getElem?_eq_getElem lB⟩
      have h1:=PWn.lay2 HP.out bE (i:=2*0+1) (j:=2*1+1) (fun j=>by unfold ev;omega) (fun j=>by unfold ev;omega) (by decide) Ra Rb nA nB ap
      have HL2:Hid (_):=h1
      have HAB:Hid (_):=And.intro eA (And.intro eB (And.intro hrA (And.intro hrB (And.intro hoA2 hoB2))))
      have HLL:Hid (_):=And.intro hbl (And.intro lA lB)
      have hih:(prog.info? 43).map (·.size)=some Ah.size:=by rw[hsAh];kernel_rfl
      have hid:(prog.info? 43).map (·.size)=some Ad.size:=by rw[hsAd];kernel_rfl
      clear hbd h1 hrA hrB hbl lA lB Ra Rb nA nB ap H12 eA eB hoA2 hoB2 bE
      go_wp2_with (first | refine aQ (by kernel_rfl) 43 (.tmp 7) rfl w12.heap.size 0 rfl Ah _ HRA.out.1 underlying43 rfl hih ?_ | refine aQ (by kernel_rfl) 43 (.tmp 8) rfl (w12.heap.size+1) 0 rfl Ad _ HRA.out.2 underlying43 rfl hid ?_ | refine jE rfl 67 (.tmp 49) (.tmp 50) rfl (.agg Ah) (.agg Ad) (.slice (af wz.heap.size 0) 2 2) (wz.alloc (.cells (Ah ++ Ad) 43)) rfl rfl HBD.out ?_)
      have kv:=aA wz (.cells (Ah ++ Ad) 43)
      have bv:=aC (Below.refl _ wz) (.cells (Ah ++ Ad) 43)
      have lz:wz.heap.size < (wz.alloc (.cells (Ah ++ Ad) 43)).heap.size:=(Array.getElem?_eq_some_iff.1 kv).1
      obtain⟨wv,hwv⟩:∃ y,wz.alloc (.cells (Ah ++ Ad) 43)=y:=⟨_,rfl⟩
      obtain⟨sb,hsb⟩:∃ y,wz.heap.size=y:=⟨_,rfl⟩
      rw[hwv]at kv bv lz ⊢
      rw[hsb]at kv lz ⊢
      obtain⟨oS,hoS⟩:∃ o,wv.heap[sb]?=some o:=⟨_,kv⟩
      have kA:wv.heap[w12.heap.size]?=some oA:=(bv.block _ HLL.out.2.1).trans HAB.out.2.2.2.2.1
      have kB:wv.heap[w12.heap.size+1]?=some oB:=(bv.block _ HLL.out.2.2).trans HAB.out.2.2.2.2.2
      have HSb:Hid (wv.heap[sb]?=some oS):=hoS
      have h2:=PWn.layL HL2.out (HLL.out.1.trans (bv.mono HLL.out.1.size)) (i:=2*2+1) (fun j=>by unfold ev;omega) (l:=[(w12.heap.size,oA),(w12.heap.size+1,oB),(sb,oS)]) (fun p hp=>by
       simp only[List.mem_cons,List.not_mem_nil,or_false]at hp
       rcases hp with rfl | rfl | rfl
       ·exact kA
       ·exact kB
       ·exact hoS) (fun p hp=>by
       simp only[List.mem_cons,List.not_mem_nil,or_false]at hp
       rcases hp with rfl | rfl | rfl
       ·exact Nat.le_refl _
       ·exact Nat.le_succ _
       ·have:=HLL.out.2.1;show w12.heap.size≤sb;omega)
      have HS:Hid (∀ s,s<2→∃ Ax:Array Value,Ax.size=9∧Ax.all (·.oneCell')=true∧Ax.toList[6]?=some (.bool (S.vw j s).rq)∧wv.rangeAt sb (s*9) Ax.toList):=fun s hs=>by
       have eA:=HAB.out.1
       have eB:=HAB.out.2.1
       rcases (by omega:s=0∨s=1) with rfl | rfl
       ·refine⟨Ah,hsAh,hoAh,by rw[eA];rfl,fun i u hu=>?_⟩
        have hi:i<Ah.size:=by
         rw[Array.getElem?_toList]at hu
         exact (Array.getElem?_eq_some_iff.1 hu).1
        rw[ae wv sb _ _ _ _ kv,show 0*9+i=i by omega,Array.getElem?_append_left hi,← hu,Array.getElem?_toList]
       ·refine⟨Ad,hsAd,hoAd,by rw[eB];rfl,fun i u hu=>?_⟩
        rw[ae wv sb _ _ _ _ kv,Array.getElem?_append_right (by rw[hsAh];omega),hsAh,show 1*9+i-9=i by omega,← hu,Array.getElem?_toList]
      have HC1:Hid (∃ T,Go9 T (5*k+1+2*j+0)∧Sam S T∧PWn ev w1 (aI (aI (aI (ip L) (2*0+1) (dA ra (S.PH j).i rc (bT (S.hs j).v))) (2*1+1) (dA qa (S.PD j).o qc (bT (S.ds j).v))) (2*2+1) (dN [(w12.heap.size,oA),(w12.heap.size+1,oB),(sb,oS)])) L wv T):=⟨S,HG.out,Sam.refl S,h2⟩
      clear h2 kA kB hoS kv bv lz hwv hsb hst2 hst3 hih hid HRA HBD HLL HL2 HP HG
      go_loopw [53,9,10,11,12,54,55,56,57,58,59,60,61,62,63,64,65,66,67,68,69,70,71,72,73,74,75,76,77,78,79,80,81,82,83,84,85,86,87,88,89,90,91,92,93,94,95] (fun cc _ _ _ _ _ _ _ _ _ _ _ _ _ _ _ _ _ _ _ _ _ _ _ _ _ _ _ _ _ _ _ _ _ _ _ _ _ _ _ _ _ _ _ _ _ _ wr=>∃ s:Nat,s≤2∧cc=.int .i64 ((s:Nat):Int)∧Hid (∃ T,Go9 T (5*k+1+2*j+s)∧Sam S T∧PWn ev w1 (aI (aI (aI (ip L) (2*0+1) (dA ra (S.PH j).i rc (bT (S.hs j).v))) (2*1+1) (dA qa (S.PD j).o qc (bT (S.ds j).v))) (2*2+1) (dN [(w12.heap.size,oA),(w12.heap.size+1,oB),(sb,oS)])) L wr T)) (fun cc _ _ _ _ _ _ _ _ _ _ _ _ _ _ _ _ _ _ _ _ _ _ _ _ _ _ _ _ _ _ _ _ _ _ _ _ _ _ _ _ _ _ _ _ _ _ _=>2-fi cc)
      case atStart=>exact⟨0,by omega,rfl,HC1⟩
      case round=>
       obtain⟨s,hs,rfl,HC0⟩:=hrel
       clear HC1
       by_cases hs2:s<2
       ·have hs2':((s:Nat):Int)<2:=by omega
        obtain⟨T,gT,sm,pT⟩:=HC0.out
        have HC:Hid (Go9 T (5*k+1+2*j+s)∧Sam S T∧PWn ev w1 (aI (aI (aI (ip L) (2*0+1) (dA ra (S.PH j).i rc (bT (S.hs j).v))) (2*1+1) (dA qa (S.PD j).o qc (bT (S.ds j).v))) (2*2+1) (dN [(w12.heap.size,oA),(w12.heap.size+1,oB),(sb,oS)])) L wr T):=⟨gT,sm,pT⟩
        have kS:=pT.box (q:=2*2+1) (fun j=>by unfold ev;omega) (ak _ _ _) (sb,oS) (by simp)
        obtain⟨Ax,hvx,hone,hrq,hrx0⟩:=HS.out s hs2
        have rx:wr.rangeAt sb (s*9) Ax.toList:=fun i u hu=>by
         have:=hrx0 i u hu
         exact (World.cell?_of_block (a:=⟨sb,s*9+i,none⟩) (kS.trans HSb.out.symm)).trans this
        obtain⟨wx,hsx,hrx,hbx,_⟩:=fq wr hvx hone
        have hix:(prog.info? 43).map (·.size)=some Ax.size:=by rw[hvx];kernel_rfl
        have bx:Below wr.heap.size wr wx:=hbx
        have x6:wx.cell? ⟨wr.heap.size,6,none⟩=some (.bool (S.vw j s).rq):=hrx 6 _ hrq
        have HRX:Hid (_):=rx
        have HBX:Hid (Below wr.heap.size wr wx):=bx
        obtain⟨RQ,hRQ⟩:∃ y,(S.vw j s).rq=y:=⟨_,rfl⟩
        rw[hRQ]at x6
        have HRQ:Hid ((S.vw j s).rq=RQ):=hRQ
        clear gT sm pT kS hrx0 rx hrx hrq hRQ bx hbx hone HC0
        go_upto_region 16 with fail
        go_upto_region 17 with (refine aQ (by kernel_rfl) 43 (.tmp 56) rfl sb (s*9) rfl Ax _ HRX.out underlying43 rfl hix ?_)
        clear hsx
        cases RQ
        ·have bx:=HBX.out
         have hAk:=nC (S:=T) (j:=j) (s:=s) (by have:=HC.out.1.mv;omega) (by rw[HC.out.1.n];exact hj2) hs2 (by rw[HC.out.2.1.vw];exact HRQ.out)
         have hPl:Calls prog 11 #[ac X 0,.agg #[.int .i64 6,.int .i64 ((j:Nat):Int),.int .i64 (((s:Nat):Int)+1),.int .i64 0,.int .i64 0,.int .u32 0,.int .i64 0,.bool false,.slice none 0 0]] wx fun r w'=>∃ (A:Array Value),r=.returned (.tuple #[.agg A,.int .i64 0])∧A.size=29∧A.all (·.oneCell')=true∧Hid (PWn ev w1 (aI (aI (aI (ip L) (2*0+1) (dA ra (S.PH j).i rc (bT (S.hs j).v))) (2*1+1) (dA qa (S.PD j).o qc (bT (S.ds j).v))) (2*2+1) (dN [(w12.heap.size,oA),(w12.heap.size+1,oB),(sb,oS)])) L w' (T.play (dP j s)).S∧(∃ ec:Int,(ec=110∨ec=70)∧A.toList[1+8]?=some (.int .i64 ec))∧∃ (hV dV:Array Value) (ah:Option Addr) (ch:Nat) (ad:Option Addr) (cd:Nat),hV=#[.int .i64 ((S.hs j).st:Nat),.int .u32 ((S.hs j).ss:Nat),.int .u32 ((S.hs j).nm:Nat),.int .u32 ((S.hs j).sn:Nat),.int .i64 ((S.hs j).dc:Nat),.int .i64 (S.hs j).v.lat,.bool (aq (S.hs j).v),.bool (aF (S.hs j).v),.slice ah (S.PH j).i ch]∧dV=#[.int .i64 ((S.ds j).st:Nat),.int .u32 ((S.ds j).ss:Nat),.int .u32 ((S.ds j).nm:Nat),.int .u32 ((S.ds j).sn:Nat),.int .i64 ((S.ds j).dc:Nat),.int .i64 (S.ds j).v.lat,.bool (aq (S.ds j).v),.bool (aF (S.ds j).v),.slice ad (S.PD j).o cd]∧(∀ i v,hV.toList[i]?=some v→A.toList[11+i]?=some v)∧(∀ i v,dV.toList[i]?=some v→A.toList[20+i]?=some v)∧Row8 w' ah (S.PH j).i ch (bT (S.hs j).v)∧Row8 w' ad (S.PD j).o cd (bT (S.ds j).v)):=by
          have F4:Fre ev (aI (aI (aI (ip L) (2*0+1) (dA ra (S.PH j).i rc (bT (S.hs j).v))) (2*1+1) (dA qa (S.PD j).o qc (bT (S.ds j).v))) (2*2+1) (dN [(w12.heap.size,oA),(w12.heap.size+1,oB),(sb,oS)])) 3:=(((gX L).put _).put _).put _
          have:=jm (i:=3) (dP j s) none 0 (HC.out.2.2.below bx) F4 HC.out.1.I ⟨by show (-9223372036854775808:Int)≤6∧(6:Int)≤9223372036854775807;decide,by show -9223372036854775808 ≤ ((j:Nat):Int)∧((j:Nat):Int)≤9223372036854775807;omega,by show -9223372036854775808 ≤ ((s:Nat):Int)+1∧((s:Nat):Int)+1≤9223372036854775807;omega,by show (-9223372036854775808:Int)≤0∧(0:Int)≤9223372036854775807;decide,by show (-9223372036854775808:Int)≤0∧(0:Int)≤9223372036854775807;decide,by show (0:Nat)<4294967296;decide,by show (-9223372036854775808:Int)≤0∧(0:Int)≤9223372036854775807;decide⟩ (by rw[HC.out.1.n];decide) (cy _ _) (fun y hy=>by cases hy) (by show (0:Nat)≤140737488351232;decide)
          rw[HX.out]at this
          refine Calls.mono this ?_
          rintro r w' ⟨A,E,rfl,sA,oA,H⟩
          obtain⟨k0,k1,k2,k3,_⟩:=hAk
          obtain⟨fx1,fx2,_⟩:=kF HC.out.1.I HC.out.2.2.kn (dP j s)
          obtain⟨e0,hp,hr⟩:=H.out
          obtain⟨a9,a10,hV,dV,ah,ch,ad,cd,eH,eD,aH,aD,rH,rD⟩:=hr k0
          have ec2:(dP j s).c.toNat=j:=Int.toNat_natCast j
          rw[ec2,k2,HC.out.2.1.hs,fx1,HC.out.2.1.ph]at eH rH
          rw[ec2,k3,HC.out.2.1.ds,fx2,HC.out.2.1.pd]at eD rD
          rw[k0]at e0
          subst e0
          exact⟨A,rfl,sA,oA,hp,⟨_,k1,a9⟩,hV,dV,ah,ch,ad,cd,eH,eD,aH,aD,rH,rD⟩
         have HSm:Hid (Go9 (T.play (dP j s)).S (5*k+1+2*j + (s+1))∧Sam S (T.play (dP j s)).S):=⟨HC.out.1.next HC.out.2.2.kn _,HC.out.2.1.next HC.out.1 HC.out.2.2.kn (by omega) hj2 hs2 (by rw[HC.out.2.1.vw];exact HRQ.out)⟩
         clear hAk
         go_wp2_with fail
         refine hPl.mono ?_
         rintro r w17 ⟨A2,rfl,hsA2,hoA2,H17⟩
         clear hPl
         obtain⟨w18,hst3,hrg3,hbl3⟩:=i4 w17 hsA2 hoA2
         obtain⟨hp17,⟨ec,hec,a9⟩,hV,dV,ah,ch,ad,cd,eH,eD,aH,aD,rH,rD⟩:=H17.out
         have r1:=hp17.rowq (q:=2*0+1) (fun j=>by unfold ev;omega) (by rw[al _ _ (by decide),al _ _ (by decide)];exact ak _ _ _)
         have r2:=hp17.rowq (q:=2*1+1) (fun j=>by unfold ev;omega) (by rw[al _ _ (by decide)];exact ak _ _ _)
         have kA:=hp17.box (q:=2*2+1) (fun j=>by unfold ev;omega) (ak _ _ _) (w12.heap.size,oA) (by simp)
         have kB:=hp17.box (q:=2*2+1) (fun j=>by unfold ev;omega) (ak _ _ _) (w12.heap.size+1,oB) (by simp)
         have sV:hV.size=9:=by rw[eH];rfl
         have sD:dV.size=9:=by rw[eD];rfl
         have HSH:Hid (∀ wx,Below w17.heap.size w17 wx→Calls prog 16 #[.agg hV,.agg Ah] wx fun e w'=>e=.returned (.bool true)∧Below wx.heap.size wx w'):=fun wx b=>by
          rw[HAB.out.1,eH]
          exact kK _ _ _ _ _ _ _ _ _ _ _ _ _ _ _ _ wx (rH.below b) (r1.below b) rfl
         have HSD:Hid (∀ wx,Below w17.heap.size w17 wx→Calls prog 16 #[.agg dV,.agg Ad] wx fun e w'=>e=.returned (.bool true)∧Below wx.heap.size wx w'):=fun wx b=>by
          rw[HAB.out.2.1,eD]
          exact kK _ _ _ _ _ _ _ _ _ _ _ _ _ _ _ _ wx (rD.below b) (r2.below b) rfl
         have HcA:Hid (w18.rangeAt w12.heap.size 0 Ah.toList∧w18.rangeAt (w12.heap.size+1) 0 Ad.toList∧w18.rangeAt w17.heap.size 11 hV.toList∧w18.rangeAt w17.heap.size 20 dV.toList):=⟨fun j v hv=>(World.cell?_of_block (a:=⟨w12.heap.size,0+j,none⟩) ((hbl3.block _ (Array.getElem?_eq_some_iff.1 kA).1).trans (kA.trans HAB.out.2.2.2.2.1.symm))).trans (HAB.out.2.2.1 j v hv),fun j v hv=>(World.cell?_of_block (a:=⟨w12.heap.size+1,0+j,none⟩) ((hbl3.block _ (Array.getElem?_eq_some_iff.1 kB).1).trans (kB.trans HAB.out.2.2.2.2.2.symm))).trans (HAB.out.2.2.2.1 j v hv),fun j v hv=>by have:=hrg3 (11+j) v (aH j v hv);rw[Nat.zero_add]at this;exact this,fun j v hv=>by have:=hrg3 (20+j) v (aD j v hv);rw[Nat.zero_add]at this;exact this⟩
         have c9:w18.cell? ⟨w17.heap.size,9,none⟩=some (.int .i64 ec):=hrg3 9 _ a9
         have hiA:(prog.info? 43).map (·.size)=some Ah.size:=by rw[hsAh];kernel_rfl
         have hiB:(prog.info? 43).map (·.size)=some Ad.size:=by rw[hsAd];kernel_rfl
         have hiH:(prog.info? 43).map (·.size)=some hV.size:=by rw[sV];kernel_rfl
         have hiD:(prog.info? 43).map (·.size)=some dV.size:=by rw[sD];kernel_rfl
         have HW:Hid (Below w17.heap.size w17 w18):=hbl3
         have HPW:Hid (PWn ev w1 (aI (aI (aI (ip L) (2*0+1) (dA ra (S.PH j).i rc (bT (S.hs j).v))) (2*1+1) (dA qa (S.PD j).o qc (bT (S.ds j).v))) (2*2+1) (dN [(w12.heap.size,oA),(w12.heap.size+1,oB),(sb,oS)])) L w17 (T.play (dP j s)).S):=hp17
         have hSH3:=HSH.out w18 hbl3
         clear hrg3 hbl3 hp17 H17 r1 r2 kA kB sV sD eH eD aH aD rH rD a9
         have q0:((0:Int) != 0)=false:=rfl
         rcases hec with rfl | rfl
         ·go_wp2_with (first | refine aQ (by kernel_rfl) 43 (.tmp 82) rfl w17.heap.size 11 rfl hV _ HcA.out.2.2.1 underlying43 rfl hiH ?_ | refine aQ (by kernel_rfl) 43 (.tmp 7) rfl w12.heap.size 0 rfl Ah _ HcA.out.1 underlying43 rfl hiA ?_)
          refine hSH3.mono ?_
          rintro r w19 ⟨rfl,b19⟩
          have hSD4:=HSD.out w19 (HW.out.trans (b19.mono HW.out.size))
          have HcB:Hid (w19.rangeAt (w12.heap.size+1) 0 Ad.toList∧w19.rangeAt w17.heap.size 20 dV.toList):=⟨fun j v hv=>ag (HcA.out.2.1 j v hv) b19,fun j v hv=>ag (HcA.out.2.2.2 j v hv) b19⟩
          have HB19:Hid (Below w17.heap.size w17 w19):=HW.out.trans (b19.mono HW.out.size)
          clear b19 hSH3
          go_wp2_with (first | refine aQ (by kernel_rfl) 43 (.tmp 89) rfl w17.heap.size 20 rfl dV _ HcB.out.2 underlying43 rfl hiD ?_ | refine aQ (by kernel_rfl) 43 (.tmp 8) rfl (w12.heap.size+1) 0 rfl Ad _ HcB.out.1 underlying43 rfl hiB ?_)
          refine hSD4.mono ?_
          rintro r w20 ⟨rfl,b20⟩
          have HN:Hid (∃ T,Go9 T (5*k+1+2*j + (s+1))∧Sam S T∧PWn ev w1 (aI (aI (aI (ip L) (2*0+1) (dA ra (S.PH j).i rc (bT (S.hs j).v))) (2*1+1) (dA qa (S.PD j).o qc (bT (S.ds j).v))) (2*2+1) (dN [(w12.heap.size,oA),(w12.heap.size+1,oB),(sb,oS)])) L w20 T):=⟨_,HSm.out.1,HSm.out.2,HPW.out.below (HB19.out.trans (b20.mono HB19.out.size))⟩
          clear hSD4 b20
          go_wp2_with fail
          refine⟨⟨s+1,by omega,by simp,HN⟩,?_⟩
          have e1:fi (.int .i64 ((s:Nat):Int))=s:=by simp[fi]
          have e2:fi (.int .i64 (((s:Nat):Int)+1))=s+1:=by simp[fi]
          rw[e1,e2]
          omega
         ·go_wp2_with (first | refine aQ (by kernel_rfl) 43 (.tmp 82) rfl w17.heap.size 11 rfl hV _ HcA.out.2.2.1 underlying43 rfl hiH ?_ | refine aQ (by kernel_rfl) 43 (.tmp 7) rfl w12.heap.size 0 rfl Ah _ HcA.out.1 underlying43 rfl hiA ?_)
          refine hSH3.mono ?_
          rintro r w19 ⟨rfl,b19⟩
          have hSD4:=HSD.out w19 (HW.out.trans (b19.mono HW.out.size))
          have HcB:Hid (w19.rangeAt (w12.heap.size+1) 0 Ad.toList∧w19.rangeAt w17.heap.size 20 dV.toList):=⟨fun j v hv=>ag (HcA.out.2.1 j v hv) b19,fun j v hv=>ag (HcA.out.2.2.2 j v hv) b19⟩
          have HB19:Hid (Below w17.heap.size w17 w19):=HW.out.trans (b19.mono HW.out.size)
          clear b19 hSH3
          go_wp2_with (first | refine aQ (by kernel_rfl) 43 (.tmp 89) rfl w17.heap.size 20 rfl dV _ HcB.out.2 underlying43 rfl hiD ?_ | refine aQ (by kernel_rfl) 43 (.tmp 8) rfl (w12.heap.size+1) 0 rfl Ad _ HcB.out.1 underlying43 rfl hiB ?_)
          refine hSD4.mono ?_
          rintro r w20 ⟨rfl,b20⟩
          have HN:Hid (∃ T,Go9 T (5*k+1+2*j + (s+1))∧Sam S T∧PWn ev w1 (aI (aI (aI (ip L) (2*0+1) (dA ra (S.PH j).i rc (bT (S.hs j).v))) (2*1+1) (dA qa (S.PD j).o qc (bT (S.ds j).v))) (2*2+1) (dN [(w12.heap.size,oA),(w12.heap.size+1,oB),(sb,oS)])) L w20 T):=⟨_,HSm.out.1,HSm.out.2,HPW.out.below (HB19.out.trans (b20.mono HB19.out.size))⟩
          clear hSD4 b20
          go_wp2_with fail
          refine⟨⟨s+1,by omega,by simp,HN⟩,?_⟩
          have e1:fi (.int .i64 ((s:Nat):Int))=s:=by simp[fi]
          have e2:fi (.int .i64 (((s:Nat):Int)+1))=s+1:=by simp[fi]
          rw[e1,e2]
          omega
        ·have HN:Hid (∃ T,Go9 T (5*k+1+2*j + (s+1))∧Sam S T∧PWn ev w1 (aI (aI (aI (ip L) (2*0+1) (dA ra (S.PH j).i rc (bT (S.hs j).v))) (2*1+1) (dA qa (S.PD j).o qc (bT (S.ds j).v))) (2*2+1) (dN [(w12.heap.size,oA),(w12.heap.size+1,oB),(sb,oS)])) L wx T):=⟨T,HC.out.1.more (by omega),HC.out.2.1,HC.out.2.2.below HBX.out⟩
         go_wp2_with fail
         refine⟨⟨s+1,by omega,by simp,HN⟩,?_⟩
         have e1:fi (.int .i64 ((s:Nat):Int))=s:=by simp[fi]
         have e2:fi (.int .i64 (((s:Nat):Int)+1))=s+1:=by simp[fi]
         rw[e1,e2]
         omega
       ·have hs2':¬ ((s:Nat):Int)<2:=by omega
        have HE2:Hid (∃ S,Go9 S (5*k+1+2 * (j+1))∧PWn ev w1 (ip L) L wr S):=by
         obtain⟨T,gT,sm,pT⟩:=HC0.out
         exact⟨T,gT.more (by omega),((pT.drop (fun j=>by unfold ev;omega) (by rw[al _ _ (by decide),al _ _ (by decide)];exact ((gX L) 2 (by decide)).2)).drop (fun j=>by unfold ev;omega) (by rw[al _ _ (by decide)];exact ((gX L) 1 (by decide)).2)).drop (fun j=>by unfold ev;omega) ((gX L) 0 (by decide)).2⟩
        clear HC0
        go_wp2_with fail
        refine⟨⟨j+1,by omega,by simp,HE2⟩,?_⟩
        have e1:fi (.int .i64 ((j:Nat):Int))=j:=by simp[fi]
        have e2:fi (.int .i64 (((j:Nat):Int)+1))=j+1:=by simp[fi]
        rw[e1,e2]
        omega
     ·have hj2':¬ ((j:Nat):Int)<2:=by omega
      have HT:Hid (∃ S,Go9 S (5 * (k+1))∧PWn ev w1 (ip L) L wr S):=by
       obtain⟨T,gT,pT⟩:=HJ.out
       exact⟨T,gT.more (by omega),pT⟩
      clear HJ
      go_wp2_with fail
      refine⟨⟨k+1,by omega,by omega,by simp,HT⟩,?_⟩
      have e1:fi (.int .i64 ((k:Nat):Int))=k:=by simp[fi]
      have e2:fi (.int .i64 (((k:Nat):Int)+1))=k+1:=by simp[fi]
      rw[e1,e2]
      omega
   ·have h3':¬ ((k:Nat):Int)<300:=by omega
    have HE:Hid (Below w1.heap.size w1 wr):=by
     obtain⟨S,_,t9,L9,h9,_⟩:=HI.out
     exact h9.1.bel
    clear HI
    go_wp2_with fail
    go_ret
    exact⟨rfl,HB1.out.trans (HE.out.mono HB1.out.size)⟩
  ·have hlt':¬ ((k:Nat):Int) < ((len:Nat):Int):=by omega
   have HE:Hid (Below w1.heap.size w1 wr):=by
    obtain⟨S,_,t9,L9,h9,_⟩:=HI.out
    exact h9.1.bel
   clear HI
   go_wp2_with fail
   go_ret
   exact⟨rfl,HB1.out.trans (HE.out.mono HB1.out.size)⟩
theorem topOperator_walk (a0:Option Addr) (len0 cap0:Nat) (w:World) (w0:OpRow w a0 len0) :
  Calls prog 6 #[.slice a0 len0 cap0] w fun e w'=>e=.returned (.bool true)∧Below w.heap.size w w':=jD a0 len0 cap0 w w0
end Go.Proofs.YtenilkloffnjlaaGreat
