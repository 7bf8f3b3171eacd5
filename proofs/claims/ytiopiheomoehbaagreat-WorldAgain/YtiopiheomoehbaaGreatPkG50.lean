/- Part 51 of the texts on which the proof rests: contracts of Go functions. -/
import Derived.Test.YtiopiheomoehbaaGreatPkG37
import Derived.Test.YtiopiheomoehbaaGreatPkG48
import Derived.Test.YtiopiheomoehbaaGreatPkG49
namespace Go.Proofs.YtiopiheomoehbaaGreat
set_option maxRecDepth 100000
open Go.RowKit Go.Maps
set_option linter.unusedVariables false
theorem pgM_ok:∀ k,k<3→Pok (pgM k):=fun k hk=>by
 have:k=0∨k=1∨k=2:=by omega
 rcases this with rfl | rfl | rfl <;> exact⟨by unfold okP pgM;decide,by decide,by decide⟩
theorem pgM_ck:ckE 3 3 50 (fun i=>(pgM i).q) (fun i=>(pgM i).q)=0:=by decide
structure Ag (S:Ws) (k:Nat):Prop where
 I:S.In
 fd:Fdl S.fs
 n:0<S.n
 mv:S.mv≤k
theorem Ag.start:Ag (sN 3 50 pgM pgM) 0:=⟨sN_in _ _ _ _,Fdl.nil,by decide,Nat.le_refl _⟩
theorem Ag.next {S:Ws} {k:Nat} (h:Ag S k) (K:S.Kn) {m:Mv} (K2:(S.play m).S.Kn):Ag (S.play m).S (k+1):=by
 refine⟨h.I.play K,fdPlay K K2 h.fd,by rw[play_n];exact h.n,?_⟩
 by_cases hb:S.bad m=0
 ·have l:=Ws.Law.of hb
  have K':S.up.Kn:=⟨K.ph,K.pd,K.ha,K.da,K.mo,K.fb⟩
  have q:=(stpAct K' (h.I.ih _ l.kn) (h.I.iv _ l.kn) l).mv
  have hp:(S.play m).S.mv=(S.up.act m).S.mv:=by
   unfold Ws.play
   rw[if_neg (fun q=>q hb)]
   rfl
  rw[hp,q]
  have:=h.mv
  show S.mv+1≤k+1
  omega
 ·rw[play_bad hb]
  have:=h.mv
  omega
set_option maxHeartbeats 16000000 in
theorem worldAgain_any (a:Option Addr) (len cap:Nat) (w:World) (O:OpRow w a len):Calls Tryz.prog 4 #[.slice a len cap] w fun r w'=>r=.returned (.bool true)∧Below w.heap.size w w':=by
 have hAw:=awake17q w
 have HO:Hid (OpRow w a len):=O
 have hlen:=O.1
 clear O
 go_enter Tryz.func4,Tryz.ntmps4
 go_wp2_with fail
 refine hAw.mono ?_
 rintro r w1 ⟨rfl,b1⟩
 clear hAw
 have hPa:=ppair2 w1
 have HB1:Hid (Below w.heap.size w w1):=b1
 clear b1
 go_wp2_with fail
 refine hPa.mono ?_
 rintro r w2 ⟨a00,c00,a01,c01,rfl,H2⟩
 clear hPa
 have HB2:Hid (Below w.heap.size w w2):=HB1.out.trans (H2.out.2.2.2.2.mono HB1.out.size)
 have hq00:∃ q o,a00=some ⟨q,o,none⟩:=by
  obtain⟨q,o,e,_⟩:=H2.out.2.2.1 0 (by decide)
  exact⟨q,o,e⟩
 have hq01:∃ q o,a01=some ⟨q,o,none⟩:=by
  obtain⟨q,o,e,_⟩:=H2.out.2.2.2.1 0 (by decide)
  exact⟨q,o,e⟩
 obtain⟨q00,o00,rfl⟩:=hq00
 obtain⟨q01,o01,rfl⟩:=hq01
 have hN:Calls Tryz.prog 6 #[.agg #[.slice (some ⟨q00,o00,none⟩) 3 c00,.slice (some ⟨q01,o01,none⟩) 3 c01,.int .u32 50]] w2 fun r w'=>∃ L:Pw,r=.returned (.tuple #[.pointer (some ⟨L.x,0,none⟩),.int .i64 0])∧Hid (PW ev w2 w' (evT L) L∧L.S=sN 3 50 pgM pgM):=wnewQ pgM pgM q00 o00 c00 q01 o01 c01 3 50 pgM_ok pgM_ok (by decide) (by decide) (by decide) (by decide) H2.out.1 H2.out.2.1 w2 H2.out.2.2.1 H2.out.2.2.2.1 pgM_ck
 go_wp2_with fail
 refine hN.mono ?_
 rintro r w3 ⟨La,rfl,H3⟩
 clear hN
 obtain⟨xa,hxa⟩:∃ y,La.x=y:=⟨_,rfl⟩
 rw[hxa]
 have HXA:Hid (La.x=xa):=hxa
 clear hxa
 have hPa:=ppair2 w3
 go_wp2_with fail
 refine hPa.mono ?_
 rintro r w4 ⟨a10,c10,a11,c11,rfl,H4⟩
 clear hPa
 have hq10:∃ q o,a10=some ⟨q,o,none⟩:=by
  obtain⟨q,o,e,_⟩:=H4.out.2.2.1 0 (by decide)
  exact⟨q,o,e⟩
 have hq11:∃ q o,a11=some ⟨q,o,none⟩:=by
  obtain⟨q,o,e,_⟩:=H4.out.2.2.2.1 0 (by decide)
  exact⟨q,o,e⟩
 obtain⟨q10,o10,rfl⟩:=hq10
 obtain⟨q11,o11,rfl⟩:=hq11
 have hN:Calls Tryz.prog 6 #[.agg #[.slice (some ⟨q10,o10,none⟩) 3 c10,.slice (some ⟨q11,o11,none⟩) 3 c11,.int .u32 50]] w4 fun r w'=>∃ L:Pw,r=.returned (.tuple #[.pointer (some ⟨L.x,0,none⟩),.int .i64 0])∧Hid (PW ev w4 w' (evT L) L∧L.S=sN 3 50 pgM pgM):=wnewQ pgM pgM q10 o10 c10 q11 o11 c11 3 50 pgM_ok pgM_ok (by decide) (by decide) (by decide) (by decide) H4.out.1 H4.out.2.1 w4 H4.out.2.2.1 H4.out.2.2.2.1 pgM_ck
 go_wp2_with fail
 refine hN.mono ?_
 rintro r w5 ⟨Lb,rfl,H5⟩
 clear hN
 obtain⟨xb,hxb⟩:∃ y,Lb.x=y:=⟨_,rfl⟩
 rw[hxb]
 have HS0:Hid (∃ S,Ag S 0∧DW w2 xa xb w5 S):=by
  have:=DW.join (H3.out.1.below H4.out.2.2.2.2) H5.out.1 H3.out.2 H5.out.2
  rw[HXA.out,hxb]at this
  exact⟨_,Ag.start,this⟩
 clear hxb
 go_wp2_with fail
 go_loopw [7,8,9,10,11,24,25,26,27,28,29,30,31,32,33,34,35,36,37,38,39,40,41,42,43,44,45,46,47,48,49,50,51,52,53,54,55,56,57,58,59,60,61,62] (fun i _ _ _ _ _ _ _ _ _ _ _ _ _ _ _ _ _ _ _ _ _ _ _ _ _ _ _ _ _ _ _ _ _ _ _ _ _ _ _ _ _ _ _ wr=>∃ k:Nat,k≤len∧k≤300∧i=.int .i64 ((k:Nat):Int)∧Hid (∃ S,Ag S k∧DW w2 xa xb wr S)) (fun i _ _ _ _ _ _ _ _ _ _ _ _ _ _ _ _ _ _ _ _ _ _ _ _ _ _ _ _ _ _ _ _ _ _ _ _ _ _ _ _ _ _ _ _=>len-natQ i)
 case atStart=>exact⟨0,by omega,by omega,rfl,HS0⟩
 case round=>
  obtain⟨k,hk,hk3,rfl,HI⟩:=hrel
  clear HS0
  by_cases hlt:k<len
  ·have hlt':((k:Nat):Int) < ((len:Nat):Int):=by omega
   by_cases h3:k<300
   ·have h3':((k:Nat):Int)<300:=by omega
    obtain⟨b,off,rfl,hb,hm⟩:=HO.out.2 (by omega)
    obtain⟨m,d,ok,R,hl,hcl⟩:=hm k hlt
    obtain⟨S,g,hp⟩:=HI.out
    have HM:Hid (_):=And.intro R hcl
    have hbr:Below w.heap.size w wr:=HB2.out.trans (hp.bel.mono HB2.out.size)
    have p0:wr.cell? ⟨b,off+k*9,none⟩=some (.int .i64 m.k):=cellY (hcl 0 _ rfl) hbr
    have p1:wr.cell? ⟨b,off+k*9+1,none⟩=some (.int .i64 m.c):=cellY (hcl 1 _ rfl) hbr
    have p2:wr.cell? ⟨b,off+k*9+2,none⟩=some (.int .i64 m.s):=cellY (hcl 2 _ rfl) hbr
    have p3:wr.cell? ⟨b,off+k*9+3,none⟩=some (.int .i64 m.f):=cellY (hcl 3 _ rfl) hbr
    have p4:wr.cell? ⟨b,off+k*9+4,none⟩=some (.int .i64 m.a):=cellY (hcl 4 _ rfl) hbr
    have p5:wr.cell? ⟨b,off+k*9+5,none⟩=some (.int .u32 (m.w:Nat)):=cellY (hcl 5 _ rfl) hbr
    have p6:wr.cell? ⟨b,off+k*9+6,none⟩=some (.int .i64 m.n):=cellY (hcl 6 _ rfl) hbr
    have p7:wr.cell? ⟨b,off+k*9+7,none⟩=some (.bool m.h):=cellY (hcl 7 _ rfl) hbr
    have p8:wr.cell? ⟨b,off+k*9+8,none⟩=some (.slice d.a m.l d.c):=cellY (hcl 8 _ rfl) hbr
    have hCo:=pcopyY m d.a d.c wr (R.below hbr) hl
    have HG:Hid (_):=And.intro g (And.intro hp (And.intro ok hl))
    have HBr:Hid (_):=hbr
    clear hm R hcl g hp hbr ok hl hb HI
    go_wp2_with fail
    refine hCo.mono ?_
    rintro r w6 ⟨d6,c6,rfl,H6⟩
    clear hCo p0 p1 p2 p3 p4 p5 p6 p7 p8
    have hPl:=dplayA m d6 c6 (HG.out.2.1.below H6.out.2.1) HG.out.1.I HG.out.2.2.1 HG.out.1.n H6.out.1 (fun y hy h0 e=>by have h1:=H6.out.2.2 y hy h0;have h2:=HG.out.2.1.lt.1;omega) HG.out.2.2.2
    go_wp2_with fail
    refine hPl.mono ?_
    rintro r w7 ⟨A,E,rfl,hsA,hoA,H7⟩
    clear hPl
    obtain⟨wz,hst1,hrg1,hbl1⟩:=storeRow w7 hsA hoA
    have l7:w7.heap.size<wz.heap.size:=by
     have c1:=World.block_lt_of_cell? wz _ (hrg1 0 A[0] (by rw[Array.getElem?_toList,Array.getElem?_eq_getElem (by omega)]))
     exact c1
    obtain⟨ob,hob⟩:∃ ob,wz.heap[w7.heap.size]?=some ob:=⟨_,Array.getElem?_eq_getElem l7⟩
    have hDM:=H7.out.2.lay hbl1 (l:=[(w7.heap.size,ob)]) (fun p hp=>by
     simp only[List.mem_cons,List.not_mem_nil,or_false]at hp
     subst hp
     exact hob) (fun p hp=>by
     simp only[List.mem_cons,List.not_mem_nil,or_false]at hp
     subst hp
     exact Nat.le_refl _)
    have hbz:Below w.heap.size w wz:=HB2.out.trans (hDM.bel.mono HB2.out.size)
    obtain⟨R,hcl⟩:=HM.out
    have p0:wz.cell? ⟨b,off+k*9,none⟩=some (.int .i64 m.k):=cellY (hcl 0 _ rfl) hbz
    have p1:wz.cell? ⟨b,off+k*9+1,none⟩=some (.int .i64 m.c):=cellY (hcl 1 _ rfl) hbz
    have p2:wz.cell? ⟨b,off+k*9+2,none⟩=some (.int .i64 m.s):=cellY (hcl 2 _ rfl) hbz
    have p3:wz.cell? ⟨b,off+k*9+3,none⟩=some (.int .i64 m.f):=cellY (hcl 3 _ rfl) hbz
    have p4:wz.cell? ⟨b,off+k*9+4,none⟩=some (.int .i64 m.a):=cellY (hcl 4 _ rfl) hbz
    have p5:wz.cell? ⟨b,off+k*9+5,none⟩=some (.int .u32 (m.w:Nat)):=cellY (hcl 5 _ rfl) hbz
    have p6:wz.cell? ⟨b,off+k*9+6,none⟩=some (.int .i64 m.n):=cellY (hcl 6 _ rfl) hbz
    have p7:wz.cell? ⟨b,off+k*9+7,none⟩=some (.bool m.h):=cellY (hcl 7 _ rfl) hbz
    have p8:wz.cell? ⟨b,off+k*9+8,none⟩=some (.slice d.a m.l d.c):=cellY (hcl 8 _ rfl) hbz
    have hCo:=pcopyY m d.a d.c wz (R.below hbz) HG.out.2.2.2
    have HD:Hid (_):=And.intro hDM (And.intro hob (And.intro hrg1 l7))
    clear hrg1 hbl1 hbz R hcl hDM hob l7
    go_wp2_with fail
    refine hCo.mono ?_
    rintro r w8 ⟨d8,c8,rfl,H8⟩
    clear hCo hst1 p0 p1 p2 p3 p4 p5 p6 p7 p8
    have hPl:=dplayB m A [(w7.heap.size,ob)] d8 c8 (HD.out.1.below H8.out.2.1) HG.out.1.I HG.out.2.2.1 HG.out.1.n H8.out.1 (fun y hy h0 e=>by have h1:=H8.out.2.2 y hy h0;have h2:=HD.out.1.lt;omega) HG.out.2.2.2
    go_wp2_with fail
    refine hPl.mono ?_
    rintro r w9 ⟨A2,E2,rfl,hsA2,hoA2,H9⟩
    clear hPl
    obtain rfl:E2=E:=H9.out.1.trans H7.out.1.symm
    obtain⟨wy,hst2,hrg2,hbl2⟩:=storeRow w9 hsA2 hoA2
    have k9:w9.heap[w7.heap.size]?=some ob:=H9.out.2.2.2.2 _ (List.mem_cons_self ..)
    have ky:wy.heap[w7.heap.size]?=wz.heap[w7.heap.size]?:=(hbl2.block _ (Array.getElem?_eq_some_iff.1 k9).1).trans (k9.trans HD.out.2.1.symm)
    have hrg1:wy.rangeAt w7.heap.size 0 A.toList:=fun j v hv=>(World.cell?_of_block (a:=⟨w7.heap.size,0+j,none⟩) ky).trans (HD.out.2.2.1 j v hv)
    have hi1:(Tryz.prog.info? 41).map (·.size)=some A.size:=by rw[hsA];kernel_rfl
    have hi2:(Tryz.prog.info? 41).map (·.size)=some A2.size:=by rw[hsA2];kernel_rfl
    have hSR:=rsameAny (H9.out.2.1.below hbl2) (H9.out.2.2.1.below hbl2)
    have HY:Hid (∃ S,Ag S (k+1)∧DW w2 xa xb wy S):=by
     have q:=H9.out.2.2.2.1.below hbl2
     exact⟨_,HG.out.1.next HG.out.2.1.kn q.kn,q⟩
    clear hbl2 k9 ky HD H9 H8 H7 H6 HG HM HBr
    go_wp2_with (first | refine wpList_loadAG (by kernel_rfl) 41 (.tmp 8) rfl w7.heap.size 0 rfl A _ hrg1 Tryz.underlying41 rfl hi1 ?_ | refine wpList_loadAG (by kernel_rfl) 41 (.tmp 10) rfl w9.heap.size 0 rfl A2 _ hrg2 Tryz.underlying41 rfl hi2 ?_)
    refine hSR.mono ?_
    rintro r w10 ⟨rfl,b10⟩
    have HZ:Hid (∃ S,Ag S (k+1)∧DW w2 xa xb w10 S):=by
     obtain⟨S',g',q'⟩:=HY.out
     exact⟨S',g',q'.below b10⟩
    clear hSR hrg1 hrg2 hst2 b10 HY
    go_wp2_with fail
    refine⟨⟨k+1,by omega,by omega,by simp,HZ⟩,?_⟩
    have e1:natQ (.int .i64 ((k:Nat):Int))=k:=by simp[natQ]
    have e2:natQ (.int .i64 (((k:Nat):Int)+1))=k+1:=by simp[natQ]
    rw[e1,e2]
    omega
   ·have h3':¬ ((k:Nat):Int)<300:=by omega
    obtain⟨S,g,hp⟩:=HI.out
    have hbr:=hp.bel
    have hn8:S.fs.length≤1000000:=by have:=g.I.fs;have:=g.mv;omega
    have hFa:Calls Tryz.prog 14 #[.pointer (some ⟨xa,0,none⟩)] wr fun r w'=>∃ a c',r=.returned (.slice a S.fs.length c')∧Hid (FaRow w' a S.fs∧Below wr.heap.size wr w'):=by
     obtain⟨t,L,hx,q⟩:=hp.a
     have:=pfactsW q g.fd hn8
     rw[hx]at this
     exact this
    have HP:Hid (DW w2 xa xb wr S):=hp
    have HG:Hid (_):=And.intro g.fd hn8
    obtain⟨n,hn⟩:∃ n,S.fs.length=n:=⟨_,rfl⟩
    have HN:Hid (S.fs.length=n):=hn
    rw[hn]at hFa
    have HBr:Hid (_):=hbr
    clear hp hbr hn hn8 HI g
    go_wp2_with fail
    refine hFa.mono ?_
    rintro r w6 ⟨af,cf,rfl,H6⟩
    clear hFa
    have hFb:Calls Tryz.prog 14 #[.pointer (some ⟨xb,0,none⟩)] w6 fun r w'=>∃ a c',r=.returned (.slice a n c')∧Hid (FaRow w' a S.fs∧Below w6.heap.size w6 w'):=by
     obtain⟨t,L,hx,q⟩:=(HP.out.below H6.out.2).b
     have:=pfactsW q HG.out.1 HG.out.2
     rw[hx,HN.out]at this
     exact this
    go_wp2_with fail
    refine hFb.mono ?_
    rintro r w7 ⟨ag,cg,rfl,H7⟩
    clear hFb
    have hSF:Calls Tryz.prog 13 #[.slice af n cf,.slice ag n cg] w7 fun r w'=>r=.returned (.bool true)∧Below w7.heap.size w7 w':=by
     have:=rsameF S.fs af ag cf cg w7 (H6.out.1.below H7.out.2) H7.out.1 HG.out.2
     rw[HN.out]at this
     exact this
    go_wp2_with fail
    refine hSF.mono ?_
    rintro r w8 ⟨rfl,b8⟩
    clear hSF
    go_wp2_with fail
    go_ret
    refine⟨rfl,?_⟩
    have h1:=HB2.out
    have h2:=HBr.out
    have e1:=h1.trans (h2.mono h1.size)
    have e2:=e1.trans (H6.out.2.mono e1.size)
    have e3:=e2.trans (H7.out.2.mono e2.size)
    exact e3.trans (b8.mono e3.size)
  ·have hlt':¬ ((k:Nat):Int) < ((len:Nat):Int):=by omega
   obtain⟨S,g,hp⟩:=HI.out
   have hbr:=hp.bel
   have hn8:S.fs.length≤1000000:=by have:=g.I.fs;have:=g.mv;omega
   have hFa:Calls Tryz.prog 14 #[.pointer (some ⟨xa,0,none⟩)] wr fun r w'=>∃ a c',r=.returned (.slice a S.fs.length c')∧Hid (FaRow w' a S.fs∧Below wr.heap.size wr w'):=by
    obtain⟨t,L,hx,q⟩:=hp.a
    have:=pfactsW q g.fd hn8
    rw[hx]at this
    exact this
   have HP:Hid (DW w2 xa xb wr S):=hp
   have HG:Hid (_):=And.intro g.fd hn8
   obtain⟨n,hn⟩:∃ n,S.fs.length=n:=⟨_,rfl⟩
   have HN:Hid (S.fs.length=n):=hn
   rw[hn]at hFa
   have HBr:Hid (_):=hbr
   clear hp hbr hn hn8 HI g
   go_wp2_with fail
   refine hFa.mono ?_
   rintro r w6 ⟨af,cf,rfl,H6⟩
   clear hFa
   have hFb:Calls Tryz.prog 14 #[.pointer (some ⟨xb,0,none⟩)] w6 fun r w'=>∃ a c',r=.returned (.slice a n c')∧Hid (FaRow w' a S.fs∧Below w6.heap.size w6 w'):=by
    obtain⟨t,L,hx,q⟩:=(HP.out.below H6.out.2).b
    have:=pfactsW q HG.out.1 HG.out.2
    rw[hx,HN.out]at this
    exact this
   go_wp2_with fail
   refine hFb.mono ?_
   rintro r w7 ⟨ag,cg,rfl,H7⟩
   clear hFb
   have hSF:Calls Tryz.prog 13 #[.slice af n cf,.slice ag n cg] w7 fun r w'=>r=.returned (.bool true)∧Below w7.heap.size w7 w':=by
    have:=rsameF S.fs af ag cf cg w7 (H6.out.1.below H7.out.2) H7.out.1 HG.out.2
    rw[HN.out]at this
    exact this
   go_wp2_with fail
   refine hSF.mono ?_
   rintro r w8 ⟨rfl,b8⟩
   clear hSF
   go_wp2_with fail
   go_ret
   refine⟨rfl,?_⟩
   have h1:=HB2.out
   have h2:=HBr.out
   have e1:=h1.trans (h2.mono h1.size)
   have e2:=e1.trans (H6.out.2.mono e1.size)
   have e3:=e2.trans (H7.out.2.mono e2.size)
   exact e3.trans (b8.mono e3.size)
theorem worldAgain_walk (a0:Option Addr) (len0 cap0:Nat) (w:World) (w0:OpRow w a0 len0) :
  Calls Tryz.prog 4 #[.slice a0 len0 cap0] w fun e w'=>e=.returned (.bool true)∧Below w.heap.size w w':=worldAgain_any a0 len0 cap0 w w0
end Go.Proofs.YtiopiheomoehbaaGreat
