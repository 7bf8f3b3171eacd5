/- Part 40: contracts that the proof rests on. -/
import Derived.Test.YtfgnmadnmjdbiaaGreatPkN37
import Derived.Test.YtfgnmadnmjdbiaaGreatPkN38
set_option maxHeartbeats 64000000
set_option maxRecDepth 100000
namespace Go.Proofs.YtfgnmadnmjdbiaaGreat
open Tryz
open Go.RowKit Go.Maps
set_option linter.unusedVariables false
structure St (S:Ws) (a k:Nat):Prop where
 I:S.In
 n:S.n=1
 ph:S.PH 0=P0
 pd:S.PD 0=P0
 mv:S.mv≤k
 pj:Pj (S.hs 0) (S.ds 0) 4 a
theorem uV {S:Ws} {c:Nat} (h:(S.hs c).v.lat≠0):sp S c=false:=by
 unfold sp
 rw[decide_eq_false h]
 simp
theorem vC {S:Ws} {c:Nat} (h:(S.ds c).v.lat≠0):sp S c=false:=by
 unfold sp
 rw[decide_eq_false h]
 simp
theorem sK (x:Int):∃ y:Nat,wrap64 (10+wrap64 ((IntKind.u64.wrap x).tmod 1000))=((y:Nat):Int)∧10≤y∧y≤1009:=by
 have h:=uH x
 generalize IntKind.u64.wrap x=u at *
 rw[Int.tmod_eq_emod_of_nonneg h]
 exact⟨(10+u % 1000).toNat,by unfold wrap64;omega,by omega,by omega⟩
theorem St.talk {S S':Ws} {a k:Nat} {b b2:Nat→Nat} (h:St S a k) (r:Tkr P0 S S' 0 a b b2):St S' (a+1) (k+7):=⟨r.sm.I,r.sm.n.trans h.n,by rw[r.sm.ph];exact h.ph,by rw[r.sm.pd];exact h.pd,by have:=r.sm.mv;have:=h.mv;omega,r.pj⟩
theorem St.one {S S':Ws} {a k:Nat} (h:St S a k) (m:Sm S S' 1) (j:Pj (S'.hs 0) (S'.ds 0) 4 a):St S' a (k+1):=⟨m.I,m.n.trans h.n,by rw[m.ph];exact h.ph,by rw[m.pd];exact h.pd,by have:=m.mv;have:=h.mv;omega,j⟩
theorem mX (sd tkk:Int) (a:Option Addr) (len cap:Nat) (bs:Nat→Nat) (a2:Option Addr) (len2 cap2:Nat) (bs2:Nat→Nat) (w:World) (hr:Row8 w a len cap bs) (hr2:Row8 w a2 len2 cap2 bs2):Calls prog 5 #[.int .i64 sd,.int .i64 tkk,.slice a len cap,.slice a2 len2 cap2] w fun r w'=>r=.returned (.bool true)∧Below w.heap.size w w':=by
 have hAw:=pX w
 have HR:Hid (Row8 w a len cap bs∧Row8 w a2 len2 cap2 bs2):=⟨hr,hr2⟩
 clear hr hr2
 go_enter func5,ntmps5
 go_wp2_with fail
 refine hAw.mono ?_
 rintro r w1 ⟨rfl,b1⟩
 clear hAw
 have HB1:Hid (Below w.heap.size w w1):=b1
 have hLo:=uJ w1
 clear b1
 go_wp2_with fail
 refine hLo.mono ?_
 rintro r w2 ⟨q0,q1,rfl,H2⟩
 clear hLo
 have hN:Calls prog 11 #[.agg #[.slice (af q0 0) 1 1,.slice (af q1 0) 1 1,.int .u32 50]] w2 fun r w'=>∃ L:Pw,r=.returned (.tuple #[ac L.x 0,.int .i64 0])∧Hid (PW ev w2 w' (fA L) L∧L.S=s0 P0 P0 50):=tI P0 P0 ja ja q0 q1 50 (by decide) (by decide) w2 H2.out.1 H2.out.2.1
 have HB2:Hid (Below w.heap.size w w2):=HB1.out.trans (H2.out.2.2.mono HB1.out.size)
 clear H2
 go_wp2_with fail
 refine hN.mono ?_
 rintro r w3 ⟨L,rfl,H3⟩
 clear hN
 have hp:=H3.out.1.n
 rw[H3.out.2]at hp
 obtain⟨X,hX⟩:∃ y,L.x=y:=⟨_,rfl⟩
 obtain⟨s1,hs1,hs2⟩:∃ y:Nat,wrap64 (1+wrap64 ((IntKind.u64.wrap sd).tmod 2))=((y:Nat):Int)∧(y=1∨y=2):=sI sd
 have hSe:Calls prog 8 #[ac L.x 0,.int .i64 0,.int .i64 7] w3 fun r w'=>r=.returned (.tuple #[.int .i64 3,.bool true,.int .i64 0])∧Hid (∃ S',PWn ev w2 (fA L) L w' S'∧Sm (s0 P0 P0 50) S' 15∧Pj (S'.hs 0) (S'.ds 0) 4 0∧(S'.hs 0).v.lat=0∧(S'.ds 0).v.lat=0∧(S'.hs 0).hd=false∧(S'.ds 0).hd=false):=nd (c:=0) (i:=0) (P:=P0) 7 hp (dS L) (sx _ _ _) (by decide) (by decide) (by decide) rfl rfl sC rfl rfl (by decide) (by decide)
 rw[hX]at hSe ⊢
 have HX:Hid (L.x=X):=hX
 clear hp hX H3
 go_wp2_with fail
 refine hSe.mono ?_
 rintro r w5 ⟨rfl,H5⟩
 clear hSe
 obtain⟨S1,p5,sm,J,l1,l2,_⟩:=H5.out
 have HS1:Hid (St S1 0 15∧(S1.hs 0).v.lat=0∧(S1.ds 0).v.lat=0):=⟨⟨sm.I,sm.n,by rw[sm.ph];rfl,by rw[sm.pd];rfl,by have:=sm.mv;exact this,J⟩,l1,l2⟩
 have HP5:Hid (PWn ev w2 (fA L) L w5 S1):=p5
 have hxl:L.x<w5.heap.size:=by
  obtain⟨t9,L9,h9,_,hx9,_⟩:=p5
  rw[← hx9.x]
  exact (h9.2.wb h9.1).lt _ (by simp[Wc.U,Pw.core])
 have HXL:Hid (L.x<w5.heap.size):=hxl
 have HB5:Hid (Below w.heap.size w w5):=by
  obtain⟨t9,L9,h9,_⟩:=p5
  exact HB2.out.trans (h9.1.bel.mono HB2.out.size)
 have hF1:=zr a len cap 2 bs w5 (HR.out.1.below HB5.out) (by decide) (by decide)
 clear sm J l1 l2 H5 p5 hxl
 go_wp2_with fail
 refine Calls.mono hF1 ?_
 rintro r w6 ⟨rfl,H6⟩
 clear hF1
 have HB6:Hid (Below w.heap.size w w6):=HB5.out.trans (H6.out.2.mono HB5.out.size)
 have hF2:=zr a2 len2 cap2 1 bs2 w6 (HR.out.2.below HB6.out) (by decide) (by decide)
 go_wp2_with fail
 refine Calls.mono hF2 ?_
 rintro r w7 ⟨rfl,H7⟩
 clear hF2
 have p6:=HP5.out.lay H6.out.2 (i:=2*0+1) (fun j=>by unfold ev;omega) H6.out.1 (fun y hy _=>by cases hy;exact Nat.le_refl _)
 have p7:=p6.lay H7.out.2 (i:=2 * (0+1)+1) (fun j=>by unfold ev;omega) H7.out.1 (fun y hy _=>by cases hy;exact Nat.le_refl _)
 have HX12:Hid ((∀ y,some (⟨w5.heap.size,0,none⟩:Addr)=some y→0<2→y.block≠L.x)∧∀ y,some (⟨w6.heap.size,0,none⟩:Addr)=some y→0<1→y.block≠L.x):=⟨fun y hy _=>by cases hy;have:=HXL.out;exact Nat.ne_of_gt this,fun y hy _=>by cases hy;have:=HXL.out;have:=H6.out.2.size;show w6.heap.size≠L.x;omega⟩
 obtain⟨g1,hg1⟩:∃ y,w5.heap.size=y:=⟨_,rfl⟩
 obtain⟨g2,hg2⟩:∃ y,w6.heap.size=y:=⟨_,rfl⟩
 rw[hg1]at p7 HX12 ⊢
 rw[hg2]at p7 HX12 ⊢
 have HP7:Hid (PWn ev w2 (ay (ay (fA L) (2*0+1) (bE (af g1 0) 2 2 (fun i=>if i<len then bs i else 1))) (2 * (0+1)+1) (bE (af g2 0) 1 1 (fun i=>if i<len2 then bs2 i else 1))) L w7 S1):=p7
 clear p6 p7 hg1 hg2 H6 H7
 have hT1:Calls prog 9 #[ac X 0,.int .i64 0,.slice (af g1 0) 2 2,.slice (af g2 0) 1 1] w7 fun r w'=>∃ b:Bool,r=.returned (.tuple #[.bool b,.int .i64 0])∧Hid (∃ S',PWn ev w2 (ay (ay (fA L) (2*0+1) (bE (af g1 0) 2 2 (fun i=>if i<len then bs i else 1))) (2 * (0+1)+1) (bE (af g2 0) 1 1 (fun i=>if i<len2 then bs2 i else 1))) L w' S'∧Tk4 P0 S1 S' 0 0 (fun i=>if i<len then bs i else 1) (fun i=>if i<len2 then bs2 i else 1)∧b=pm P0 S' 0 (fun i=>if i<len then bs i else 1) (fun i=>if i<len2 then bs2 i else 1)):=by
  have:=nV (c:=0) (i:=0) (a:=0) (P:=P0) HP7.out (dS L) HS1.out.1.I (by rw[HS1.out.1.n];decide) (by have:=HS1.out.1.mv;omega) (by decide) HS1.out.1.ph HS1.out.1.pd HS1.out.1.pj (by decide) rfl rfl HX12.out.1 HX12.out.2
  rw[HX.out]at this
  exact this
 go_wp2_with fail
 refine hT1.mono ?_
 rintro r w8 ⟨b8,rfl,H8⟩
 clear hT1
 obtain⟨S2,p8,tk,eb⟩:=H8.out
 have rs:=tk.res
 obtain⟨gd,l1,l2⟩:=rs.good HS1.out.1.I (by rw[HS1.out.1.n];decide) HS1.out.1.pj HS1.out.2.1 HS1.out.2.2
 rw[gd]at eb
 subst eb
 have HS2:Hid (St S2 1 22∧(S2.hs 0).v.lat=0∧(S2.ds 0).v.lat=0∧(S2.hs 0).dc=0∧(S2.ds 0).dc=0):=⟨HS1.out.1.talk rs,l1,l2,rs.hdc,rs.ddc⟩
 have HP8:Hid (PWn ev w2 (ay (ay (fA L) (2*0+1) (bE (af g1 0) 2 2 (fun i=>if i<len then bs i else 1))) (2 * (0+1)+1) (bE (af g2 0) 1 1 (fun i=>if i<len2 then bs2 i else 1))) L w8 S2):=p8
 clear H8 p8 tk rs gd l1 l2
 obtain⟨n1,hn1,hn2,hn3⟩:∃ y:Nat,wrap64 (10+wrap64 ((IntKind.u64.wrap tkk).tmod 1000))=((y:Nat):Int)∧10≤y∧y≤1009:=sK tkk
 go_upto_region 10 with fail
 rcases hs2 with rfl | rfl
 ·have bd:=qh (S:=S2) (c:=0) (s:=1) (n:=n1) (by have:=HS2.out.1.mv;omega) (by rw[HS2.out.1.n];decide) (by omega) (by omega)
  have F2:Fre ev (ay (ay (fA L) (2*0+1) (bE (af g1 0) 2 2 (fun i=>if i<len then bs i else 1))) (2 * (0+1)+1) (bE (af g2 0) 1 1 (fun i=>if i<len2 then bs2 i else 1))) 2:=((dS L).put _).put _
  have hPl:=ej (i:=2) (dq 0 1 n1) none 0 HP8.out F2 HS2.out.1.I (gw (k:=5) (c:=0) (s:=1) (f:=0) (n:=n1) (by omega) (by omega) (by omega) (by omega) (by omega) 0 _) (by rw[HS2.out.1.n];decide) (bc _ _) (fun y hy=>by cases hy) (by show (0:Nat)≤_;omega)
  rw[HX.out]at hPl
  have HBD:Hid (S2.bad (dq 0 1 n1)=0):=bd
  have HF2:Hid (Fre ev (ay (ay (fA L) (2*0+1) (bE (af g1 0) 2 2 (fun i=>if i<len then bs i else 1))) (2 * (0+1)+1) (bE (af g2 0) 1 1 (fun i=>if i<len2 then bs2 i else 1))) 2):=F2
  have HN1:Hid (10≤n1):=hn2
  clear bd F2
  go_wp2_with fail
  refine Calls.mono hPl ?_
  rintro r x1 ⟨A,E,rfl,hsA,hoA,H1⟩
  clear hPl
  have hE:E=0:=H1.out.1.trans HBD.out
  subst hE
  obtain⟨y1,hst,hrg,hbl,hth⟩:=iV x1 hsA hoA
  obtain⟨rb,hrb⟩:∃ y,x1.heap.size=y:=⟨_,rfl⟩
  rw[hrb]at hst hrg hth
  obtain⟨a9,a10,hV,dV,ah,ch,ad,cd,eH,eD,aH,aD,rH,rD⟩:=H1.out.2.2 HBD.out
  have ec:(dq 0 1 n1).c.toNat=0:=rfl
  rw[ec]at eH eD
  have m3:=cO HS2.out.1.I HP8.out.kn (dq 0 1 n1)
  obtain⟨t1,t2⟩:=qU HBD.out
  rw[HS2.out.1.ph]at t1
  obtain⟨j3,vf⟩:=zb (P:=P0) (n:=n1) HS2.out.1.pj HS2.out.2.2.2.1 HS2.out.2.1 HN1.out (by decide)
  rw[← t1]at j3 vf
  rw[← t2]at j3
  have lo:((S2.play (dq 0 1 n1)).S.ds 0).v.lat=0:=by rw[t2];exact HS2.out.2.2.1
  obtain⟨S3,hS3⟩:∃ y,(S2.play (dq 0 1 n1)).S=y:=⟨_,rfl⟩
  have p1:=H1.out.2.1
  rw[hS3]at eH eD m3 j3 vf lo p1
  have HS3:Hid (St S3 1 23∧Vf (S3.hs 0).v∧(S3.ds 0).v.lat=0):=⟨HS2.out.1.one m3 j3,vf,lo⟩
  have HP1:Hid (PWn ev w2 (ay (ay (fA L) (2*0+1) (bE (af g1 0) 2 2 (fun i=>if i<len then bs i else 1))) (2 * (0+1)+1) (bE (af g2 0) 1 1 (fun i=>if i<len2 then bs2 i else 1))) L x1 S3):=p1
  have HRB:Hid (Below x1.heap.size x1 y1∧x1.heap.size=rb∧y1.there rb 0 29):=⟨hbl,hrb,hth⟩
  have sH:hV.size=9:=by rw[eH];rfl
  have oH_:hV.all (·.oneCell')=true:=by rw[eH];kernel_rfl
  have sD:dV.size=9:=by rw[eD];rfl
  have oD_:dV.all (·.oneCell')=true:=by rw[eD];kernel_rfl
  have hS11:y1.rangeAt rb 11 hV.toList:=fun j v hv=>by have:=hrg (11+j) v (aH j v hv);rw[Nat.zero_add]at this;exact this
  have hS20:y1.rangeAt rb 20 dV.toList:=fun j v hv=>by have:=hrg (20+j) v (aD j v hv);rw[Nat.zero_add]at this;exact this
  have hiH:(prog.info? 54).map (·.size)=some hV.size:=by rw[sH];kernel_rfl
  have hiD:(prog.info? 54).map (·.size)=some dV.size:=by rw[sD];kernel_rfl
  have HEE:Hid (_):=And.intro eH eD
  obtain⟨y2,hst2,hrx,hbx,hthx⟩:=cD y1 sH oH_
  obtain⟨xb,hxb⟩:∃ y,y1.heap.size=y:=⟨_,rfl⟩
  rw[hxb]at hst2 hrx hthx
  clear eH eD m3 t1 t2 j3 vf lo p1 a9 a10 aH aD rH rD hrg H1 ec hth hbl
  go_upto_region 12 with (refine cj (by kernel_rfl) 54 (.tmp 58) rfl rb 11 rfl hV _ hS11 underlying54 rfl hiH ?_)
  clear hst hrb
  have c5:y2.cell? ⟨xb,5,none⟩=some (.int .i64 100):=by have:=hrx 5 _ (by rw[HEE.out.1];rfl);rw[Nat.zero_add,HS3.out.2.1.lat]at this;exact this
  have c6:y2.cell? ⟨xb,6,none⟩=some (.bool false):=by have:=hrx 6 _ (by rw[HEE.out.1];rfl);rw[Nat.zero_add,HS3.out.2.1.rq]at this;exact this
  have c7:y2.cell? ⟨xb,7,none⟩=some (.bool false):=by have:=hrx 7 _ (by rw[HEE.out.1];rfl);rw[Nat.zero_add,HS3.out.2.1.on]at this;exact this
  have HB2y:Hid (Below x1.heap.size x1 y2):=HRB.out.1.trans (hbx.mono HRB.out.1.size)
  have hlr:rb<y1.heap.size:=by
   obtain⟨u0,hu0⟩:=Option.isSome_iff_exists.1 (HRB.out.2.2 0 (by decide)).1
   exact World.block_lt_of_cell? _ _ hu0
  have HSame:Hid (y2.heap[rb]?=y1.heap[rb]?):=hbx.block rb hlr
  clear hlr
  obtain⟨yz,hyz⟩:∃ y,y2=y:=⟨_,rfl⟩
  rw[hyz]at c5 c6 c7 HB2y hst2 HSame
  clear hrx hbx hthx hS11 hS20 hiH hiD sH oH_ sD oD_ hxb
  go_upto_region 16 with fail
  clear c5 c6 c7
  clear hst2
  obtain⟨u0,hu0⟩:=Option.isSome_iff_exists.1 ((cI HRB.out.2.2 HSame.out) 0 (by decide)).1
  obtain⟨ob,hob⟩:∃ o,yz.heap[rb]?=some o:=⟨_,Array.getElem?_eq_getElem (World.block_lt_of_cell? _ _ hu0)⟩
  have pz:=HP1.out.layL HB2y.out (i:=2*2+1) (fun j=>by unfold ev;omega) (l:=[(rb,ob)]) (fun p hp=>by
   simp only[List.mem_cons,List.not_mem_nil,or_false]at hp
   subst hp
   exact hob) (fun p hp=>by
   simp only[List.mem_cons,List.not_mem_nil,or_false]at hp
   subst hp
   exact Nat.le_of_eq HRB.out.2.1)
  have hPl:=ej (i:=3) (co 0 1) none 0 pz (HF2.out.put _) HS3.out.1.I (gw (k:=6) (c:=0) (s:=1) (f:=0) (n:=0) (by omega) (by omega) (by omega) (by omega) (by omega) 0 _) (by rw[HS3.out.1.n];decide) (bc _ _) (fun y hy=>by cases hy) (by show (0:Nat)≤_;omega)
  rw[HX.out]at hPl
  have HOB:Hid (yz.heap[rb]?=some ob):=hob
  clear pz hob hu0
  go_wp2_with fail
  refine Calls.mono hPl ?_
  rintro r x4 ⟨A4,E4,rfl,hsA4,hoA4,H4⟩
  clear hPl
  have HBA:Hid (S3.bad (co 0 1)=0):=iy (by have:=HS3.out.1.mv;omega) (by rw[HS3.out.1.n];decide) (by omega)
  have hE4:E4=0:=H4.out.1.trans HBA.out
  subst hE4
  have kb:=H4.out.2.1.box (q:=2*2+1) (fun j=>by unfold ev;omega) (ak _ _ _) _ (List.mem_cons_self ..)
  obtain⟨y4,ob4,hst4,p4,_,hrg4,_⟩:=PWn.rowB HF2.out H4.out.2.1 (cI (cI HRB.out.2.2 HSame.out) (kb.trans HOB.out.symm)) hsA4 hoA4
  have c9:=hrg4 9 _ (H4.out.2.2 HBA.out).1
  rw[Nat.zero_add]at c9
  obtain⟨k1,k2,k3⟩:=kS HBA.out
  have v110:i7 (S3.hs 0).v=110:=by unfold i7;rw[HS3.out.2.1.rq];rfl
  have e110:(S3.play (co 0 1)).e=110:=by rw[k3];exact v110
  rw[e110]at c9
  rw[gB HS3.out.2.1.rq]at k1
  have m4:=cO HS3.out.1.I HP1.out.kn (co 0 1)
  obtain⟨S4,hS4⟩:∃ y,(S3.play (co 0 1)).S=y:=⟨_,rfl⟩
  rw[hS4]at k1 k2 m4 p4
  have HS4:Hid (St S4 1 24∧Vf (S4.hs 0).v∧(S4.ds 0).v.lat=0):=⟨HS3.out.1.one m4 (by rw[k1,k2];exact HS3.out.1.pj),by rw[k1];exact HS3.out.2.1,by rw[k2];exact HS3.out.2.2⟩
  have p4d:PWn ev w2 (ay (ay (fA L) (2*0+1) (bE (af g1 0) 2 2 (fun i=>if i<len then bs i else 1))) (2 * (0+1)+1) (bE (af g2 0) 1 1 (fun i=>if i<len2 then bs2 i else 1))) L y4 S4:=p4.drop (fun j=>by unfold ev;omega) (HF2.out 2 (Nat.le_refl _)).2
  have hU:Calls prog 10 #[ac X 0,.int .i64 0] y4 fun r w'=>r=.returned (.bool false)∧Below y4.heap.size y4 w':=by
   have:=uL p4d (c:=0) (by rw[HS4.out.1.n];decide)
   rw[HX.out,uV (by rw[HS4.out.2.1.lat];decide)]at this
   exact this
  have HP4:Hid (PWn ev w2 (ay (ay (fA L) (2*0+1) (bE (af g1 0) 2 2 (fun i=>if i<len then bs i else 1))) (2 * (0+1)+1) (bE (af g2 0) 1 1 (fun i=>if i<len2 then bs2 i else 1))) L y4 S4):=p4d
  clear k1 k2 k3 m4 p4 p4d hrg4 kb H4 v110 e110 hS4
  go_wp2_with fail
  refine hU.mono ?_
  rintro r y5 ⟨rfl,b5⟩
  clear hU hst4 c9
  have HP5b:Hid (PWn ev w2 (ay (ay (fA L) (2*0+1) (bE (af g1 0) 2 2 (fun i=>if i<len then bs i else 1))) (2 * (0+1)+1) (bE (af g2 0) 1 1 (fun i=>if i<len2 then bs2 i else 1))) L y5 S4):=HP4.out.below b5
  clear b5
  have hT2:Calls prog 9 #[ac X 0,.int .i64 0,.slice (af g1 0) 2 2,.slice (af g2 0) 1 1] y5 fun r w'=>∃ b:Bool,r=.returned (.tuple #[.bool b,.int .i64 0])∧Hid (∃ S',PWn ev w2 (ay (ay (fA L) (2*0+1) (bE (af g1 0) 2 2 (fun i=>if i<len then bs i else 1))) (2 * (0+1)+1) (bE (af g2 0) 1 1 (fun i=>if i<len2 then bs2 i else 1))) L w' S'∧Tk4 P0 S4 S' 0 1 (fun i=>if i<len then bs i else 1) (fun i=>if i<len2 then bs2 i else 1)∧b=pm P0 S' 0 (fun i=>if i<len then bs i else 1) (fun i=>if i<len2 then bs2 i else 1)):=by
   have:=nV (c:=0) (i:=0) (a:=1) (P:=P0) HP5b.out (dS L) HS4.out.1.I (by rw[HS4.out.1.n];decide) (by have:=HS4.out.1.mv;omega) (by decide) HS4.out.1.ph HS4.out.1.pd HS4.out.1.pj (by decide) rfl rfl HX12.out.1 HX12.out.2
   rw[HX.out]at this
   exact this
  go_wp2_with fail
  refine hT2.mono ?_
  rintro r t2 ⟨v2,rfl,K2⟩
  clear hT2
  obtain⟨R2,q2,tk2,eb2⟩:=K2.out
  have rs2:=tk2.res
  obtain⟨gd,l1,l2⟩:=rs2.late HS4.out.1.I (by rw[HS4.out.1.n];decide) HS4.out.1.pj (.inl ⟨by rw[HS4.out.2.1.lat];decide,HS4.out.2.1.sm,HS4.out.2.2⟩)
  rw[gd]at eb2
  subst eb2
  have HS5:Hid (St R2 2 31∧(R2.hs 0).v.lat=0∧(R2.ds 0).v.lat=0):=⟨HS4.out.1.talk rs2,l1,l2⟩
  have HP6:Hid (PWn ev w2 (ay (ay (fA L) (2*0+1) (bE (af g1 0) 2 2 (fun i=>if i<len then bs i else 1))) (2 * (0+1)+1) (bE (af g2 0) 1 1 (fun i=>if i<len2 then bs2 i else 1))) L t2 R2):=q2
  clear K2 q2 tk2 rs2 gd l1 l2
  have hT3:Calls prog 9 #[ac X 0,.int .i64 0,.slice (af g1 0) 2 2,.slice (af g2 0) 1 1] t2 fun r w'=>∃ b:Bool,r=.returned (.tuple #[.bool b,.int .i64 0])∧Hid (∃ S',PWn ev w2 (ay (ay (fA L) (2*0+1) (bE (af g1 0) 2 2 (fun i=>if i<len then bs i else 1))) (2 * (0+1)+1) (bE (af g2 0) 1 1 (fun i=>if i<len2 then bs2 i else 1))) L w' S'∧Tk4 P0 R2 S' 0 2 (fun i=>if i<len then bs i else 1) (fun i=>if i<len2 then bs2 i else 1)∧b=pm P0 S' 0 (fun i=>if i<len then bs i else 1) (fun i=>if i<len2 then bs2 i else 1)):=by
   have:=nV (c:=0) (i:=0) (a:=2) (P:=P0) HP6.out (dS L) HS5.out.1.I (by rw[HS5.out.1.n];decide) (by have:=HS5.out.1.mv;omega) (by decide) HS5.out.1.ph HS5.out.1.pd HS5.out.1.pj (by decide) rfl rfl HX12.out.1 HX12.out.2
   rw[HX.out]at this
   exact this
  go_wp2_with fail
  refine hT3.mono ?_
  rintro r t3 ⟨v3,rfl,K3⟩
  clear hT3
  obtain⟨R3,q3,tk3,eb3⟩:=K3.out
  have rs3:=tk3.res
  obtain⟨gd,l1,l2⟩:=rs3.good HS5.out.1.I (by rw[HS5.out.1.n];decide) HS5.out.1.pj HS5.out.2.1 HS5.out.2.2
  rw[gd]at eb3
  subst eb3
  have hU:Calls prog 10 #[ac X 0,.int .i64 0] t3 fun r w'=>r=.returned (.bool true)∧Below t3.heap.size t3 w':=by
   have:=uL q3 (c:=0) (by rw[rs3.sm.n,HS5.out.1.n];decide)
   rw[HX.out,iA rs3.pj l1 l2]at this
   exact this
  have HB7:Hid (Below w.heap.size w t3):=by
   obtain⟨t9,L9,h9,_⟩:=q3
   exact HB2.out.trans (h9.1.bel.mono HB2.out.size)
  clear K3 q3 tk3 rs3 gd l1 l2
  go_wp2_with fail
  refine hU.mono ?_
  rintro r t4 ⟨rfl,b6⟩
  clear hU
  have HB8:Hid (Below w.heap.size w t4):=HB7.out.trans (b6.mono HB7.out.size)
  clear b6
  go_wp2_with fail
  go_ret
  exact⟨rfl,HB8.out⟩
 ·have bd:=qh (S:=S2) (c:=0) (s:=2) (n:=n1) (by have:=HS2.out.1.mv;omega) (by rw[HS2.out.1.n];decide) (by omega) (by omega)
  have F2:Fre ev (ay (ay (fA L) (2*0+1) (bE (af g1 0) 2 2 (fun i=>if i<len then bs i else 1))) (2 * (0+1)+1) (bE (af g2 0) 1 1 (fun i=>if i<len2 then bs2 i else 1))) 2:=((dS L).put _).put _
  have hPl:=ej (i:=2) (dq 0 2 n1) none 0 HP8.out F2 HS2.out.1.I (gw (k:=5) (c:=0) (s:=2) (f:=0) (n:=n1) (by omega) (by omega) (by omega) (by omega) (by omega) 0 _) (by rw[HS2.out.1.n];decide) (bc _ _) (fun y hy=>by cases hy) (by show (0:Nat)≤_;omega)
  rw[HX.out]at hPl
  have HBD:Hid (S2.bad (dq 0 2 n1)=0):=bd
  have HF2:Hid (Fre ev (ay (ay (fA L) (2*0+1) (bE (af g1 0) 2 2 (fun i=>if i<len then bs i else 1))) (2 * (0+1)+1) (bE (af g2 0) 1 1 (fun i=>if i<len2 then bs2 i else 1))) 2):=F2
  have HN1:Hid (10≤n1):=hn2
  clear bd F2
  go_wp2_with fail
  refine Calls.mono hPl ?_
  rintro r x1 ⟨A,E,rfl,hsA,hoA,H1⟩
  clear hPl
  have hE:E=0:=H1.out.1.trans HBD.out
  subst hE
  obtain⟨y1,hst,hrg,hbl,hth⟩:=iV x1 hsA hoA
  obtain⟨rb,hrb⟩:∃ y,x1.heap.size=y:=⟨_,rfl⟩
  rw[hrb]at hst hrg hth
  obtain⟨a9,a10,hV,dV,ah,ch,ad,cd,eH,eD,aH,aD,rH,rD⟩:=H1.out.2.2 HBD.out
  have ec:(dq 0 2 n1).c.toNat=0:=rfl
  rw[ec]at eH eD
  have m3:=cO HS2.out.1.I HP8.out.kn (dq 0 2 n1)
  obtain⟨t1,t2⟩:=rt HBD.out
  rw[HS2.out.1.pd]at t2
  obtain⟨j3,vf⟩:=yJ (P:=P0) (n:=n1) HS2.out.1.pj HS2.out.2.2.2.2 HS2.out.2.2.1 HN1.out (by decide)
  rw[← t2]at j3 vf
  rw[← t1]at j3
  have lo:((S2.play (dq 0 2 n1)).S.hs 0).v.lat=0:=by rw[t1];exact HS2.out.2.1
  obtain⟨S3,hS3⟩:∃ y,(S2.play (dq 0 2 n1)).S=y:=⟨_,rfl⟩
  have p1:=H1.out.2.1
  rw[hS3]at eH eD m3 j3 vf lo p1
  have HS3:Hid (St S3 1 23∧Vf (S3.ds 0).v∧(S3.hs 0).v.lat=0):=⟨HS2.out.1.one m3 j3,vf,lo⟩
  have HP1:Hid (PWn ev w2 (ay (ay (fA L) (2*0+1) (bE (af g1 0) 2 2 (fun i=>if i<len then bs i else 1))) (2 * (0+1)+1) (bE (af g2 0) 1 1 (fun i=>if i<len2 then bs2 i else 1))) L x1 S3):=p1
  have HRB:Hid (Below x1.heap.size x1 y1∧x1.heap.size=rb∧y1.there rb 0 29):=⟨hbl,hrb,hth⟩
  have sH:hV.size=9:=by rw[eH];rfl
  have oH_:hV.all (·.oneCell')=true:=by rw[eH];kernel_rfl
  have sD:dV.size=9:=by rw[eD];rfl
  have oD_:dV.all (·.oneCell')=true:=by rw[eD];kernel_rfl
  have hS11:y1.rangeAt rb 11 hV.toList:=fun j v hv=>by have:=hrg (11+j) v (aH j v hv);rw[Nat.zero_add]at this;exact this
  have hS20:y1.rangeAt rb 20 dV.toList:=fun j v hv=>by have:=hrg (20+j) v (aD j v hv);rw[Nat.zero_add]at this;exact this
  have hiH:(prog.info? 54).map (·.size)=some hV.size:=by rw[sH];kernel_rfl
  have hiD:(prog.info? 54).map (·.size)=some dV.size:=by rw[sD];kernel_rfl
  have HEE:Hid (_):=And.intro eH eD
  obtain⟨y2,hst2,hrx,hbx,hthx⟩:=cD y1 sH oH_
  obtain⟨xb,hxb⟩:∃ y,y1.heap.size=y:=⟨_,rfl⟩
  rw[hxb]at hst2 hrx hthx
  clear eH eD m3 t1 t2 j3 vf lo p1 a9 a10 aH aD rH rD hrg H1 ec hth hbl
  go_upto_region 12 with (refine cj (by kernel_rfl) 54 (.tmp 58) rfl rb 11 rfl hV _ hS11 underlying54 rfl hiH ?_)
  clear hst hrb
  have dr:y2.rangeAt rb 20 dV.toList:=fun j v hv=>ag (hS20 j v hv) hbx
  obtain⟨yz,hst3,hrz,hof⟩:=qM hthx sD oD_
  have c5:yz.cell? ⟨xb,5,none⟩=some (.int .i64 100):=by have:=hrz 5 _ (by rw[HEE.out.2];rfl);rw[Nat.zero_add,HS3.out.2.1.lat]at this;exact this
  have c6:yz.cell? ⟨xb,6,none⟩=some (.bool false):=by have:=hrz 6 _ (by rw[HEE.out.2];rfl);rw[Nat.zero_add,HS3.out.2.1.rq]at this;exact this
  have c7:yz.cell? ⟨xb,7,none⟩=some (.bool false):=by have:=hrz 7 _ (by rw[HEE.out.2];rfl);rw[Nat.zero_add,HS3.out.2.1.on]at this;exact this
  have b12:Below x1.heap.size x1 y2:=HRB.out.1.trans (hbx.mono HRB.out.1.size)
  have HB2y:Hid (Below x1.heap.size x1 yz):=hof.below b12 (fun k hk=>by simp at hk;have:=HRB.out.1.size;omega) b12.size
  have HDR:Hid (y2.rangeAt rb 20 dV.toList):=dr
  have hlr:rb<y1.heap.size:=by
   obtain⟨u0,hu0⟩:=Option.isSome_iff_exists.1 (HRB.out.2.2 0 (by decide)).1
   exact World.block_lt_of_cell? _ _ hu0
  have HSame:Hid (yz.heap[rb]?=y1.heap[rb]?):=(hof.block rb (Nat.lt_of_lt_of_le hlr hbx.size) (by simp;omega)).trans (hbx.block rb hlr)
  clear hrx hbx hthx hS11 hS20 hiH sH oH_ hxb b12 hof hrz dr hlr
  go_upto_region 14 with (refine cj (by kernel_rfl) 54 (.tmp 62) rfl rb 20 rfl dV _ HDR.out underlying54 rfl hiD ?_)
  clear hst2 hst3 hiD sD oD_
  go_upto_region 16 with fail
  clear c5 c6 c7
  obtain⟨u0,hu0⟩:=Option.isSome_iff_exists.1 ((cI HRB.out.2.2 HSame.out) 0 (by decide)).1
  obtain⟨ob,hob⟩:∃ o,yz.heap[rb]?=some o:=⟨_,Array.getElem?_eq_getElem (World.block_lt_of_cell? _ _ hu0)⟩
  have pz:=HP1.out.layL HB2y.out (i:=2*2+1) (fun j=>by unfold ev;omega) (l:=[(rb,ob)]) (fun p hp=>by
   simp only[List.mem_cons,List.not_mem_nil,or_false]at hp
   subst hp
   exact hob) (fun p hp=>by
   simp only[List.mem_cons,List.not_mem_nil,or_false]at hp
   subst hp
   exact Nat.le_of_eq HRB.out.2.1)
  have hPl:=ej (i:=3) (co 0 2) none 0 pz (HF2.out.put _) HS3.out.1.I (gw (k:=6) (c:=0) (s:=2) (f:=0) (n:=0) (by omega) (by omega) (by omega) (by omega) (by omega) 0 _) (by rw[HS3.out.1.n];decide) (bc _ _) (fun y hy=>by cases hy) (by show (0:Nat)≤_;omega)
  rw[HX.out]at hPl
  have HOB:Hid (yz.heap[rb]?=some ob):=hob
  clear pz hob hu0
  go_wp2_with fail
  refine Calls.mono hPl ?_
  rintro r x4 ⟨A4,E4,rfl,hsA4,hoA4,H4⟩
  clear hPl
  have HBA:Hid (S3.bad (co 0 2)=0):=iy (by have:=HS3.out.1.mv;omega) (by rw[HS3.out.1.n];decide) (by omega)
  have hE4:E4=0:=H4.out.1.trans HBA.out
  subst hE4
  have kb:=H4.out.2.1.box (q:=2*2+1) (fun j=>by unfold ev;omega) (ak _ _ _) _ (List.mem_cons_self ..)
  obtain⟨y4,ob4,hst4,p4,_,hrg4,_⟩:=PWn.rowB HF2.out H4.out.2.1 (cI (cI HRB.out.2.2 HSame.out) (kb.trans HOB.out.symm)) hsA4 hoA4
  have c9:=hrg4 9 _ (H4.out.2.2 HBA.out).1
  rw[Nat.zero_add]at c9
  obtain⟨k1,k2,k3⟩:=iW HBA.out
  have v110:i7 (S3.ds 0).v=110:=by unfold i7;rw[HS3.out.2.1.rq];rfl
  have e110:(S3.play (co 0 2)).e=110:=by rw[k3];unfold fF;rw[if_neg (by rw[HS3.out.1.pj.dst];decide)];exact v110
  rw[e110]at c9
  rw[gz HS3.out.2.1.rq]at k2
  have m4:=cO HS3.out.1.I HP1.out.kn (co 0 2)
  obtain⟨S4,hS4⟩:∃ y,(S3.play (co 0 2)).S=y:=⟨_,rfl⟩
  rw[hS4]at k1 k2 m4 p4
  have HS4:Hid (St S4 1 24∧Vf (S4.ds 0).v∧(S4.hs 0).v.lat=0):=⟨HS3.out.1.one m4 (by rw[k1,k2];exact HS3.out.1.pj),by rw[k2];exact HS3.out.2.1,by rw[k1];exact HS3.out.2.2⟩
  have p4d:PWn ev w2 (ay (ay (fA L) (2*0+1) (bE (af g1 0) 2 2 (fun i=>if i<len then bs i else 1))) (2 * (0+1)+1) (bE (af g2 0) 1 1 (fun i=>if i<len2 then bs2 i else 1))) L y4 S4:=p4.drop (fun j=>by unfold ev;omega) (HF2.out 2 (Nat.le_refl _)).2
  have hU:Calls prog 10 #[ac X 0,.int .i64 0] y4 fun r w'=>r=.returned (.bool false)∧Below y4.heap.size y4 w':=by
   have:=uL p4d (c:=0) (by rw[HS4.out.1.n];decide)
   rw[HX.out,vC (by rw[HS4.out.2.1.lat];decide)]at this
   exact this
  have HP4:Hid (PWn ev w2 (ay (ay (fA L) (2*0+1) (bE (af g1 0) 2 2 (fun i=>if i<len then bs i else 1))) (2 * (0+1)+1) (bE (af g2 0) 1 1 (fun i=>if i<len2 then bs2 i else 1))) L y4 S4):=p4d
  clear k1 k2 k3 m4 p4 p4d hrg4 kb H4 v110 e110 hS4
  go_wp2_with fail
  refine hU.mono ?_
  rintro r y5 ⟨rfl,b5⟩
  clear hU hst4 c9
  have HP5b:Hid (PWn ev w2 (ay (ay (fA L) (2*0+1) (bE (af g1 0) 2 2 (fun i=>if i<len then bs i else 1))) (2 * (0+1)+1) (bE (af g2 0) 1 1 (fun i=>if i<len2 then bs2 i else 1))) L y5 S4):=HP4.out.below b5
  clear b5
  have hT2:Calls prog 9 #[ac X 0,.int .i64 0,.slice (af g1 0) 2 2,.slice (af g2 0) 1 1] y5 fun r w'=>∃ b:Bool,r=.returned (.tuple #[.bool b,.int .i64 0])∧Hid (∃ S',PWn ev w2 (ay (ay (fA L) (2*0+1) (bE (af g1 0) 2 2 (fun i=>if i<len then bs i else 1))) (2 * (0+1)+1) (bE (af g2 0) 1 1 (fun i=>if i<len2 then bs2 i else 1))) L w' S'∧Tk4 P0 S4 S' 0 1 (fun i=>if i<len then bs i else 1) (fun i=>if i<len2 then bs2 i else 1)∧b=pm P0 S' 0 (fun i=>if i<len then bs i else 1) (fun i=>if i<len2 then bs2 i else 1)):=by
   have:=nV (c:=0) (i:=0) (a:=1) (P:=P0) HP5b.out (dS L) HS4.out.1.I (by rw[HS4.out.1.n];decide) (by have:=HS4.out.1.mv;omega) (by decide) HS4.out.1.ph HS4.out.1.pd HS4.out.1.pj (by decide) rfl rfl HX12.out.1 HX12.out.2
   rw[HX.out]at this
   exact this
  go_wp2_with fail
  refine hT2.mono ?_
  rintro r t2 ⟨v2,rfl,K2⟩
  clear hT2
  obtain⟨R2,q2,tk2,eb2⟩:=K2.out
  have rs2:=tk2.res
  obtain⟨gd,l1,l2⟩:=rs2.late HS4.out.1.I (by rw[HS4.out.1.n];decide) HS4.out.1.pj (.inr ⟨by rw[HS4.out.2.1.lat];decide,HS4.out.2.1.sm,HS4.out.2.2⟩)
  rw[gd]at eb2
  subst eb2
  have HS5:Hid (St R2 2 31∧(R2.hs 0).v.lat=0∧(R2.ds 0).v.lat=0):=⟨HS4.out.1.talk rs2,l1,l2⟩
  have HP6:Hid (PWn ev w2 (ay (ay (fA L) (2*0+1) (bE (af g1 0) 2 2 (fun i=>if i<len then bs i else 1))) (2 * (0+1)+1) (bE (af g2 0) 1 1 (fun i=>if i<len2 then bs2 i else 1))) L t2 R2):=q2
  clear K2 q2 tk2 rs2 gd l1 l2
  have hT3:Calls prog 9 #[ac X 0,.int .i64 0,.slice (af g1 0) 2 2,.slice (af g2 0) 1 1] t2 fun r w'=>∃ b:Bool,r=.returned (.tuple #[.bool b,.int .i64 0])∧Hid (∃ S',PWn ev w2 (ay (ay (fA L) (2*0+1) (bE (af g1 0) 2 2 (fun i=>if i<len then bs i else 1))) (2 * (0+1)+1) (bE (af g2 0) 1 1 (fun i=>if i<len2 then bs2 i else 1))) L w' S'∧Tk4 P0 R2 S' 0 2 (fun i=>if i<len then bs i else 1) (fun i=>if i<len2 then bs2 i else 1)∧b=pm P0 S' 0 (fun i=>if i<len then bs i else 1) (fun i=>if i<len2 then bs2 i else 1)):=by
   have:=nV (c:=0) (i:=0) (a:=2) (P:=P0) HP6.out (dS L) HS5.out.1.I (by rw[HS5.out.1.n];decide) (by have:=HS5.out.1.mv;omega) (by decide) HS5.out.1.ph HS5.out.1.pd HS5.out.1.pj (by decide) rfl rfl HX12.out.1 HX12.out.2
   rw[HX.out]at this
   exact this
  go_wp2_with fail
  refine hT3.mono ?_
  rintro r t3 ⟨v3,rfl,K3⟩
  clear hT3
  obtain⟨R3,q3,tk3,eb3⟩:=K3.out
  have rs3:=tk3.res
  obtain⟨gd,l1,l2⟩:=rs3.good HS5.out.1.I (by rw[HS5.out.1.n];decide) HS5.out.1.pj HS5.out.2.1 HS5.out.2.2
  rw[gd]at eb3
  subst eb3
  have hU:Calls prog 10 #[ac X 0,.int .i64 0] t3 fun r w'=>r=.returned (.bool true)∧Below t3.heap.size t3 w':=by
   have:=uL q3 (c:=0) (by rw[rs3.sm.n,HS5.out.1.n];decide)
   rw[HX.out,iA rs3.pj l1 l2]at this
   exact this
  have HB7:Hid (Below w.heap.size w t3):=by
   obtain⟨t9,L9,h9,_⟩:=q3
   exact HB2.out.trans (h9.1.bel.mono HB2.out.size)
  clear K3 q3 tk3 rs3 gd l1 l2
  go_wp2_with fail
  refine hU.mono ?_
  rintro r t4 ⟨rfl,b6⟩
  clear hU
  have HB8:Hid (Below w.heap.size w t4):=HB7.out.trans (b6.mono HB7.out.size)
  clear b6
  go_wp2_with fail
  go_ret
  exact⟨rfl,HB8.out⟩
theorem topBack_walk (a0:Int) (a1:Int) (a2:Option Addr) (len2 cap2:Nat) (z2:List Int) (a3:Option Addr) (len3 cap3:Nat) (z3:List Int) (w:World) (w0:(Lit.int .i64 a0).wf=true) (w1:(Lit.int .i64 a1).wf=true) (w2:BRow .u8 w a2 len2 cap2 z2) (w3:BRow .u8 w a3 len3 cap3 z3) :
  Calls prog 5 #[.int .i64 a0,.int .i64 a1,.slice a2 len2 cap2,.slice a3 len3 cap3] w fun e w'=>e=.returned (.bool true)∧Below w.heap.size w w':=
 mX a0 a1 a2 len2 cap2 _ a3 len3 cap3 _ w w2.row8 w3.row8
end Go.Proofs.YtfgnmadnmjdbiaaGreat
