/- Part 40: contracts that the proof rests on. -/
import Derived.Test.YtdmjfemodihfhaaGreatPkL38
set_option maxHeartbeats 64000000
set_option maxRecDepth 100000
namespace Go.Proofs.YtdmjfemodihfhaaGreat
set_option maxRecDepth 100000
open Go.RowKit Go.Maps
set_option linter.unusedVariables false
theorem tH {w:World} {q:Nat} (h:w.heap[q]?=some (.cells #[.int .u32 7,.int .i64 2,.int .i64 1,.int .i64 10,.int .u32 9] 59 (0,0))):PqRow w (some ⟨q,0,none⟩) 1 (fun _=>P0.q):=fun i hi=>by
 obtain rfl:i=0:=by omega
 refine⟨q,0,rfl,fun j u hu=>?_⟩
 rw[show 0+0*5+j=j by omega,ac w q j _ _ _ h]
 have e:(P0.q).cs.toArray=#[.int .u32 7,.int .i64 2,.int .i64 1,.int .i64 10,.int .u32 9]:=by rfl
 rw[← e]
 simpa using hu
theorem zP:zb 1 1 50 (fun _=>P0.q) (fun _=>P0.q)=0:=by decide
theorem yw (q0 q1:Nat) (w:World) (h0:w.heap[q0]?=some (.cells #[.int .u32 7,.int .i64 2,.int .i64 1,.int .i64 10,.int .u32 9] 59 (0,0))) (h1:w.heap[q1]?=some (.cells #[.int .u32 7,.int .i64 2,.int .i64 1,.int .i64 10,.int .u32 9] 59 (0,0))):Calls Tryz.prog 11 #[.agg #[.slice (some ⟨q0,0,none⟩) 1 1,.slice (some ⟨q1,0,none⟩) 1 1,.int .u32 50]] w fun r w'=>∃ L:Pw,r=.returned (.tuple #[.pointer (some ⟨L.x,0,none⟩),.int .i64 0])∧Hid (PW ev w w' (jW L) L∧L.S=s0 P0 P0 50):=
 wY (fun _=>P0) (fun _=>P0) q0 0 1 q1 0 1 1 50 (fun _ _=>nT) (fun _ _=>nT) (by decide) (by decide) (by decide) (by decide) (by decide) (by decide) w (tH h0) (tH h1) zP
theorem jy (w:World) {A:Array Value} (hs:A.size=29) (ho:A.all (·.oneCell')=true):∃ wz,(storeCells ⟨w.heap.size,0,none⟩ A.toList).run Tryz.prog (w.alloc (.cells #[.int .i64 0,.int .i64 0,.int .i64 0,.int .i64 0,.int .i64 0,.int .u32 0,.int .i64 0,.bool false,.slice none 0 0,.int .i64 0,.int .i64 0,.int .i64 0,.int .u32 0,.int .u32 0,.int .u32 0,.int .i64 0,.int .i64 0,.bool false,.bool false,.slice none 0 0,.int .i64 0,.int .u32 0,.int .u32 0,.int .u32 0,.int .i64 0,.int .i64 0,.bool false,.bool false,.slice none 0 0] 45))=.ok () wz∧wz.rangeAt w.heap.size 0 A.toList∧Below w.heap.size w wz:=by
 have kr:=au w (.cells #[.int .i64 0,.int .i64 0,.int .i64 0,.int .i64 0,.int .i64 0,.int .u32 0,.int .i64 0,.bool false,.slice none 0 0,.int .i64 0,.int .i64 0,.int .i64 0,.int .u32 0,.int .u32 0,.int .u32 0,.int .i64 0,.int .i64 0,.bool false,.bool false,.slice none 0 0,.int .i64 0,.int .u32 0,.int .u32 0,.int .u32 0,.int .i64 0,.int .i64 0,.bool false,.bool false,.slice none 0 0] 45)
 have hth:(w.alloc (.cells #[.int .i64 0,.int .i64 0,.int .i64 0,.int .i64 0,.int .i64 0,.int .u32 0,.int .i64 0,.bool false,.slice none 0 0,.int .i64 0,.int .i64 0,.int .i64 0,.int .u32 0,.int .u32 0,.int .u32 0,.int .i64 0,.int .i64 0,.bool false,.bool false,.slice none 0 0,.int .i64 0,.int .u32 0,.int .u32 0,.int .u32 0,.int .i64 0,.int .i64 0,.bool false,.bool false,.slice none 0 0] 45)).there w.heap.size 0 A.size:=aQ kr (by rw[hs];rfl)
 exact⟨_,dN hth ho,World.rangeAt_setCells_same _ w.heap.size 0 A.toList (by simpa using hth),(aY _ w.heap.size 0 A.toList).below (ay (Below.refl _ _) _) (by simp) (by rw[gi];omega)⟩
theorem tq (w:World):Calls Tryz.prog 13 #[] w fun r w'=>r=.returned (.bool true)∧Below w.heap.size w w':=by
 have hLo:=za w
 go_enter Tryz.func13,Tryz.ntmps13
 go_wp2_with fail
 refine hLo.mono ?_
 rintro r w1 ⟨q0,q1,rfl,H1⟩
 clear hLo
 have hN:Calls Tryz.prog 11 #[.agg #[.slice (some ⟨q0,0,none⟩) 1 1,.slice (some ⟨q1,0,none⟩) 1 1,.int .u32 50]] w1 fun r w'=>∃ L:Pw,r=.returned (.tuple #[.pointer (some ⟨L.x,0,none⟩),.int .i64 0])∧Hid (PW ev w1 w' (jW L) L∧L.S=s0 P0 P0 50):=yw q0 q1 w1 H1.out.1 H1.out.2.1
 go_wp2_with fail
 refine hN.mono ?_
 rintro r w2 ⟨L,rfl,H2⟩
 clear hN
 have hP1:=aw1 H2.out.1 (gR L) H2.out.2
 obtain⟨X,hX⟩:∃ y,L.x=y:=⟨_,rfl⟩
 rw[hX]at hP1 ⊢
 have HX:Hid (L.x=X):=hX
 clear hX
 go_wp2_with fail
 refine hP1.mono ?_
 rintro r w3 ⟨A,rfl,hsA,hoA,hA10,H3⟩
 clear hP1
 obtain⟨wz,hst1,hrg1,hbl1⟩:=jy w3 hsA hoA
 have cb:wz.cell? ⟨w3.heap.size,10,none⟩=some (.int .i64 0):=hrg1 10 _ hA10
 have lb:=World.block_lt_of_cell? wz _ cb
 obtain⟨ob,hob⟩:∃ ob,wz.heap[w3.heap.size]?=some ob:=⟨_,Array.getElem?_eq_getElem lb⟩
 have F0:=gR L
 have hp2:=H3.out.layL hbl1 (i:=2*0+1) (F0 0 (Nat.le_refl _)).1 (l:=[(w3.heap.size,ob)]) (fun p hp=>by
  simp only[List.mem_cons,List.not_mem_nil,or_false]at hp
  subst hp
  exact hob) (fun p hp=>by
  simp only[List.mem_cons,List.not_mem_nil,or_false]at hp
  subst hp
  exact Nat.le_refl _)
 have F1:Fre ev (aE (jW L) (2*0+1) (dk [(w3.heap.size,ob)])) 1:=F0.put _
 have hP2:=aw2 (T:=yZ) a1.2.2 hp2 F1
 rw[HX.out]at hP2
 have HB:Hid (_):=And.intro cb (And.intro hob (And.intro hbl1 F0))
 clear hrg1 hbl1 cb lb hob hp2 F1 F0
 go_wp2_with fail
 refine hP2.mono ?_
 rintro r w4 ⟨A2,rfl,hsA2,hoA2,hB10,hB20,H4⟩
 clear hP2 hst1
 obtain⟨wy,hst2,hrg2,hbl2⟩:=jy w4 hsA2 hoA2
 have c1:wy.cell? ⟨w4.heap.size,10,none⟩=some (.int .i64 1):=hrg2 10 _ hB10
 have c2:wy.cell? ⟨w4.heap.size,20,none⟩=some (.int .i64 2):=hrg2 20 _ hB20
 obtain⟨cb,hob,hbl1,F0⟩:=HB.out
 have hb4:=H4.out.box (q:=2*0+1) (F0 0 (Nat.le_refl _)).1 (ai _ _ _) _ (List.mem_cons_self ..)
 have hb5:=(hbl2.block w3.heap.size (Array.getElem?_eq_some_iff.1 hb4).1).trans hb4
 have c0:wy.cell? ⟨w3.heap.size,10,none⟩=some (.int .i64 0):=(World.cell?_of_block (w:=wz) (a:=⟨w3.heap.size,10,none⟩) (hb5.trans hob.symm)).trans cb
 have hp5:=H4.out.below hbl2
 have hFr:=uU hp5
 have hMo:=xp hp5
 obtain⟨_,_,e1,e2,_⟩:=a3 (T:=yZ) a1.2.2
 rw[HX.out,uL,e1]at hFr
 rw[HX.out,vY,e2]at hMo
 have hbw:Below w1.heap.size w1 wy:=by
  obtain⟨t9,L9,h9,_⟩:=hp5
  exact h9.1.bel
 have HE:Hid (Below w.heap.size w wy):=H1.out.2.2.trans (hbw.mono H1.out.2.2.size)
 clear hrg2 hbl2 cb hob hbl1 F0 hb4 hb5 hp5 e1 e2 hbw HB H4 H3 H2 HX
 go_wp2_with fail
 refine hFr.mono ?_
 rintro r w6 ⟨rfl,rfl⟩
 go_wp2_with fail
 refine hMo.mono ?_
 rintro r w6 ⟨rfl,rfl⟩
 go_wp2_with fail
 go_ret
 exact⟨rfl,HE.out⟩
theorem ym (M R A B:Array Value) (k s e sd st:Int) (rq:Bool) (w:World) (m0:M[0]?=some (.int .i64 k)) (m2:M[2]?=some (.int .i64 s)) (r9:R[9]?=some (.int .i64 e)) (a6:A[6]?=some (.bool rq)) (b0:B[0]?=some (.int .i64 st))
  (hs:s=sd) (h:(k=6∧e=0∧rq=true)∨k=7∨(sd=2∧k≠6∧k≠7∧e=70∧st=6)):Calls Tryz.prog 19 #[.agg M,.agg R,.int .i64 sd,.agg A,.agg B] w fun r w'=>r=.returned (.bool true)∧Below w.heap.size w w':=by
 subst hs
 obtain⟨W,hW⟩:∃ y,(((w.alloc (.cells M 39)).alloc (.cells R 45)).alloc (.cells A 43)).alloc (.cells B 43)=y:=⟨_,rfl⟩
 obtain⟨x,hx⟩:∃ y,w.heap.size=y:=⟨_,rfl⟩
 have s1:=gi w (.cells M 39)
 have s2:=gi (w.alloc (.cells M 39)) (.cells R 45)
 have s3:=gi ((w.alloc (.cells M 39)).alloc (.cells R 45)) (.cells A 43)
 have bW:Below w.heap.size w W:=by rw[← hW];exact ay (ay (ay (ay (Below.refl _ w) _) _) _) _
 have k0:W.heap[w.heap.size]?=some (.cells M 39 (0,0)):=by rw[← hW];exact (Below.heap_alloc _ _ _ (by omega)).trans ((Below.heap_alloc _ _ _ (by omega)).trans ((Below.heap_alloc _ _ _ (by omega)).trans (au w _)))
 have k1:W.heap[w.heap.size+1]?=some (.cells R 45 (0,0)):=by rw[← hW];exact (Below.heap_alloc _ _ _ (by omega)).trans ((Below.heap_alloc _ _ _ (by omega)).trans (by have:=au (w.alloc (.cells M 39)) (.cells R 45);rw[s1]at this;exact this))
 have k2:W.heap[w.heap.size+1+1]?=some (.cells A 43 (0,0)):=by rw[← hW];exact (Below.heap_alloc _ _ _ (by omega)).trans (by have:=au ((w.alloc (.cells M 39)).alloc (.cells R 45)) (.cells A 43);rw[s2,s1]at this;exact this)
 have k3:W.heap[w.heap.size+1+1+1]?=some (.cells B 43 (0,0)):=by rw[← hW];have:=au (((w.alloc (.cells M 39)).alloc (.cells R 45)).alloc (.cells A 43)) (.cells B 43);rw[s3,s2,s1]at this;exact this
 rw[hx]at k0 k1 k2 k3
 have c0:W.cell? ⟨x,0,none⟩=some (.int .i64 k):=(ac W x 0 _ _ _ k0).trans m0
 have c2:W.cell? ⟨x,2,none⟩=some (.int .i64 s):=(ac W x 2 _ _ _ k0).trans m2
 have c9:W.cell? ⟨x+1,9,none⟩=some (.int .i64 e):=(ac W (x+1) 9 _ _ _ k1).trans r9
 have c6:W.cell? ⟨x+2,6,none⟩=some (.bool rq):=(ac W (x+2) 6 _ _ _ k2).trans a6
 have cs:W.cell? ⟨x+3,0,none⟩=some (.int .i64 st):=(ac W (x+3) 0 _ _ _ k3).trans b0
 have HB:Hid (Below w.heap.size w W):=bW
 have HE:Hid (_=W):=hW
 have HX:Hid (w.heap.size=x):=hx
 clear k0 k1 k2 k3 m0 m2 r9 a6 b0 s1 s2 s3 bW hW hx
 go_enter Tryz.func19,Tryz.ntmps19
 go_upto_region 1 with fail
 rw[HE.out,HX.out]
 rcases h with ⟨rfl,rfl,rfl⟩ | rfl | ⟨rfl,h6,h7,rfl,rfl⟩
 ·go_wp2_with fail
  go_ret
  exact⟨rfl,HB.out⟩
 ·go_wp2_with fail
  go_ret
  exact⟨rfl,HB.out⟩
 ·have q6:(k == 6)=false:=by simpa using h6
  have q7:(k == 7)=false:=by simpa using h7
  go_wp2_with fail
  go_ret
  exact⟨rfl,HB.out⟩
end Go.Proofs.YtdmjfemodihfhaaGreat
