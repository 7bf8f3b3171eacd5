/- Part 49 of the texts on which the proof rests: contracts of Go functions. -/
import Derived.Test.YtiopiheomoehbaaGreatPkG40
import Derived.Test.YtiopiheomoehbaaGreatPkG41
import Derived.Test.YtiopiheomoehbaaGreatPkG46
import Derived.Test.YtiopiheomoehbaaGreatPkG47
namespace Go.Proofs.YtiopiheomoehbaaGreat
set_option maxRecDepth 100000
open Go.RowKit Go.Maps
set_option linter.unusedVariables false
theorem pq_one {w:World} {q:Nat} (h:w.heap[q]?=some (.cells #[.int .u32 7,.int .i64 2,.int .i64 1,.int .i64 10,.int .u32 9] 68 (0,0))):PqRow w (some ⟨q,0,none⟩) 1 (fun _=>P0.q):=fun i hi=>by
 obtain rfl:i=0:=by omega
 refine⟨q,0,rfl,fun j u hu=>?_⟩
 rw[show 0+0*5+j=j by omega,cell_of_row w q j _ _ _ h]
 have e:(P0.q).cs.toArray=#[.int .u32 7,.int .i64 2,.int .i64 1,.int .i64 10,.int .u32 9]:=by rfl
 rw[← e]
 simpa using hu
theorem p0_ck:ckE 1 1 50 (fun _=>P0.q) (fun _=>P0.q)=0:=by decide
theorem pnewL0 (q0 q1:Nat) (w:World) (h0:w.heap[q0]?=some (.cells #[.int .u32 7,.int .i64 2,.int .i64 1,.int .i64 10,.int .u32 9] 68 (0,0))) (h1:w.heap[q1]?=some (.cells #[.int .u32 7,.int .i64 2,.int .i64 1,.int .i64 10,.int .u32 9] 68 (0,0))):Calls Tryz.prog 6 #[.agg #[.slice (some ⟨q0,0,none⟩) 1 1,.slice (some ⟨q1,0,none⟩) 1 1,.int .u32 50]] w fun r w'=>∃ L:Pw,r=.returned (.tuple #[.pointer (some ⟨L.x,0,none⟩),.int .i64 0])∧Hid (PW ev w w' (evT L) L∧L.S=s0 P0 P0 50):=
 wnewQ (fun _=>P0) (fun _=>P0) q0 0 1 q1 0 1 1 50 (fun _ _=>P0_ok) (fun _ _=>P0_ok) (by decide) (by decide) (by decide) (by decide) (by decide) (by decide) w (pq_one h0) (pq_one h1) p0_ck
theorem storeRow (w:World) {A:Array Value} (hs:A.size=29) (ho:A.all (·.oneCell')=true):∃ wz,(storeCells ⟨w.heap.size,0,none⟩ A.toList).run Tryz.prog (w.alloc (.cells #[.int .i64 0,.int .i64 0,.int .i64 0,.int .i64 0,.int .i64 0,.int .u32 0,.int .i64 0,.bool false,.slice none 0 0,.int .i64 0,.int .i64 0,.int .i64 0,.int .u32 0,.int .u32 0,.int .u32 0,.int .i64 0,.int .i64 0,.bool false,.bool false,.slice none 0 0,.int .i64 0,.int .u32 0,.int .u32 0,.int .u32 0,.int .i64 0,.int .i64 0,.bool false,.bool false,.slice none 0 0] 41))=.ok () wz∧wz.rangeAt w.heap.size 0 A.toList∧Below w.heap.size w wz:=by
 have kr:=heap_alloc_new w (.cells #[.int .i64 0,.int .i64 0,.int .i64 0,.int .i64 0,.int .i64 0,.int .u32 0,.int .i64 0,.bool false,.slice none 0 0,.int .i64 0,.int .i64 0,.int .i64 0,.int .u32 0,.int .u32 0,.int .u32 0,.int .i64 0,.int .i64 0,.bool false,.bool false,.slice none 0 0,.int .i64 0,.int .u32 0,.int .u32 0,.int .u32 0,.int .i64 0,.int .i64 0,.bool false,.bool false,.slice none 0 0] 41)
 have hth:(w.alloc (.cells #[.int .i64 0,.int .i64 0,.int .i64 0,.int .i64 0,.int .i64 0,.int .u32 0,.int .i64 0,.bool false,.slice none 0 0,.int .i64 0,.int .i64 0,.int .i64 0,.int .u32 0,.int .u32 0,.int .u32 0,.int .i64 0,.int .i64 0,.bool false,.bool false,.slice none 0 0,.int .i64 0,.int .u32 0,.int .u32 0,.int .u32 0,.int .i64 0,.int .i64 0,.bool false,.bool false,.slice none 0 0] 41)).there w.heap.size 0 A.size:=there_row kr (by rw[hs];rfl)
 exact⟨_,storeY_run hth ho,World.rangeAt_setCells_same _ w.heap.size 0 A.toList (by simpa using hth),(off_setCells _ w.heap.size 0 A.toList).below (belY (Below.refl _ _) _) (by simp) (by rw[sz1];omega)⟩
set_option maxHeartbeats 4000000 in
theorem awake17q (w:World):Calls Tryz.prog 5 #[] w fun r w'=>r=.returned (.bool true)∧Below w.heap.size w w':=by
 have hLo:=plone w
 go_enter Tryz.func5,Tryz.ntmps5
 go_wp2_with fail
 refine hLo.mono ?_
 rintro r w1 ⟨q0,q1,rfl,H1⟩
 clear hLo
 have hN:Calls Tryz.prog 6 #[.agg #[.slice (some ⟨q0,0,none⟩) 1 1,.slice (some ⟨q1,0,none⟩) 1 1,.int .u32 50]] w1 fun r w'=>∃ L:Pw,r=.returned (.tuple #[.pointer (some ⟨L.x,0,none⟩),.int .i64 0])∧Hid (PW ev w1 w' (evT L) L∧L.S=s0 P0 P0 50):=pnewL0 q0 q1 w1 H1.out.1 H1.out.2.1
 go_wp2_with fail
 refine hN.mono ?_
 rintro r w2 ⟨L,rfl,H2⟩
 clear hN
 have hP1:=aw1 H2.out.1 (evT_fre L) H2.out.2
 obtain⟨X,hX⟩:∃ y,L.x=y:=⟨_,rfl⟩
 rw[hX]at hP1 ⊢
 have HX:Hid (L.x=X):=hX
 clear hX
 go_wp2_with fail
 refine hP1.mono ?_
 rintro r w3 ⟨A,rfl,hsA,hoA,hA10,H3⟩
 clear hP1
 obtain⟨wz,hst1,hrg1,hbl1⟩:=storeRow w3 hsA hoA
 have cb:wz.cell? ⟨w3.heap.size,10,none⟩=some (.int .i64 0):=hrg1 10 _ hA10
 have lb:=World.block_lt_of_cell? wz _ cb
 obtain⟨ob,hob⟩:∃ ob,wz.heap[w3.heap.size]?=some ob:=⟨_,Array.getElem?_eq_getElem lb⟩
 have F0:=evT_fre L
 have hp2:=H3.out.layL hbl1 (i:=2*0+1) (F0 0 (Nat.le_refl _)).1 (l:=[(w3.heap.size,ob)]) (fun p hp=>by
  simp only[List.mem_cons,List.not_mem_nil,or_false]at hp
  subst hp
  exact hob) (fun p hp=>by
  simp only[List.mem_cons,List.not_mem_nil,or_false]at hp
  subst hp
  exact Nat.le_refl _)
 have F1:Fre ev (putT (evT L) (2*0+1) (blT [(w3.heap.size,ob)])) 1:=F0.put _
 have hP2:=aw2 (T:=aS1) a1.2.2 hp2 F1
 rw[HX.out]at hP2
 have HB:Hid (_):=And.intro cb (And.intro hob (And.intro hbl1 F0))
 clear hrg1 hbl1 cb lb hob hp2 F1 F0
 go_wp2_with fail
 refine hP2.mono ?_
 rintro r w4 ⟨A2,rfl,hsA2,hoA2,hB10,hB20,H4⟩
 clear hP2 hst1
 obtain⟨wy,hst2,hrg2,hbl2⟩:=storeRow w4 hsA2 hoA2
 have c1:wy.cell? ⟨w4.heap.size,10,none⟩=some (.int .i64 1):=hrg2 10 _ hB10
 have c2:wy.cell? ⟨w4.heap.size,20,none⟩=some (.int .i64 2):=hrg2 20 _ hB20
 obtain⟨cb,hob,hbl1,F0⟩:=HB.out
 have hb4:=H4.out.box (q:=2*0+1) (F0 0 (Nat.le_refl _)).1 (putT_same _ _ _) _ (List.mem_cons_self ..)
 have hb5:=(hbl2.block w3.heap.size (Array.getElem?_eq_some_iff.1 hb4).1).trans hb4
 have c0:wy.cell? ⟨w3.heap.size,10,none⟩=some (.int .i64 0):=(World.cell?_of_block (w:=wz) (a:=⟨w3.heap.size,10,none⟩) (hb5.trans hob.symm)).trans cb
 have hp5:=H4.out.below hbl2
 have hFr:=pframes hp5
 have hMo:=pmoves hp5
 obtain⟨_,_,e1,e2,_⟩:=a3 (T:=aS1) a1.2.2
 rw[HX.out,note_bg,e1]at hFr
 rw[HX.out,note_mv,e2]at hMo
 have hbw:Below w1.heap.size w1 wy:=by
  obtain⟨t9,L9,h9,_⟩:=hp5
  exact h9.1.bel
 have HE:Hid (Below w.heap.size w wy):=H1.out.2.2.trans (hbw.mono H1.out.2.2.size)
 clear hrg2 hbl2 cb hob hbl1 F0 hb4 hb5 hp5 e1 e2 hbw HB H4 H3 H2 HX
 go_wp2_with fail
 refine hFr.mono ?_
 rintro r w6 ⟨rfl,rfl⟩
 go_wp2_with fail
 refine hMo.mono ?_
 rintro r w6 ⟨rfl,rfl⟩
 go_wp2_with fail
 go_ret
 exact⟨rfl,HE.out⟩
set_option maxHeartbeats 4000000 in
theorem rsameM (m:Mv) (a a':Option Addr) (c c':Nat) (w:World) (R:Row8 w a m.l c m.b) (R':Row8 w a' m.l c' m.b):Calls Tryz.prog 28 #[.agg #[.int .i64 m.k,.int .i64 m.c,.int .i64 m.s,.int .i64 m.f,.int .i64 m.a,.int .u32 (m.w:Nat),.int .i64 m.n,.bool m.h,.slice a m.l c],.agg #[.int .i64 m.k,.int .i64 m.c,.int .i64 m.s,.int .i64 m.f,.int .i64 m.a,.int .u32 (m.w:Nat),.int .i64 m.n,.bool m.h,.slice a' m.l c']] w fun r w'=>r=.returned (.bool true)∧Below w.heap.size w w':=by
 have s1:=sz1 w (.cells #[.int .i64 m.k,.int .i64 m.c,.int .i64 m.s,.int .i64 m.f,.int .i64 m.a,.int .u32 (m.w:Nat),.int .i64 m.n,.bool m.h,.slice a m.l c] 27)
 have bW:Below w.heap.size w ((w.alloc (.cells #[.int .i64 m.k,.int .i64 m.c,.int .i64 m.s,.int .i64 m.f,.int .i64 m.a,.int .u32 (m.w:Nat),.int .i64 m.n,.bool m.h,.slice a m.l c] 27)).alloc (.cells #[.int .i64 m.k,.int .i64 m.c,.int .i64 m.s,.int .i64 m.f,.int .i64 m.a,.int .u32 (m.w:Nat),.int .i64 m.n,.bool m.h,.slice a' m.l c'] 27)):=belY (belY (Below.refl _ w) _) _
 have kp:((w.alloc (.cells #[.int .i64 m.k,.int .i64 m.c,.int .i64 m.s,.int .i64 m.f,.int .i64 m.a,.int .u32 (m.w:Nat),.int .i64 m.n,.bool m.h,.slice a m.l c] 27)).alloc (.cells #[.int .i64 m.k,.int .i64 m.c,.int .i64 m.s,.int .i64 m.f,.int .i64 m.a,.int .u32 (m.w:Nat),.int .i64 m.n,.bool m.h,.slice a' m.l c'] 27)).heap[w.heap.size]?=some (.cells #[.int .i64 m.k,.int .i64 m.c,.int .i64 m.s,.int .i64 m.f,.int .i64 m.a,.int .u32 (m.w:Nat),.int .i64 m.n,.bool m.h,.slice a m.l c] 27 (0,0)):=(Below.heap_alloc _ _ _ (by omega)).trans (heap_alloc_new w _)
 have kq:=heap_alloc_new (w.alloc (.cells #[.int .i64 m.k,.int .i64 m.c,.int .i64 m.s,.int .i64 m.f,.int .i64 m.a,.int .u32 (m.w:Nat),.int .i64 m.n,.bool m.h,.slice a m.l c] 27)) (.cells #[.int .i64 m.k,.int .i64 m.c,.int .i64 m.s,.int .i64 m.f,.int .i64 m.a,.int .u32 (m.w:Nat),.int .i64 m.n,.bool m.h,.slice a' m.l c'] 27)
 rw[s1]at kq
 obtain⟨W,hW⟩:∃ z,(w.alloc (.cells #[.int .i64 m.k,.int .i64 m.c,.int .i64 m.s,.int .i64 m.f,.int .i64 m.a,.int .u32 (m.w:Nat),.int .i64 m.n,.bool m.h,.slice a m.l c] 27)).alloc (.cells #[.int .i64 m.k,.int .i64 m.c,.int .i64 m.s,.int .i64 m.f,.int .i64 m.a,.int .u32 (m.w:Nat),.int .i64 m.n,.bool m.h,.slice a' m.l c'] 27)=z:=⟨_,rfl⟩
 rw[hW]at bW kp kq
 obtain⟨x,hx⟩:∃ z,w.heap.size=z:=⟨_,rfl⟩
 have HB:Hid (Below w.heap.size w W):=bW
 rw[hx]at kp kq
 have p0:W.cell? ⟨x,0,none⟩=some (.int .i64 m.k):=cell_of_row W (x) 0 _ _ _ kp
 have p1:W.cell? ⟨x,1,none⟩=some (.int .i64 m.c):=cell_of_row W (x) 1 _ _ _ kp
 have p2:W.cell? ⟨x,2,none⟩=some (.int .i64 m.s):=cell_of_row W (x) 2 _ _ _ kp
 have p3:W.cell? ⟨x,3,none⟩=some (.int .i64 m.f):=cell_of_row W (x) 3 _ _ _ kp
 have p4:W.cell? ⟨x,4,none⟩=some (.int .i64 m.a):=cell_of_row W (x) 4 _ _ _ kp
 have p5:W.cell? ⟨x,5,none⟩=some (.int .u32 (m.w:Nat)):=cell_of_row W (x) 5 _ _ _ kp
 have p6:W.cell? ⟨x,6,none⟩=some (.int .i64 m.n):=cell_of_row W (x) 6 _ _ _ kp
 have p7:W.cell? ⟨x,7,none⟩=some (.bool m.h):=cell_of_row W (x) 7 _ _ _ kp
 have p8:W.cell? ⟨x,8,none⟩=some (.slice a m.l c):=cell_of_row W (x) 8 _ _ _ kp
 have q0:W.cell? ⟨x+1,0,none⟩=some (.int .i64 m.k):=cell_of_row W (x+1) 0 _ _ _ kq
 have q1:W.cell? ⟨x+1,1,none⟩=some (.int .i64 m.c):=cell_of_row W (x+1) 1 _ _ _ kq
 have q2:W.cell? ⟨x+1,2,none⟩=some (.int .i64 m.s):=cell_of_row W (x+1) 2 _ _ _ kq
 have q3:W.cell? ⟨x+1,3,none⟩=some (.int .i64 m.f):=cell_of_row W (x+1) 3 _ _ _ kq
 have q4:W.cell? ⟨x+1,4,none⟩=some (.int .i64 m.a):=cell_of_row W (x+1) 4 _ _ _ kq
 have q5:W.cell? ⟨x+1,5,none⟩=some (.int .u32 (m.w:Nat)):=cell_of_row W (x+1) 5 _ _ _ kq
 have q6:W.cell? ⟨x+1,6,none⟩=some (.int .i64 m.n):=cell_of_row W (x+1) 6 _ _ _ kq
 have q7:W.cell? ⟨x+1,7,none⟩=some (.bool m.h):=cell_of_row W (x+1) 7 _ _ _ kq
 have q8:W.cell? ⟨x+1,8,none⟩=some (.slice a' m.l c'):=cell_of_row W (x+1) 8 _ _ _ kq
 have HE:Hid (_=W):=hW
 have HS:Hid (w.heap.size=x):=hx
 have c1:=conv_any a m.l c m.b W (R.below bW)
 have c2:=conv_any a' m.l c' m.b W (R'.below bW)
 obtain⟨X,hX⟩:∃ X,BA m.b m.l=X:=⟨_,rfl⟩
 rw[hX]at c1 c2
 clear s1 bW kp kq hW hx hX R R'
 go_enter Tryz.func28,Tryz.ntmps28
 go_upto_region 1 with fail
 rw[HE.out,HS.out]
 go_wp2_with fail
 go_ret
 exact⟨by simp,HB.out⟩
set_option maxHeartbeats 8000000 in
theorem rsameR (m:Mv) (E I h0 h1 h2 h3 h4 h5:Int) (hq ho:Bool) (hn:Nat) (hb:Nat→Nat) (d0 d1 d2 d3 d4 d5:Int) (dq dO:Bool) (dn:Nat) (db:Nat→Nat) (a a' ah ah' ad ad':Option Addr) (c c' ch ch' cd cd':Nat) (w:World) (R:Row8 w a m.l c m.b) (R':Row8 w a' m.l c' m.b) (Rh:Row8 w ah hn ch hb) (Rh':Row8 w ah' hn ch' hb) (Rd:Row8 w ad dn cd db) (Rd':Row8 w ad' dn cd' db):Calls Tryz.prog 11 #[.agg #[.int .i64 m.k,.int .i64 m.c,.int .i64 m.s,.int .i64 m.f,.int .i64 m.a,.int .u32 (m.w:Nat),.int .i64 m.n,.bool m.h,.slice a m.l c,.int .i64 E,.int .i64 I,.int .i64 h0,.int .u32 h1,.int .u32 h2,.int .u32 h3,.int .i64 h4,.int .i64 h5,.bool hq,.bool ho,.slice ah hn ch,.int .i64 d0,.int .u32 d1,.int .u32 d2,.int .u32 d3,.int .i64 d4,.int .i64 d5,.bool dq,.bool dO,.slice ad dn cd],.agg #[.int .i64 m.k,.int .i64 m.c,.int .i64 m.s,.int .i64 m.f,.int .i64 m.a,.int .u32 (m.w:Nat),.int .i64 m.n,.bool m.h,.slice a' m.l c',.int .i64 E,.int .i64 I,.int .i64 h0,.int .u32 h1,.int .u32 h2,.int .u32 h3,.int .i64 h4,.int .i64 h5,.bool hq,.bool ho,.slice ah' hn ch',.int .i64 d0,.int .u32 d1,.int .u32 d2,.int .u32 d3,.int .i64 d4,.int .i64 d5,.bool dq,.bool dO,.slice ad' dn cd']] w fun r w'=>r=.returned (.bool true)∧Below w.heap.size w w':=by
 have s1:=sz1 w (.cells #[.int .i64 m.k,.int .i64 m.c,.int .i64 m.s,.int .i64 m.f,.int .i64 m.a,.int .u32 (m.w:Nat),.int .i64 m.n,.bool m.h,.slice a m.l c,.int .i64 E,.int .i64 I,.int .i64 h0,.int .u32 h1,.int .u32 h2,.int .u32 h3,.int .i64 h4,.int .i64 h5,.bool hq,.bool ho,.slice ah hn ch,.int .i64 d0,.int .u32 d1,.int .u32 d2,.int .u32 d3,.int .i64 d4,.int .i64 d5,.bool dq,.bool dO,.slice ad dn cd] 41)
 have bW:Below w.heap.size w ((w.alloc (.cells #[.int .i64 m.k,.int .i64 m.c,.int .i64 m.s,.int .i64 m.f,.int .i64 m.a,.int .u32 (m.w:Nat),.int .i64 m.n,.bool m.h,.slice a m.l c,.int .i64 E,.int .i64 I,.int .i64 h0,.int .u32 h1,.int .u32 h2,.int .u32 h3,.int .i64 h4,.int .i64 h5,.bool hq,.bool ho,.slice ah hn ch,.int .i64 d0,.int .u32 d1,.int .u32 d2,.int .u32 d3,.int .i64 d4,.int .i64 d5,.bool dq,.bool dO,.slice ad dn cd] 41)).alloc (.cells #[.int .i64 m.k,.int .i64 m.c,.int .i64 m.s,.int .i64 m.f,.int .i64 m.a,.int .u32 (m.w:Nat),.int .i64 m.n,.bool m.h,.slice a' m.l c',.int .i64 E,.int .i64 I,.int .i64 h0,.int .u32 h1,.int .u32 h2,.int .u32 h3,.int .i64 h4,.int .i64 h5,.bool hq,.bool ho,.slice ah' hn ch',.int .i64 d0,.int .u32 d1,.int .u32 d2,.int .u32 d3,.int .i64 d4,.int .i64 d5,.bool dq,.bool dO,.slice ad' dn cd'] 41)):=belY (belY (Below.refl _ w) _) _
 have kp:((w.alloc (.cells #[.int .i64 m.k,.int .i64 m.c,.int .i64 m.s,.int .i64 m.f,.int .i64 m.a,.int .u32 (m.w:Nat),.int .i64 m.n,.bool m.h,.slice a m.l c,.int .i64 E,.int .i64 I,.int .i64 h0,.int .u32 h1,.int .u32 h2,.int .u32 h3,.int .i64 h4,.int .i64 h5,.bool hq,.bool ho,.slice ah hn ch,.int .i64 d0,.int .u32 d1,.int .u32 d2,.int .u32 d3,.int .i64 d4,.int .i64 d5,.bool dq,.bool dO,.slice ad dn cd] 41)).alloc (.cells #[.int .i64 m.k,.int .i64 m.c,.int .i64 m.s,.int .i64 m.f,.int .i64 m.a,.int .u32 (m.w:Nat),.int .i64 m.n,.bool m.h,.slice a' m.l c',.int .i64 E,.int .i64 I,.int .i64 h0,.int .u32 h1,.int .u32 h2,.int .u32 h3,.int .i64 h4,.int .i64 h5,.bool hq,.bool ho,.slice ah' hn ch',.int .i64 d0,.int .u32 d1,.int .u32 d2,.int .u32 d3,.int .i64 d4,.int .i64 d5,.bool dq,.bool dO,.slice ad' dn cd'] 41)).heap[w.heap.size]?=some (.cells #[.int .i64 m.k,.int .i64 m.c,.int .i64 m.s,.int .i64 m.f,.int .i64 m.a,.int .u32 (m.w:Nat),.int .i64 m.n,.bool m.h,.slice a m.l c,.int .i64 E,.int .i64 I,.int .i64 h0,.int .u32 h1,.int .u32 h2,.int .u32 h3,.int .i64 h4,.int .i64 h5,.bool hq,.bool ho,.slice ah hn ch,.int .i64 d0,.int .u32 d1,.int .u32 d2,.int .u32 d3,.int .i64 d4,.int .i64 d5,.bool dq,.bool dO,.slice ad dn cd] 41 (0,0)):=(Below.heap_alloc _ _ _ (by omega)).trans (heap_alloc_new w _)
 have kq:=heap_alloc_new (w.alloc (.cells #[.int .i64 m.k,.int .i64 m.c,.int .i64 m.s,.int .i64 m.f,.int .i64 m.a,.int .u32 (m.w:Nat),.int .i64 m.n,.bool m.h,.slice a m.l c,.int .i64 E,.int .i64 I,.int .i64 h0,.int .u32 h1,.int .u32 h2,.int .u32 h3,.int .i64 h4,.int .i64 h5,.bool hq,.bool ho,.slice ah hn ch,.int .i64 d0,.int .u32 d1,.int .u32 d2,.int .u32 d3,.int .i64 d4,.int .i64 d5,.bool dq,.bool dO,.slice ad dn cd] 41)) (.cells #[.int .i64 m.k,.int .i64 m.c,.int .i64 m.s,.int .i64 m.f,.int .i64 m.a,.int .u32 (m.w:Nat),.int .i64 m.n,.bool m.h,.slice a' m.l c',.int .i64 E,.int .i64 I,.int .i64 h0,.int .u32 h1,.int .u32 h2,.int .u32 h3,.int .i64 h4,.int .i64 h5,.bool hq,.bool ho,.slice ah' hn ch',.int .i64 d0,.int .u32 d1,.int .u32 d2,.int .u32 d3,.int .i64 d4,.int .i64 d5,.bool dq,.bool dO,.slice ad' dn cd'] 41)
 rw[s1]at kq
 obtain⟨W,hW⟩:∃ z,(w.alloc (.cells #[.int .i64 m.k,.int .i64 m.c,.int .i64 m.s,.int .i64 m.f,.int .i64 m.a,.int .u32 (m.w:Nat),.int .i64 m.n,.bool m.h,.slice a m.l c,.int .i64 E,.int .i64 I,.int .i64 h0,.int .u32 h1,.int .u32 h2,.int .u32 h3,.int .i64 h4,.int .i64 h5,.bool hq,.bool ho,.slice ah hn ch,.int .i64 d0,.int .u32 d1,.int .u32 d2,.int .u32 d3,.int .i64 d4,.int .i64 d5,.bool dq,.bool dO,.slice ad dn cd] 41)).alloc (.cells #[.int .i64 m.k,.int .i64 m.c,.int .i64 m.s,.int .i64 m.f,.int .i64 m.a,.int .u32 (m.w:Nat),.int .i64 m.n,.bool m.h,.slice a' m.l c',.int .i64 E,.int .i64 I,.int .i64 h0,.int .u32 h1,.int .u32 h2,.int .u32 h3,.int .i64 h4,.int .i64 h5,.bool hq,.bool ho,.slice ah' hn ch',.int .i64 d0,.int .u32 d1,.int .u32 d2,.int .u32 d3,.int .i64 d4,.int .i64 d5,.bool dq,.bool dO,.slice ad' dn cd'] 41)=z:=⟨_,rfl⟩
 rw[hW]at bW kp kq
 obtain⟨x,hx⟩:∃ z,w.heap.size=z:=⟨_,rfl⟩
 have HB:Hid (Below w.heap.size w W):=bW
 rw[hx]at kp kq
 have p0:W.cell? ⟨x,0,none⟩=some (.int .i64 m.k):=cell_of_row W (x) 0 _ _ _ kp
 have p1:W.cell? ⟨x,1,none⟩=some (.int .i64 m.c):=cell_of_row W (x) 1 _ _ _ kp
 have p2:W.cell? ⟨x,2,none⟩=some (.int .i64 m.s):=cell_of_row W (x) 2 _ _ _ kp
 have p3:W.cell? ⟨x,3,none⟩=some (.int .i64 m.f):=cell_of_row W (x) 3 _ _ _ kp
 have p4:W.cell? ⟨x,4,none⟩=some (.int .i64 m.a):=cell_of_row W (x) 4 _ _ _ kp
 have p5:W.cell? ⟨x,5,none⟩=some (.int .u32 (m.w:Nat)):=cell_of_row W (x) 5 _ _ _ kp
 have p6:W.cell? ⟨x,6,none⟩=some (.int .i64 m.n):=cell_of_row W (x) 6 _ _ _ kp
 have p7:W.cell? ⟨x,7,none⟩=some (.bool m.h):=cell_of_row W (x) 7 _ _ _ kp
 have p8:W.cell? ⟨x,8,none⟩=some (.slice a m.l c):=cell_of_row W (x) 8 _ _ _ kp
 have q0:W.cell? ⟨x+1,0,none⟩=some (.int .i64 m.k):=cell_of_row W (x+1) 0 _ _ _ kq
 have q1:W.cell? ⟨x+1,1,none⟩=some (.int .i64 m.c):=cell_of_row W (x+1) 1 _ _ _ kq
 have q2:W.cell? ⟨x+1,2,none⟩=some (.int .i64 m.s):=cell_of_row W (x+1) 2 _ _ _ kq
 have q3:W.cell? ⟨x+1,3,none⟩=some (.int .i64 m.f):=cell_of_row W (x+1) 3 _ _ _ kq
 have q4:W.cell? ⟨x+1,4,none⟩=some (.int .i64 m.a):=cell_of_row W (x+1) 4 _ _ _ kq
 have q5:W.cell? ⟨x+1,5,none⟩=some (.int .u32 (m.w:Nat)):=cell_of_row W (x+1) 5 _ _ _ kq
 have q6:W.cell? ⟨x+1,6,none⟩=some (.int .i64 m.n):=cell_of_row W (x+1) 6 _ _ _ kq
 have q7:W.cell? ⟨x+1,7,none⟩=some (.bool m.h):=cell_of_row W (x+1) 7 _ _ _ kq
 have q8:W.cell? ⟨x+1,8,none⟩=some (.slice a' m.l c'):=cell_of_row W (x+1) 8 _ _ _ kq
 have HE:Hid (_=W):=hW
 have HS:Hid (w.heap.size=x):=hx
 have hM:=rsameM m a a' c c' W (R.below bW) (R'.below bW)
 have HP:Hid (_):=kp
 have HQ:Hid (_):=kq
 have HR:Hid (_):=And.intro (Rh.below bW) (And.intro (Rh'.below bW) (And.intro (Rd.below bW) (Rd'.below bW)))
 clear s1 bW kp kq hW hx R R' Rh Rh' Rd Rd'
 go_enter Tryz.func11,Tryz.ntmps11
 go_upto_region 1 with fail
 rw[HE.out,HS.out]
 go_wp2_with fail
 refine hM.mono ?_
 rintro r w1 ⟨rfl,b1⟩
 clear hM p0 q0 p1 q1 p2 q2 p3 q3 p4 q4 p5 q5 p6 q6 p7 q7 p8 q8
 have kp:=(b1.block x (Array.getElem?_eq_some_iff.1 HP.out).1).trans HP.out
 have kq:=(b1.block (x+1) (Array.getElem?_eq_some_iff.1 HQ.out).1).trans HQ.out
 have p9:w1.cell? ⟨x,9,none⟩=some (.int .i64 E):=cell_of_row w1 (x) 9 _ _ _ kp
 have p10:w1.cell? ⟨x,10,none⟩=some (.int .i64 I):=cell_of_row w1 (x) 10 _ _ _ kp
 have p11:w1.cell? ⟨x,11,none⟩=some (.int .i64 h0):=cell_of_row w1 (x) 11 _ _ _ kp
 have p12:w1.cell? ⟨x,12,none⟩=some (.int .u32 h1):=cell_of_row w1 (x) 12 _ _ _ kp
 have p13:w1.cell? ⟨x,13,none⟩=some (.int .u32 h2):=cell_of_row w1 (x) 13 _ _ _ kp
 have p14:w1.cell? ⟨x,14,none⟩=some (.int .u32 h3):=cell_of_row w1 (x) 14 _ _ _ kp
 have p15:w1.cell? ⟨x,15,none⟩=some (.int .i64 h4):=cell_of_row w1 (x) 15 _ _ _ kp
 have p16:w1.cell? ⟨x,16,none⟩=some (.int .i64 h5):=cell_of_row w1 (x) 16 _ _ _ kp
 have p17:w1.cell? ⟨x,17,none⟩=some (.bool hq):=cell_of_row w1 (x) 17 _ _ _ kp
 have p18:w1.cell? ⟨x,18,none⟩=some (.bool ho):=cell_of_row w1 (x) 18 _ _ _ kp
 have p19:w1.cell? ⟨x,19,none⟩=some (.slice ah hn ch):=cell_of_row w1 (x) 19 _ _ _ kp
 have q9:w1.cell? ⟨x+1,9,none⟩=some (.int .i64 E):=cell_of_row w1 (x+1) 9 _ _ _ kq
 have q10:w1.cell? ⟨x+1,10,none⟩=some (.int .i64 I):=cell_of_row w1 (x+1) 10 _ _ _ kq
 have q11:w1.cell? ⟨x+1,11,none⟩=some (.int .i64 h0):=cell_of_row w1 (x+1) 11 _ _ _ kq
 have q12:w1.cell? ⟨x+1,12,none⟩=some (.int .u32 h1):=cell_of_row w1 (x+1) 12 _ _ _ kq
 have q13:w1.cell? ⟨x+1,13,none⟩=some (.int .u32 h2):=cell_of_row w1 (x+1) 13 _ _ _ kq
 have q14:w1.cell? ⟨x+1,14,none⟩=some (.int .u32 h3):=cell_of_row w1 (x+1) 14 _ _ _ kq
 have q15:w1.cell? ⟨x+1,15,none⟩=some (.int .i64 h4):=cell_of_row w1 (x+1) 15 _ _ _ kq
 have q16:w1.cell? ⟨x+1,16,none⟩=some (.int .i64 h5):=cell_of_row w1 (x+1) 16 _ _ _ kq
 have q17:w1.cell? ⟨x+1,17,none⟩=some (.bool hq):=cell_of_row w1 (x+1) 17 _ _ _ kq
 have q18:w1.cell? ⟨x+1,18,none⟩=some (.bool ho):=cell_of_row w1 (x+1) 18 _ _ _ kq
 have q19:w1.cell? ⟨x+1,19,none⟩=some (.slice ah' hn ch'):=cell_of_row w1 (x+1) 19 _ _ _ kq
 have hE:=same13_any h0 h1 h2 h3 h4 h5 hq ho ah ah' hn hn ch ch' hb hb w1 (HR.out.1.below b1) (HR.out.2.1.below b1) rfl
 have HB1:Hid (_):=b1
 clear b1 kp kq
 go_wp2_with fail
 refine hE.mono ?_
 rintro r w2 ⟨rfl,b2⟩
 clear hE p9 q9 p10 q10 p11 q11 p12 q12 p13 q13 p14 q14 p15 q15 p16 q16 p17 q17 p18 q18 p19 q19
 have b12:Below W.heap.size W w2:=HB1.out.trans (b2.mono HB1.out.size)
 have kp:=(b12.block x (Array.getElem?_eq_some_iff.1 HP.out).1).trans HP.out
 have kq:=(b12.block (x+1) (Array.getElem?_eq_some_iff.1 HQ.out).1).trans HQ.out
 have p20:w2.cell? ⟨x,20,none⟩=some (.int .i64 d0):=cell_of_row w2 (x) 20 _ _ _ kp
 have p21:w2.cell? ⟨x,21,none⟩=some (.int .u32 d1):=cell_of_row w2 (x) 21 _ _ _ kp
 have p22:w2.cell? ⟨x,22,none⟩=some (.int .u32 d2):=cell_of_row w2 (x) 22 _ _ _ kp
 have p23:w2.cell? ⟨x,23,none⟩=some (.int .u32 d3):=cell_of_row w2 (x) 23 _ _ _ kp
 have p24:w2.cell? ⟨x,24,none⟩=some (.int .i64 d4):=cell_of_row w2 (x) 24 _ _ _ kp
 have p25:w2.cell? ⟨x,25,none⟩=some (.int .i64 d5):=cell_of_row w2 (x) 25 _ _ _ kp
 have p26:w2.cell? ⟨x,26,none⟩=some (.bool dq):=cell_of_row w2 (x) 26 _ _ _ kp
 have p27:w2.cell? ⟨x,27,none⟩=some (.bool dO):=cell_of_row w2 (x) 27 _ _ _ kp
 have p28:w2.cell? ⟨x,28,none⟩=some (.slice ad dn cd):=cell_of_row w2 (x) 28 _ _ _ kp
 have q20:w2.cell? ⟨x+1,20,none⟩=some (.int .i64 d0):=cell_of_row w2 (x+1) 20 _ _ _ kq
 have q21:w2.cell? ⟨x+1,21,none⟩=some (.int .u32 d1):=cell_of_row w2 (x+1) 21 _ _ _ kq
 have q22:w2.cell? ⟨x+1,22,none⟩=some (.int .u32 d2):=cell_of_row w2 (x+1) 22 _ _ _ kq
 have q23:w2.cell? ⟨x+1,23,none⟩=some (.int .u32 d3):=cell_of_row w2 (x+1) 23 _ _ _ kq
 have q24:w2.cell? ⟨x+1,24,none⟩=some (.int .i64 d4):=cell_of_row w2 (x+1) 24 _ _ _ kq
 have q25:w2.cell? ⟨x+1,25,none⟩=some (.int .i64 d5):=cell_of_row w2 (x+1) 25 _ _ _ kq
 have q26:w2.cell? ⟨x+1,26,none⟩=some (.bool dq):=cell_of_row w2 (x+1) 26 _ _ _ kq
 have q27:w2.cell? ⟨x+1,27,none⟩=some (.bool dO):=cell_of_row w2 (x+1) 27 _ _ _ kq
 have q28:w2.cell? ⟨x+1,28,none⟩=some (.slice ad' dn cd'):=cell_of_row w2 (x+1) 28 _ _ _ kq
 have hE:=same13_any d0 d1 d2 d3 d4 d5 dq dO ad ad' dn dn cd cd' db db w2 (HR.out.2.2.1.below b12) (HR.out.2.2.2.below b12) rfl
 have HB2:Hid (_):=b12
 clear b2 b12 kp kq
 go_wp2_with fail
 refine hE.mono ?_
 rintro r w3 ⟨rfl,b3⟩
 clear hE p20 q20 p21 q21 p22 q22 p23 q23 p24 q24 p25 q25 p26 q26 p27 q27 p28 q28
 go_wp2_with fail
 go_ret
 exact⟨rfl,HB.out.trans ((HB2.out.trans (b3.mono HB2.out.size)).mono HB.out.size)⟩
theorem flA_one:∀ (F:List Fa) (D:List Dl),∀ u ∈ flA F D,u.oneCell'=true
 | f :: F,d :: D,u,hu=>by
  rcases List.mem_append.1 (show u ∈ f.cs d ++ flA F D from hu) with h | h
  ·simp[Fa.cs]at h
   rcases h with rfl | rfl | rfl | rfl | rfl | rfl | rfl | rfl <;> rfl
  ·exact flA_one F D u h
 | [],[],u,hu=>by simp[flA]at hu
 | [],d :: D,u,hu=>by simp[flA]at hu
 | f :: F,[],u,hu=>by simp[flA]at hu
theorem flA_get:∀ (F:List Fa) (D:List Dl) (i j:Nat) (f:Fa) (d:Dl),F[i]?=some f→D[i]?=some d→j<8→(flA F D)[i*8+j]?=(f.cs d)[j]?
 | g :: F,e :: D,0,j,f,d,hf,hd,hj=>by
  simp at hf hd
  subst hf hd
  show (g.cs e ++ flA F D)[0*8+j]?=_
  rw[Nat.zero_mul,Nat.zero_add,List.getElem?_append_left (by show j<8;exact hj)]
 | g :: F,e :: D,i+1,j,f,d,hf,hd,hj=>by
  have:=flA_get F D i j f d (by simpa using hf) (by simpa using hd) hj
  show (g.cs e ++ flA F D)[(i+1)*8+j]?=_
  have hl:(g.cs e).length=8:=rfl
  rw[List.getElem?_append_right (by rw[hl];omega),hl,show (i+1)*8+j-8=i*8+j by omega]
  exact this
 | [],_,i,j,f,d,hf,hd,hj=>by simp at hf
 | g :: F,[],i,j,f,d,hf,hd,hj=>by simp at hd
def FaRow (w:World) (a:Option Addr) (fs:List Fa):Prop:=∀ i f,fs[i]?=some f→∃ q d c,a=some ⟨q,0,none⟩∧(∀ j u,(f.cs (d,c))[j]?=some u→w.cell? ⟨q,i*8+j,none⟩=some u)∧Row8 w d f.d.1 c f.d.2
theorem FaRow.below {w w':World} {a:Option Addr} {fs:List Fa} (h:FaRow w a fs) (b:Below w.heap.size w w'):FaRow w' a fs:=fun i f hf=>by
 obtain⟨q,d,c,e,k,R⟩:=h i f hf
 exact⟨q,d,c,e,fun j u hu=>cellY (k j u hu) b,R.below b⟩
structure Cf (w wr:World) (g:Nat) (fs:List Fa):Prop where
 bel:Below w.heap.size w wr
 blk:∃ cur,wr.heap[g]?=some (.cells cur 81 (0,0))
 row:∀ i f,fs[i]?=some f→∃ da dc,(∀ j u,(f.cs (da,dc))[j]?=some u→wr.cell? ⟨g,i*8+j,none⟩=some u)∧Row8 wr da f.d.1 dc f.d.2∧∀ y,da=some y→0<f.d.1→y.block≠g
section
variable {w wr w':World} {g:Nat} {fs:List Fa}
theorem Cf.below (h:Cf w wr g fs) (b:Below wr.heap.size wr w'):Cf w w' g fs:=by
 obtain⟨cur,hc⟩:=h.blk
 refine⟨h.bel.trans (b.mono h.bel.size),⟨cur,(b.block g (Array.getElem?_eq_some_iff.1 hc).1).trans hc⟩,fun i f hf=>?_⟩
 obtain⟨da,dc,h1,h2,h3⟩:=h.row i f hf
 exact⟨da,dc,fun j u hu=>cellY (h1 j u hu) b,h2.below b,h3⟩
theorem Cf.frow (h:Cf w wr g fs):FaRow wr (some ⟨g,0,none⟩) fs:=fun i f hf=>by
 obtain⟨da,dc,h1,h2,_⟩:=h.row i f hf
 exact⟨g,da,dc,rfl,h1,h2⟩
theorem Cf.set (h:Cf w wr g fs) (hg:w.heap.size≤g) {i:Nat} {f:Fa} (hf:fs[i]?=some f) {da:Option Addr} {dc:Nat} (R:Row8 wr da f.d.1 dc f.d.2) (hd:∀ y,da=some y→0<f.d.1→y.block≠g):Cf w (wr.setCell ⟨g,i*8+7,none⟩ (.slice da f.d.1 dc)) g fs:=by
 have o:Off [g] wr (wr.setCell ⟨g,i*8+7,none⟩ (.slice da f.d.1 dc)):=Off.setCell _ _ _ _
 obtain⟨cur,hc⟩:=h.blk
 refine⟨o.below h.bel (fun k hk=>by simp at hk;omega) h.bel.size,⟨_,heap_setCell_same _ _ _ _ _ _ hc⟩,fun k f' hk=>?_⟩
 obtain⟨dk,ck,h1,h2,h3⟩:=h.row k f' hk
 by_cases e:k=i
 ·subst e
  obtain rfl:f=f':=by rw[hf]at hk;exact Option.some.inj hk
  refine⟨da,dc,fun j u hu=>?_,R.offY o (fun y hy hn=>by simpa using hd y hy hn),hd⟩
  have hj:j<8:=(List.getElem?_eq_some_iff.1 hu).1
  by_cases e7:j=7
  ·subst e7
   simp[Fa.cs]at hu
   subst hu
   exact World.cell?_setCell_same _ _ _ (h1 7 _ rfl)
  ·rw[World.cell?_setCell_other _ _ _ _ (by intro q;have:=congrArg Addr.off q;simp at this;omega)]
   have:j=0∨j=1∨j=2∨j=3∨j=4∨j=5∨j=6:=by omega
   rcases this with rfl | rfl | rfl | rfl | rfl | rfl | rfl
   all_goals exact h1 _ u hu
 ·refine⟨dk,ck,fun j u hu=>?_,h2.offY o (fun y hy hn=>by simpa using h3 y hy hn),h3⟩
  have hj:j<8:=(List.getElem?_eq_some_iff.1 hu).1
  rw[World.cell?_setCell_other _ _ _ _ (by intro q;have:=congrArg Addr.off q;simp at this;omega)]
  exact h1 j u hu
theorem Cf.made {D:List Dl} {c:Nat} (b:Below w.heap.size w w') (hg:w.heap.size≤g) (o:w'.ownsRow w.heap.size 81 8 (.slice (some ⟨g,0,none⟩) fs.length c) fs.length (flA fs D)) (hl:D.length=fs.length) (R:∀ (i:Nat) (f:Fa) (d:Dl),fs[i]?=some f→D[i]?=some d→Row8 w d.1 f.d.1 d.2 f.d.2):Cf w w' g fs:=by
 refine⟨b,own_type o rfl,fun i f hf=>?_⟩
 have hi:i<D.length:=by rw[hl];exact (List.getElem?_eq_some_iff.1 hf).1
 have hd:D[i]?=some D[i]:=List.getElem?_eq_getElem hi
 have Ri:=R i f _ hf hd
 refine⟨(D[i]).1,(D[i]).2,fun j u hu=>?_,Ri.below b,fun y hy hn=>?_⟩
 ·have hj:j<8:=(List.getElem?_eq_some_iff.1 hu).1
  exact own_cellY o (i*8+j) u (by rw[flA_get fs D i j f _ hf hd hj];exact hu)
 ·have h1:=Ri.src y hy 0 hn
  have hlt:=World.block_lt_of_cell? w _ h1
  have hb:(y.add 0).block=y.block:=by unfold Addr.add;split <;> rfl
  omega
end
theorem info_factY:(Tryz.prog.info? 81).map (fun i=>(i.zero,i.size,i.bytes))=some (some (.agg #[.int .i64 0,.int .i64 0,.int .i64 0,.int .u32 0,.int .u32 0,.bool false,.int .i64 0,.slice none 0 0]),8,72):=by kernel_rfl
set_option maxHeartbeats 1000000 in
theorem pcloneF (q c:Nat) (fs:List Fa) (D:List Dl) (w:World) (o:w.ownsRow 0 81 8 (.slice (some ⟨q,0,none⟩) fs.length c) fs.length (flA fs D)) (hl:D.length=fs.length) (hn:fs.length≤1000000):Calls Tryz.prog 30 #[.slice (some ⟨q,0,none⟩) fs.length c] w fun r w'=>∃ a' c',r=.returned (.slice a' fs.length c')∧Hid (w'.ownsRow w.heap.size 81 8 (.slice a' fs.length c') fs.length (flA fs D)∧Below w.heap.size w w'):=by
 obtain⟨n,hnn⟩:∃ n,fs.length=n:=⟨_,rfl⟩
 have hlen:=flA_len fs D hl
 have hone:=flA_one fs D
 rw[hnn]at o hn hlen ⊢
 have hnl:∀ w,(binOp .eql 51 (.slice (some ⟨q,0,none⟩) n c) (.slice none 0 0)).run Tryz.prog w=.ok (.bool false) w:=fun _=>rfl
 obtain⟨i0,hI,hz0,hz1,hz2⟩:=info_parts info_factY
 have bA:=belY (Below.refl _ w) (.cells #[] 81)
 have oA:(w.alloc (.cells #[] 81)).ownsRow w.heap.size 81 8 (.slice (some ⟨w.heap.size,0,none⟩) 0 0) 0 []:=World.ownsRow_made w #[] 0 (Nat.le_refl _) (Nat.zero_le _) rfl
 have sA:∀ j u,(flA fs D)[j]?=some u→(w.alloc (.cells #[] 81)).cell? ((⟨q,0,none⟩:Addr).add j)=some u:=fun j u hu=>by
  rw[Addr.add_mid,Nat.zero_add]
  exact cellY (own_cellY o j u hu) bA
 have HB:Hid (_):=bA
 have zA:w.heap.size ≤ (w.alloc (.cells #[] 81)).heap.size:=bA.size
 clear o bA hnn
 go_enter Tryz.func30,Tryz.ntmps30
 go_wp2_with (at_builtin;refine wpList_append_own_at _ rfl _ _ 51 rfl w.heap.size 81 i0 (.agg #[.int .i64 0,.int .i64 0,.int .i64 0,.int .u32 0,.int .u32 0,.bool false,.int .i64 0,.slice none 0 0]) 8 72 Tryz.underlying51 hI hz0 hz1 hz2 rfl (by decide) (.slice (some ⟨w.heap.size,0,none⟩) 0 0) 0 [] rfl oA ⟨q,0,none⟩ n c (flA fs D) rfl hlen sA hone (by unfold maxLen;omega) (by omega) zA ?_)
 intro v' w' o' g' _ _
 obtain⟨a',c',rfl⟩:=own_shape o'
 have HF:Hid (_):=And.intro o' (HB.out.grown g' HB.out.size (fun k hk=>(oA.lt k hk).1))
 clear o' g' oA sA zA hnl
 go_wp2_with fail
 go_ret
 refine⟨_,_,rfl,?_,HF.out.2⟩
 have:=HF.out.1
 simpa using this
set_option maxHeartbeats 1000000 in
theorem pcloneF0 (w:World):Calls Tryz.prog 30 #[.slice none 0 0] w fun r w'=>r=.returned (.slice none 0 0)∧w'=w:=by
 have hnl:∀ w,(binOp .eql 51 (.slice none 0 0) (.slice none 0 0)).run Tryz.prog w=.ok (.bool true) w:=fun _=>rfl
 go_enter Tryz.func30,Tryz.ntmps30
 go_wp2_with fail
 go_ret
 exact⟨rfl,rfl⟩
end Go.Proofs.YtiopiheomoehbaaGreat
namespace Go.Proofs.YtiopiheomoehbaaGreat
set_option maxRecDepth 100000
open Go.RowKit Go.Maps
set_option linter.unusedVariables false
def Fdl (l:List Fa):Prop:=∀ f,f ∈ l→f.d.1≤27
theorem Fdl.nil:Fdl []:=fun f hf=>by cases hf
theorem Fdl.app {l k:List Fa} (h:Fdl l) (q:Fdl k):Fdl (l ++ k):=fun f hf=>by
 rcases List.mem_append.1 hf with x | x
 ·exact h f x
 ·exact q f x
theorem Fdl.one {f:Fa} (h:f.d.1≤27):Fdl [f]:=fun g hg=>by
 obtain rfl:=List.mem_singleton.1 hg
 exact h
theorem Fdl.cons {f:Fa} {l:List Fa} (h:f.d.1≤27) (q:Fdl l):Fdl (f :: l):=fun g hg=>by
 rcases List.mem_cons.1 hg with rfl | x
 ·exact h
 ·exact q g x
theorem Fdl.ite {p:Prop} [Decidable p] {l k:List Fa} (h:Fdl l) (q:Fdl k):Fdl (if p then l else k):=by
 split
 ·exact h
 ·exact q
theorem fm0_le:fm0.1≤27:=by decide
theorem fdOne (kd k s:Nat):(fOne kd k s).d.1≤27:=fm0_le
theorem fdData (kd k s:Nat) {f:Fm} (h:f.1≤27):Fdl (fData kd k s f):=by
 unfold fData
 refine Fdl.ite (Fdl.one ?_) Fdl.nil
 show f.1-19≤27
 omega
theorem fdFresh (k s:Nat) {f:Fm} (h:f.1≤27):Fdl (fFresh k s f):=Fdl.cons (fdOne _ _ _) (fdData _ _ _ h)
theorem fdChg (k:Nat) (a b:Sd):Fdl (fChg k a b):=Fdl.app (Fdl.ite (Fdl.one (fdOne _ _ _)) Fdl.nil) (Fdl.ite (Fdl.one fm0_le) Fdl.nil)
theorem fdPut {S:Ws} (h:Fdl S.fs) (k s:Nat) {f:Fm} (hf:f.1≤27):Fdl (S.put k s f).fs:=by
 unfold Ws.put
 split
 ·exact h
 ·exact h.app (fdData _ _ _ hf)
theorem frLe {S:Ws} (K:S.Kn) (m:Mv):(S.fr m).1≤27:=by
 have hg:(S.bg.getD m.f.toNat fm0).1≤27:=by
  rw[List.getD_eq_getElem?_getD]
  cases e:S.bg[m.f.toNat]? with
  | none=>exact fm0_le
  | some f=>exact (K.fb f (List.mem_of_getElem? e)).1
 unfold Ws.fr
 split
 ·exact hg
 ·exact hg
theorem fdAct {S:Ws} (K:S.Kn) (h:Fdl S.fs) (m:Mv):Fdl (S.act m).S.fs:=by
 have hfr:=frLe K m
 unfold Ws.act
 dsimp only
 split
 ·split
  ·exact h
  ·exact h
 ·split
  ·exact fdPut (S:=S.setH _ _) h _ _ (hsendF_lenY _ _)
  ·split
   ·split
    ·unfold Ws.toH
     dsimp only
     split
     ·exact h.app (fdFresh _ _ hfr)
     ·exact h
    ·unfold Ws.toD
     dsimp only
     have h1:Fdl (S.toD1 m.c.toNat (S.fr m)).fs:=by
      unfold Ws.toD1
      exact h.app (fdChg _ _ _)
     have h2:Fdl (S.toD2 m.c.toNat (S.fr m)).fs:=by
      unfold Ws.toD2
      split
      ·exact h1.app (fdFresh _ _ hfr)
      ·exact h1
     exact fdPut h2 _ _ (drecv_len27Y _ _ _ _ _ _)
   ·split
    ·split
     ·exact h.app (Fdl.ite (Fdl.one fm0_le) Fdl.nil)
     ·exact h.app (Fdl.ite (Fdl.one fm0_le) Fdl.nil)
    ·split
     ·split
      ·exact h.app (Fdl.ite (Fdl.one (fdOne _ _ _)) Fdl.nil)
      ·exact h.app (Fdl.ite (Fdl.one (fdOne _ _ _)) Fdl.nil)
     ·split
      ·split
       ·exact h.app (Fdl.one (fdOne _ _ _))
       ·exact h.app (Fdl.one (fdOne _ _ _))
      ·exact h
theorem play_n (S:Ws) (m:Mv):(S.play m).S.n=S.n:=by
 unfold Ws.play
 split
 ·rfl
 ·exact act_n _ _
theorem fdPlay {S:Ws} {m:Mv} (K:S.Kn) (K2:(S.play m).S.Kn) (h:Fdl S.fs):Fdl (S.play m).S.fs:=by
 by_cases hb:S.bad m=0
 ·have l:=Ws.Law.of hb
  have hp:(S.play m).S=(S.up.act m).S.note [oH (S.up.act m).S m.c.toNat,oD (S.up.act m).S m.c.toNat]:=by
   unfold Ws.play
   rw[if_neg (fun q=>q hb)]
   rfl
  have hn:m.c.toNat < (S.play m).S.n:=by
   rw[play_n]
   exact l.kn
  have k1:=(K2.ph _ hn).i8
  have k2:=(K2.pd _ hn).o8
  rw[hp]at k1 k2 ⊢
  have K':S.up.Kn:=⟨K.ph,K.pd,K.ha,K.da,K.mo,K.fb⟩
  have h1:Fdl S.up.fs:=h
  refine (fdAct K' h1 m).app (Fdl.cons ?_ (Fdl.one ?_))
  ·show ((S.up.act m).S.PH m.c.toNat).i≤27
   have:((S.up.act m).S.PH m.c.toNat).i≤8:=k1
   omega
  ·show ((S.up.act m).S.PD m.c.toNat).o≤27
   have:((S.up.act m).S.PD m.c.toNat).o≤8:=k2
   omega
 ·have hp:(S.play m).S=S:=by
   unfold Ws.play
   rw[if_pos hb]
  rw[hp]
  exact h
def natF:Value→Nat
 | .int _ i=>i.toNat
 | _=>0
set_option maxHeartbeats 4000000 in
theorem wfacts (X b q c:Nat) (fs:List Fa) (D:List Dl) (w:World) (cb:w.cell? ⟨X,4,none⟩=some (.pointer (some ⟨b,0,none⟩))) (cf:w.cell? ⟨X,6,none⟩=some (.slice (some ⟨q,0,none⟩) fs.length c)) (o:w.ownsRow 0 81 8 (.slice (some ⟨q,0,none⟩) fs.length c) fs.length (flA fs D)) (hl:D.length=fs.length) (R:∀ (i:Nat) (f:Fa) (d:Dl),fs[i]?=some f→D[i]?=some d→Row8 w d.1 f.d.1 d.2 f.d.2) (hd:Fdl fs) (hn:fs.length≤1000000) (h0:0<fs.length):Calls Tryz.prog 14 #[.pointer (some ⟨X,0,none⟩)] w fun r w'=>∃ g c',r=.returned (.slice (some ⟨g,0,none⟩) fs.length c')∧Hid (FaRow w' (some ⟨g,0,none⟩) fs∧Below w.heap.size w w'):=by
 have hN:=pnone X b w cb
 have hC:=pcloneF q c fs D w o hl hn
 have HR:Hid (_):=And.intro R (And.intro hl hd)
 obtain⟨n,hnn⟩:∃ n,fs.length=n:=⟨_,rfl⟩
 have HN:Hid (fs.length=n):=hnn
 rw[hnn]at cf hC hn h0 ⊢
 clear o hl R hd hnn
 go_enter Tryz.func14,Tryz.ntmps14
 go_wp2_with fail
 refine hN.mono ?_
 rintro r w1 ⟨rfl,rfl⟩
 clear hN
 go_wp2_with fail
 refine hC.mono ?_
 rintro r w2 ⟨a2,c2,rfl,H2⟩
 clear hC
 have hg:∃ g,a2=some ⟨g,0,none⟩∧w1.heap.size≤g:=own_someY H2.out.1 (by omega)
 obtain⟨g,rfl,hg⟩:=hg
 have HQ:Hid (w1.heap.size≤g∧Cf w1 w2 g fs):=⟨hg,Cf.made H2.out.2 hg (by rw[HN.out];exact H2.out.1) HR.out.2.1 HR.out.1⟩
 clear H2
 go_wp2_with fail
 go_loopw [4,14,15,16,17,18,19,20,21,22,23,24,25,26,27] (fun _ i _ _ _ _ _ _ _ _ _ _ _ _ _ wr=>∃ k:Nat,k≤n∧i=.int .i64 ((k:Nat):Int)∧Hid (w1.heap.size≤g∧Cf w1 wr g fs)) (fun _ i _ _ _ _ _ _ _ _ _ _ _ _ _ _=>n-natF i)
 case atStart=>exact⟨0,by omega,rfl,HQ⟩
 case round=>
  obtain⟨k,hk,rfl,HI⟩:=hrel
  clear HQ
  by_cases hlt:k<n
  ·have hlt':((k:Nat):Int) < ((n:Nat):Int):=by omega
   have hkl:k<fs.length:=by rw[HN.out];exact hlt
   obtain⟨f,hf⟩:∃ f,fs[k]?=some f:=⟨_,List.getElem?_eq_getElem hkl⟩
   obtain⟨cur2,hc2⟩:=HI.out.2.blk
   have hgl:g<wr.heap.size:=(Array.getElem?_eq_some_iff.1 hc2).1
   obtain⟨da,dc,k1,k2,k3⟩:=HI.out.2.row k f hf
   have hle:=HR.out.2.2 f (List.mem_of_getElem? hf)
   have c7:=k1 7 _ rfl
   have hCl:=clone_any da f.d.1 dc f.d.2 wr k2 (by omega)
   have hby:=k2.byte
   clear k1 k2 k3
   go_wp2_with fail
   refine hCl.mono ?_
   rintro r w3 ⟨a3,c3,rfl,H3⟩
   clear hCl
   have b3:=H3.out.1
   have R3:Row8 w3 a3 f.d.1 c3 f.d.2:=by
    obtain⟨a',c',e,R'⟩:=own_row8 H3.out.2 hby
    simp only[Value.slice.injEq]at e
    obtain⟨rfl,_,rfl⟩:=e
    exact R'
   have hd3:∀ y,a3=some y→0<f.d.1→y.block≠g:=fun y hy hp=>by
    rcases H3.out.2.2 with ⟨_,hx⟩ | ⟨g',cap',cur',e',hg',_⟩
    ·omega
    ·simp only[Value.slice.injEq]at e'
     rw[e'.1]at hy
     cases hy
     show g'≠g
     omega
   have Q3:=HI.out.2.below b3
   have HS:Hid (w1.heap.size≤g∧Cf w1 (w3.setCell ⟨g,k*8+7,none⟩ (.slice a3 f.d.1 c3)) g fs):=⟨hg,Q3.set hg hf R3 hd3⟩
   have c73:=cellY c7 b3
   have fz:w3.frozen? ⟨g,k*8+7,none⟩=false:=frozen_of_row w3 g _ _ _ ((b3.block g hgl).trans hc2)
   clear R3 hd3 Q3 b3 HI H3 c7
   go_wp2_with fail
   refine⟨⟨k+1,by omega,by simp,HS⟩,?_⟩
   have e1:natF (.int .i64 ((k:Nat):Int))=k:=by simp[natF]
   have e2:natF (.int .i64 (((k:Nat):Int)+1))=k+1:=by simp[natF]
   rw[e1,e2]
   omega
  ·obtain rfl:k=n:=by omega
   have hlt':¬ ((k:Nat):Int) < ((k:Nat):Int):=by omega
   have HF:Hid (_):=And.intro HI.out.2.frow HI.out.2.bel
   clear HI
   go_wp2_with fail
   go_ret
   first | exact⟨g,c2,rfl,HF⟩ | exact⟨g,⟨c2,rfl⟩,HF.out.1,HF.out.2⟩
set_option maxHeartbeats 2000000 in
theorem wfacts0 (X b:Nat) (vf:Value) (w:World) (cb:w.cell? ⟨X,4,none⟩=some (.pointer (some ⟨b,0,none⟩))) (cf:w.cell? ⟨X,6,none⟩=some vf) (hC:Calls Tryz.prog 30 #[vf] w fun r w'=>∃ a' c',r=.returned (.slice a' 0 c')∧Hid (Below w.heap.size w w')):Calls Tryz.prog 14 #[.pointer (some ⟨X,0,none⟩)] w fun r w'=>∃ a' c',r=.returned (.slice a' 0 c')∧Hid (Below w.heap.size w w'):=by
 have hN:=pnone X b w cb
 go_enter Tryz.func14,Tryz.ntmps14
 go_wp2_with fail
 refine hN.mono ?_
 rintro r w1 ⟨rfl,rfl⟩
 clear hN
 go_wp2_with fail
 refine hC.mono ?_
 rintro r w2 ⟨a2,c2,rfl,H2⟩
 clear hC
 go_wp2_with fail
 refine wp_loop_rounds 1 ?_
 rw[rounds_succ]
 go_wp2_with fail
 go_ret
 exact⟨_,_,rfl,H2⟩
theorem pfactsW {e:Nat→Nat} {w0 w:World} {t:Nat→Thing} {L:Pw} {S:Ws} (h:PWn e w0 t L w S) (hd:Fdl S.fs) (hn:S.fs.length≤1000000):Calls Tryz.prog 14 #[.pointer (some ⟨L.x,0,none⟩)] w fun r w'=>∃ a c',r=.returned (.slice a S.fs.length c')∧Hid (FaRow w' a S.fs∧Below w.heap.size w w'):=by
 obtain⟨t1,L1,h1,hs,hx,he⟩:=h
 subst hs
 have hw:=h1.2.wb h1.1
 have hb:=hw.blk
 have c4:w.cell? ⟨L1.x,4,none⟩=some (.pointer (some ⟨L1.b,0,none⟩)):=cell_of_row w L1.x 4 _ _ _ hb
 have c6:w.cell? ⟨L1.x,6,none⟩=some L1.vf:=cell_of_row w L1.x 6 _ _ _ hb
 have rf:w.ownsRow 0 81 8 L1.vf L1.S.fs.length (flA L1.S.fs L1.D):=hw.rf
 have dl:L1.D.length=L1.S.fs.length:=hw.dl
 have dr:∀ (i:Nat) (f:Fa) (d:Dl),L1.S.fs[i]?=some f→L1.D[i]?=some d→Row8 w d.1 f.d.1 d.2 f.d.2:=fun i f d hf hd=>(hw.dr i f d hf hd).1
 rw[hx.x]at c4 c6
 obtain⟨a,c,hv⟩:=own_shape rf
 rw[hv]at c6 rf
 by_cases h0:L1.S.fs.length=0
 ·have hC:Calls Tryz.prog 30 #[.slice a L1.S.fs.length c] w fun r w'=>∃ a' c',r=.returned (.slice a' 0 c')∧Hid (Below w.heap.size w w'):=by
   rcases rf.2 with ⟨e1,_⟩ | ⟨g,cp,cur,e1,_⟩
   ·have e2:Value.slice a L1.S.fs.length c=.slice none 0 0:=e1
    rw[e2]
    refine (pcloneF0 w).mono ?_
    rintro r w' ⟨rfl,rfl⟩
    exact⟨_,_,rfl,Below.refl _ _⟩
   ·simp only[Value.slice.injEq]at e1
    obtain⟨rfl,_,_⟩:=e1
    refine (pcloneF g c L1.S.fs L1.D w rf dl hn).mono ?_
    rintro r w' ⟨a',c',rfl,H⟩
    rw[h0]
    exact⟨_,_,rfl,H.out.2⟩
  refine (wfacts0 L.x L1.b _ w c4 c6 hC).mono ?_
  rintro r w' ⟨a',c',rfl,H⟩
  refine⟨a',c',by rw[h0],?_,H.out⟩
  intro i f hf
  have:=(List.getElem?_eq_some_iff.1 hf).1
  omega
 ·obtain⟨g,rfl,_⟩:=own_someY rf h0
  refine (wfacts L.x L1.b g c L1.S.fs L1.D w c4 c6 rf dl dr hd hn (by omega)).mono ?_
  rintro r w' ⟨g',c',rfl,H⟩
  exact⟨_,c',rfl,H⟩
open Go.RowKit Go.Maps Go.Sort
def pgM (i:Nat):Pm:=⟨7+i,2,1,10+i,9⟩
def pgP (i:Nat):Pq:=(pgM i).q
theorem own_capP {w:World} {B e sz n c:Nat} {a:Option Addr} {xs:List Value} (h:w.ownsRow B e sz (.slice a n c) n xs) (h0:n≠0):n≤c:=by
 rcases h.2 with ⟨_,hn⟩ | ⟨g,cap,cur,e1,hg,hgg,h1,rest⟩
 ·exact absurd hn h0
 ·simp only[Value.slice.injEq]at e1
  obtain⟨_,_,rfl⟩:=e1
  exact h1
theorem csQ_one (p:Pq):∀ u ∈ p.cs,u.oneCell'=true:=by
 intro u hu
 simp[Pq.cs]at hu
 rcases hu with rfl | rfl | rfl | rfl | rfl <;> rfl
theorem pq_cells {W:World} {g:Nat} {p:Pq} (h:W.heap[g]?=some (.cells p.cs.toArray 68 (0,0))):∀ j u,p.cs[j]?=some u→W.cell? ((⟨g,0,none⟩:Addr).add j)=some u:=fun j u hu=>by
 have e:(Addr.add ⟨g,0,none⟩ j)=⟨g,j,none⟩:=by unfold Addr.add;simp;omega
 rw[e,cell_of_row W g j _ _ _ h]
 simpa using hu
theorem own_slcP {w:World} {B e size n:Nat} {v:Value} {xs:List Value} (h:w.ownsRow B e size v (n+1) xs):∃ g cap,v=.slice (some ⟨g,0,none⟩) (n+1) cap∧B≤g:=by
 rcases h.2 with ⟨_,hn⟩ | ⟨g,cap,cur,rfl,hg,hgg,rest⟩
 ·omega
 ·exact⟨g,cap,rfl,hg⟩
theorem own_belowP {w w':World} {B e sz n:Nat} {v:Value} {xs:List Value} (h:w.ownsRow B e sz v n xs) (b:Below w.heap.size w w'):w'.ownsRow B e sz v n xs:=by
 refine⟨h.1,?_⟩
 rcases h.2 with hn | ⟨g,cap,cur,rfl,hg,hgg,rest⟩
 ·exact .inl hn
 ·exact .inr ⟨g,cap,cur,rfl,hg,(b.block g (Array.getElem?_eq_some_iff.1 hgg).1).trans hgg,rest⟩
theorem own_keepP {w w':World} {B e s n:Nat} {v:Value} {xs:List Value} (h:w.ownsRow B e s v n xs) (hk:∀ g,v.ownBlock=some g→w'.heap[g]?=w.heap[g]?):w'.ownsRow B e s v n xs:=by
 obtain⟨h0,h1 | ⟨g,cap,cur,rfl,hg,hgg,rest⟩⟩:=h
 ·exact⟨h0,.inl h1⟩
 ·exact⟨h0,.inr ⟨g,cap,cur,rfl,hg,(hk g rfl).trans hgg,rest⟩⟩
structure Sp (w wr:World) (i:Nat) (va:Option Addr) (vc:Nat) (ua:Option Addr) (uc:Nat):Prop where
 bel:Below w.heap.size w wr
 rb:wr.heap[w.heap.size]?=some (.cells #[.slice none 0 0,.slice none 0 0,.int .u32 0] 35 (0,0))
 xb:wr.heap[w.heap.size+1]?=some (.cells #[.slice va i vc,.slice ua i uc,.int .u32 50] 35 (0,0))
 ov:wr.ownsRow (w.heap.size+2) 68 5 (.slice va i vc) i (flQ i pgP)
 ou:wr.ownsRow (w.heap.size+2) 68 5 (.slice ua i uc) i (flQ i pgP)
 dis:∀ g,(Value.slice va i vc).ownBlock=some g→(Value.slice ua i uc).ownBlock≠some g
end Go.Proofs.YtiopiheomoehbaaGreat
