/- Part 49 of the texts on which the proof rests: contracts of Go functions. -/
import Derived.Test.YtgaeofgdiaknpaaGreatPkS37
import Derived.Test.YtgaeofgdiaknpaaGreatPkS41
import Derived.Test.YtgaeofgdiaknpaaGreatPkS46
namespace Go.Proofs.YtgaeofgdiaknpaaGreat
set_option maxRecDepth 100000
open Go.RowKit Go.Maps
theorem mvY_cells (w:World) (o:Array Value) (wx:World) (hb:Below (w.alloc (.cells o 38)).heap.size (w.alloc (.cells o 38)) wx) (i:Nat):wx.cell? ⟨w.heap.size,i,none⟩=o[i]?:=by
 rw[hb.cell (p:=⟨w.heap.size,i,none⟩) (by simp)]
 exact cell_of_row _ _ _ _ _ _ (heap_alloc_new _ _)
theorem mvY_frozen (w:World) (o:Array Value) (i:Nat) (wx:World) (hb:Below (w.alloc (.cells o 38)).heap.size (w.alloc (.cells o 38)) wx):wx.frozen? ⟨w.heap.size,i,none⟩=false:=by
 rw[hb.frozen (p:=⟨w.heap.size,i,none⟩) (by simp)]
 simp
set_option maxHeartbeats 2000000 in
theorem pcopyY (m:Mv) (d:Option Addr) (e:Nat) (w:World) (hr:Row8 w d m.l e m.b) (hlen:m.l≤140737488351232):Calls Tryz.prog 11 #[.agg #[.int .i64 m.k,.int .i64 m.c,.int .i64 m.s,.int .i64 m.f,.int .i64 m.a,.int .u32 (m.w:Nat),.int .i64 m.n,.bool m.h,.slice d m.l e]] w fun r w'=>∃ a' c',r=.returned (.agg #[.int .i64 m.k,.int .i64 m.c,.int .i64 m.s,.int .i64 m.f,.int .i64 m.a,.int .u32 (m.w:Nat),.int .i64 m.n,.bool m.h,.slice a' m.l c'])∧Hid (Row8 w' a' m.l c' m.b∧Below w.heap.size w w'∧∀ y,a'=some y→0<m.l→w.heap.size≤y.block):=by
 obtain⟨i0,hi,hz0,hz1,hz2⟩:=info_parts info_u8
 have hbd:=build0D
 have hX:=fun wx hb=>mvY_cells w #[.int .i64 m.k,.int .i64 m.c,.int .i64 m.s,.int .i64 m.f,.int .i64 m.a,.int .u32 (m.w:Nat),.int .i64 m.n,.bool m.h,.slice d m.l e] wx hb
 have hXf:=fun i wx hb=>mvY_frozen w #[.int .i64 m.k,.int .i64 m.c,.int .i64 m.s,.int .i64 m.f,.int .i64 m.a,.int .u32 (m.w:Nat),.int .i64 m.n,.bool m.h,.slice d m.l e] i wx hb
 obtain⟨wa,hwa⟩:∃ x,x=w.alloc (.cells #[.int .i64 m.k,.int .i64 m.c,.int .i64 m.s,.int .i64 m.f,.int .i64 m.a,.int .u32 (m.w:Nat),.int .i64 m.n,.bool m.h,.slice d m.l e] 38):=⟨_,rfl⟩
 rw[← hwa]at hX hXf
 have hA:Below w.heap.size w wa:=by rw[hwa];exact (Below.refl _ _).alloc (Nat.le_refl _) _
 have hAs:wa.heap.size=w.heap.size+1:=by rw[hwa];simp
 have hY:=fun wx hb=>mvY_cells wa #[.int .i64 0,.int .i64 0,.int .i64 0,.int .i64 0,.int .i64 0,.int .u32 0,.int .i64 0,.bool false,.slice none 0 0] wx hb
 have hYf:=fun i wx hb=>mvY_frozen wa #[.int .i64 0,.int .i64 0,.int .i64 0,.int .i64 0,.int .i64 0,.int .u32 0,.int .i64 0,.bool false,.slice none 0 0] i wx hb
 obtain⟨wb,hwb⟩:∃ x,x=wa.alloc (.cells #[.int .i64 0,.int .i64 0,.int .i64 0,.int .i64 0,.int .i64 0,.int .u32 0,.int .i64 0,.bool false,.slice none 0 0] 38):=⟨_,rfl⟩
 rw[← hwb]at hY hYf
 have hB:Below wa.heap.size wa wb:=by rw[hwb];exact (Below.refl _ _).alloc (Nat.le_refl _) _
 have hBs:wb.heap.size=w.heap.size+1+1:=by rw[hwb,hwa];simp
 have hC:Below wb.heap.size wb (wb.alloc (.cells #[] 5)):=(Below.refl _ _).alloc (Nat.le_refl _) _
 have O0:(wb.alloc (.cells #[] 5)).ownsRow wb.heap.size 5 1 (.slice (some ⟨wb.heap.size,0,none⟩) 0 0) 0 (CB m.b 0):=World.ownsRow_made wb #[] 0 (Nat.le_refl _) (Nat.zero_le _) rfl
 have hszC:=hC.size
 have R0:=((hr.below hA).below hB).below hC
 rw[hAs]at hY hYf
 go_enter Tryz.func11,Tryz.ntmps11
 go_upto_region 1 with fail
 try rw[← hwa]
 try rw[← hwb]
 have H0:Hid (_):=And.intro hwa (And.intro hwb (And.intro hAs hBs))
 clear hwa hwb
 have x8:(wb.alloc (.cells #[] 5)).cell? ⟨w.heap.size,8,none⟩=some (.slice d m.l e):=hX (wb.alloc (.cells #[] 5)) (hB.trans (hC.mono (by omega))) 8
 clear hAs hBs
 go_wp2_with (at_builtin;refine wpList_append_row8 rfl (.tmp 3) (.tmp 5) 36 rfl wb.heap.size 5 i0 (.int .u8 0) Tryz.underlying36 hi hz0 hz1 hz2 rfl _ 0 _ rfl O0 d m.l e m.b rfl R0 (by unfold maxLen;omega) (by omega) hszC ?_)
 intro v2 w2 hown2 hgrow2
 have hbel2:Below wb.heap.size wb w2:=hC.grown hgrow2 hszC (fun j hj=>(O0.lt j hj).1)
 rw[show CB m.b 0=[] from rfl,List.nil_append]at hown2
 have hlt:w.heap.size<wb.heap.size∧w.heap.size+1<wb.heap.size:=by have:=H0.out;omega
 have hbelA:Below wa.heap.size wa w2:=hB.trans (hbel2.mono (by have:=H0.out;omega))
 have x0:w2.cell? ⟨w.heap.size,0,none⟩=some ((.int .i64 m.k)):=hX w2 hbelA 0
 have x1:w2.cell? ⟨w.heap.size,1,none⟩=some ((.int .i64 m.c)):=hX w2 hbelA 1
 have x2:w2.cell? ⟨w.heap.size,2,none⟩=some ((.int .i64 m.s)):=hX w2 hbelA 2
 have x3:w2.cell? ⟨w.heap.size,3,none⟩=some ((.int .i64 m.f)):=hX w2 hbelA 3
 have x4:w2.cell? ⟨w.heap.size,4,none⟩=some ((.int .i64 m.a)):=hX w2 hbelA 4
 have x5:w2.cell? ⟨w.heap.size,5,none⟩=some ((.int .u32 (m.w:Nat))):=hX w2 hbelA 5
 have x6:w2.cell? ⟨w.heap.size,6,none⟩=some ((.int .i64 m.n)):=hX w2 hbelA 6
 have x7:w2.cell? ⟨w.heap.size,7,none⟩=some ((.bool m.h)):=hX w2 hbelA 7
 have x8:w2.cell? ⟨w.heap.size,8,none⟩=some ((.slice d m.l e)):=hX w2 hbelA 8
 have y0:w2.cell? ⟨w.heap.size+1,0,none⟩=some (.int .i64 0):=hY w2 hbel2 0
 have y1:w2.cell? ⟨w.heap.size+1,1,none⟩=some (.int .i64 0):=hY w2 hbel2 1
 have y2:w2.cell? ⟨w.heap.size+1,2,none⟩=some (.int .i64 0):=hY w2 hbel2 2
 have y3:w2.cell? ⟨w.heap.size+1,3,none⟩=some (.int .i64 0):=hY w2 hbel2 3
 have y4:w2.cell? ⟨w.heap.size+1,4,none⟩=some (.int .i64 0):=hY w2 hbel2 4
 have y5:w2.cell? ⟨w.heap.size+1,5,none⟩=some (.int .u32 0):=hY w2 hbel2 5
 have y6:w2.cell? ⟨w.heap.size+1,6,none⟩=some (.int .i64 0):=hY w2 hbel2 6
 have y7:w2.cell? ⟨w.heap.size+1,7,none⟩=some (.bool false):=hY w2 hbel2 7
 have y8:w2.cell? ⟨w.heap.size+1,8,none⟩=some (.slice none 0 0):=hY w2 hbel2 8
 have xf:=fun i=>hXf i w2 hbelA
 have yf:=fun i=>hYf i w2 hbel2
 obtain⟨a2,c2,rfl,R2⟩:=own_row8 hown2 hr.byte
 have HR:Hid (w2.ownsRow wb.heap.size 5 1 (.slice a2 m.l c2) m.l (CB m.b m.l)∧Below wb.heap.size wb w2):=⟨hown2,hbel2⟩
 clear hgrow2 O0 R0 hC hszC hX hY hXf hYf hown2 R2 hbel2 hbelA hbd
 go_wp2_with fail
 refine bodyPost_ret (v:=.agg #[.int .i64 m.k,.int .i64 m.c,.int .i64 m.s,.int .i64 m.f,.int .i64 m.a,.int .u32 (m.w:Nat),.int .i64 m.n,.bool m.h,.slice a2 m.l c2]) (by simp[results,Tryz.results11,go_sem,y0,y1,y2,y3,y4,y5,y6,y7,y8]) rfl ⟨a2,c2,rfl,?_,?_,?_⟩
 ·obtain⟨a3,c3,e,R3⟩:=own_row8 (ownsRow_setCell_below (ownsRow_setCell_below (ownsRow_setCell_below (ownsRow_setCell_below (ownsRow_setCell_below (ownsRow_setCell_below (ownsRow_setCell_below (ownsRow_setCell_below (ownsRow_setCell_below (ownsRow_setCell_below HR.out.1 (a:=⟨w.heap.size,8,none⟩) hlt.1 _) (a:=⟨w.heap.size+1,0,none⟩) hlt.2 _) (a:=⟨w.heap.size+1,1,none⟩) hlt.2 _) (a:=⟨w.heap.size+1,2,none⟩) hlt.2 _) (a:=⟨w.heap.size+1,3,none⟩) hlt.2 _) (a:=⟨w.heap.size+1,4,none⟩) hlt.2 _) (a:=⟨w.heap.size+1,5,none⟩) hlt.2 _) (a:=⟨w.heap.size+1,6,none⟩) hlt.2 _) (a:=⟨w.heap.size+1,7,none⟩) hlt.2 _) (a:=⟨w.heap.size+1,8,none⟩) hlt.2 _) hr.byte
  simp only[Value.slice.injEq,true_and]at e
  obtain⟨rfl,rfl⟩:=e
  exact R3
 ·have hb:Below w.heap.size w w2:=(hA.trans (hB.mono (by have:=H0.out;omega))).trans (HR.out.2.mono (by omega))
  exact ((((((((((hb.setCell (p:=⟨w.heap.size,8,none⟩) (Nat.le_refl _) _).setCell (p:=⟨w.heap.size+1,0,none⟩) (Nat.le_succ _) _).setCell (p:=⟨w.heap.size+1,1,none⟩) (Nat.le_succ _) _).setCell (p:=⟨w.heap.size+1,2,none⟩) (Nat.le_succ _) _).setCell (p:=⟨w.heap.size+1,3,none⟩) (Nat.le_succ _) _).setCell (p:=⟨w.heap.size+1,4,none⟩) (Nat.le_succ _) _).setCell (p:=⟨w.heap.size+1,5,none⟩) (Nat.le_succ _) _).setCell (p:=⟨w.heap.size+1,6,none⟩) (Nat.le_succ _) _).setCell (p:=⟨w.heap.size+1,7,none⟩) (Nat.le_succ _) _).setCell (p:=⟨w.heap.size+1,8,none⟩) (Nat.le_succ _) _)
 ·intro y hy hn
  rcases HR.out.1.2 with ⟨e,_⟩ | ⟨g,cap,cur,e,hg,_⟩
  ·simp only[Value.slice.injEq]at e
   rw[e.1]at hy
   cases hy
  ·simp only[Value.slice.injEq]at e
   rw[e.1]at hy
   cases hy
   have:=hlt.1
   show w.heap.size≤g
   omega
set_option linter.unusedVariables false
theorem note_bg (S:Ws) (l:List Fa):(S.note l).bg=S.bg:=rfl
theorem note_mv (S:Ws) (l:List Fa):(S.note l).mv=S.mv:=rfl
theorem pq_one {w:World} {q:Nat} (h:w.heap[q]?=some (.cells #[.int .u32 7,.int .i64 2,.int .i64 1,.int .i64 10,.int .u32 9] 50 (0,0))):PqRow w (some ⟨q,0,none⟩) 1 (fun _=>P0.q):=fun i hi=>by
 obtain rfl:i=0:=by omega
 refine⟨q,0,rfl,fun j u hu=>?_⟩
 rw[show 0+0*5+j=j by omega,cell_of_row w q j _ _ _ h]
 have e:(P0.q).cs.toArray=#[.int .u32 7,.int .i64 2,.int .i64 1,.int .i64 10,.int .u32 9]:=by rfl
 rw[← e]
 simpa using hu
theorem p0_ck:ckE 1 1 50 (fun _=>P0.q) (fun _=>P0.q)=0:=by decide
theorem pnewL0 (q0 q1:Nat) (w:World) (h0:w.heap[q0]?=some (.cells #[.int .u32 7,.int .i64 2,.int .i64 1,.int .i64 10,.int .u32 9] 50 (0,0))) (h1:w.heap[q1]?=some (.cells #[.int .u32 7,.int .i64 2,.int .i64 1,.int .i64 10,.int .u32 9] 50 (0,0))):Calls Tryz.prog 9 #[.agg #[.slice (some ⟨q0,0,none⟩) 1 1,.slice (some ⟨q1,0,none⟩) 1 1,.int .u32 50]] w fun r w'=>∃ L:Pw,r=.returned (.tuple #[.pointer (some ⟨L.x,0,none⟩),.int .i64 0])∧Hid (PW ev w w' (evT L) L∧L.S=s0 P0 P0 50):=
 wnewQ (fun _=>P0) (fun _=>P0) q0 0 1 q1 0 1 1 50 (fun _ _=>P0_ok) (fun _ _=>P0_ok) (by decide) (by decide) (by decide) (by decide) (by decide) (by decide) w (pq_one h0) (pq_one h1) p0_ck
theorem storeRow (w:World) {A:Array Value} (hs:A.size=29) (ho:A.all (·.oneCell')=true):∃ wz,(storeCells ⟨w.heap.size,0,none⟩ A.toList).run Tryz.prog (w.alloc (.cells #[.int .i64 0,.int .i64 0,.int .i64 0,.int .i64 0,.int .i64 0,.int .u32 0,.int .i64 0,.bool false,.slice none 0 0,.int .i64 0,.int .i64 0,.int .i64 0,.int .u32 0,.int .u32 0,.int .u32 0,.int .i64 0,.int .i64 0,.bool false,.bool false,.slice none 0 0,.int .i64 0,.int .u32 0,.int .u32 0,.int .u32 0,.int .i64 0,.int .i64 0,.bool false,.bool false,.slice none 0 0] 44))=.ok () wz∧wz.rangeAt w.heap.size 0 A.toList∧Below w.heap.size w wz:=by
 have kr:=heap_alloc_new w (.cells #[.int .i64 0,.int .i64 0,.int .i64 0,.int .i64 0,.int .i64 0,.int .u32 0,.int .i64 0,.bool false,.slice none 0 0,.int .i64 0,.int .i64 0,.int .i64 0,.int .u32 0,.int .u32 0,.int .u32 0,.int .i64 0,.int .i64 0,.bool false,.bool false,.slice none 0 0,.int .i64 0,.int .u32 0,.int .u32 0,.int .u32 0,.int .i64 0,.int .i64 0,.bool false,.bool false,.slice none 0 0] 44)
 have hth:(w.alloc (.cells #[.int .i64 0,.int .i64 0,.int .i64 0,.int .i64 0,.int .i64 0,.int .u32 0,.int .i64 0,.bool false,.slice none 0 0,.int .i64 0,.int .i64 0,.int .i64 0,.int .u32 0,.int .u32 0,.int .u32 0,.int .i64 0,.int .i64 0,.bool false,.bool false,.slice none 0 0,.int .i64 0,.int .u32 0,.int .u32 0,.int .u32 0,.int .i64 0,.int .i64 0,.bool false,.bool false,.slice none 0 0] 44)).there w.heap.size 0 A.size:=there_row kr (by rw[hs];rfl)
 exact⟨_,storeY_run hth ho,World.rangeAt_setCells_same _ w.heap.size 0 A.toList (by simpa using hth),(off_setCells _ w.heap.size 0 A.toList).below (belY (Below.refl _ _) _) (by simp) (by rw[sz1];omega)⟩
set_option maxHeartbeats 4000000 in
theorem awake17q (w:World):Calls Tryz.prog 10 #[] w fun r w'=>r=.returned (.bool true)∧Below w.heap.size w w':=by
 have hLo:=plone w
 go_enter Tryz.func10,Tryz.ntmps10
 go_wp2_with fail
 refine hLo.mono ?_
 rintro r w1 ⟨q0,q1,rfl,H1⟩
 clear hLo
 have hN:Calls Tryz.prog 9 #[.agg #[.slice (some ⟨q0,0,none⟩) 1 1,.slice (some ⟨q1,0,none⟩) 1 1,.int .u32 50]] w1 fun r w'=>∃ L:Pw,r=.returned (.tuple #[.pointer (some ⟨L.x,0,none⟩),.int .i64 0])∧Hid (PW ev w1 w' (evT L) L∧L.S=s0 P0 P0 50):=pnewL0 q0 q1 w1 H1.out.1 H1.out.2.1
 go_wp2_with fail
 refine hN.mono ?_
 rintro r w2 ⟨L,rfl,H2⟩
 clear hN
 have hP1:=aw1 H2.out.1 (evT_fre L) H2.out.2
 obtain⟨X,hX⟩:∃ y,L.x=y:=⟨_,rfl⟩
 rw[hX]at hP1 ⊢
 have HX:Hid (L.x=X):=hX
 clear hX
 go_wp2_with fail
 refine hP1.mono ?_
 rintro r w3 ⟨A,rfl,hsA,hoA,hA10,H3⟩
 clear hP1
 obtain⟨wz,hst1,hrg1,hbl1⟩:=storeRow w3 hsA hoA
 have cb:wz.cell? ⟨w3.heap.size,10,none⟩=some (.int .i64 0):=hrg1 10 _ hA10
 have lb:=World.block_lt_of_cell? wz _ cb
 obtain⟨ob,hob⟩:∃ ob,wz.heap[w3.heap.size]?=some ob:=⟨_,Array.getElem?_eq_getElem lb⟩
 have F0:=evT_fre L
 have hp2:=H3.out.layL hbl1 (i:=2*0+1) (F0 0 (Nat.le_refl _)).1 (l:=[(w3.heap.size,ob)]) (fun p hp=>by
  simp only[List.mem_cons,List.not_mem_nil,or_false]at hp
  subst hp
  exact hob) (fun p hp=>by
  simp only[List.mem_cons,List.not_mem_nil,or_false]at hp
  subst hp
  exact Nat.le_refl _)
 have F1:Fre ev (putT (evT L) (2*0+1) (blT [(w3.heap.size,ob)])) 1:=F0.put _
 have hP2:=aw2 (T:=aS1) a1.2.2 hp2 F1
 rw[HX.out]at hP2
 have HB:Hid (_):=And.intro cb (And.intro hob (And.intro hbl1 F0))
 clear hrg1 hbl1 cb lb hob hp2 F1 F0
 go_wp2_with fail
 refine hP2.mono ?_
 rintro r w4 ⟨A2,rfl,hsA2,hoA2,hB10,hB20,H4⟩
 clear hP2 hst1
 obtain⟨wy,hst2,hrg2,hbl2⟩:=storeRow w4 hsA2 hoA2
 have c1:wy.cell? ⟨w4.heap.size,10,none⟩=some (.int .i64 1):=hrg2 10 _ hB10
 have c2:wy.cell? ⟨w4.heap.size,20,none⟩=some (.int .i64 2):=hrg2 20 _ hB20
 obtain⟨cb,hob,hbl1,F0⟩:=HB.out
 have hb4:=H4.out.box (q:=2*0+1) (F0 0 (Nat.le_refl _)).1 (putT_same _ _ _) _ (List.mem_cons_self ..)
 have hb5:=(hbl2.block w3.heap.size (Array.getElem?_eq_some_iff.1 hb4).1).trans hb4
 have c0:wy.cell? ⟨w3.heap.size,10,none⟩=some (.int .i64 0):=(World.cell?_of_block (w:=wz) (a:=⟨w3.heap.size,10,none⟩) (hb5.trans hob.symm)).trans cb
 have hp5:=H4.out.below hbl2
 have hFr:=pframes hp5
 have hMo:=pmoves hp5
 obtain⟨_,_,e1,e2,_⟩:=a3 (T:=aS1) a1.2.2
 rw[HX.out,note_bg,e1]at hFr
 rw[HX.out,note_mv,e2]at hMo
 have hbw:Below w1.heap.size w1 wy:=by
  obtain⟨t9,L9,h9,_⟩:=hp5
  exact h9.1.bel
 have HE:Hid (Below w.heap.size w wy):=H1.out.2.2.trans (hbw.mono H1.out.2.2.size)
 clear hrg2 hbl2 cb hob hbl1 F0 hb4 hb5 hp5 e1 e2 hbw HB H4 H3 H2 HX
 go_wp2_with fail
 refine hFr.mono ?_
 rintro r w6 ⟨rfl,rfl⟩
 go_wp2_with fail
 refine hMo.mono ?_
 rintro r w6 ⟨rfl,rfl⟩
 go_wp2_with fail
 go_ret
 exact⟨rfl,HE.out⟩
end Go.Proofs.YtgaeofgdiaknpaaGreat
