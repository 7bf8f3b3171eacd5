/- Part 45 of the texts on which the proof rests: contracts of Go functions. -/
import Derived.Lib.AppendZerosOnto
import Derived.LoopN
import Derived.Test.YtiopiheomoehbaaGreatPkF38
import Derived.Test.YtiopiheomoehbaaGreatPkF41
namespace Go.Proofs.YtiopiheomoehbaaGreat
set_option maxRecDepth 100000
open Go.RowKit Go.Maps
set_option linter.unusedVariables false
set_option maxHeartbeats 4000000 in
theorem pnewConn (PH PD:Pm) (hH:Pok PH) (hD:Pok PD) (mx:Nat) (hx:mx<4294967296) (h0:mx≠0) (w:World):Calls Tryz.prog 19 #[.agg #[.int .u32 (PH.c:Nat),.int .i64 (PH.o:Nat),.int .i64 (PH.i:Nat),.int .i64 (PH.t:Nat),.int .u32 (PH.n:Nat)],.agg #[.int .u32 (PD.c:Nat),.int .i64 (PD.o:Nat),.int .i64 (PD.i:Nat),.int .i64 (PD.t:Nat),.int .u32 (PD.n:Nat)],.int .u32 (mx:Nat)] w fun r w'=>∃ h d m g,r=.returned (.agg #[.pointer (some ⟨h,0,none⟩),.pointer (some ⟨d,0,none⟩),.pointer (some ⟨m,0,none⟩)])∧Hid (Below w.heap.size w w'∧∃ hU dU,HV w' h PH hU hnew∧DV w' d m g 16 mx PD dU (dnew M0)∧(∀ k,k ∈ hU→w.heap.size≤k)∧(∀ k,k ∈ dU→w.heap.size≤k)∧∀ k,k ∈ hU→k ∉ dU):=by
 have s1:(w.alloc (.cells #[.int .u32 (PH.c:Nat),.int .i64 (PH.o:Nat),.int .i64 (PH.i:Nat),.int .i64 (PH.t:Nat),.int .u32 (PH.n:Nat)] 68)).heap.size=w.heap.size+1:=sz1 _ _
 have s2:((w.alloc (.cells #[.int .u32 (PH.c:Nat),.int .i64 (PH.o:Nat),.int .i64 (PH.i:Nat),.int .i64 (PH.t:Nat),.int .u32 (PH.n:Nat)] 68)).alloc (.cells #[.int .u32 (PD.c:Nat),.int .i64 (PD.o:Nat),.int .i64 (PD.i:Nat),.int .i64 (PD.t:Nat),.int .u32 (PD.n:Nat)] 68)).heap.size=w.heap.size+2:=sz2 _ _ _
 have s3:(((w.alloc (.cells #[.int .u32 (PH.c:Nat),.int .i64 (PH.o:Nat),.int .i64 (PH.i:Nat),.int .i64 (PH.t:Nat),.int .u32 (PH.n:Nat)] 68)).alloc (.cells #[.int .u32 (PD.c:Nat),.int .i64 (PD.o:Nat),.int .i64 (PD.i:Nat),.int .i64 (PD.t:Nat),.int .u32 (PD.n:Nat)] 68)).alloc (.cells #[Value.pointer none,Value.pointer none,Value.pointer none] 65)).heap.size=w.heap.size+3:=sz3 _ _ _ _
 have bA:Below w.heap.size w (((w.alloc (.cells #[.int .u32 (PH.c:Nat),.int .i64 (PH.o:Nat),.int .i64 (PH.i:Nat),.int .i64 (PH.t:Nat),.int .u32 (PH.n:Nat)] 68)).alloc (.cells #[.int .u32 (PD.c:Nat),.int .i64 (PD.o:Nat),.int .i64 (PD.i:Nat),.int .i64 (PD.t:Nat),.int .u32 (PD.n:Nat)] 68)).alloc (.cells #[Value.pointer none,Value.pointer none,Value.pointer none] 65)):=belY (belY (belY (Below.refl _ w) _) _) _
 have kA:(((w.alloc (.cells #[.int .u32 (PH.c:Nat),.int .i64 (PH.o:Nat),.int .i64 (PH.i:Nat),.int .i64 (PH.t:Nat),.int .u32 (PH.n:Nat)] 68)).alloc (.cells #[.int .u32 (PD.c:Nat),.int .i64 (PD.o:Nat),.int .i64 (PD.i:Nat),.int .i64 (PD.t:Nat),.int .u32 (PD.n:Nat)] 68)).alloc (.cells #[Value.pointer none,Value.pointer none,Value.pointer none] 65)).heap[w.heap.size]?=some (.cells #[.int .u32 (PH.c:Nat),.int .i64 (PH.o:Nat),.int .i64 (PH.i:Nat),.int .i64 (PH.t:Nat),.int .u32 (PH.n:Nat)] 68 (0,0)):=(Below.heap_alloc _ _ _ (by omega)).trans ((Below.heap_alloc _ _ _ (by omega)).trans (heap_alloc_new w _))
 have kB:(((w.alloc (.cells #[.int .u32 (PH.c:Nat),.int .i64 (PH.o:Nat),.int .i64 (PH.i:Nat),.int .i64 (PH.t:Nat),.int .u32 (PH.n:Nat)] 68)).alloc (.cells #[.int .u32 (PD.c:Nat),.int .i64 (PD.o:Nat),.int .i64 (PD.i:Nat),.int .i64 (PD.t:Nat),.int .u32 (PD.n:Nat)] 68)).alloc (.cells #[Value.pointer none,Value.pointer none,Value.pointer none] 65)).heap[w.heap.size+1]?=some (.cells #[.int .u32 (PD.c:Nat),.int .i64 (PD.o:Nat),.int .i64 (PD.i:Nat),.int .i64 (PD.t:Nat),.int .u32 (PD.n:Nat)] 68 (0,0)):=(Below.heap_alloc _ _ _ (by omega)).trans (by rw[← s1];exact heap_alloc_new _ _)
 have kC:(((w.alloc (.cells #[.int .u32 (PH.c:Nat),.int .i64 (PH.o:Nat),.int .i64 (PH.i:Nat),.int .i64 (PH.t:Nat),.int .u32 (PH.n:Nat)] 68)).alloc (.cells #[.int .u32 (PD.c:Nat),.int .i64 (PD.o:Nat),.int .i64 (PD.i:Nat),.int .i64 (PD.t:Nat),.int .u32 (PD.n:Nat)] 68)).alloc (.cells #[Value.pointer none,Value.pointer none,Value.pointer none] 65)).heap[w.heap.size+2]?=some (.cells #[Value.pointer none,Value.pointer none,Value.pointer none] 65 (0,0)):=by rw[← s2];exact heap_alloc_new _ _
 obtain⟨wa,hwa⟩:∃ z,((w.alloc (.cells #[.int .u32 (PH.c:Nat),.int .i64 (PH.o:Nat),.int .i64 (PH.i:Nat),.int .i64 (PH.t:Nat),.int .u32 (PH.n:Nat)] 68)).alloc (.cells #[.int .u32 (PD.c:Nat),.int .i64 (PD.o:Nat),.int .i64 (PD.i:Nat),.int .i64 (PD.t:Nat),.int .u32 (PD.n:Nat)] 68)).alloc (.cells #[Value.pointer none,Value.pointer none,Value.pointer none] 65)=z:=⟨_,rfl⟩
 obtain⟨x,hxx⟩:∃ z,w.heap.size=z:=⟨_,rfl⟩
 rw[hwa]at kA kB kC bA s3
 have HB:Hid (Below w.heap.size w wa):=bA
 rw[hxx]at kA kB kC s3
 have q0:wa.cell? ⟨x,0,none⟩=some (.int .u32 (PH.c:Nat)):=cell_of_row wa x 0 _ _ _ kA
 have q1:wa.cell? ⟨x,1,none⟩=some (.int .i64 (PH.o:Nat)):=cell_of_row wa x 1 _ _ _ kA
 have q2:wa.cell? ⟨x,2,none⟩=some (.int .i64 (PH.i:Nat)):=cell_of_row wa x 2 _ _ _ kA
 have q3:wa.cell? ⟨x,3,none⟩=some (.int .i64 (PH.t:Nat)):=cell_of_row wa x 3 _ _ _ kA
 have q4:wa.cell? ⟨x,4,none⟩=some (.int .u32 (PH.n:Nat)):=cell_of_row wa x 4 _ _ _ kA
 have hN1:=newH_any PH hH wa
 have HE:Hid (_=wa):=hwa
 have HS:Hid (w.heap.size=x):=hxx
 have HKB:Hid (_):=kB
 have HKC:Hid (_):=kC
 have H3:Hid (wa.heap.size=x+3):=s3
 clear s1 s2 s3 bA kA kB kC hwa hxx
 go_enter Tryz.func19,Tryz.ntmps19
 go_upto_region 1 with fail
 rw[HE.out,HS.out]
 go_wp2_with fail
 refine hN1.mono ?_
 rintro r w1 ⟨h,rfl,H1⟩
 have b1:=H1.out.1
 have hN2:=new_ok 16 w1 (by omega)
 clear hN1 q0 q1 q2 q3 q4
 go_wp2_with fail
 refine hN2.mono ?_
 rintro r w2 ⟨m,g,rfl,H2⟩
 clear hN2
 obtain⟨hm,hg,o2,M2⟩:=H2.out
 have b2:Below w1.heap.size w1 w2:=o2.below (Below.refl _ _) (by simp) (Nat.le_refl _)
 have hN3:=made13 mx PD hD w1 w2 m g b2 hm hg M2 hx h0
 have b12:Below wa.heap.size wa w2:=b1.trans (b2.mono b1.size)
 have kB2:=(b12.block (x+1) (by rw[H3.out];omega)).trans HKB.out
 have q0:w2.cell? ⟨x+1,0,none⟩=some (.int .u32 (PD.c:Nat)):=cell_of_row w2 (x+1) 0 _ _ _ kB2
 have q1:w2.cell? ⟨x+1,1,none⟩=some (.int .i64 (PD.o:Nat)):=cell_of_row w2 (x+1) 1 _ _ _ kB2
 have q2:w2.cell? ⟨x+1,2,none⟩=some (.int .i64 (PD.i:Nat)):=cell_of_row w2 (x+1) 2 _ _ _ kB2
 have q3:w2.cell? ⟨x+1,3,none⟩=some (.int .i64 (PD.t:Nat)):=cell_of_row w2 (x+1) 3 _ _ _ kB2
 have q4:w2.cell? ⟨x+1,4,none⟩=some (.int .u32 (PD.n:Nat)):=cell_of_row w2 (x+1) 4 _ _ _ kB2
 have HX:Hid (_):=And.intro b1 b12
 clear hm hg o2 M2 b2 kB2 b1 b12
 go_wp2_with fail
 refine hN3.mono ?_
 rintro r w3 ⟨d,rfl,H4⟩
 clear hN3 q0 q1 q2 q3 q4
 obtain⟨b1,b12⟩:=HX.out
 obtain⟨dU,ow⟩:=H4.out
 have b3:Below wa.heap.size wa w3:=b1.trans (ow.bel.mono b1.size)
 have kC3:=(b3.block (x+2) (by rw[H3.out];omega)).trans HKC.out
 have y0:=cell_of_row w3 (x+2) 0 _ _ _ kC3
 have y1:=cell_of_row w3 (x+2) 1 _ _ _ kC3
 have y2:=cell_of_row w3 (x+2) 2 _ _ _ kC3
 have yz:=fun k=>frozen_of_row w3 (x+2) k _ _ kC3
 have HF:Hid (_):=And.intro b1 (And.intro b3 (And.intro kC3 ow))
 clear b1 b12 ow b3 kC3 H4
 go_wp2_with fail
 refine bodyPost_ret (v:=.agg #[.pointer (some ⟨h,0,none⟩),.pointer (some ⟨d,0,none⟩),.pointer (some ⟨m,0,none⟩)]) (by simp[results,Tryz.results19,go_sem,y0,y1,y2]) rfl ?_
 obtain⟨b1,b3,kC3,ow⟩:=HF.out
 obtain⟨_,hU,v1,hUg⟩:=H1.out
 have hb0:=HB.out
 rw[HS.out]at hb0
 have hxa:=H3.out
 have o:Off [x+2] w3 (((w3.setCell ⟨x+2,0,none⟩ (.pointer (some ⟨h,0,none⟩))).setCell ⟨x+2,1,none⟩ (.pointer (some ⟨d,0,none⟩))).setCell ⟨x+2,2,none⟩ (.pointer (some ⟨m,0,none⟩))):=((Off.setCell (x+2) 0 w3 _).trans (Off.setCell (x+2) 1 _ _)).trans (Off.setCell (x+2) 2 _ _)
 have l1:=b1.size
 have bw3:Below w.heap.size w w3:=HB.out.trans (b3.mono (by rw[HS.out,H3.out];omega))
 have v3:HV w3 h PH hU hnew:=HV.off v1 (l:=[]) (Off.of_below ow.bel) (by simp)
 refine⟨h,d,m,g,rfl,o.below bw3 (by simp[HS.out]) bw3.size,hU,dU,HV.off v3 o (fun k hk hm=>?_),DV.offY ow.dv o (fun k hk hm=>?_),fun k hk=>?_,fun k hk=>?_,fun k hk hm=>?_⟩
 ·have:=hUg k hk
  simp at hm
  omega
 ·have:=ow.ge k hk
  simp at hm
  omega
 ·have:=hUg k hk
  rw[HS.out]
  omega
 ·have:=ow.ge k hk
  rw[HS.out]
  omega
 ·have:=ow.ge k hm
  have:=HV.ult v1 k hk
  omega
theorem info_parY:(Tryz.prog.info? 68).map (fun i=>(i.zero,i.size,i.bytes))=some (some (.agg #[.int .u32 0,.int .i64 0,.int .i64 0,.int .i64 0,.int .u32 0]),5,40):=by kernel_rfl
theorem Pm.cs_one (P:Pm):∀ u ∈ P.cs,u.oneCell'=true:=by
 intro u hu
 simp[Pm.cs]at hu
 rcases hu with rfl | rfl | rfl | rfl | rfl <;> rfl
theorem Pm.cells {W:World} {g:Nat} {P:Pm} (h:W.heap[g]?=some (.cells #[.int .u32 (P.c:Nat),.int .i64 (P.o:Nat),.int .i64 (P.i:Nat),.int .i64 (P.t:Nat),.int .u32 (P.n:Nat)] 68 (0,0))):∀ j u,P.cs[j]?=some u→W.cell? ((⟨g,0,none⟩:Addr).add j)=some u:=fun j u hu=>by
 have e:(Addr.add ⟨g,0,none⟩ j)=⟨g,j,none⟩:=by unfold Addr.add;simp;omega
 rw[e,cell_of_row W g j _ _ _ h]
 have:(#[.int .u32 (P.c:Nat),.int .i64 (P.o:Nat),.int .i64 (P.i:Nat),.int .i64 (P.t:Nat),.int .u32 (P.n:Nat)]:Array Value)[j]?=P.cs[j]?:=by
  show (P.cs.toArray)[j]?=_
  simp
 rw[this]
 exact hu
set_option maxHeartbeats 1000000 in
theorem pgrow2 (w:World):Calls Tryz.prog 55 #[.slice none 0 0,.int .i64 2] w fun r w'=>∃ a c,r=.returned (.slice a 0 c)∧Hid (w'.ownsRow w.heap.size 68 5 (.slice a 0 c) 0 []∧Below w.heap.size w w'):=by
 obtain⟨i0,hI,hz0,hz1,hz2⟩:=info_parts info_parY
 have hold:(Builtin.firstCells i0.size 0 (.slice none 0 0)).run Tryz.prog w.drew=.ok ([]:List Value).toArray w.drew:=run_firstCells_none _ _ _ _ _
 have hrz:∀ ty,(Builtin.append_ #[33,3] ty #[.slice none 0 0,.int .i64 2]).run Tryz.prog w=_:=fun ty=>Lib.run_append_grow_zeros (P:=Tryz.prog) w 33 3 ty 68 i0 _ .i64 .i64 Tryz.underlying33 Tryz.underlying3 hI hz0 none 0 0 [] hold 2 (by omega) (by rw[hz1];omega) (by omega) (by omega) (by rw[hz2];omega) (by rw[hz2];decide)
 have hGn:2≤grownCap w 2 0 68:=grownCap_ge w _ _ _
 have hGm:grownCap w 2 0 68≤maxLen:=grownCap_le_maxLen w 2 0 _ (by unfold maxLen;omega)
 obtain⟨G,hG⟩:∃ G,grownCap w 2 0 68=G:=⟨_,rfl⟩
 simp only[Nat.zero_add]at hrz
 rw[hG]at hrz hGn hGm
 have hb:Below w.heap.size w w.drew:=Below.drew (Below.refl _ _)
 have hs2:(([]:List Value).toArray ++ Builtin.zeroCells (Value.agg #[.int .u32 0,.int .i64 0,.int .i64 0,.int .i64 0,.int .u32 0]).cells 2 ++ Builtin.zeroCells (Value.agg #[.int .u32 0,.int .i64 0,.int .i64 0,.int .i64 0,.int .u32 0]).cells (G-2)).size=G*5:=by
  simp[Builtin.zeroCells,Value.cells]
  omega
 obtain⟨ZZ,hZZ⟩:∃ z,([]:List Value).toArray ++ Builtin.zeroCells (Value.agg #[.int .u32 0,.int .i64 0,.int .i64 0,.int .i64 0,.int .u32 0]).cells 2 ++ Builtin.zeroCells (Value.agg #[.int .u32 0,.int .i64 0,.int .i64 0,.int .i64 0,.int .u32 0]).cells (G-2)=z:=⟨_,rfl⟩
 rw[hZZ]at hrz hs2
 have hG63:G≤9223372036854775807:=by unfold maxLen at hGm;omega
 have ho:(w.drew.alloc (.cells ZZ 68)).ownsRow w.heap.size 68 5 (.slice (some ⟨w.drew.heap.size,0,none⟩) 0 G) 0 []:=World.ownsRow_made w.drew ZZ G (Nat.le_refl _) hGm hs2
 have HF:Hid (_):=And.intro ho (belY hb (.cells ZZ 68))
 clear hold hG hb hs2 hZZ ho hGm
 go_enter Tryz.func55,Tryz.ntmps55
 go_wp2_with (at_builtin;refine Lib.wpList_append_run _ rfl _ _ _ _ rfl _ _ rfl rfl _ _ (hrz _) ?_)
 go_ret
 exact⟨_,_,rfl,HF.out⟩
set_option maxHeartbeats 2000000 in
theorem pconcat2 (P Q:Pm) (s q0 q1:Nat) (w:World) (hs:w.heap[s]?=some (.cells #[.slice (some ⟨q0,0,none⟩) 1 1,.slice (some ⟨q1,0,none⟩) 1 1] 33 (0,0))) (h0:w.heap[q0]?=some (.cells #[.int .u32 (P.c:Nat),.int .i64 (P.o:Nat),.int .i64 (P.i:Nat),.int .i64 (P.t:Nat),.int .u32 (P.n:Nat)] 68 (0,0))) (h1:w.heap[q1]?=some (.cells #[.int .u32 (Q.c:Nat),.int .i64 (Q.o:Nat),.int .i64 (Q.i:Nat),.int .i64 (Q.t:Nat),.int .u32 (Q.n:Nat)] 68 (0,0))):Calls Tryz.prog 32 #[.slice (some ⟨s,0,none⟩) 2 2] w fun r w'=>∃ a c,r=.returned (.slice a 2 c)∧Hid (w'.ownsRow w.heap.size 68 5 (.slice a 2 c) 2 (P.cs ++ Q.cs)∧Below w.heap.size w w'):=by
 obtain⟨i0,hI,hz0,hz1,hz2⟩:=info_parts info_parY
 have c0:=cell_of_row w s 0 _ _ _ hs
 have c1:=cell_of_row w s 1 _ _ _ hs
 have hG:=pgrow2 w
 have ls:=(Array.getElem?_eq_some_iff.1 hs).1
 have l0:=(Array.getElem?_eq_some_iff.1 h0).1
 have l1:=(Array.getElem?_eq_some_iff.1 h1).1
 have H0:Hid (_):=And.intro ls (And.intro l0 l1)
 have Hs:Hid (_):=hs
 have Hp:Hid (_):=h0
 have Hq:Hid (_):=h1
 clear hs h0 h1 ls l0 l1
 go_enter Tryz.func32,Tryz.ntmps32
 go_wp2_with fail
 refine wp_loop_rounds 3 ?_
 rw[rounds_succ]
 go_wp2_with fail
 rw[rounds_succ]
 go_wp2_with fail
 rw[rounds_succ]
 go_wp2_with fail
 refine hG.mono ?_
 rintro r w1 ⟨a,c,rfl,H1⟩
 have oA:=H1.out.1
 have b1:=H1.out.2
 have d0:=cell_of_row w1 s 0 _ _ _ ((b1.block s H0.out.1).trans Hs.out)
 have d1:=cell_of_row w1 s 1 _ _ _ ((b1.block s H0.out.1).trans Hs.out)
 have sA:=Pm.cells ((b1.block q0 H0.out.2.1).trans Hp.out)
 have zA:w.heap.size≤w1.heap.size:=b1.size
 have HB1:Hid (_):=b1
 clear b1 hG c0 c1
 go_wp2_with fail
 refine wp_loop_rounds 3 ?_
 rw[rounds_succ]
 go_wp2_with (at_builtin;refine wpList_append_own_at _ rfl _ _ 33 rfl w.heap.size 68 i0 (.agg #[.int .u32 0,.int .i64 0,.int .i64 0,.int .i64 0,.int .u32 0]) 5 40 Tryz.underlying33 hI hz0 hz1 hz2 rfl (by decide) (.slice a 0 c) 0 [] rfl oA ⟨q0,0,none⟩ 1 1 P.cs rfl rfl sA P.cs_one (by unfold maxLen;omega) (by omega) zA ?_)
 intro v2 w2 o2 g2 _ _
 obtain⟨a2,c2,rfl⟩:=own_shape o2
 have b2:=HB1.out.grown g2 zA (fun k hk=>(oA.lt k hk).1)
 have e0:=cell_of_row w2 s 0 _ _ _ ((b2.block s H0.out.1).trans Hs.out)
 have e1:=cell_of_row w2 s 1 _ _ _ ((b2.block s H0.out.1).trans Hs.out)
 have sB:=Pm.cells ((b2.block q1 H0.out.2.2).trans Hq.out)
 have zB:w.heap.size≤w2.heap.size:=b2.size
 have HB2:Hid (_):=b2
 clear oA sA zA d0 d1 b2 g2
 go_wp2_with fail
 rw[rounds_succ]
 go_wp2_with (at_builtin;refine wpList_append_own_at _ rfl _ _ 33 rfl w.heap.size 68 i0 (.agg #[.int .u32 0,.int .i64 0,.int .i64 0,.int .i64 0,.int .u32 0]) 5 40 Tryz.underlying33 hI hz0 hz1 hz2 rfl (by decide) (.slice a2 1 c2) 1 P.cs rfl o2 ⟨q1,0,none⟩ 1 1 Q.cs rfl rfl sB Q.cs_one (by unfold maxLen;omega) (by omega) zB ?_)
 intro v3 w3 o3 g3 _ _
 obtain⟨a3,c3,rfl⟩:=own_shape o3
 have HF:Hid (_):=And.intro o3 (HB2.out.grown g3 zB (fun k hk=>(o2.lt k hk).1))
 have f1:=cell_of_row w3 s 1 _ _ _ ((HF.out.2.block s H0.out.1).trans Hs.out)
 clear o2 o3 sB zB e0 e1 g3
 go_wp2_with fail
 rw[rounds_succ]
 go_wp2_with fail
 go_ret
 exact⟨_,_,rfl,HF.out⟩
set_option maxHeartbeats 1000000 in
theorem pindex0 (b:Option Addr) (c:Nat) (f:Value) (w:World):Calls Tryz.prog 74 #[.slice b 0 c,f] w fun r w'=>r=.returned (.int .i64 (-1))∧w'=w:=by
 go_enter Tryz.func74,Tryz.ntmps74
 go_wp2_with fail
 refine wp_loop_rounds 1 ?_
 rw[rounds_succ]
 go_wp2_with fail
 go_ret
 exact⟨rfl,rfl⟩
set_option maxHeartbeats 1000000 in
theorem pcontains0 (b:Option Addr) (c:Nat) (f:Value) (w:World):Calls Tryz.prog 58 #[.slice b 0 c,f] w fun r w'=>r=.returned (.bool false)∧w'=w:=by
 have hI:=pindex0 b c f w
 go_enter Tryz.func58,Tryz.ntmps58
 go_wp2_with fail
 refine hI.mono ?_
 rintro r w2 ⟨rfl,rfl⟩
 go_wp2_with fail
 go_ret
 exact⟨rfl,rfl⟩
set_option maxHeartbeats 1000000 in
theorem pdoubled1 (P:Pm) (q:Nat) (w:World) (h:w.heap[q]?=some (.cells #[.int .u32 (P.c:Nat),.int .i64 (P.o:Nat),.int .i64 (P.i:Nat),.int .i64 (P.t:Nat),.int .u32 (P.n:Nat)] 68 (0,0))):Calls Tryz.prog 34 #[.slice (some ⟨q,0,none⟩) 1 1] w fun r w'=>r=.returned (.bool false)∧Below w.heap.size w w':=by
 have c0:w.cell? ⟨q,0,none⟩=some (.int .u32 (P.c:Nat)):=cell_of_row w q 0 _ _ _ h
 have c1:w.cell? ⟨q,1,none⟩=some (.int .i64 (P.o:Nat)):=cell_of_row w q 1 _ _ _ h
 have c2:w.cell? ⟨q,2,none⟩=some (.int .i64 (P.i:Nat)):=cell_of_row w q 2 _ _ _ h
 have c3:w.cell? ⟨q,3,none⟩=some (.int .i64 (P.t:Nat)):=cell_of_row w q 3 _ _ _ h
 have c4:w.cell? ⟨q,4,none⟩=some (.int .u32 (P.n:Nat)):=cell_of_row w q 4 _ _ _ h
 have bA:=belY (Below.refl _ w) (.cells #[.int .u32 (P.c:Nat),.int .i64 (P.o:Nat),.int .i64 (P.i:Nat),.int .i64 (P.t:Nat),.int .u32 (P.n:Nat)] 68)
 have HF:Hid (_):=bA
 have hC:=pcontains0
 clear bA h
 go_enter Tryz.func34,Tryz.ntmps34
 go_wp2_with fail
 refine wp_loop_rounds 2 ?_
 rw[rounds_succ]
 go_wp2_with fail
 refine (hC _ _ _ _).mono ?_
 rintro r w2 ⟨rfl,rfl⟩
 go_wp2_with fail
 rw[rounds_succ]
 go_wp2_with fail
 go_ret
 exact⟨rfl,HF.out⟩
theorem own_cellY {w:World} {B e size g n c:Nat} {xs:List Value} (h:w.ownsRow B e size (.slice (some ⟨g,0,none⟩) n c) n xs):∀ j u,xs[j]?=some u→w.cell? ⟨g,j,none⟩=some u:=fun j u hu=>by
 rcases h.2 with ⟨e1,_⟩ | ⟨g',cap,cur,e1,_,hg,_,_,_,hx⟩
 ·cases e1
 ·injection e1 with e2 _ _
  injection e2 with e3
  injection e3 with e4
  subst e4
  rw[cell_of_row w g j _ _ _ hg,← hu,← hx]
  have:j<n*size:=by
   have h1:=(List.getElem?_eq_some_iff.1 hu).1
   rw[h.1]at h1
   exact h1
  rw[List.getElem?_take_of_lt this]
  simp
theorem own_someY {w:World} {B e size n c:Nat} {a:Option Addr} {xs:List Value} (h:w.ownsRow B e size (.slice a n c) n xs) (hn:n≠0):∃ g,a=some ⟨g,0,none⟩∧B≤g:=by
 rcases h.2 with ⟨_,e1⟩ | ⟨g',cap,cur,e1,hb,_⟩
 ·exact absurd e1 hn
 ·injection e1 with e2 _ _
  exact⟨g',e2,hb⟩
theorem own_lowY {w:World} {B B' e size n:Nat} {v:Value} {xs:List Value} (h:w.ownsRow B e size v n xs) (hB:B'≤B):w.ownsRow B' e size v n xs:=by
 refine⟨h.1,?_⟩
 rcases h.2 with h1 | ⟨g,cap,cur,e1,hb,r⟩
 ·exact .inl h1
 ·exact .inr ⟨g,cap,cur,e1,Nat.le_trans hB hb,r⟩
set_option maxHeartbeats 4000000 in
theorem pcheckN (P Q:Pm) (hP:Pok P) (hQ:Pok Q) (q0 q1 mx:Nat) (h0:mx≠0) (w:World) (k0:w.heap[q0]?=some (.cells #[.int .u32 (P.c:Nat),.int .i64 (P.o:Nat),.int .i64 (P.i:Nat),.int .i64 (P.t:Nat),.int .u32 (P.n:Nat)] 68 (0,0))) (k1:w.heap[q1]?=some (.cells #[.int .u32 (Q.c:Nat),.int .i64 (Q.o:Nat),.int .i64 (Q.i:Nat),.int .i64 (Q.t:Nat),.int .u32 (Q.n:Nat)] 68 (0,0))):Calls Tryz.prog 16 #[.agg #[.slice (some ⟨q0,0,none⟩) 1 1,.slice (some ⟨q1,0,none⟩) 1 1,.int .u32 (mx:Nat)]] w fun r w'=>r=.returned (.int .i64 0)∧Hid (Below w.heap.size w w'):=by
 have kA:=heap_alloc_new w (.cells #[.slice (some ⟨q0,0,none⟩) 1 1,.slice (some ⟨q1,0,none⟩) 1 1,.int .u32 (mx:Nat)] 35)
 have bA:=belY (Below.refl _ w) (.cells #[.slice (some ⟨q0,0,none⟩) 1 1,.slice (some ⟨q1,0,none⟩) 1 1,.int .u32 (mx:Nat)] 35)
 obtain⟨wa,hwa⟩:∃ y,w.alloc (.cells #[.slice (some ⟨q0,0,none⟩) 1 1,.slice (some ⟨q1,0,none⟩) 1 1,.int .u32 (mx:Nat)] 35)=y:=⟨_,rfl⟩
 rw[hwa]at kA bA
 have l0:=(Array.getElem?_eq_some_iff.1 k0).1
 have l1:=(Array.getElem?_eq_some_iff.1 k1).1
 obtain⟨x,hx⟩:∃ y,w.heap.size=y:=⟨_,rfl⟩
 rw[hx]at kA
 have n0:wa.cell? ⟨x,0,none⟩=some (.slice (some ⟨q0,0,none⟩) 1 1):=cell_of_row wa x 0 _ _ _ kA
 have n1:wa.cell? ⟨x,1,none⟩=some (.slice (some ⟨q1,0,none⟩) 1 1):=cell_of_row wa x 1 _ _ _ kA
 have n2:wa.cell? ⟨x,2,none⟩=some (.int .u32 (mx:Nat)):=cell_of_row wa x 2 _ _ _ kA
 have bB:=belY (Below.refl _ wa) (.cells #[.slice (some ⟨q0,0,none⟩) 1 1,.slice (some ⟨q1,0,none⟩) 1 1] 33)
 have kB:=heap_alloc_new wa (.cells #[.slice (some ⟨q0,0,none⟩) 1 1,.slice (some ⟨q1,0,none⟩) 1 1] 33)
 have lxa:=(Array.getElem?_eq_some_iff.1 kA).1
 have lqa0:q0<wa.heap.size:=Nat.lt_of_lt_of_le l0 bA.size
 have lqa1:q1<wa.heap.size:=Nat.lt_of_lt_of_le l1 bA.size
 have hCc:=pconcat2 P Q wa.heap.size q0 q1 (wa.alloc (.cells #[.slice (some ⟨q0,0,none⟩) 1 1,.slice (some ⟨q1,0,none⟩) 1 1] 33)) kB ((bB.block q0 lqa0).trans ((bA.block q0 l0).trans k0)) ((bB.block q1 lqa1).trans ((bA.block q1 l1).trans k1))
 have hmx:¬ (((mx:Nat):Int)<1):=by omega
 have HH:Hid (_):=And.intro bA (And.intro bB (And.intro kA (And.intro k0 (And.intro k1 (And.intro l0 (And.intro l1 (And.intro lxa (And.intro lqa0 lqa1))))))))
 have HE:Hid (_=wa):=hwa
 have HS:Hid (w.heap.size=x):=hx
 clear bA bB kA kB k0 k1 l0 l1 lxa lqa0 lqa1 hwa hx h0
 go_enter Tryz.func16,Tryz.ntmps16
 go_upto_region 1 with fail
 rw[HE.out,HS.out]
 go_wp2_with fail
 refine hCc.mono ?_
 rintro r w1 ⟨a,c,rfl,H1⟩
 clear hCc n0 n1 n2
 obtain⟨bA,bB,kA,k0,k1,l0,l1,lxa,lqa0,lqa1⟩:=HH.out
 obtain⟨g,rfl,hgB⟩:=own_someY H1.out.1 (by omega)
 have b1:Below wa.heap.size wa w1:=bB.trans (H1.out.2.mono bB.size)
 have cc:=own_cellY H1.out.1
 have p0:w1.cell? ⟨g,0,none⟩=some (.int .u32 (P.c:Nat)):=cc 0 _ rfl
 have p1:w1.cell? ⟨g,1,none⟩=some (.int .i64 (P.o:Nat)):=cc 1 _ rfl
 have p2:w1.cell? ⟨g,2,none⟩=some (.int .i64 (P.i:Nat)):=cc 2 _ rfl
 have p3:w1.cell? ⟨g,3,none⟩=some (.int .i64 (P.t:Nat)):=cc 3 _ rfl
 have p4:w1.cell? ⟨g,4,none⟩=some (.int .u32 (P.n:Nat)):=cc 4 _ rfl
 have bC:=belY (Below.refl _ w1) (.cells #[.int .u32 (P.c:Nat),.int .i64 (P.o:Nat),.int .i64 (P.i:Nat),.int .i64 (P.t:Nat),.int .u32 (P.n:Nat)] 68)
 have hK1:=check_any P.c P.o P.i P.t P.n (w1.alloc (.cells #[.int .u32 (P.c:Nat),.int .i64 (P.o:Nat),.int .i64 (P.i:Nat),.int .i64 (P.t:Nat),.int .u32 (P.n:Nat)] 68)) 0 (if_pos hP.ok)
 have HG:Hid (_):=And.intro b1 (And.intro cc bC)
 clear bA bB kA k0 k1 l0 l1 lxa lqa0 lqa1 b1 cc bC
 go_wp2_with fail
 refine wp_loop_rounds 3 ?_
 rw[rounds_succ]
 go_wp2_with fail
 refine hK1.mono ?_
 rintro r w2 ⟨rfl,b2⟩
 clear hK1 p0 p1 p2 p3 p4
 obtain⟨b1,cc,bC⟩:=HG.out
 have b12:Below w1.heap.size w1 w2:=bC.trans (b2.mono bC.size)
 have p0:w2.cell? ⟨g,5,none⟩=some (.int .u32 (Q.c:Nat)):=cellY (cc 5 _ rfl) b12
 have p1:w2.cell? ⟨g,6,none⟩=some (.int .i64 (Q.o:Nat)):=cellY (cc 6 _ rfl) b12
 have p2:w2.cell? ⟨g,7,none⟩=some (.int .i64 (Q.i:Nat)):=cellY (cc 7 _ rfl) b12
 have p3:w2.cell? ⟨g,8,none⟩=some (.int .i64 (Q.t:Nat)):=cellY (cc 8 _ rfl) b12
 have p4:w2.cell? ⟨g,9,none⟩=some (.int .u32 (Q.n:Nat)):=cellY (cc 9 _ rfl) b12
 have bD:=belY (Below.refl _ w2) (.cells #[.int .u32 (Q.c:Nat),.int .i64 (Q.o:Nat),.int .i64 (Q.i:Nat),.int .i64 (Q.t:Nat),.int .u32 (Q.n:Nat)] 68)
 have hK2:=check_any Q.c Q.o Q.i Q.t Q.n (w2.alloc (.cells #[.int .u32 (Q.c:Nat),.int .i64 (Q.o:Nat),.int .i64 (Q.i:Nat),.int .i64 (Q.t:Nat),.int .u32 (Q.n:Nat)] 68)) 0 (if_pos hQ.ok)
 have HG2:Hid (_):=And.intro b12 bD
 clear b1 cc bC b2 b12 bD
 go_wp2_with fail
 rw[rounds_succ]
 go_wp2_with fail
 refine hK2.mono ?_
 rintro r w3 ⟨rfl,b3⟩
 clear hK2 p0 p1 p2 p3 p4
 obtain⟨b1,cc,bC⟩:=HG.out
 obtain⟨b12,bD⟩:=HG2.out
 obtain⟨bA,bB,kA,k0,k1,l0,l1,lxa,lqa0,lqa1⟩:=HH.out
 have b13:Below wa.heap.size wa w3:=(b1.trans (b12.mono b1.size)).trans ((bD.trans (b3.mono bD.size)).mono (Nat.le_trans b1.size b12.size))
 have kx:=(b13.block x lxa).trans kA
 have n0:w3.cell? ⟨x,0,none⟩=some (.slice (some ⟨q0,0,none⟩) 1 1):=cell_of_row w3 x 0 _ _ _ kx
 have n1:w3.cell? ⟨x,1,none⟩=some (.slice (some ⟨q1,0,none⟩) 1 1):=cell_of_row w3 x 1 _ _ _ kx
 have n2:w3.cell? ⟨x,2,none⟩=some (.int .u32 (mx:Nat)):=cell_of_row w3 x 2 _ _ _ kx
 have hD1:=pdoubled1 P q0 w3 ((b13.block q0 lqa0).trans ((bA.block q0 l0).trans k0))
 have HG3:Hid (_):=b13
 clear b1 cc bC b12 bD bA bB kA k0 k1 l0 l1 lxa lqa0 lqa1 b3 b13 kx
 go_wp2_with fail
 rw[rounds_succ]
 go_wp2_with fail
 refine hD1.mono ?_
 rintro r w4 ⟨rfl,b4⟩
 clear hD1 n0 n1 n2
 obtain⟨bA,bB,kA,k0,k1,l0,l1,lxa,lqa0,lqa1⟩:=HH.out
 have b14:Below wa.heap.size wa w4:=HG3.out.trans (b4.mono HG3.out.size)
 have kx:=(b14.block x lxa).trans kA
 have n0:w4.cell? ⟨x,0,none⟩=some (.slice (some ⟨q0,0,none⟩) 1 1):=cell_of_row w4 x 0 _ _ _ kx
 have n1:w4.cell? ⟨x,1,none⟩=some (.slice (some ⟨q1,0,none⟩) 1 1):=cell_of_row w4 x 1 _ _ _ kx
 have n2:w4.cell? ⟨x,2,none⟩=some (.int .u32 (mx:Nat)):=cell_of_row w4 x 2 _ _ _ kx
 have hD2:=pdoubled1 Q q1 w4 ((b14.block q1 lqa1).trans ((bA.block q1 l1).trans k1))
 have HG4:Hid (_):=And.intro b14 bA
 clear bA bB kA k0 k1 l0 l1 lxa lqa0 lqa1 b4 b14 kx
 go_wp2_with fail
 refine hD2.mono ?_
 rintro r w5 ⟨rfl,b5⟩
 clear hD2
 go_wp2_with fail
 go_ret
 exact⟨rfl,HG4.out.2.trans ((HG4.out.1.trans (b5.mono HG4.out.1.size)).mono HG4.out.2.size)⟩
set_option maxHeartbeats 1000000 in
theorem pcloneM (P:Pm) (q:Nat) (w:World) (h:w.heap[q]?=some (.cells #[.int .u32 (P.c:Nat),.int .i64 (P.o:Nat),.int .i64 (P.i:Nat),.int .i64 (P.t:Nat),.int .u32 (P.n:Nat)] 68 (0,0))):Calls Tryz.prog 35 #[.slice (some ⟨q,0,none⟩) 1 1] w fun r w'=>∃ a' c',r=.returned (.slice a' 1 c')∧Hid (w'.ownsRow w.heap.size 68 5 (.slice a' 1 c') 1 P.cs∧Below w.heap.size w w'):=by
 have hnn:∀ w,(binOp .eql 33 (.slice (some ⟨q,0,none⟩) 1 1) (.slice none 0 0)).run Tryz.prog w=.ok (.bool false) w:=fun _=>rfl
 obtain⟨i0,hI,hz0,hz1,hz2⟩:=info_parts info_parY
 have bA:=belY (Below.refl _ w) (.cells #[] 68)
 have oA:(w.alloc (.cells #[] 68)).ownsRow w.heap.size 68 5 (.slice (some ⟨w.heap.size,0,none⟩) 0 0) 0 []:=World.ownsRow_made w #[] 0 (Nat.le_refl _) (Nat.zero_le _) rfl
 have sA:=Pm.cells ((bA.block q (Array.getElem?_eq_some_iff.1 h).1).trans h)
 have HB:Hid (_):=bA
 have zA:w.heap.size ≤ (w.alloc (.cells #[] 68)).heap.size:=bA.size
 clear h bA
 go_enter Tryz.func35,Tryz.ntmps35
 go_wp2_with (at_builtin;refine wpList_append_own_at _ rfl _ _ 33 rfl w.heap.size 68 i0 (.agg #[.int .u32 0,.int .i64 0,.int .i64 0,.int .i64 0,.int .u32 0]) 5 40 Tryz.underlying33 hI hz0 hz1 hz2 rfl (by decide) (.slice (some ⟨w.heap.size,0,none⟩) 0 0) 0 [] rfl oA ⟨q,0,none⟩ 1 1 P.cs rfl rfl sA P.cs_one (by unfold maxLen;omega) (by omega) zA ?_)
 intro v' w' o' g' _ _
 obtain⟨a',c',rfl⟩:=own_shape o'
 have HF:Hid (_):=And.intro o' (HB.out.grown g' HB.out.size (fun k hk=>(oA.lt k hk).1))
 clear o' g' oA sA zA hnn
 go_wp2_with fail
 go_ret
 exact⟨_,_,rfl,HF.out.1,HF.out.2⟩
set_option maxHeartbeats 2000000 in
theorem pcopiedM (P Q:Pm) (q0 q1 mx:Nat) (w:World) (k0:w.heap[q0]?=some (.cells #[.int .u32 (P.c:Nat),.int .i64 (P.o:Nat),.int .i64 (P.i:Nat),.int .i64 (P.t:Nat),.int .u32 (P.n:Nat)] 68 (0,0))) (k1:w.heap[q1]?=some (.cells #[.int .u32 (Q.c:Nat),.int .i64 (Q.o:Nat),.int .i64 (Q.i:Nat),.int .i64 (Q.t:Nat),.int .u32 (Q.n:Nat)] 68 (0,0))):Calls Tryz.prog 17 #[.agg #[.slice (some ⟨q0,0,none⟩) 1 1,.slice (some ⟨q1,0,none⟩) 1 1,.int .u32 (mx:Nat)]] w fun r w'=>∃ a0 c0 a1 c1,r=.returned (.agg #[.slice a0 1 c0,.slice a1 1 c1,.int .u32 (mx:Nat)])∧Hid (w'.ownsRow w.heap.size 68 5 (.slice a0 1 c0) 1 P.cs∧w'.ownsRow w.heap.size 68 5 (.slice a1 1 c1) 1 Q.cs∧Below w.heap.size w w'∧∀ k,(Value.slice a0 1 c0).ownBlock=some k→(Value.slice a1 1 c1).ownBlock≠some k):=by
 have kA0:=heap_alloc_new w (.cells #[.slice (some ⟨q0,0,none⟩) 1 1,.slice (some ⟨q1,0,none⟩) 1 1,.int .u32 (mx:Nat)] 35)
 have bA:=belY (belY (Below.refl _ w) (.cells #[.slice (some ⟨q0,0,none⟩) 1 1,.slice (some ⟨q1,0,none⟩) 1 1,.int .u32 (mx:Nat)] 35)) (.cells #[.slice none 0 0,.slice none 0 0,.int .u32 0] 35)
 have s1:(w.alloc (.cells #[.slice (some ⟨q0,0,none⟩) 1 1,.slice (some ⟨q1,0,none⟩) 1 1,.int .u32 (mx:Nat)] 35)).heap.size=w.heap.size+1:=sz1 _ _
 have kA:((w.alloc (.cells #[.slice (some ⟨q0,0,none⟩) 1 1,.slice (some ⟨q1,0,none⟩) 1 1,.int .u32 (mx:Nat)] 35)).alloc (.cells #[.slice none 0 0,.slice none 0 0,.int .u32 0] 35)).heap[w.heap.size]?=_:=(Below.heap_alloc _ _ _ (by omega)).trans kA0
 have kB:=heap_alloc_new (w.alloc (.cells #[.slice (some ⟨q0,0,none⟩) 1 1,.slice (some ⟨q1,0,none⟩) 1 1,.int .u32 (mx:Nat)] 35)) (.cells #[.slice none 0 0,.slice none 0 0,.int .u32 0] 35)
 rw[s1]at kB
 have s2:((w.alloc (.cells #[.slice (some ⟨q0,0,none⟩) 1 1,.slice (some ⟨q1,0,none⟩) 1 1,.int .u32 (mx:Nat)] 35)).alloc (.cells #[.slice none 0 0,.slice none 0 0,.int .u32 0] 35)).heap.size=w.heap.size+2:=sz2 _ _ _
 obtain⟨wa,hwa⟩:∃ y,(w.alloc (.cells #[.slice (some ⟨q0,0,none⟩) 1 1,.slice (some ⟨q1,0,none⟩) 1 1,.int .u32 (mx:Nat)] 35)).alloc (.cells #[.slice none 0 0,.slice none 0 0,.int .u32 0] 35)=y:=⟨_,rfl⟩
 rw[hwa]at kA bA kB s2
 have l0:=(Array.getElem?_eq_some_iff.1 k0).1
 have l1:=(Array.getElem?_eq_some_iff.1 k1).1
 have j0:=(bA.block q0 l0).trans k0
 have j1:=(bA.block q1 l1).trans k1
 obtain⟨x,hx⟩:∃ y,w.heap.size=y:=⟨_,rfl⟩
 have HBa:Hid (Below w.heap.size w wa):=bA
 rw[hx]at kA kB s2
 have hS:∀ w',Below wa.heap.size wa w'→w'.cell? ⟨x,0,none⟩=some (Value.slice (some ⟨q0,0,none⟩) 1 1)∧w'.cell? ⟨x,1,none⟩=some (Value.slice (some ⟨q1,0,none⟩) 1 1)∧w'.cell? ⟨x,2,none⟩=some (Value.int .u32 (mx:Nat)):=fun w' b=>⟨cellY (cell_of_row wa x 0 _ _ _ kA) b,cellY (cell_of_row wa x 1 _ _ _ kA) b,cellY (cell_of_row wa x 2 _ _ _ kA) b⟩
 have HS0:=hS wa.drew (Below.drew (Below.refl _ _))
 have HSS:Hid (_):=hS
 have HJ:Hid (_):=And.intro j0 (And.intro j1 (And.intro kB s2))
 have HE:Hid (_=wa):=hwa
 have HS:Hid (w.heap.size=x):=hx
 clear kA0 kA kB bA s1 s2 hwa hx l0 l1 j0 j1 k0 k1 hS
 go_enter Tryz.func17,Tryz.ntmps17
 go_upto_region 1 with fail
 rw[HE.out,HS.out]
 refine wp_region_held_drew (S:=fun w'=>w'.cell? ⟨x,0,none⟩=some (Value.slice (some ⟨q0,0,none⟩) 1 1)∧w'.cell? ⟨x,1,none⟩=some (Value.slice (some ⟨q1,0,none⟩) 1 1)∧w'.cell? ⟨x,2,none⟩=some (Value.int .u32 (mx:Nat))) (by kernel_rfl) HS0 (fun _=>?_)
 refine wpAnyH_take (i:=0) (v:=Value.pointer (some ⟨x,0,none⟩)) rfl (by kernel_rfl) (by kernel_rfl) (by kernel_rfl) (fun _ _ _ h=>h) (Or.inl ⟨by kernel_rfl,fun w hSw=>by go_simp⟩) (by assumption) ?_
 refine wpAnyH_take (i:=1) (v:=Value.slice (some ⟨q0,0,none⟩) 1 1) rfl (by kernel_rfl) (by kernel_rfl) (by kernel_rfl) (fun _ _ _ h=>h) (Or.inl ⟨by kernel_rfl,fun w hSw=>by go_simp⟩) (by assumption) ?_
 refine wpAnyH_take (i:=3) (v:=Value.pointer (some ⟨x,1,none⟩)) rfl (by kernel_rfl) (by kernel_rfl) (by kernel_rfl) (fun _ _ _ h=>h) (Or.inl ⟨by kernel_rfl,fun w hSw=>by go_simp⟩) (by assumption) ?_
 refine wpAnyH_take (i:=4) (v:=Value.slice (some ⟨q1,0,none⟩) 1 1) rfl (by kernel_rfl) (by kernel_rfl) (by kernel_rfl) (fun _ _ _ h=>h) (Or.inl ⟨by kernel_rfl,fun w hSw=>by go_simp⟩) (by assumption) ?_
 refine wpAnyH_take (i:=6) (v:=Value.pointer (some ⟨x,2,none⟩)) rfl (by kernel_rfl) (by kernel_rfl) (by kernel_rfl) (fun _ _ _ h=>h) (Or.inl ⟨by kernel_rfl,fun w hSw=>by go_simp⟩) (by assumption) ?_
 refine wpAnyH_take (i:=7) (v:=Value.int .u32 (mx:Nat)) rfl (by kernel_rfl) (by kernel_rfl) (by kernel_rfl) (fun _ _ _ h=>h) (Or.inl ⟨by kernel_rfl,fun w hSw=>by go_simp⟩) (by assumption) ?_
 have bd:Below wa.heap.size wa wa.drew:=Below.drew (Below.refl _ _)
 refine held_call (i:=2) 35 #[Value.slice (some ⟨q0,0,none⟩) 1 1] (by kernel_rfl) rfl (by kernel_rfl) (by go_simp) ?_
 refine (pcloneM P q0 wa.drew HJ.out.1).mono ?_
 rintro r w1 ⟨a0,c0,rfl,H1⟩
 have b1:Below wa.heap.size wa w1:=bd.trans H1.out.2
 refine⟨_,rfl,HSS.out w1 b1,?_⟩
 have HSa:=HSS.out w1 b1
 refine held_call (i:=5) 35 #[Value.slice (some ⟨q1,0,none⟩) 1 1] (by kernel_rfl) rfl (by kernel_rfl) (by go_simp) ?_
 refine (pcloneM Q q1 w1 ((b1.block q1 (Array.getElem?_eq_some_iff.1 HJ.out.2.1).1).trans HJ.out.2.1)).mono ?_
 rintro r w2 ⟨a1,c1,rfl,H2⟩
 have b2:Below wa.heap.size wa w2:=b1.trans (H2.out.2.mono b1.size)
 have HSb:=HSS.out w2 b2
 refine⟨_,rfl,HSb,?_⟩
 refine wpAnyH_take (i:=8) (v:=Value.agg #[Value.slice a0 1 c0,Value.slice a1 1 c1,Value.int .u32 (mx:Nat)]) rfl (by kernel_rfl) (by kernel_rfl) (by kernel_rfl) (fun _ _ _ h=>h) (Or.inl ⟨by kernel_rfl,fun w hSw=>by go_simp⟩) (by assumption) ?_
 obtain⟨_,_,kB,s2⟩:=HJ.out
 have kB2:=(b2.block (x+1) (by omega)).trans kB
 have y0:=cell_of_row w2 (x+1) 0 _ _ _ kB2
 have y1:=cell_of_row w2 (x+1) 1 _ _ _ kB2
 have y2:=cell_of_row w2 (x+1) 2 _ _ _ kB2
 have yz:=fun k=>frozen_of_row w2 (x+1) k _ _ kB2
 have kB3:(((w2.setCell ⟨x+1,0,none⟩ (Value.slice a0 1 c0)).setCell ⟨x+1,1,none⟩ (Value.slice a1 1 c1)).setCell ⟨x+1,2,none⟩ (Value.int .u32 (mx:Nat))).heap[x+1]?=some (.cells #[Value.slice a0 1 c0,Value.slice a1 1 c1,Value.int .u32 (mx:Nat)] 35 (0,0)):=Joins.block_setCell (Joins.block_setCell (Joins.block_setCell kB2 _) _) _
 have o3:Off [x+1] w2 (((w2.setCell ⟨x+1,0,none⟩ (Value.slice a0 1 c0)).setCell ⟨x+1,1,none⟩ (Value.slice a1 1 c1)).setCell ⟨x+1,2,none⟩ (Value.int .u32 (mx:Nat))):=((Off.setCell (x+1) 0 w2 _).trans (Off.setCell (x+1) 1 _ _)).trans (Off.setCell (x+1) 2 _ _)
 have hS3:(((w2.setCell ⟨x+1,0,none⟩ (Value.slice a0 1 c0)).setCell ⟨x+1,1,none⟩ (Value.slice a1 1 c1)).setCell ⟨x+1,2,none⟩ (Value.int .u32 (mx:Nat))).cell? ⟨x,0,none⟩=some (Value.slice (some ⟨q0,0,none⟩) 1 1)∧(((w2.setCell ⟨x+1,0,none⟩ (Value.slice a0 1 c0)).setCell ⟨x+1,1,none⟩ (Value.slice a1 1 c1)).setCell ⟨x+1,2,none⟩ (Value.int .u32 (mx:Nat))).cell? ⟨x,1,none⟩=some (Value.slice (some ⟨q1,0,none⟩) 1 1)∧(((w2.setCell ⟨x+1,0,none⟩ (Value.slice a0 1 c0)).setCell ⟨x+1,1,none⟩ (Value.slice a1 1 c1)).setCell ⟨x+1,2,none⟩ (Value.int .u32 (mx:Nat))).cell? ⟨x,2,none⟩=some (Value.int .u32 (mx:Nat)):=by
  obtain⟨u0,u1,u2⟩:=HSb
  refine⟨?_,?_,?_⟩
  ·rw[World.cell?_of_block (w:=w2) (o3.block x (by have:=b2.size;omega) (by simp))];exact u0
  ·rw[World.cell?_of_block (w:=w2) (o3.block x (by have:=b2.size;omega) (by simp))];exact u1
  ·rw[World.cell?_of_block (w:=w2) (o3.block x (by have:=b2.size;omega) (by simp))];exact u2
 obtain⟨w3,hw3⟩:∃ z,(((w2.setCell ⟨x+1,0,none⟩ (Value.slice a0 1 c0)).setCell ⟨x+1,1,none⟩ (Value.slice a1 1 c1)).setCell ⟨x+1,2,none⟩ (Value.int .u32 (mx:Nat)))=z:=⟨_,rfl⟩
 rw[hw3]at kB3 o3 hS3
 refine held_skip (i:=9) w3 (by kernel_rfl) rfl (by kernel_rfl) (by rw[← hw3];go_simp) hS3 ?_
 refine wpAnyH_done (by kernel_rfl) ?_ _
 have z0:=cell_of_row w3 (x+1) 0 _ _ _ kB3
 have z1:=cell_of_row w3 (x+1) 1 _ _ _ kB3
 have z2:=cell_of_row w3 (x+1) 2 _ _ _ kB3
 have HO:Hid (_):=And.intro o3 (And.intro b1 (And.intro b2 s2))
 clear o3 b1 b2 s2 kB kB2 kB3 hS3 HSb HSa hw3 HS0 bd y0 y1 y2 yz
 go_wp2_with fail
 refine bodyPost_ret (v:=.agg #[.slice a0 1 c0,.slice a1 1 c1,.int .u32 (mx:Nat)]) (by simp[results,Tryz.results17,go_sem,z0,z1,z2]) rfl ?_
 obtain⟨o3,b1,b2,s2⟩:=HO.out
 have hb:=HBa.out
 have hsx:=HS.out
 have hdz:wa.drew.heap.size=wa.heap.size:=rfl
 have lt1:=H1.out.1.lt
 have lt2:=H2.out.1.lt
 have l1:=b1.size
 have u0:w2.ownsRow wa.heap.size 68 5 (.slice a0 1 c0) 1 P.cs:=own_offY (l:=[]) H1.out.1 (Off.of_below H2.out.2) (by simp)
 have v0:=own_offY u0 o3 (fun k hk hm=>by have:=(lt1 k hk).1;simp at hm;omega)
 have v1:=own_offY H2.out.1 o3 (fun k hk hm=>by have:=(lt2 k hk).1;simp at hm;omega)
 refine⟨a0,c0,a1,c1,rfl,own_lowY v0 (by omega),own_lowY v1 (by omega),o3.below (hb.trans (b2.mono hb.size)) (by simp;omega) (Nat.le_trans hb.size b2.size),fun k hk hm=>?_⟩
 have:=(lt1 k hk).2
 have:=(lt2 k hm).1
 omega
end Go.Proofs.YtiopiheomoehbaaGreat
