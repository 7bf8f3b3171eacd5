/- Part 40: contracts that the proof rests on. -/
import Derived.Lib.AppendZerosOnto
import Derived.LoopN
import Derived.Test.YtenilkloffnjlaaGreatPkH36
set_option maxHeartbeats 64000000
set_option maxRecDepth 100000
namespace Go.Proofs.YtenilkloffnjlaaGreat
open Tryz
open Go.RowKit Go.Maps
set_option linter.unusedVariables false
theorem pW (PH PD:Pm) (hH:Pok PH) (hD:Pok PD) (mx:Nat) (hx:mx<4294967296) (h0:mx≠0) (w:World):Calls prog 21 #[.agg #[.int .u32 (PH.c:Nat),.int .i64 (PH.o:Nat),.int .i64 (PH.i:Nat),.int .i64 (PH.t:Nat),.int .u32 (PH.n:Nat)],.agg #[.int .u32 (PD.c:Nat),.int .i64 (PD.o:Nat),.int .i64 (PD.i:Nat),.int .i64 (PD.t:Nat),.int .u32 (PD.n:Nat)],.int .u32 (mx:Nat)] w fun r w'=>∃ h d m g,r=.returned (.agg (aA h d m))∧Hid (Below w.heap.size w w'∧∃ hU dU,HV w' h PH hU bV∧DV w' d m g 16 mx PD dU (dD M0)∧(∀ k,k ∈ hU→w.heap.size≤k)∧(∀ k,k ∈ dU→w.heap.size≤k)∧∀ k,k ∈ hU→k ∉ dU):=by
 have s1:(w.alloc (.cells #[.int .u32 (PH.c:Nat),.int .i64 (PH.o:Nat),.int .i64 (PH.i:Nat),.int .i64 (PH.t:Nat),.int .u32 (PH.n:Nat)] 83)).heap.size=w.heap.size+1:=io _ _
 have s2:((w.alloc (.cells #[.int .u32 (PH.c:Nat),.int .i64 (PH.o:Nat),.int .i64 (PH.i:Nat),.int .i64 (PH.t:Nat),.int .u32 (PH.n:Nat)] 83)).alloc (.cells #[.int .u32 (PD.c:Nat),.int .i64 (PD.o:Nat),.int .i64 (PD.i:Nat),.int .i64 (PD.t:Nat),.int .u32 (PD.n:Nat)] 83)).heap.size=w.heap.size+2:=sz2 _ _ _
 have s3:(((w.alloc (.cells #[.int .u32 (PH.c:Nat),.int .i64 (PH.o:Nat),.int .i64 (PH.i:Nat),.int .i64 (PH.t:Nat),.int .u32 (PH.n:Nat)] 83)).alloc (.cells #[.int .u32 (PD.c:Nat),.int .i64 (PD.o:Nat),.int .i64 (PD.i:Nat),.int .i64 (PD.t:Nat),.int .u32 (PD.n:Nat)] 83)).alloc (.cells aQ 80)).heap.size=w.heap.size+3:=sz3 _ _ _ _
 have bA:Below w.heap.size w (((w.alloc (.cells #[.int .u32 (PH.c:Nat),.int .i64 (PH.o:Nat),.int .i64 (PH.i:Nat),.int .i64 (PH.t:Nat),.int .u32 (PH.n:Nat)] 83)).alloc (.cells #[.int .u32 (PD.c:Nat),.int .i64 (PD.o:Nat),.int .i64 (PD.i:Nat),.int .i64 (PD.t:Nat),.int .u32 (PD.n:Nat)] 83)).alloc (.cells aQ 80)):=aF (aF (aF (Below.refl _ w) _) _) _
 have kA:(((w.alloc (.cells #[.int .u32 (PH.c:Nat),.int .i64 (PH.o:Nat),.int .i64 (PH.i:Nat),.int .i64 (PH.t:Nat),.int .u32 (PH.n:Nat)] 83)).alloc (.cells #[.int .u32 (PD.c:Nat),.int .i64 (PD.o:Nat),.int .i64 (PD.i:Nat),.int .i64 (PD.t:Nat),.int .u32 (PD.n:Nat)] 83)).alloc (.cells aQ 80)).heap[w.heap.size]?=some (.cells #[.int .u32 (PH.c:Nat),.int .i64 (PH.o:Nat),.int .i64 (PH.i:Nat),.int .i64 (PH.t:Nat),.int .u32 (PH.n:Nat)] 83 (0,0)):=(Below.heap_alloc _ _ _ (by omega)).trans ((Below.heap_alloc _ _ _ (by omega)).trans (aB w _))
 have kB:(((w.alloc (.cells #[.int .u32 (PH.c:Nat),.int .i64 (PH.o:Nat),.int .i64 (PH.i:Nat),.int .i64 (PH.t:Nat),.int .u32 (PH.n:Nat)] 83)).alloc (.cells #[.int .u32 (PD.c:Nat),.int .i64 (PD.o:Nat),.int .i64 (PD.i:Nat),.int .i64 (PD.t:Nat),.int .u32 (PD.n:Nat)] 83)).alloc (.cells aQ 80)).heap[w.heap.size+1]?=some (.cells #[.int .u32 (PD.c:Nat),.int .i64 (PD.o:Nat),.int .i64 (PD.i:Nat),.int .i64 (PD.t:Nat),.int .u32 (PD.n:Nat)] 83 (0,0)):=(Below.heap_alloc _ _ _ (by omega)).trans (by rw[← s1];exact aB _ _)
 have kC:(((w.alloc (.cells #[.int .u32 (PH.c:Nat),.int .i64 (PH.o:Nat),.int .i64 (PH.i:Nat),.int .i64 (PH.t:Nat),.int .u32 (PH.n:Nat)] 83)).alloc (.cells #[.int .u32 (PD.c:Nat),.int .i64 (PD.o:Nat),.int .i64 (PD.i:Nat),.int .i64 (PD.t:Nat),.int .u32 (PD.n:Nat)] 83)).alloc (.cells aQ 80)).heap[w.heap.size+2]?=some (.cells aQ 80 (0,0)):=by rw[← s2];exact aB _ _
 obtain⟨wa,hwa⟩:∃ z,((w.alloc (.cells #[.int .u32 (PH.c:Nat),.int .i64 (PH.o:Nat),.int .i64 (PH.i:Nat),.int .i64 (PH.t:Nat),.int .u32 (PH.n:Nat)] 83)).alloc (.cells #[.int .u32 (PD.c:Nat),.int .i64 (PD.o:Nat),.int .i64 (PD.i:Nat),.int .i64 (PD.t:Nat),.int .u32 (PD.n:Nat)] 83)).alloc (.cells aQ 80)=z:=⟨_,rfl⟩
 obtain⟨x,hxx⟩:∃ z,w.heap.size=z:=⟨_,rfl⟩
 rw[hwa]at kA kB kC bA s3
 have HB:Hid (Below w.heap.size w wa):=bA
 rw[hxx]at kA kB kC s3
 have q0:wa.cell? ⟨x,0,none⟩=some (.int .u32 (PH.c:Nat)):=ae wa x 0 _ _ _ kA
 have q1:wa.cell? ⟨x,1,none⟩=some (.int .i64 (PH.o:Nat)):=ae wa x 1 _ _ _ kA
 have q2:wa.cell? ⟨x,2,none⟩=some (.int .i64 (PH.i:Nat)):=ae wa x 2 _ _ _ kA
 have q3:wa.cell? ⟨x,3,none⟩=some (.int .i64 (PH.t:Nat)):=ae wa x 3 _ _ _ kA
 have q4:wa.cell? ⟨x,4,none⟩=some (.int .u32 (PH.n:Nat)):=ae wa x 4 _ _ _ kA
 have hN1:=v9 PH hH wa
 have HE:Hid (_=wa):=hwa
 have HS:Hid (w.heap.size=x):=hxx
 have HKB:Hid (_):=kB
 have HKC:Hid (_):=kC
 have H3:Hid (wa.heap.size=x+3):=s3
 clear s1 s2 s3 bA kA kB kC hwa hxx
 go_enter func21,ntmps21
 go_upto_region 1 with fail
 rw[HE.out,HS.out]
 go_wp2_with fail
 refine hN1.mono ?_
 rintro r w1 ⟨h,rfl,H1⟩
 have b1:=H1.out.1
 have hN2:=aaM 16 w1 (by omega)
 clear hN1 q0 q1 q2 q3 q4
 go_wp2_with fail
 refine hN2.mono ?_
 rintro r w2 ⟨m,g,rfl,H2⟩
 clear hN2
 obtain⟨hm,hg,o2,M2⟩:=H2.out
 have b2:Below w1.heap.size w1 w2:=o2.below (Below.refl _ _) (by simp) (Nat.le_refl _)
 have hN3:=aaI mx PD hD w1 w2 m g b2 hm hg M2 hx h0
 have b12:Below wa.heap.size wa w2:=b1.trans (b2.mono b1.size)
 have kB2:=(b12.block (x+1) (by rw[H3.out];omega)).trans HKB.out
 have q0:w2.cell? ⟨x+1,0,none⟩=some (.int .u32 (PD.c:Nat)):=ae w2 (x+1) 0 _ _ _ kB2
 have q1:w2.cell? ⟨x+1,1,none⟩=some (.int .i64 (PD.o:Nat)):=ae w2 (x+1) 1 _ _ _ kB2
 have q2:w2.cell? ⟨x+1,2,none⟩=some (.int .i64 (PD.i:Nat)):=ae w2 (x+1) 2 _ _ _ kB2
 have q3:w2.cell? ⟨x+1,3,none⟩=some (.int .i64 (PD.t:Nat)):=ae w2 (x+1) 3 _ _ _ kB2
 have q4:w2.cell? ⟨x+1,4,none⟩=some (.int .u32 (PD.n:Nat)):=ae w2 (x+1) 4 _ _ _ kB2
 have HX:Hid (_):=And.intro b1 b12
 clear hm hg o2 M2 b2 kB2 b1 b12
 go_wp2_with fail
 refine hN3.mono ?_
 rintro r w3 ⟨d,rfl,H4⟩
 clear hN3 q0 q1 q2 q3 q4
 obtain⟨b1,b12⟩:=HX.out
 obtain⟨dU,ow⟩:=H4.out
 have b3:Below wa.heap.size wa w3:=b1.trans (ow.bel.mono b1.size)
 have kC3:=(b3.block (x+2) (by rw[H3.out];omega)).trans HKC.out
 have y0:=ae w3 (x+2) 0 _ _ _ kC3
 have y1:=ae w3 (x+2) 1 _ _ _ kC3
 have y2:=ae w3 (x+2) 2 _ _ _ kC3
 have yz:=fun k=>frozen_of_row w3 (x+2) k _ _ kC3
 have HF:Hid (_):=And.intro b1 (And.intro b3 (And.intro kC3 ow))
 clear b1 b12 ow b3 kC3 H4
 go_wp2_with fail
 refine bodyPost_ret (v:=.agg (aA h d m)) (by simp[results,results21,go_sem,y0,y1,y2]) rfl ?_
 obtain⟨b1,b3,kC3,ow⟩:=HF.out
 obtain⟨_,hU,v1,hUg⟩:=H1.out
 have hb0:=HB.out
 rw[HS.out]at hb0
 have hxa:=H3.out
 have o:Off [x+2] w3 (((w3.setCell ⟨x+2,0,none⟩ (ac h 0)).setCell ⟨x+2,1,none⟩ (ac d 0)).setCell ⟨x+2,2,none⟩ (ac m 0)):=((Off.setCell (x+2) 0 w3 _).trans (Off.setCell (x+2) 1 _ _)).trans (Off.setCell (x+2) 2 _ _)
 have l1:=b1.size
 have bw3:Below w.heap.size w w3:=HB.out.trans (b3.mono (by rw[HS.out,H3.out];omega))
 have v3:HV w3 h PH hU bV:=HV.off v1 (l:=[]) (Off.of_below ow.bel) (by simp)
 refine⟨h,d,m,g,rfl,o.below bw3 (by simp[HS.out]) bw3.size,hU,dU,HV.off v3 o (fun k hk hm=>?_),DV.offY ow.dv o (fun k hk hm=>?_),fun k hk=>?_,fun k hk=>?_,fun k hk hm=>?_⟩
 ·have:=hUg k hk
  simp at hm
  omega
 ·have:=ow.ge k hk
  simp at hm
  omega
 ·have:=hUg k hk
  rw[HS.out]
  omega
 ·have:=ow.ge k hk
  rw[HS.out]
  omega
 ·have:=ow.ge k hm
  have:=HV.ult v1 k hk
  omega
theorem fG:(prog.info? 83).map (fun i=>(i.zero,i.size,i.bytes))=some (some (.agg #[.int .u32 0,.int .i64 0,.int .i64 0,.int .i64 0,.int .u32 0]),5,40):=by kernel_rfl
theorem ju {w:World} {B e size g n c:Nat} {xs:List Value} (h:w.ownsRow B e size (.slice (af g 0) n c) n xs):∀ j u,xs[j]?=some u→w.cell? ⟨g,j,none⟩=some u:=fun j u hu=>by
 rcases h.2 with ⟨e1,_⟩ | ⟨g',cap,cur,e1,_,hg,_,_,_,hx⟩
 ·cases e1
 ·injection e1 with e2 _ _
  injection e2 with e3
  injection e3 with e4
  subst e4
  rw[ae w g j _ _ _ hg,← hu,← hx]
  have:j<n*size:=by
   have h1:=(List.getElem?_eq_some_iff.1 hu).1
   rw[h.1]at h1
   exact h1
  rw[List.getElem?_take_of_lt this]
  simp
theorem jv {w:World} {B e size n c:Nat} {a:Option Addr} {xs:List Value} (h:w.ownsRow B e size (.slice a n c) n xs) (hn:n≠0):∃ g,a=af g 0∧B≤g:=by
 rcases h.2 with ⟨_,e1⟩ | ⟨g',cap,cur,e1,hb,_⟩
 ·exact absurd e1 hn
 ·injection e1 with e2 _ _
  exact⟨g',e2,hb⟩
theorem iU {w:World} {B B' e size n:Nat} {v:Value} {xs:List Value} (h:w.ownsRow B e size v n xs) (hB:B'≤B):w.ownsRow B' e size v n xs:=by
 refine⟨h.1,?_⟩
 rcases h.2 with h1 | ⟨g,cap,cur,e1,hb,r⟩
 ·exact .inl h1
 ·exact .inr ⟨g,cap,cur,e1,Nat.le_trans hB hb,r⟩
theorem js:(prog.info? 80).map (fun i=>(i.zero,i.size,i.bytes))=some (some (.agg aQ),3,24):=by kernel_rfl
theorem pb {P:Program} {md:Region.Mode} {ops:Array Oper} {Q:Exit→Act→World→Prop} {S:World→Prop} {fuel:Nat} {l:Array Bool} {a:Act} {w:World} {i j:Nat} (hr:Region.ready md ops l=[i,j])
  (h1:wpOp P ops Q i (fun a' w'=>S w'∧wpAnyH P md ops Q S fuel (l.setIfInBounds i true) a' w') a w) (h2:wpOp P ops Q j (fun a' w'=>S w'∧wpAnyH P md ops Q S fuel (l.setIfInBounds j true) a' w') a w):wpAnyH P md ops Q S (fuel+1) l a w:=
 wpAnyH_all hr (by simp) (fun k hk=>by
  rcases List.mem_cons.1 hk with rfl | hk
  ·exact h1
  ·obtain rfl:=List.mem_singleton.1 hk
   exact h2)
theorem ki {o:Oper} {a:Act} {w w':World} {v v' u:Value} {s x:Operand} (hop:o.op=Op.call { callee:=Callee.builtin Builtin.append,args:=#[s,x],argTypes:=#[72,72] }) (hty:o.type=72) (hs:a.eval s=v) (hx:a.eval x=u) (hr:(Builtin.append_ #[72,72] 72 #[v,u]).run prog w=.ok v' w'):(execOp a.eval o).run prog w=.ok (.value v') w':=by
 unfold execOp
 simp only[hop,hty,resolve,invoke,builtin,Sem.run_bind,Sem.run_pure,Result.andThen_ok,List.map_toArray,List.map_cons,List.map_nil,hs,hx,hr]
end Go.Proofs.YtenilkloffnjlaaGreat
