/- Part 50 of the texts on which the proof rests: contracts of Go functions. -/
import Derived.Test.YtiopiheomoehbaaGreatPkG00
import Derived.Test.YtiopiheomoehbaaGreatPkG46
import Derived.Test.YtiopiheomoehbaaGreatPkG48
namespace Go.Proofs.YtiopiheomoehbaaGreat
set_option maxRecDepth 100000
open Go.RowKit Go.Maps Go.Sort
set_option linter.unusedVariables false
set_option maxHeartbeats 8000000 in
theorem ppair2 (w:World):Calls Tryz.prog 12 #[.int .i64 2] w fun r w'=>∃ a0 c0 a1 c1,r=.returned (.agg #[.slice a0 3 c0,.slice a1 3 c1,.int .u32 50])∧Hid (3≤c0∧3≤c1∧PqRow w' a0 3 pgP∧PqRow w' a1 3 pgP∧Below w.heap.size w w'):=by
 have hS:=fun wx=>psmall wx
 go_enter Tryz.func12,Tryz.ntmps12
 go_wp2_with fail
 have HS:Hid (Sp w ((w.alloc (.cells #[.slice none 0 0,.slice none 0 0,.int .u32 0] 35)).alloc (.cells #[.slice none 0 0,.slice none 0 0,.int .u32 50] 35)) 0 none 0 none 0):=by
  have a1':=heap_alloc_new w (.cells #[.slice none 0 0,.slice none 0 0,.int .u32 0] 35)
  have a2':=heap_alloc_new (w.alloc (.cells #[.slice none 0 0,.slice none 0 0,.int .u32 0] 35)) (.cells #[.slice none 0 0,.slice none 0 0,.int .u32 50] 35)
  simp only[World.size_alloc]at a1' a2'
  refine⟨belY (belY (Below.refl _ _) _) _,?_,a2',⟨by simp[flQ],.inl ⟨rfl,rfl⟩⟩,⟨by simp[flQ],.inl ⟨rfl,rfl⟩⟩,fun g hg=>by cases hg⟩
  exact ((belY (Below.refl _ _) _).block _ (by simp)).trans a1'
 go_loopw [4,5,7,8,9,10,11,12,13,14,15,16,17,18,19,20,21,22,23,24,25,26,27,28,29,30,31,32,33,34] (fun c _ _ _ _ _ _ _ _ _ _ _ _ _ _ _ _ _ _ _ _ _ _ _ _ _ _ _ _ _ wr=>∃ (i:Nat) (va:Option Addr) (vc:Nat) (ua:Option Addr) (uc:Nat),i≤3∧c=.int .i64 ((i:Nat):Int)∧Hid (Sp w wr i va vc ua uc)) (fun c _ _ _ _ _ _ _ _ _ _ _ _ _ _ _ _ _ _ _ _ _ _ _ _ _ _ _ _ _ _=>3-natQ c)
 case atStart=>exact⟨0,none,0,none,0,by omega,rfl,HS⟩
 case round=>
  obtain⟨i,va,vc,ua,uc,hi,rfl,HI⟩:=hrel
  clear HS
  have hi3:i=0∨i=1∨i=2∨i=3:=by omega
  rcases hi3 with rfl | rfl | rfl | rfl
  ·obtain⟨i0,hI,hz0,hz1,hz2⟩:=info_parts info_parY
   go_wp2_with fail
   refine (hS _).mono ?_
   rintro r w3 ⟨rfl,b3⟩
   have q0:=cellY (cell_of_row wr _ 0 _ _ _ HI.out.xb) (belY b3 (.cells #[.int .u32 7,.int .i64 2,.int .i64 1,.int .i64 10,.int .u32 9] 68))
   have q1:=cellY (cell_of_row wr _ 1 _ _ _ HI.out.xb) (belY b3 (.cells #[.int .u32 7,.int .i64 2,.int .i64 1,.int .i64 10,.int .u32 9] 68))
   have b4:=belY (belY b3 (.cells #[.int .u32 7,.int .i64 2,.int .i64 1,.int .i64 10,.int .u32 9] 68)) (.cells #[.int .u32 7,.int .i64 2,.int .i64 1,.int .i64 10,.int .u32 9] 68)
   have hrow:=own_belowP HI.out.ov b4
   have lx:=(Array.getElem?_eq_some_iff.1 HI.out.xb).1
   have s3:=b3.size
   have nk:=heap_alloc_new (w3.alloc (.cells #[.int .u32 7,.int .i64 2,.int .i64 1,.int .i64 10,.int .u32 9] 68)) (.cells #[.int .u32 7,.int .i64 2,.int .i64 1,.int .i64 10,.int .u32 9] 68)
   simp only[World.size_alloc]at nk
   have hcl:∀ j u,(pgP 0).cs[j]?=some u→((w3.alloc (.cells #[.int .u32 7,.int .i64 2,.int .i64 1,.int .i64 10,.int .u32 9] 68)).alloc (.cells #[.int .u32 7,.int .i64 2,.int .i64 1,.int .i64 10,.int .u32 9] 68)).cell? ((⟨w3.heap.size+1,0,none⟩:Addr).add j)=some u:=pq_cells nk
   have hbs:w.heap.size+2 ≤ ((w3.alloc (.cells #[.int .u32 7,.int .i64 2,.int .i64 1,.int .i64 10,.int .u32 9] 68)).alloc (.cells #[.int .u32 7,.int .i64 2,.int .i64 1,.int .i64 10,.int .u32 9] 68)).heap.size:=by simp;omega
   go_wp2_with (at_builtin;refine wpList_append_own_at _ rfl (.tmp 24) (.tmp 26) 33 rfl (w.heap.size+2) 68 i0 (.agg #[.int .u32 0,.int .i64 0,.int .i64 0,.int .i64 0,.int .u32 0]) 5 40 Tryz.underlying33 hI hz0 hz1 hz2 rfl (by decide) (.slice va 0 vc) 0 (flQ 0 pgP) rfl hrow ⟨w3.heap.size+1,0,none⟩ 1 1 (pgP 0).cs rfl rfl hcl (csQ_one _) (by unfold maxLen;omega) (by omega) hbs ?_)
   intro v5 w5 o5 g5 _ s5
   obtain⟨x5,y5,rfl,hx5⟩:=own_slcP (n:=0) o5
   have nb:=fun g (hg:(Value.slice va 0 vc).ownBlock=some g)=>HI.out.ov.lt g hg
   have nu:=fun g (hg:(Value.slice ua 0 uc).ownBlock=some g)=>HI.out.ou.lt g hg
   have k5:w5.heap[w.heap.size+1]?=some (.cells #[.slice va 0 vc,.slice ua 0 uc,.int .u32 50] 35 (0,0)):=(g5.block _ (by simp;omega) (fun e=>by have:=(nb _ e.symm).1;omega)).trans ((b4.block _ lx).trans HI.out.xb)
   have p5:w5.heap[w3.heap.size]?=some (.cells #[.int .u32 7,.int .i64 2,.int .i64 1,.int .i64 10,.int .u32 9] 68 (0,0)):=(g5.block _ (by simp;omega) (fun e=>by have:=(nb _ e.symm).2;omega)).trans (((belY (Below.refl _ _) _).block w3.heap.size (by simp)).trans (heap_alloc_new w3 (.cells #[.int .u32 7,.int .i64 2,.int .i64 1,.int .i64 10,.int .u32 9] 68)))
   have u5:w5.ownsRow (w.heap.size+2) 68 5 (.slice ua 0 uc) 0 (flQ 0 pgP):=own_keepP (own_belowP HI.out.ou b4) (fun g hg=>g5.block g (by have:=(nu g hg).2;simp;omega) (fun e=>HI.out.dis g e.symm hg))
   have r0:=cell_of_row w5 _ 0 _ _ _ k5
   have r1:=cell_of_row w5 _ 1 _ _ _ k5
   have rz:=fun k=>frozen_of_row w5 _ k _ _ k5
   have t0:=cell_of_row w5 _ 0 _ _ _ p5
   have t1:=cell_of_row w5 _ 1 _ _ _ p5
   have t2:=cell_of_row w5 _ 2 _ _ _ p5
   have t3:=cell_of_row w5 _ 3 _ _ _ p5
   have t4:=cell_of_row w5 _ 4 _ _ _ p5
   have s5s:=g5.size
   simp only[World.size_alloc]at s5s
   have o6:Off [w.heap.size+1] w5 (w5.setCell ⟨w.heap.size+1,0,none⟩ (.slice (some ⟨x5,0,none⟩) 1 y5)):=Off.setCell _ _ _ _
   have u7:((w5.setCell ⟨w.heap.size+1,0,none⟩ (.slice (some ⟨x5,0,none⟩) 1 y5)).alloc (.cells #[.int .u32 7,.int .i64 2,.int .i64 1,.int .i64 10,.int .u32 9] 68)).ownsRow (w.heap.size+2) 68 5 (.slice ua 0 uc) 0 (flQ 0 pgP):=own_belowP (own_keepP u5 (fun g hg=>o6.block g (by have:=(u5.lt g hg).2;omega) (by have:=(u5.lt g hg).1;simp;omega))) (belY (Below.refl _ _) _)
   have nk7:=heap_alloc_new (w5.setCell ⟨w.heap.size+1,0,none⟩ (.slice (some ⟨x5,0,none⟩) 1 y5)) (.cells #[.int .u32 7,.int .i64 2,.int .i64 1,.int .i64 10,.int .u32 9] 68)
   have hs6:(w5.setCell ⟨w.heap.size+1,0,none⟩ (.slice (some ⟨x5,0,none⟩) 1 y5)).heap.size=w5.heap.size:=by simp[World.setCell]
   rw[hs6]at nk7
   have hcl7:∀ j u,(pgP 0).cs[j]?=some u→((w5.setCell ⟨w.heap.size+1,0,none⟩ (.slice (some ⟨x5,0,none⟩) 1 y5)).alloc (.cells #[.int .u32 7,.int .i64 2,.int .i64 1,.int .i64 10,.int .u32 9] 68)).cell? ((⟨w5.heap.size,0,none⟩:Addr).add j)=some u:=pq_cells nk7
   have hbs7:w.heap.size+2 ≤ ((w5.setCell ⟨w.heap.size+1,0,none⟩ (.slice (some ⟨x5,0,none⟩) 1 y5)).alloc (.cells #[.int .u32 7,.int .i64 2,.int .i64 1,.int .i64 10,.int .u32 9] 68)).heap.size:=by rw[World.size_alloc,hs6];omega
   have HH:Hid (_):=And.intro o5 (And.intro g5 (And.intro s5 (And.intro k5 (And.intro p5 (And.intro u5 (And.intro nb (And.intro nu b4)))))))
   clear o5 g5 s5 k5 p5 u5 hrow hcl hbs nk q0 q1 nk7 o6 nb nu
   go_wp2_with (at_builtin;refine wpList_append_own_at _ rfl (.tmp 30) (.tmp 32) 33 rfl (w.heap.size+2) 68 i0 (.agg #[.int .u32 0,.int .i64 0,.int .i64 0,.int .i64 0,.int .u32 0]) 5 40 Tryz.underlying33 hI hz0 hz1 hz2 rfl (by decide) (.slice ua 0 uc) 0 (flQ 0 pgP) rfl u7 ⟨w5.heap.size,0,none⟩ 1 1 (pgP 0).cs rfl rfl hcl7 (csQ_one _) (by unfold maxLen;omega) (by omega) hbs7 ?_)
   intro v8 w8 o8 g8 _ s8
   obtain⟨x8,y8,rfl,hx8⟩:=own_slcP (n:=0) o8
   have key:Hid (Sp w (w8.setCell ⟨w.heap.size+1,1,none⟩ (.slice (some ⟨x8,0,none⟩) 1 y8)) 1 (some ⟨x5,0,none⟩) y5 (some ⟨x8,0,none⟩) y8∧w8.heap[w.heap.size+1]?=some (.cells #[.slice (some ⟨x5,0,none⟩) 1 y5,.slice ua 0 uc,.int .u32 50] 35 (0,0))):=by
    obtain⟨o5,g5,s5,k5,p5,u5,nb,nu,b4⟩:=HH.out
    have hI':=HI.out
    have o6:Off [w.heap.size+1] w5 (w5.setCell ⟨w.heap.size+1,0,none⟩ (.slice (some ⟨x5,0,none⟩) 1 y5)):=Off.setCell _ _ _ _
    have o9:Off [w.heap.size+1] w8 (w8.setCell ⟨w.heap.size+1,1,none⟩ (.slice (some ⟨x8,0,none⟩) 1 y8)):=Off.setCell _ _ _ _
    have g8s:=g8.size
    rw[World.size_alloc,hs6]at g8s
    have wr2:w.heap.size+2≤wr.heap.size:=by omega
    have thr:∀ k,k<w5.heap.size→k≠w.heap.size+1→(∀ g,(Value.slice ua 0 uc).ownBlock=some g→k≠g)→(w8.setCell ⟨w.heap.size+1,1,none⟩ (.slice (some ⟨x8,0,none⟩) 1 y8)).heap[k]?=w5.heap[k]?:=fun k hk h1 h2=>
     (o9.block k (by omega) (by simpa using h1)).trans ((g8.block k (by rw[World.size_alloc,hs6];omega) (fun e=>h2 k e.symm rfl)).trans (((belY (Below.refl _ _) _).block k (by rw[hs6];exact hk)).trans (o6.block k hk (by simpa using h1))))
    have kk6:(w5.setCell ⟨w.heap.size+1,0,none⟩ (.slice (some ⟨x5,0,none⟩) 1 y5)).heap[w.heap.size+1]?=some (.cells #[.slice (some ⟨x5,0,none⟩) 1 y5,.slice ua 0 uc,.int .u32 50] 35 (0,0)):=heap_setCell_same _ _ _ _ _ _ k5
    have kk8:w8.heap[w.heap.size+1]?=some (.cells #[.slice (some ⟨x5,0,none⟩) 1 y5,.slice ua 0 uc,.int .u32 50] 35 (0,0)):=(g8.block _ (by rw[World.size_alloc,hs6];omega) (fun e=>by have:=(nu _ e.symm).1;omega)).trans (((belY (Below.refl _ _) _).block _ (by rw[hs6];omega)).trans kk6)
    have b5:Below w.heap.size w w5:=(hI'.bel.trans (b4.mono (by omega))).grown g5 (by simp;omega) (fun j hj=>by have:=(nb j hj).1;omega)
    have l5:=(o5.lt x5 rfl).2
    have xu:∀ g,(Value.slice ua 0 uc).ownBlock=some g→x5≠g:=fun g hg e=>by
     subst e
     rcases s5 with h | h
     ·exact hI'.dis x5 (h.symm.trans rfl) hg
     ·have h2:some x5=some _:=h
      simp only[Option.some.injEq]at h2
      have:=(nu _ hg).2
      omega
    refine⟨⟨?_,?_,heap_setCell_same _ _ _ _ _ _ kk8,?_,?_,?_⟩,kk8⟩
    ·have b6:=o6.below b5 (fun k hk=>by simp at hk;omega) b5.size
     have b7:=(b6.alloc (by rw[hs6];exact b5.size) (.cells #[.int .u32 7,.int .i64 2,.int .i64 1,.int .i64 10,.int .u32 9] 68)).grown g8 (by rw[World.size_alloc,hs6];have:=b5.size;omega) (fun j hj=>by have:=(nu j hj).1;omega)
     exact o9.below b7 (fun k hk=>by simp at hk;omega) b7.size
    ·rw[thr _ (by omega) (by omega) (fun g hg=>by have:=(nu g hg).1;omega)]
     exact (g5.block _ (by simp;omega) (fun e=>by have:=(nb _ e.symm).1;omega)).trans ((b4.block _ (by omega)).trans hI'.rb)
    ·rw[flQ_succ]
     exact own_keepP o5 (fun g hg=>by
      have e:g=x5:=by simpa [Value.ownBlock] using hg.symm
      subst e
      exact thr g l5 (by omega) xu)
    ·rw[flQ_succ]
     exact own_keepP o8 (fun g hg=>by
      have e:g=x8:=by simpa [Value.ownBlock] using hg.symm
      subst e
      exact o9.block g (o8.lt g rfl).2 (by simp;omega))
    ·intro g hg hg'
     cases hg
     have e8:x8=x5:=by simpa [Value.ownBlock] using hg'
     rcases s8 with h | h
     ·have h2:some x8=_:=h
      exact xu x8 h2.symm e8.symm
     ·have h2:some x8=some _:=h
      simp only[Option.some.injEq]at h2
      omega
   have HS:Hid (_):=key.out.1
   have f0:=cell_of_row w8 _ 0 _ _ _ key.out.2
   have f1:=cell_of_row w8 _ 1 _ _ _ key.out.2
   have fz:=fun k=>frozen_of_row w8 _ k _ _ key.out.2
   clear key o8 g8 s8 HH u7 hcl7 hbs7 HI
   go_wp2_with fail
   go_roundw
   case rel=>exact⟨1,_,_,_,_,by omega,by go_num,HS⟩
   case measure=>simp[natQ]
  ·obtain⟨i0,hI,hz0,hz1,hz2⟩:=info_parts info_parY
   go_wp2_with fail
   refine (hS _).mono ?_
   rintro r w3 ⟨rfl,b3⟩
   have q0:=cellY (cell_of_row wr _ 0 _ _ _ HI.out.xb) (belY b3 (.cells #[.int .u32 8,.int .i64 2,.int .i64 1,.int .i64 11,.int .u32 9] 68))
   have q1:=cellY (cell_of_row wr _ 1 _ _ _ HI.out.xb) (belY b3 (.cells #[.int .u32 8,.int .i64 2,.int .i64 1,.int .i64 11,.int .u32 9] 68))
   have b4:=belY (belY b3 (.cells #[.int .u32 8,.int .i64 2,.int .i64 1,.int .i64 11,.int .u32 9] 68)) (.cells #[.int .u32 8,.int .i64 2,.int .i64 1,.int .i64 11,.int .u32 9] 68)
   have hrow:=own_belowP HI.out.ov b4
   have lx:=(Array.getElem?_eq_some_iff.1 HI.out.xb).1
   have s3:=b3.size
   have nk:=heap_alloc_new (w3.alloc (.cells #[.int .u32 8,.int .i64 2,.int .i64 1,.int .i64 11,.int .u32 9] 68)) (.cells #[.int .u32 8,.int .i64 2,.int .i64 1,.int .i64 11,.int .u32 9] 68)
   simp only[World.size_alloc]at nk
   have hcl:∀ j u,(pgP 1).cs[j]?=some u→((w3.alloc (.cells #[.int .u32 8,.int .i64 2,.int .i64 1,.int .i64 11,.int .u32 9] 68)).alloc (.cells #[.int .u32 8,.int .i64 2,.int .i64 1,.int .i64 11,.int .u32 9] 68)).cell? ((⟨w3.heap.size+1,0,none⟩:Addr).add j)=some u:=pq_cells nk
   have hbs:w.heap.size+2 ≤ ((w3.alloc (.cells #[.int .u32 8,.int .i64 2,.int .i64 1,.int .i64 11,.int .u32 9] 68)).alloc (.cells #[.int .u32 8,.int .i64 2,.int .i64 1,.int .i64 11,.int .u32 9] 68)).heap.size:=by simp;omega
   go_wp2_with (at_builtin;refine wpList_append_own_at _ rfl (.tmp 24) (.tmp 26) 33 rfl (w.heap.size+2) 68 i0 (.agg #[.int .u32 0,.int .i64 0,.int .i64 0,.int .i64 0,.int .u32 0]) 5 40 Tryz.underlying33 hI hz0 hz1 hz2 rfl (by decide) (.slice va 1 vc) 1 (flQ 1 pgP) rfl hrow ⟨w3.heap.size+1,0,none⟩ 1 1 (pgP 1).cs rfl rfl hcl (csQ_one _) (by unfold maxLen;omega) (by omega) hbs ?_)
   intro v5 w5 o5 g5 _ s5
   obtain⟨x5,y5,rfl,hx5⟩:=own_slcP (n:=1) o5
   have nb:=fun g (hg:(Value.slice va 1 vc).ownBlock=some g)=>HI.out.ov.lt g hg
   have nu:=fun g (hg:(Value.slice ua 1 uc).ownBlock=some g)=>HI.out.ou.lt g hg
   have k5:w5.heap[w.heap.size+1]?=some (.cells #[.slice va 1 vc,.slice ua 1 uc,.int .u32 50] 35 (0,0)):=(g5.block _ (by simp;omega) (fun e=>by have:=(nb _ e.symm).1;omega)).trans ((b4.block _ lx).trans HI.out.xb)
   have p5:w5.heap[w3.heap.size]?=some (.cells #[.int .u32 8,.int .i64 2,.int .i64 1,.int .i64 11,.int .u32 9] 68 (0,0)):=(g5.block _ (by simp;omega) (fun e=>by have:=(nb _ e.symm).2;omega)).trans (((belY (Below.refl _ _) _).block w3.heap.size (by simp)).trans (heap_alloc_new w3 (.cells #[.int .u32 8,.int .i64 2,.int .i64 1,.int .i64 11,.int .u32 9] 68)))
   have u5:w5.ownsRow (w.heap.size+2) 68 5 (.slice ua 1 uc) 1 (flQ 1 pgP):=own_keepP (own_belowP HI.out.ou b4) (fun g hg=>g5.block g (by have:=(nu g hg).2;simp;omega) (fun e=>HI.out.dis g e.symm hg))
   have r0:=cell_of_row w5 _ 0 _ _ _ k5
   have r1:=cell_of_row w5 _ 1 _ _ _ k5
   have rz:=fun k=>frozen_of_row w5 _ k _ _ k5
   have t0:=cell_of_row w5 _ 0 _ _ _ p5
   have t1:=cell_of_row w5 _ 1 _ _ _ p5
   have t2:=cell_of_row w5 _ 2 _ _ _ p5
   have t3:=cell_of_row w5 _ 3 _ _ _ p5
   have t4:=cell_of_row w5 _ 4 _ _ _ p5
   have s5s:=g5.size
   simp only[World.size_alloc]at s5s
   have o6:Off [w.heap.size+1] w5 (w5.setCell ⟨w.heap.size+1,0,none⟩ (.slice (some ⟨x5,0,none⟩) 2 y5)):=Off.setCell _ _ _ _
   have u7:((w5.setCell ⟨w.heap.size+1,0,none⟩ (.slice (some ⟨x5,0,none⟩) 2 y5)).alloc (.cells #[.int .u32 8,.int .i64 2,.int .i64 1,.int .i64 11,.int .u32 9] 68)).ownsRow (w.heap.size+2) 68 5 (.slice ua 1 uc) 1 (flQ 1 pgP):=own_belowP (own_keepP u5 (fun g hg=>o6.block g (by have:=(u5.lt g hg).2;omega) (by have:=(u5.lt g hg).1;simp;omega))) (belY (Below.refl _ _) _)
   have nk7:=heap_alloc_new (w5.setCell ⟨w.heap.size+1,0,none⟩ (.slice (some ⟨x5,0,none⟩) 2 y5)) (.cells #[.int .u32 8,.int .i64 2,.int .i64 1,.int .i64 11,.int .u32 9] 68)
   have hs6:(w5.setCell ⟨w.heap.size+1,0,none⟩ (.slice (some ⟨x5,0,none⟩) 2 y5)).heap.size=w5.heap.size:=by simp[World.setCell]
   rw[hs6]at nk7
   have hcl7:∀ j u,(pgP 1).cs[j]?=some u→((w5.setCell ⟨w.heap.size+1,0,none⟩ (.slice (some ⟨x5,0,none⟩) 2 y5)).alloc (.cells #[.int .u32 8,.int .i64 2,.int .i64 1,.int .i64 11,.int .u32 9] 68)).cell? ((⟨w5.heap.size,0,none⟩:Addr).add j)=some u:=pq_cells nk7
   have hbs7:w.heap.size+2 ≤ ((w5.setCell ⟨w.heap.size+1,0,none⟩ (.slice (some ⟨x5,0,none⟩) 2 y5)).alloc (.cells #[.int .u32 8,.int .i64 2,.int .i64 1,.int .i64 11,.int .u32 9] 68)).heap.size:=by rw[World.size_alloc,hs6];omega
   have HH:Hid (_):=And.intro o5 (And.intro g5 (And.intro s5 (And.intro k5 (And.intro p5 (And.intro u5 (And.intro nb (And.intro nu b4)))))))
   clear o5 g5 s5 k5 p5 u5 hrow hcl hbs nk q0 q1 nk7 o6 nb nu
   go_wp2_with (at_builtin;refine wpList_append_own_at _ rfl (.tmp 30) (.tmp 32) 33 rfl (w.heap.size+2) 68 i0 (.agg #[.int .u32 0,.int .i64 0,.int .i64 0,.int .i64 0,.int .u32 0]) 5 40 Tryz.underlying33 hI hz0 hz1 hz2 rfl (by decide) (.slice ua 1 uc) 1 (flQ 1 pgP) rfl u7 ⟨w5.heap.size,0,none⟩ 1 1 (pgP 1).cs rfl rfl hcl7 (csQ_one _) (by unfold maxLen;omega) (by omega) hbs7 ?_)
   intro v8 w8 o8 g8 _ s8
   obtain⟨x8,y8,rfl,hx8⟩:=own_slcP (n:=1) o8
   have key:Hid (Sp w (w8.setCell ⟨w.heap.size+1,1,none⟩ (.slice (some ⟨x8,0,none⟩) 2 y8)) 2 (some ⟨x5,0,none⟩) y5 (some ⟨x8,0,none⟩) y8∧w8.heap[w.heap.size+1]?=some (.cells #[.slice (some ⟨x5,0,none⟩) 2 y5,.slice ua 1 uc,.int .u32 50] 35 (0,0))):=by
    obtain⟨o5,g5,s5,k5,p5,u5,nb,nu,b4⟩:=HH.out
    have hI':=HI.out
    have o6:Off [w.heap.size+1] w5 (w5.setCell ⟨w.heap.size+1,0,none⟩ (.slice (some ⟨x5,0,none⟩) 2 y5)):=Off.setCell _ _ _ _
    have o9:Off [w.heap.size+1] w8 (w8.setCell ⟨w.heap.size+1,1,none⟩ (.slice (some ⟨x8,0,none⟩) 2 y8)):=Off.setCell _ _ _ _
    have g8s:=g8.size
    rw[World.size_alloc,hs6]at g8s
    have wr2:w.heap.size+2≤wr.heap.size:=by omega
    have thr:∀ k,k<w5.heap.size→k≠w.heap.size+1→(∀ g,(Value.slice ua 1 uc).ownBlock=some g→k≠g)→(w8.setCell ⟨w.heap.size+1,1,none⟩ (.slice (some ⟨x8,0,none⟩) 2 y8)).heap[k]?=w5.heap[k]?:=fun k hk h1 h2=>
     (o9.block k (by omega) (by simpa using h1)).trans ((g8.block k (by rw[World.size_alloc,hs6];omega) (fun e=>h2 k e.symm rfl)).trans (((belY (Below.refl _ _) _).block k (by rw[hs6];exact hk)).trans (o6.block k hk (by simpa using h1))))
    have kk6:(w5.setCell ⟨w.heap.size+1,0,none⟩ (.slice (some ⟨x5,0,none⟩) 2 y5)).heap[w.heap.size+1]?=some (.cells #[.slice (some ⟨x5,0,none⟩) 2 y5,.slice ua 1 uc,.int .u32 50] 35 (0,0)):=heap_setCell_same _ _ _ _ _ _ k5
    have kk8:w8.heap[w.heap.size+1]?=some (.cells #[.slice (some ⟨x5,0,none⟩) 2 y5,.slice ua 1 uc,.int .u32 50] 35 (0,0)):=(g8.block _ (by rw[World.size_alloc,hs6];omega) (fun e=>by have:=(nu _ e.symm).1;omega)).trans (((belY (Below.refl _ _) _).block _ (by rw[hs6];omega)).trans kk6)
    have b5:Below w.heap.size w w5:=(hI'.bel.trans (b4.mono (by omega))).grown g5 (by simp;omega) (fun j hj=>by have:=(nb j hj).1;omega)
    have l5:=(o5.lt x5 rfl).2
    have xu:∀ g,(Value.slice ua 1 uc).ownBlock=some g→x5≠g:=fun g hg e=>by
     subst e
     rcases s5 with h | h
     ·exact hI'.dis x5 (h.symm.trans rfl) hg
     ·have h2:some x5=some _:=h
      simp only[Option.some.injEq]at h2
      have:=(nu _ hg).2
      omega
    refine⟨⟨?_,?_,heap_setCell_same _ _ _ _ _ _ kk8,?_,?_,?_⟩,kk8⟩
    ·have b6:=o6.below b5 (fun k hk=>by simp at hk;omega) b5.size
     have b7:=(b6.alloc (by rw[hs6];exact b5.size) (.cells #[.int .u32 8,.int .i64 2,.int .i64 1,.int .i64 11,.int .u32 9] 68)).grown g8 (by rw[World.size_alloc,hs6];have:=b5.size;omega) (fun j hj=>by have:=(nu j hj).1;omega)
     exact o9.below b7 (fun k hk=>by simp at hk;omega) b7.size
    ·rw[thr _ (by omega) (by omega) (fun g hg=>by have:=(nu g hg).1;omega)]
     exact (g5.block _ (by simp;omega) (fun e=>by have:=(nb _ e.symm).1;omega)).trans ((b4.block _ (by omega)).trans hI'.rb)
    ·rw[flQ_succ]
     exact own_keepP o5 (fun g hg=>by
      have e:g=x5:=by simpa [Value.ownBlock] using hg.symm
      subst e
      exact thr g l5 (by omega) xu)
    ·rw[flQ_succ]
     exact own_keepP o8 (fun g hg=>by
      have e:g=x8:=by simpa [Value.ownBlock] using hg.symm
      subst e
      exact o9.block g (o8.lt g rfl).2 (by simp;omega))
    ·intro g hg hg'
     cases hg
     have e8:x8=x5:=by simpa [Value.ownBlock] using hg'
     rcases s8 with h | h
     ·have h2:some x8=_:=h
      exact xu x8 h2.symm e8.symm
     ·have h2:some x8=some _:=h
      simp only[Option.some.injEq]at h2
      omega
   have HS:Hid (_):=key.out.1
   have f0:=cell_of_row w8 _ 0 _ _ _ key.out.2
   have f1:=cell_of_row w8 _ 1 _ _ _ key.out.2
   have fz:=fun k=>frozen_of_row w8 _ k _ _ key.out.2
   clear key o8 g8 s8 HH u7 hcl7 hbs7 HI
   go_wp2_with fail
   go_roundw
   case rel=>exact⟨2,_,_,_,_,by omega,by go_num,HS⟩
   case measure=>simp[natQ]
  ·obtain⟨i0,hI,hz0,hz1,hz2⟩:=info_parts info_parY
   go_wp2_with fail
   refine (hS _).mono ?_
   rintro r w3 ⟨rfl,b3⟩
   have q0:=cellY (cell_of_row wr _ 0 _ _ _ HI.out.xb) (belY b3 (.cells #[.int .u32 9,.int .i64 2,.int .i64 1,.int .i64 12,.int .u32 9] 68))
   have q1:=cellY (cell_of_row wr _ 1 _ _ _ HI.out.xb) (belY b3 (.cells #[.int .u32 9,.int .i64 2,.int .i64 1,.int .i64 12,.int .u32 9] 68))
   have b4:=belY (belY b3 (.cells #[.int .u32 9,.int .i64 2,.int .i64 1,.int .i64 12,.int .u32 9] 68)) (.cells #[.int .u32 9,.int .i64 2,.int .i64 1,.int .i64 12,.int .u32 9] 68)
   have hrow:=own_belowP HI.out.ov b4
   have lx:=(Array.getElem?_eq_some_iff.1 HI.out.xb).1
   have s3:=b3.size
   have nk:=heap_alloc_new (w3.alloc (.cells #[.int .u32 9,.int .i64 2,.int .i64 1,.int .i64 12,.int .u32 9] 68)) (.cells #[.int .u32 9,.int .i64 2,.int .i64 1,.int .i64 12,.int .u32 9] 68)
   simp only[World.size_alloc]at nk
   have hcl:∀ j u,(pgP 2).cs[j]?=some u→((w3.alloc (.cells #[.int .u32 9,.int .i64 2,.int .i64 1,.int .i64 12,.int .u32 9] 68)).alloc (.cells #[.int .u32 9,.int .i64 2,.int .i64 1,.int .i64 12,.int .u32 9] 68)).cell? ((⟨w3.heap.size+1,0,none⟩:Addr).add j)=some u:=pq_cells nk
   have hbs:w.heap.size+2 ≤ ((w3.alloc (.cells #[.int .u32 9,.int .i64 2,.int .i64 1,.int .i64 12,.int .u32 9] 68)).alloc (.cells #[.int .u32 9,.int .i64 2,.int .i64 1,.int .i64 12,.int .u32 9] 68)).heap.size:=by simp;omega
   go_wp2_with (at_builtin;refine wpList_append_own_at _ rfl (.tmp 24) (.tmp 26) 33 rfl (w.heap.size+2) 68 i0 (.agg #[.int .u32 0,.int .i64 0,.int .i64 0,.int .i64 0,.int .u32 0]) 5 40 Tryz.underlying33 hI hz0 hz1 hz2 rfl (by decide) (.slice va 2 vc) 2 (flQ 2 pgP) rfl hrow ⟨w3.heap.size+1,0,none⟩ 1 1 (pgP 2).cs rfl rfl hcl (csQ_one _) (by unfold maxLen;omega) (by omega) hbs ?_)
   intro v5 w5 o5 g5 _ s5
   obtain⟨x5,y5,rfl,hx5⟩:=own_slcP (n:=2) o5
   have nb:=fun g (hg:(Value.slice va 2 vc).ownBlock=some g)=>HI.out.ov.lt g hg
   have nu:=fun g (hg:(Value.slice ua 2 uc).ownBlock=some g)=>HI.out.ou.lt g hg
   have k5:w5.heap[w.heap.size+1]?=some (.cells #[.slice va 2 vc,.slice ua 2 uc,.int .u32 50] 35 (0,0)):=(g5.block _ (by simp;omega) (fun e=>by have:=(nb _ e.symm).1;omega)).trans ((b4.block _ lx).trans HI.out.xb)
   have p5:w5.heap[w3.heap.size]?=some (.cells #[.int .u32 9,.int .i64 2,.int .i64 1,.int .i64 12,.int .u32 9] 68 (0,0)):=(g5.block _ (by simp;omega) (fun e=>by have:=(nb _ e.symm).2;omega)).trans (((belY (Below.refl _ _) _).block w3.heap.size (by simp)).trans (heap_alloc_new w3 (.cells #[.int .u32 9,.int .i64 2,.int .i64 1,.int .i64 12,.int .u32 9] 68)))
   have u5:w5.ownsRow (w.heap.size+2) 68 5 (.slice ua 2 uc) 2 (flQ 2 pgP):=own_keepP (own_belowP HI.out.ou b4) (fun g hg=>g5.block g (by have:=(nu g hg).2;simp;omega) (fun e=>HI.out.dis g e.symm hg))
   have r0:=cell_of_row w5 _ 0 _ _ _ k5
   have r1:=cell_of_row w5 _ 1 _ _ _ k5
   have rz:=fun k=>frozen_of_row w5 _ k _ _ k5
   have t0:=cell_of_row w5 _ 0 _ _ _ p5
   have t1:=cell_of_row w5 _ 1 _ _ _ p5
   have t2:=cell_of_row w5 _ 2 _ _ _ p5
   have t3:=cell_of_row w5 _ 3 _ _ _ p5
   have t4:=cell_of_row w5 _ 4 _ _ _ p5
   have s5s:=g5.size
   simp only[World.size_alloc]at s5s
   have o6:Off [w.heap.size+1] w5 (w5.setCell ⟨w.heap.size+1,0,none⟩ (.slice (some ⟨x5,0,none⟩) 3 y5)):=Off.setCell _ _ _ _
   have u7:((w5.setCell ⟨w.heap.size+1,0,none⟩ (.slice (some ⟨x5,0,none⟩) 3 y5)).alloc (.cells #[.int .u32 9,.int .i64 2,.int .i64 1,.int .i64 12,.int .u32 9] 68)).ownsRow (w.heap.size+2) 68 5 (.slice ua 2 uc) 2 (flQ 2 pgP):=own_belowP (own_keepP u5 (fun g hg=>o6.block g (by have:=(u5.lt g hg).2;omega) (by have:=(u5.lt g hg).1;simp;omega))) (belY (Below.refl _ _) _)
   have nk7:=heap_alloc_new (w5.setCell ⟨w.heap.size+1,0,none⟩ (.slice (some ⟨x5,0,none⟩) 3 y5)) (.cells #[.int .u32 9,.int .i64 2,.int .i64 1,.int .i64 12,.int .u32 9] 68)
   have hs6:(w5.setCell ⟨w.heap.size+1,0,none⟩ (.slice (some ⟨x5,0,none⟩) 3 y5)).heap.size=w5.heap.size:=by simp[World.setCell]
   rw[hs6]at nk7
   have hcl7:∀ j u,(pgP 2).cs[j]?=some u→((w5.setCell ⟨w.heap.size+1,0,none⟩ (.slice (some ⟨x5,0,none⟩) 3 y5)).alloc (.cells #[.int .u32 9,.int .i64 2,.int .i64 1,.int .i64 12,.int .u32 9] 68)).cell? ((⟨w5.heap.size,0,none⟩:Addr).add j)=some u:=pq_cells nk7
   have hbs7:w.heap.size+2 ≤ ((w5.setCell ⟨w.heap.size+1,0,none⟩ (.slice (some ⟨x5,0,none⟩) 3 y5)).alloc (.cells #[.int .u32 9,.int .i64 2,.int .i64 1,.int .i64 12,.int .u32 9] 68)).heap.size:=by rw[World.size_alloc,hs6];omega
   have HH:Hid (_):=And.intro o5 (And.intro g5 (And.intro s5 (And.intro k5 (And.intro p5 (And.intro u5 (And.intro nb (And.intro nu b4)))))))
   clear o5 g5 s5 k5 p5 u5 hrow hcl hbs nk q0 q1 nk7 o6 nb nu
   go_wp2_with (at_builtin;refine wpList_append_own_at _ rfl (.tmp 30) (.tmp 32) 33 rfl (w.heap.size+2) 68 i0 (.agg #[.int .u32 0,.int .i64 0,.int .i64 0,.int .i64 0,.int .u32 0]) 5 40 Tryz.underlying33 hI hz0 hz1 hz2 rfl (by decide) (.slice ua 2 uc) 2 (flQ 2 pgP) rfl u7 ⟨w5.heap.size,0,none⟩ 1 1 (pgP 2).cs rfl rfl hcl7 (csQ_one _) (by unfold maxLen;omega) (by omega) hbs7 ?_)
   intro v8 w8 o8 g8 _ s8
   obtain⟨x8,y8,rfl,hx8⟩:=own_slcP (n:=2) o8
   have key:Hid (Sp w (w8.setCell ⟨w.heap.size+1,1,none⟩ (.slice (some ⟨x8,0,none⟩) 3 y8)) 3 (some ⟨x5,0,none⟩) y5 (some ⟨x8,0,none⟩) y8∧w8.heap[w.heap.size+1]?=some (.cells #[.slice (some ⟨x5,0,none⟩) 3 y5,.slice ua 2 uc,.int .u32 50] 35 (0,0))):=by
    obtain⟨o5,g5,s5,k5,p5,u5,nb,nu,b4⟩:=HH.out
    have hI':=HI.out
    have o6:Off [w.heap.size+1] w5 (w5.setCell ⟨w.heap.size+1,0,none⟩ (.slice (some ⟨x5,0,none⟩) 3 y5)):=Off.setCell _ _ _ _
    have o9:Off [w.heap.size+1] w8 (w8.setCell ⟨w.heap.size+1,1,none⟩ (.slice (some ⟨x8,0,none⟩) 3 y8)):=Off.setCell _ _ _ _
    have g8s:=g8.size
    rw[World.size_alloc,hs6]at g8s
    have wr2:w.heap.size+2≤wr.heap.size:=by omega
    have thr:∀ k,k<w5.heap.size→k≠w.heap.size+1→(∀ g,(Value.slice ua 2 uc).ownBlock=some g→k≠g)→(w8.setCell ⟨w.heap.size+1,1,none⟩ (.slice (some ⟨x8,0,none⟩) 3 y8)).heap[k]?=w5.heap[k]?:=fun k hk h1 h2=>
     (o9.block k (by omega) (by simpa using h1)).trans ((g8.block k (by rw[World.size_alloc,hs6];omega) (fun e=>h2 k e.symm rfl)).trans (((belY (Below.refl _ _) _).block k (by rw[hs6];exact hk)).trans (o6.block k hk (by simpa using h1))))
    have kk6:(w5.setCell ⟨w.heap.size+1,0,none⟩ (.slice (some ⟨x5,0,none⟩) 3 y5)).heap[w.heap.size+1]?=some (.cells #[.slice (some ⟨x5,0,none⟩) 3 y5,.slice ua 2 uc,.int .u32 50] 35 (0,0)):=heap_setCell_same _ _ _ _ _ _ k5
    have kk8:w8.heap[w.heap.size+1]?=some (.cells #[.slice (some ⟨x5,0,none⟩) 3 y5,.slice ua 2 uc,.int .u32 50] 35 (0,0)):=(g8.block _ (by rw[World.size_alloc,hs6];omega) (fun e=>by have:=(nu _ e.symm).1;omega)).trans (((belY (Below.refl _ _) _).block _ (by rw[hs6];omega)).trans kk6)
    have b5:Below w.heap.size w w5:=(hI'.bel.trans (b4.mono (by omega))).grown g5 (by simp;omega) (fun j hj=>by have:=(nb j hj).1;omega)
    have l5:=(o5.lt x5 rfl).2
    have xu:∀ g,(Value.slice ua 2 uc).ownBlock=some g→x5≠g:=fun g hg e=>by
     subst e
     rcases s5 with h | h
     ·exact hI'.dis x5 (h.symm.trans rfl) hg
     ·have h2:some x5=some _:=h
      simp only[Option.some.injEq]at h2
      have:=(nu _ hg).2
      omega
    refine⟨⟨?_,?_,heap_setCell_same _ _ _ _ _ _ kk8,?_,?_,?_⟩,kk8⟩
    ·have b6:=o6.below b5 (fun k hk=>by simp at hk;omega) b5.size
     have b7:=(b6.alloc (by rw[hs6];exact b5.size) (.cells #[.int .u32 9,.int .i64 2,.int .i64 1,.int .i64 12,.int .u32 9] 68)).grown g8 (by rw[World.size_alloc,hs6];have:=b5.size;omega) (fun j hj=>by have:=(nu j hj).1;omega)
     exact o9.below b7 (fun k hk=>by simp at hk;omega) b7.size
    ·rw[thr _ (by omega) (by omega) (fun g hg=>by have:=(nu g hg).1;omega)]
     exact (g5.block _ (by simp;omega) (fun e=>by have:=(nb _ e.symm).1;omega)).trans ((b4.block _ (by omega)).trans hI'.rb)
    ·rw[flQ_succ]
     exact own_keepP o5 (fun g hg=>by
      have e:g=x5:=by simpa [Value.ownBlock] using hg.symm
      subst e
      exact thr g l5 (by omega) xu)
    ·rw[flQ_succ]
     exact own_keepP o8 (fun g hg=>by
      have e:g=x8:=by simpa [Value.ownBlock] using hg.symm
      subst e
      exact o9.block g (o8.lt g rfl).2 (by simp;omega))
    ·intro g hg hg'
     cases hg
     have e8:x8=x5:=by simpa [Value.ownBlock] using hg'
     rcases s8 with h | h
     ·have h2:some x8=_:=h
      exact xu x8 h2.symm e8.symm
     ·have h2:some x8=some _:=h
      simp only[Option.some.injEq]at h2
      omega
   have HS:Hid (_):=key.out.1
   have f0:=cell_of_row w8 _ 0 _ _ _ key.out.2
   have f1:=cell_of_row w8 _ 1 _ _ _ key.out.2
   have fz:=fun k=>frozen_of_row w8 _ k _ _ key.out.2
   clear key o8 g8 s8 HH u7 hcl7 hbs7 HI
   go_wp2_with fail
   go_roundw
   case rel=>exact⟨3,_,_,_,_,by omega,by go_num,HS⟩
   case measure=>simp[natQ]
  ·have x0:=cell_of_row wr _ 0 _ _ _ HI.out.xb
   have x1:=cell_of_row wr _ 1 _ _ _ HI.out.xb
   have x2:=cell_of_row wr _ 2 _ _ _ HI.out.xb
   have y0:=cell_of_row wr _ 0 _ _ _ HI.out.rb
   have y1:=cell_of_row wr _ 1 _ _ _ HI.out.rb
   have y2:=cell_of_row wr _ 2 _ _ _ HI.out.rb
   have yz:=fun k=>frozen_of_row wr _ k _ _ HI.out.rb
   go_wp2_with fail
   refine bodyPost_ret (v:=.agg #[.slice va 3 vc,.slice ua 3 uc,.int .u32 50]) (by simp[results,Tryz.results12,go_sem,y0,y1,y2]) rfl ?_
   have o:Off [w.heap.size] wr (((wr.setCell ⟨w.heap.size,0,none⟩ (.slice va 3 vc)).setCell ⟨w.heap.size,1,none⟩ (.slice ua 3 uc)).setCell ⟨w.heap.size,2,none⟩ (.int .u32 50)):=((Off.setCell _ _ _ _).trans (Off.setCell _ _ _ _)).trans (Off.setCell _ _ _ _)
   have hI:=HI.out
   exact⟨va,vc,ua,uc,rfl,own_capP hI.ov (by decide),own_capP hI.ou (by decide),PqRow.ofOwn (own_keepP hI.ov (fun g hg=>o.block g (hI.ov.lt g hg).2 (by have:=(hI.ov.lt g hg).1;simp;omega))),PqRow.ofOwn (own_keepP hI.ou (fun g hg=>o.block g (hI.ou.lt g hg).2 (by have:=(hI.ou.lt g hg).1;simp;omega))),o.below hI.bel (fun k hk=>by simp at hk;omega) hI.bel.size⟩
open Go.RowKit Go.Maps
def eA (j:Nat):Nat:=4*j
def eB (j:Nat):Nat:=4*j+2
def duT (A B:Pw):Nat→Thing:=fun q=>if q % 4=0 then A.t (q / 4) else if q % 4=2 then B.t (q / 4) else noT
def DW (w1:World) (xa xb:Nat) (w:World) (S:Ws):Prop:=∃ t A B,Al w1 w t∧Wat eA t A∧Wat eB t B∧A.S=S∧B.S=S∧A.x=xa∧B.x=xb∧∀ q,t (2*q+1)=noT
theorem DW.below {w1 w w':World} {xa xb:Nat} {S:Ws} (h:DW w1 xa xb w S) (b:Below w.heap.size w w'):DW w1 xa xb w' S:=by
 obtain⟨t,A,B,h1,h2⟩:=h
 exact⟨t,A,B,h1.below b,h2⟩
theorem DW.bel {w1 w:World} {xa xb:Nat} {S:Ws} (h:DW w1 xa xb w S):Below w1.heap.size w1 w:=by
 obtain⟨t,A,B,h1,h2⟩:=h
 exact h1.bel
theorem DW.a {w1 w:World} {xa xb:Nat} {S:Ws} (h:DW w1 xa xb w S):∃ t L,L.x=xa∧PWn eA w1 t L w S:=by
 obtain⟨t,A,B,h1,h2,h3,h4,h5,h6,h7,h8⟩:=h
 exact⟨t,A,h6,h4 ▸ PW.n ⟨h1,h2⟩⟩
theorem DW.b {w1 w:World} {xa xb:Nat} {S:Ws} (h:DW w1 xa xb w S):∃ t L,L.x=xb∧PWn eB w1 t L w S:=by
 obtain⟨t,A,B,h1,h2,h3,h4,h5,h6,h7,h8⟩:=h
 exact⟨t,B,h7,h5 ▸ PW.n ⟨h1,h3⟩⟩
theorem DW.kn {w1 w:World} {xa xb:Nat} {S:Ws} (h:DW w1 xa xb w S):S.Kn:=by
 obtain⟨t,L,_,h⟩:=h.a
 exact h.kn
theorem DW.lt {w1 w:World} {xa xb:Nat} {S:Ws} (h:DW w1 xa xb w S):xa<w.heap.size∧xb<w.heap.size:=by
 obtain⟨t,A,B,h1,h2,h3,h4,h5,h6,h7,h8⟩:=h
 subst h6 h7
 exact⟨(h2.wb h1).lt _ (by simp[Wc.U,Pw.core]),(h3.wb h1).lt _ (by simp[Wc.U,Pw.core])⟩
theorem DW.join {w1 w3 w4:World} {A B:Pw} {S:Ws} (ha:PW ev w1 w3 (evT A) A) (hb:PW ev w3 w4 (evT B) B) (hA:A.S=S) (hB:B.S=S):DW w1 A.x B.x w4 S:=by
 have ha4:=ha.1.below hb.1.bel
 have ga:∀ j,evT A (2*j)=A.t j:=fun j=>ha.2.2 j
 have gb:∀ j,evT B (2*j)=B.t j:=fun j=>hb.2.2 j
 have g0:∀ q,q % 4=0→duT A B q=A.t (q / 4):=fun q h=>by unfold duT;rw[if_pos h]
 have g2:∀ q,q % 4=2→duT A B q=B.t (q / 4):=fun q h=>by unfold duT;rw[if_neg (by omega),if_pos h]
 have g1:∀ q,q % 4≠0→q % 4≠2→duT A B q=noT:=fun q h h'=>by unfold duT;rw[if_neg h,if_neg h']
 have la:∀ j k,k ∈ (A.t j).U→w1.heap.size≤k∧k<w3.heap.size:=fun j k hk=>ha.1.lt (2*j) k (by rw[ga];exact hk)
 have lb:∀ j k,k ∈ (B.t j).U→w3.heap.size≤k∧k<w4.heap.size:=fun j k hk=>hb.1.lt (2*j) k (by rw[gb];exact hk)
 have z13:=ha.1.size
 have z34:=hb.1.size
 refine⟨duT A B,A,B,⟨ha4.bel,fun i=>?_,fun i k hk=>?_,fun i j hij k hk hk'=>?_⟩,⟨fun i j h=>by unfold eA at h;omega,fun j=>?_⟩,⟨fun i j h=>by unfold eB at h;omega,fun j=>?_⟩,hA,hB,rfl,rfl,fun q=>?_⟩
 ·by_cases h:i % 4=0
  ·rw[g0 i h,← ga];exact ha4.ok _
  ·by_cases h':i % 4=2
   ·rw[g2 i h',← gb];exact hb.1.ok _
   ·rw[g1 i h h'];trivial
 ·by_cases h:i % 4=0
  ·rw[g0 i h]at hk;have:=la _ k hk;omega
  ·by_cases h':i % 4=2
   ·rw[g2 i h']at hk;have:=lb _ k hk;omega
   ·rw[g1 i h h']at hk;simp[noT]at hk
 ·by_cases h:i % 4=0
  ·rw[g0 i h]at hk
   by_cases q:j % 4=0
   ·rw[g0 j q]at hk'
    exact ha.1.dis (2 * (i / 4)) (2 * (j / 4)) (by omega) k (by rw[ga];exact hk) (by rw[ga];exact hk')
   ·by_cases q':j % 4=2
    ·rw[g2 j q']at hk';have:=la _ k hk;have:=lb _ k hk';omega
    ·rw[g1 j q q']at hk';simp[noT]at hk'
  ·by_cases h':i % 4=2
   ·rw[g2 i h']at hk
    by_cases q:j % 4=0
    ·rw[g0 j q]at hk';have:=la _ k hk';have:=lb _ k hk;omega
    ·by_cases q':j % 4=2
     ·rw[g2 j q']at hk'
      exact hb.1.dis (2 * (i / 4)) (2 * (j / 4)) (by omega) k (by rw[gb];exact hk) (by rw[gb];exact hk')
     ·rw[g1 j q q']at hk';simp[noT]at hk'
   ·rw[g1 i h h']at hk;simp[noT]at hk
 ·rw[g0 _ (by unfold eA;omega)];unfold eA;rw[show 4*j / 4=j by omega]
 ·rw[g2 _ (by unfold eB;omega)];unfold eB;rw[show (4*j+2) / 4=j by omega]
 ·exact g1 _ (by omega) (by omega)
def rowV (m:Mv) (W:Wr) (k:Nat) (a:Option Addr) (c:Nat) (ah:Option Addr) (ch:Nat) (ad:Option Addr) (cd:Nat):Array Value:=#[Value.int .i64 m.k,Value.int .i64 m.c,Value.int .i64 m.s,Value.int .i64 m.f,Value.int .i64 m.a,Value.int .u32 (m.w:Nat),Value.int .i64 m.n,Value.bool m.h,Value.slice a m.l c,Value.int .i64 W.e,Value.int .i64 W.i,Value.int .i64 ((W.S.hs k).st:Nat),Value.int .u32 ((W.S.hs k).ss:Nat),Value.int .u32 ((W.S.hs k).nm:Nat),Value.int .u32 ((W.S.hs k).sn:Nat),Value.int .i64 ((W.S.hs k).dc:Nat),Value.int .i64 (W.S.hs k).v.lat,Value.bool (vreq (W.S.hs k).v),Value.bool (von (W.S.hs k).v),Value.slice ah (W.S.PH k).i ch,Value.int .i64 ((W.S.ds k).st:Nat),Value.int .u32 ((W.S.ds k).ss:Nat),Value.int .u32 ((W.S.ds k).nm:Nat),Value.int .u32 ((W.S.ds k).sn:Nat),Value.int .i64 ((W.S.ds k).dc:Nat),Value.int .i64 (W.S.ds k).v.lat,Value.bool (vreq (W.S.ds k).v),Value.bool (von (W.S.ds k).v),Value.slice ad (W.S.PD k).o cd]
def Rw (w:World) (S:Ws) (m:Mv) (A:Array Value):Prop:=(S.bad m≠0∧A=#[.int .i64 0,.int .i64 0,.int .i64 0,.int .i64 0,.int .i64 0,.int .u32 0,.int .i64 0,.bool false,.slice none 0 0,.int .i64 0,.int .i64 0,.int .i64 0,.int .u32 0,.int .u32 0,.int .u32 0,.int .i64 0,.int .i64 0,.bool false,.bool false,.slice none 0 0,.int .i64 0,.int .u32 0,.int .u32 0,.int .u32 0,.int .i64 0,.int .i64 0,.bool false,.bool false,.slice none 0 0])∨(S.bad m=0∧∃ a c ah ch ad cd,A=rowV m (S.play m) m.c.toNat a c ah ch ad cd∧Row8 w a m.l c m.b∧Row8 w ah ((S.play m).S.PH m.c.toNat).i ch (vout ((S.play m).S.hs m.c.toNat).v)∧Row8 w ad ((S.play m).S.PD m.c.toNat).o cd (vout ((S.play m).S.ds m.c.toNat).v))
theorem Rw.below {w w':World} {S:Ws} {m:Mv} {A:Array Value} (h:Rw w S m A) (b:Below w.heap.size w w'):Rw w' S m A:=by
 rcases h with h | ⟨h0,a,c,ah,ch,ad,cd,e,h1,h2,h3⟩
 ·exact .inl h
 ·exact .inr ⟨h0,a,c,ah,ch,ad,cd,e,h1.below b,h2.below b,h3.below b⟩
def Rt (t:Nat→Thing) (S:Ws) (m:Mv) (A:Array Value):Prop:=(S.bad m≠0∧A=#[.int .i64 0,.int .i64 0,.int .i64 0,.int .i64 0,.int .i64 0,.int .u32 0,.int .i64 0,.bool false,.slice none 0 0,.int .i64 0,.int .i64 0,.int .i64 0,.int .u32 0,.int .u32 0,.int .u32 0,.int .i64 0,.int .i64 0,.bool false,.bool false,.slice none 0 0,.int .i64 0,.int .u32 0,.int .u32 0,.int .u32 0,.int .i64 0,.int .i64 0,.bool false,.bool false,.slice none 0 0])∨(S.bad m=0∧∃ a c ah ch ad cd,A=rowV m (S.play m) m.c.toNat a c ah ch ad cd∧t 3=r8Y a m.l c m.b∧t 5=r8Y ah ((S.play m).S.PH m.c.toNat).i ch (vout ((S.play m).S.hs m.c.toNat).v)∧t 7=r8Y ad ((S.play m).S.PD m.c.toNat).o cd (vout ((S.play m).S.ds m.c.toNat).v))
def DM (w1:World) (xa xb:Nat) (w:World) (S:Ws) (m:Mv) (A:Array Value) (x:Thing):Prop:=∃ t La Lb,Al w1 w t∧Wat eA t La∧Wat eB t Lb∧La.S=(S.play m).S∧Lb.S=S∧La.x=xa∧Lb.x=xb∧Rt t S m A∧t 9=x∧∀ q,5≤q→t (2*q+1)=noT
theorem DM.below {w1 w w':World} {xa xb:Nat} {S:Ws} {m:Mv} {A:Array Value} {x:Thing} (h:DM w1 xa xb w S m A x) (b:Below w.heap.size w w'):DM w1 xa xb w' S m A x:=by
 obtain⟨t,La,Lb,h1,h2⟩:=h
 exact⟨t,La,Lb,h1.below b,h2⟩
theorem DM.bel {w1 w:World} {xa xb:Nat} {S:Ws} {m:Mv} {A:Array Value} {x:Thing} (h:DM w1 xa xb w S m A x):Below w1.heap.size w1 w:=by
 obtain⟨t,La,Lb,h1,h2⟩:=h
 exact h1.bel
theorem DM.lt {w1 w:World} {xa xb:Nat} {S:Ws} {m:Mv} {A:Array Value} {x:Thing} (h:DM w1 xa xb w S m A x):xb<w.heap.size:=by
 obtain⟨t,La,Lb,h1,h2,h3,h4,h5,h6,h7,h8⟩:=h
 subst h7
 exact (h3.wb h1).lt _ (by simp[Wc.U,Pw.core])
theorem DM.lay {w1 w w':World} {xa xb:Nat} {S:Ws} {m:Mv} {A:Array Value} (h:DM w1 xa xb w S m A noT) (b:Below w.heap.size w w') {l:List (Nat × Obj)} (R:∀ p,p ∈ l→w'.heap[p.1]?=some p.2) (hnew:∀ p,p ∈ l→w.heap.size≤p.1):DM w1 xa xb w' S m A (blT l):=by
 obtain⟨t,La,Lb,h1,h2,h3,h4,h5,h6,h7,h8,h9,h10⟩:=h
 have q:=(PW.layL (e:=eA) (i:=9) ⟨h1,h2⟩ b (fun j=>by unfold eA;omega) R hnew)
 refine⟨_,La,Lb,q.1,q.2,⟨h3.1,fun j=>by rw[putT_ne _ _ (by unfold eB;omega)];exact h3.2 j⟩,h4,h5,h6,h7,?_,putT_same _ _ _,fun q hq=>by rw[putT_ne _ _ (by omega)];exact h10 q hq⟩
 rcases h8 with h | ⟨h0,a,c,ah,ch,ad,cd,e,k1,k2,k3⟩
 ·exact .inl h
 ·exact .inr ⟨h0,a,c,ah,ch,ad,cd,e,by rw[putT_ne _ _ (by decide)];exact k1,by rw[putT_ne _ _ (by decide)];exact k2,by rw[putT_ne _ _ (by decide)];exact k3⟩
theorem rowV_size (m:Mv) (W:Wr) (k:Nat) (a:Option Addr) (c:Nat) (ah:Option Addr) (ch:Nat) (ad:Option Addr) (cd:Nat):(rowV m W k a c ah ch ad cd).size=29:=rfl
theorem rowV_one (m:Mv) (W:Wr) (k:Nat) (a:Option Addr) (c:Nat) (ah:Option Addr) (ch:Nat) (ad:Option Addr) (cd:Nat):(rowV m W k a c ah ch ad cd).all (·.oneCell')=true:=by kernel_rfl
theorem play_bad {S:Ws} {m:Mv} (h:S.bad m≠0):(S.play m).S=S:=by
 unfold Ws.play
 rw[if_pos h]
set_option maxHeartbeats 1000000 in
theorem dplayA {w1 w:World} {xa xb:Nat} {S:Ws} (m:Mv) (d:Option Addr) (c:Nat) (h:DW w1 xa xb w S) (I:S.In) (ok:m.Ok) (hn:0<S.n) (R:Row8 w d m.l c m.b) (hd:∀ y,d=some y→0<m.l→y.block≠xa) (hl:m.l≤140737488351232):Calls Tryz.prog 8 #[.pointer (some ⟨xa,0,none⟩),.agg #[.int .i64 m.k,.int .i64 m.c,.int .i64 m.s,.int .i64 m.f,.int .i64 m.a,.int .u32 (m.w:Nat),.int .i64 m.n,.bool m.h,.slice d m.l c]] w fun r w'=>∃ (A:Array Value) (E:Int),r=.returned (.tuple #[.agg A,.int .i64 E])∧A.size=29∧A.all (·.oneCell')=true∧Hid (E=S.bad m∧DM w1 xa xb w' S m A noT):=by
 obtain⟨t,La,Lb,h1,h2,h3,h4,h5,h6,h7,h8⟩:=h
 subst h4 h6 h7
 have hP:=pplayIn eA w1 w t La 0 m d c ⟨h1,h2⟩ (fun q _=>⟨fun j=>by unfold eA;omega,h8 q⟩) I ok hn R hd hl
 refine hP.mono ?_
 rintro r w' (⟨hb,rfl,H⟩ | ⟨hb,a',c',ah,ch,ad,cd,rfl,H⟩)
 ·have q:=H.out.1
  refine⟨_,_,rfl,rfl,by kernel_rfl,rfl,t,La,Lb,q.1,q.2,h3,(by rw[play_bad hb]),h5,rfl,rfl,.inl ⟨hb,rfl⟩,?_,fun q hq=>h8 q⟩
  exact h8 4
 ·refine⟨rowV m (La.S.play m) m.c.toNat a' c' ah ch ad cd,0,rfl,rowV_size ..,rowV_one ..,hb.symm,?_⟩
  obtain⟨t1,L1,k1,k2,k3,k4⟩:=H.out
  have o:∀ i,i % 2=1→∀ j,i≠eA j:=fun i hi j=>by unfold eA;omega
  have o2:∀ q j,4*q+2≠eA j:=fun q j=>by unfold eA;omega
  refine⟨t1,L1,Lb,k1.1,k1.2,⟨h3.1,fun j=>?_⟩,k2,h5,k3.x,rfl,.inr ⟨hb,a',c',ah,ch,ad,cd,rfl,?_,?_,?_⟩,?_,fun q hq=>?_⟩
  ·rw[show eB j=4*j+2 from rfl,k4 _ (o2 j)]
   unfold rwT
   rw[putT_ne _ _ (by omega),putT_ne _ _ (by omega),putT_ne _ _ (by omega)]
   exact h3.2 j
  ·rw[k4 3 (o 3 rfl)]
   unfold rwT
   rw[putT_ne _ _ (by decide),putT_ne _ _ (by decide)]
   exact putT_same _ _ _
  ·rw[k4 5 (o 5 rfl)]
   unfold rwT
   rw[putT_ne _ _ (by decide)]
   exact putT_same _ _ _
  ·rw[k4 7 (o 7 rfl)]
   exact putT_same _ _ _
  ·rw[k4 9 (o 9 rfl)]
   unfold rwT
   rw[putT_ne _ _ (by decide),putT_ne _ _ (by decide),putT_ne _ _ (by decide)]
   exact h8 4
  ·rw[k4 _ (o _ (by omega))]
   unfold rwT
   rw[putT_ne _ _ (by omega),putT_ne _ _ (by omega),putT_ne _ _ (by omega)]
   exact h8 q
theorem Rt.rw_ {w1 w:World} {t:Nat→Thing} {S:Ws} {m:Mv} {A:Array Value} (h:Rt t S m A) (al:Al w1 w t):Rw w S m A:=by
 rcases h with h | ⟨h0,a,c,ah,ch,ad,cd,e,k1,k2,k3⟩
 ·exact .inl h
 ·exact .inr ⟨h0,a,c,ah,ch,ad,cd,e,al.get (x:=r8Y a m.l c m.b) k1,al.get (x:=r8Y ah ((S.play m).S.PH m.c.toNat).i ch (vout ((S.play m).S.hs m.c.toNat).v)) k2,al.get (x:=r8Y ad ((S.play m).S.PD m.c.toNat).o cd (vout ((S.play m).S.ds m.c.toNat).v)) k3⟩
theorem Al.evens {w1 w:World} {t:Nat→Thing} (h:Al w1 w t):Al w1 w (fun q=>if q % 2=0 then t q else noT):=by
 refine⟨h.bel,fun i=>?_,fun i k hk=>?_,fun i j hij k hk hk'=>?_⟩
 ·try dsimp only
  split
  ·exact h.ok i
  ·trivial
 ·try dsimp only at hk
  split at hk
  ·exact h.lt i k hk
  ·simp[noT]at hk
 ·try dsimp only at hk hk'
  split at hk
  ·split at hk'
   ·exact h.dis i j hij k hk hk'
   ·simp[noT]at hk'
  ·simp[noT]at hk
theorem DW.of {w1 w:World} {t:Nat→Thing} {La Lb:Pw} {S:Ws} (h:Al w1 w t) (ha:Wat eA t La) (hb:Wat eB t Lb) (e1:La.S=S) (e2:Lb.S=S):DW w1 La.x Lb.x w S:=
 ⟨_,La,Lb,h.evens,⟨ha.1,fun j=>by (try dsimp only);rw[if_pos (by unfold eA;omega)];exact ha.2 j⟩,⟨hb.1,fun j=>by (try dsimp only);rw[if_pos (by unfold eB;omega)];exact hb.2 j⟩,e1,e2,rfl,rfl,fun q=>by (try dsimp only);rw[if_neg (by omega)]⟩
set_option maxHeartbeats 1000000 in
theorem dplayB {w1 w:World} {xa xb:Nat} {S:Ws} (m:Mv) (A0:Array Value) (l:List (Nat × Obj)) (d:Option Addr) (c:Nat) (h:DM w1 xa xb w S m A0 (blT l)) (I:S.In) (ok:m.Ok) (hn:0<S.n) (R:Row8 w d m.l c m.b) (hd:∀ y,d=some y→0<m.l→y.block≠xb) (hl:m.l≤140737488351232):Calls Tryz.prog 8 #[.pointer (some ⟨xb,0,none⟩),.agg #[.int .i64 m.k,.int .i64 m.c,.int .i64 m.s,.int .i64 m.f,.int .i64 m.a,.int .u32 (m.w:Nat),.int .i64 m.n,.bool m.h,.slice d m.l c]] w fun r w'=>∃ (A:Array Value) (E:Int),r=.returned (.tuple #[.agg A,.int .i64 E])∧A.size=29∧A.all (·.oneCell')=true∧Hid (E=S.bad m∧Rw w' S m A0∧Rw w' S m A∧DW w1 xa xb w' (S.play m).S∧∀ p,p ∈ l→w'.heap[p.1]?=some p.2):=by
 obtain⟨t,La,Lb,h1,h2,h3,h4,h5,h6,h7,h8,h9,h10⟩:=h
 subst h5 h6 h7
 have hP:=pplayIn eB w1 w t Lb 5 m d c ⟨h1,h3⟩ (fun q hq=>⟨fun j=>by unfold eB;omega,h10 q hq⟩) I ok hn R hd hl
 refine hP.mono ?_
 rintro r w' (⟨hb,rfl,H⟩ | ⟨hb,a',c',ah,ch,ad,cd,rfl,H⟩)
 ·have q:=H.out.1
  have q9:=q.1.get (i:=9) (x:=blT l) h9
  exact⟨_,_,rfl,rfl,by kernel_rfl,rfl,h8.rw_ q.1,.inl ⟨hb,rfl⟩,DW.of q.1 h2 q.2 h4 (by rw[play_bad hb]),q9⟩
 ·refine⟨rowV m (Lb.S.play m) m.c.toNat a' c' ah ch ad cd,0,rfl,rowV_size ..,rowV_one ..,hb.symm,?_⟩
  obtain⟨t1,L1,k1,k2,k3,k4⟩:=H.out
  have o:∀ i,i % 2=1→∀ j,i≠eB j:=fun i hi j=>by unfold eB;omega
  have o2:∀ q j,4*q≠eB j:=fun q j=>by unfold eB;omega
  have lo:∀ i,i % 2=1→i<13→t1 i=t i:=fun i hi hl=>by
   rw[k4 i (o i hi)]
   unfold rwT
   rw[putT_ne _ _ (by omega),putT_ne _ _ (by omega),putT_ne _ _ (by omega)]
  have q9:=k1.1.get (i:=9) (x:=blT l) (by rw[lo 9 rfl (by decide)];exact h9)
  have hRt:Rt t1 Lb.S m A0:=by
   rcases h8 with h | ⟨h0,a,c,ah,ch,ad,cd,e,q1,q2,q3⟩
   ·exact .inl h
   ·exact .inr ⟨h0,a,c,ah,ch,ad,cd,e,by rw[lo 3 rfl (by decide)];exact q1,by rw[lo 5 rfl (by decide)];exact q2,by rw[lo 7 rfl (by decide)];exact q3⟩
  have hA:Wat eA t1 La:=⟨h2.1,fun j=>by
   rw[show eA j=4*j from rfl,k4 _ (o2 j)]
   unfold rwT
   rw[putT_ne _ _ (by omega),putT_ne _ _ (by omega),putT_ne _ _ (by omega)]
   exact h2.2 j⟩
  have hD:=DW.of k1.1 hA k1.2 h4 k2
  rw[k3.x]at hD
  refine⟨hRt.rw_ k1.1,.inr ⟨hb,a',c',ah,ch,ad,cd,rfl,?_,?_,?_⟩,hD,q9⟩
  ·refine k1.1.get (i:=13) (x:=r8Y a' m.l c' m.b) ?_
   rw[k4 13 (o 13 rfl)]
   unfold rwT
   rw[putT_ne _ _ (by decide),putT_ne _ _ (by decide)]
   exact putT_same _ _ _
  ·refine k1.1.get (i:=15) (x:=r8Y ah ((Lb.S.play m).S.PH m.c.toNat).i ch (vout ((Lb.S.play m).S.hs m.c.toNat).v)) ?_
   rw[k4 15 (o 15 rfl)]
   unfold rwT
   rw[putT_ne _ _ (by decide)]
   exact putT_same _ _ _
  ·refine k1.1.get (i:=17) (x:=r8Y ad ((Lb.S.play m).S.PD m.c.toNat).o cd (vout ((Lb.S.play m).S.ds m.c.toNat).v)) ?_
   rw[k4 17 (o 17 rfl)]
   exact putT_same _ _ _
theorem rsameAny {w:World} {S:Ws} {m:Mv} {A B:Array Value} (hA:Rw w S m A) (hB:Rw w S m B):Calls Tryz.prog 11 #[.agg A,.agg B] w fun r w'=>r=.returned (.bool true)∧Below w.heap.size w w':=by
 rcases hA with ⟨h0,rfl⟩ | ⟨h0,a,c,ah,ch,ad,cd,rfl,h1,h2,h3⟩
 ·rcases hB with ⟨_,rfl⟩ | ⟨h0',_⟩
  ·have R0:Row8 w none 0 0 (fun _=>0):=⟨fun i hi=>absurd hi (Nat.not_lt_zero i),fun _=>⟨rfl,rfl⟩,fun x hx=>(by cases hx),Nat.le_refl _⟩
   exact rsameR ⟨0,0,0,0,0,0,0,false,0,fun _=>0⟩ 0 0 0 0 0 0 0 0 false false 0 (fun _=>0) 0 0 0 0 0 0 false false 0 (fun _=>0) none none none none none none 0 0 0 0 0 0 w R0 R0 R0 R0 R0 R0
  ·exact absurd h0' h0
 ·rcases hB with ⟨h0',_⟩ | ⟨_,a',c',ah',ch',ad',cd',rfl,h1',h2',h3'⟩
  ·exact absurd h0 h0'
  ·exact rsameR m _ _ _ _ _ _ _ _ _ _ _ _ _ _ _ _ _ _ _ _ _ _ a a' ah ah' ad ad' c c' ch ch' cd cd' w h1 h1' h2 h2' h3 h3'
def natS:Value→Nat
 | .int _ i=>i.toNat
 | _=>0
set_option maxHeartbeats 8000000 in
theorem rsameF (fs:List Fa) (a b:Option Addr) (ca cb:Nat) (w:World) (ha:FaRow w a fs) (hb:FaRow w b fs) (hn:fs.length≤1000000):Calls Tryz.prog 13 #[.slice a fs.length ca,.slice b fs.length cb] w fun r w'=>r=.returned (.bool true)∧Below w.heap.size w w':=by
 have HA:Hid (FaRow w a fs):=ha
 have HB:Hid (FaRow w b fs):=hb
 obtain⟨n,hnn⟩:∃ n,fs.length=n:=⟨_,rfl⟩
 have HN:Hid (fs.length=n):=hnn
 rw[hnn]at hn ⊢
 clear ha hb hnn
 go_enter Tryz.func13,Tryz.ntmps13
 go_wp2_with fail
 go_loopw [5,6,7,13,14,15,16,17,18,19,20,21,22,23,24,25,26,27,28,29,30,31,32,33,34,35,36,37,38,39,40,41,42,43,44,45,46,47,48,49,50,51,52,53,54,55,56,57,58,59,60,61,62,63,64,65,66,67,68,69,70,71,72,73,74,75,76,77,78,79,80,81,82] (fun i _ _ _ _ _ _ _ _ _ _ _ _ _ _ _ _ _ _ _ _ _ _ _ _ _ _ _ _ _ _ _ _ _ _ _ _ _ _ _ _ _ _ _ _ _ _ _ _ _ _ _ _ _ _ _ _ _ _ _ _ _ _ _ _ _ _ _ _ _ _ _ _ wr=>∃ k:Nat,k≤n∧i=.int .i64 ((k:Nat):Int)∧Hid (Below w.heap.size w wr)) (fun i _ _ _ _ _ _ _ _ _ _ _ _ _ _ _ _ _ _ _ _ _ _ _ _ _ _ _ _ _ _ _ _ _ _ _ _ _ _ _ _ _ _ _ _ _ _ _ _ _ _ _ _ _ _ _ _ _ _ _ _ _ _ _ _ _ _ _ _ _ _ _ _ _=>n-natS i)
 case atStart=>exact⟨0,by omega,rfl,Below.refl _ _⟩
 case round=>
  obtain⟨k,hk,rfl,HI⟩:=hrel
  by_cases hlt:k<n
  ·have hlt':((k:Nat):Int) < ((n:Nat):Int):=by omega
   have hkl:k<fs.length:=by rw[HN.out];exact hlt
   obtain⟨f,hf⟩:∃ f,fs[k]?=some f:=⟨_,List.getElem?_eq_getElem hkl⟩
   obtain⟨q,d1,c1,rfl,k1,R1⟩:=HA.out.below HI.out k f hf
   obtain⟨p,d2,c2,rfl,k2,R2⟩:=HB.out.below HI.out k f hf
   have hS:∀ w',Below wr.heap.size wr w'→w'.cell? ⟨q,k*8,none⟩=some (Value.int .i64 (f.k:Nat))∧w'.cell? ⟨q,k*8+1,none⟩=some (Value.int .i64 (f.c:Nat))∧w'.cell? ⟨q,k*8+2,none⟩=some (Value.int .i64 (f.s:Nat))∧w'.cell? ⟨q,k*8+3,none⟩=some (Value.int .u32 (f.ss:Nat))∧w'.cell? ⟨q,k*8+4,none⟩=some (Value.int .u32 (f.nn:Nat))∧w'.cell? ⟨q,k*8+5,none⟩=some (Value.bool f.on)∧w'.cell? ⟨q,k*8+6,none⟩=some (Value.int .i64 f.cd)∧w'.cell? ⟨q,k*8+7,none⟩=some (Value.slice d1 f.d.1 c1)∧w'.cell? ⟨p,k*8,none⟩=some (Value.int .i64 (f.k:Nat))∧w'.cell? ⟨p,k*8+1,none⟩=some (Value.int .i64 (f.c:Nat))∧w'.cell? ⟨p,k*8+2,none⟩=some (Value.int .i64 (f.s:Nat))∧w'.cell? ⟨p,k*8+3,none⟩=some (Value.int .u32 (f.ss:Nat))∧w'.cell? ⟨p,k*8+4,none⟩=some (Value.int .u32 (f.nn:Nat))∧w'.cell? ⟨p,k*8+5,none⟩=some (Value.bool f.on)∧w'.cell? ⟨p,k*8+6,none⟩=some (Value.int .i64 f.cd)∧w'.cell? ⟨p,k*8+7,none⟩=some (Value.slice d2 f.d.1 c2):=fun w' b=>⟨cellY (k1 0 _ rfl) b,cellY (k1 1 _ rfl) b,cellY (k1 2 _ rfl) b,cellY (k1 3 _ rfl) b,cellY (k1 4 _ rfl) b,cellY (k1 5 _ rfl) b,cellY (k1 6 _ rfl) b,cellY (k1 7 _ rfl) b,cellY (k2 0 _ rfl) b,cellY (k2 1 _ rfl) b,cellY (k2 2 _ rfl) b,cellY (k2 3 _ rfl) b,cellY (k2 4 _ rfl) b,cellY (k2 5 _ rfl) b,cellY (k2 6 _ rfl) b,cellY (k2 7 _ rfl) b⟩
   have HR:Hid (_):=And.intro R1 R2
   have HSS:Hid (_):=hS
   have HS0:=hS wr.drew (Below.drew (Below.refl _ _))
   clear k1 k2 R1 R2 hS hf hkl
   obtain⟨x,hx⟩:∃ y,wr.heap.size=y:=⟨_,rfl⟩
   have HX:Hid (wr.heap.size=x):=hx
   clear hx
   go_upto_region 6 with fail
   refine wp_region_held_drew (S:=fun w'=>w'.cell? ⟨q,k*8,none⟩=some (Value.int .i64 (f.k:Nat))∧w'.cell? ⟨q,k*8+1,none⟩=some (Value.int .i64 (f.c:Nat))∧w'.cell? ⟨q,k*8+2,none⟩=some (Value.int .i64 (f.s:Nat))∧w'.cell? ⟨q,k*8+3,none⟩=some (Value.int .u32 (f.ss:Nat))∧w'.cell? ⟨q,k*8+4,none⟩=some (Value.int .u32 (f.nn:Nat))∧w'.cell? ⟨q,k*8+5,none⟩=some (Value.bool f.on)∧w'.cell? ⟨q,k*8+6,none⟩=some (Value.int .i64 f.cd)∧w'.cell? ⟨q,k*8+7,none⟩=some (Value.slice d1 f.d.1 c1)∧w'.cell? ⟨p,k*8,none⟩=some (Value.int .i64 (f.k:Nat))∧w'.cell? ⟨p,k*8+1,none⟩=some (Value.int .i64 (f.c:Nat))∧w'.cell? ⟨p,k*8+2,none⟩=some (Value.int .i64 (f.s:Nat))∧w'.cell? ⟨p,k*8+3,none⟩=some (Value.int .u32 (f.ss:Nat))∧w'.cell? ⟨p,k*8+4,none⟩=some (Value.int .u32 (f.nn:Nat))∧w'.cell? ⟨p,k*8+5,none⟩=some (Value.bool f.on)∧w'.cell? ⟨p,k*8+6,none⟩=some (Value.int .i64 f.cd)∧w'.cell? ⟨p,k*8+7,none⟩=some (Value.slice d2 f.d.1 c2)) (by kernel_rfl) HS0 (fun _=>?_)
   refine tkH (i:=0) (v:=Value.slice (some ⟨q,0,none⟩) n ca) ?_
   refine tkH (i:=1) (v:=Value.int .i64 (k:Nat)) ?_
   refine tkH (i:=2) (v:=Value.pointer (some ⟨q,k*8,none⟩)) ?_
   refine tkH (i:=3) (v:=Value.agg #[Value.int .i64 (f.k:Nat),Value.int .i64 (f.c:Nat),Value.int .i64 (f.s:Nat),Value.int .u32 (f.ss:Nat),Value.int .u32 (f.nn:Nat),Value.bool f.on,Value.int .i64 f.cd,Value.slice d1 f.d.1 c1]) ?_
   refine tkH (i:=4) (v:=Value.slice (some ⟨p,0,none⟩) n cb) ?_
   refine tkH (i:=5) (v:=Value.int .i64 (k:Nat)) ?_
   refine tkH (i:=6) (v:=Value.pointer (some ⟨p,k*8,none⟩)) ?_
   refine tkH (i:=7) (v:=Value.agg #[Value.int .i64 (f.k:Nat),Value.int .i64 (f.c:Nat),Value.int .i64 (f.s:Nat),Value.int .u32 (f.ss:Nat),Value.int .u32 (f.nn:Nat),Value.bool f.on,Value.int .i64 f.cd,Value.slice d2 f.d.1 c2]) ?_
   have b8:Below wr.heap.size wr (wr.drew.alloc (.cells #[.int .i64 0,.int .i64 0,.int .i64 0,.int .u32 0,.int .u32 0,.bool false,.int .i64 0,.slice none 0 0] 81)):=(Below.drew (Below.refl _ _)).alloc (Nat.le_refl _) _
   have z8:(wr.drew.alloc (.cells #[.int .i64 0,.int .i64 0,.int .i64 0,.int .u32 0,.int .u32 0,.bool false,.int .i64 0,.slice none 0 0] 81)).heap.size=x+1:=by rw[sz1,← HX.out];rfl
   have b9:Below wr.heap.size wr ((wr.drew.alloc (.cells #[.int .i64 0,.int .i64 0,.int .i64 0,.int .u32 0,.int .u32 0,.bool false,.int .i64 0,.slice none 0 0] 81)).alloc (.cells #[.int .i64 0,.int .i64 0,.int .i64 0,.int .u32 0,.int .u32 0,.bool false,.int .i64 0,.slice none 0 0] 81)):=b8.alloc b8.size _
   have s8:((wr.drew.alloc (.cells #[.int .i64 0,.int .i64 0,.int .i64 0,.int .u32 0,.int .u32 0,.bool false,.int .i64 0,.slice none 0 0] 81)).alloc (.cells #[.int .i64 0,.int .i64 0,.int .i64 0,.int .u32 0,.int .u32 0,.bool false,.int .i64 0,.slice none 0 0] 81)).heap[x]?=some (.cells #[.int .i64 0,.int .i64 0,.int .i64 0,.int .u32 0,.int .u32 0,.bool false,.int .i64 0,.slice none 0 0] 81 (0,0)):=(Below.heap_alloc _ _ _ (by rw[z8];omega)).trans (by rw[← HX.out];exact heap_alloc_new wr.drew _)
   have s9:((wr.drew.alloc (.cells #[.int .i64 0,.int .i64 0,.int .i64 0,.int .u32 0,.int .u32 0,.bool false,.int .i64 0,.slice none 0 0] 81)).alloc (.cells #[.int .i64 0,.int .i64 0,.int .i64 0,.int .u32 0,.int .u32 0,.bool false,.int .i64 0,.slice none 0 0] 81)).heap[x+1]?=some (.cells #[.int .i64 0,.int .i64 0,.int .i64 0,.int .u32 0,.int .u32 0,.bool false,.int .i64 0,.slice none 0 0] 81 (0,0)):=by rw[← z8];exact heap_alloc_new _ _
   refine held_two (i:=8) (j:=9) (by kernel_rfl) ?_ ?_
   ·refine any_val (Value.pointer (some ⟨x,0,none⟩)) (wr.drew.alloc (.cells #[.int .i64 0,.int .i64 0,.int .i64 0,.int .u32 0,.int .u32 0,.bool false,.int .i64 0,.slice none 0 0] 81)) rfl (by kernel_rfl) (by rw[← HX.out];go_simp) ⟨HSS.out _ b8,?_⟩
    refine held_new (i:=9) (Value.pointer (some ⟨x+1,0,none⟩)) ((wr.drew.alloc (.cells #[.int .i64 0,.int .i64 0,.int .i64 0,.int .u32 0,.int .u32 0,.bool false,.int .i64 0,.slice none 0 0] 81)).alloc (.cells #[.int .i64 0,.int .i64 0,.int .i64 0,.int .u32 0,.int .u32 0,.bool false,.int .i64 0,.slice none 0 0] 81)) (by kernel_rfl) rfl (by kernel_rfl) (by rw[← z8];go_simp) (HSS.out _ b9) ?_
    obtain⟨w9,hw9⟩:∃ y,((wr.drew.alloc (.cells #[.int .i64 0,.int .i64 0,.int .i64 0,.int .u32 0,.int .u32 0,.bool false,.int .i64 0,.slice none 0 0] 81)).alloc (.cells #[.int .i64 0,.int .i64 0,.int .i64 0,.int .u32 0,.int .u32 0,.bool false,.int .i64 0,.slice none 0 0] 81))=y:=⟨_,rfl⟩
    rw[hw9]at b9 s8 s9 ⊢
    have sp:w9.heap[x]?=some (.cells #[.int .i64 0,.int .i64 0,.int .i64 0,.int .u32 0,.int .u32 0,.bool false,.int .i64 0,.slice none 0 0] 81 (0,0)):=s8
    have sq:w9.heap[x+1]?=some (.cells #[.int .i64 0,.int .i64 0,.int .i64 0,.int .u32 0,.int .u32 0,.bool false,.int .i64 0,.slice none 0 0] 81 (0,0)):=s9
    have h8:w9.there (x) 0 8:=there_row sp rfl
    have o8:=off_setCells w9 (x) 0 #[Value.int .i64 (f.k:Nat),Value.int .i64 (f.c:Nat),Value.int .i64 (f.s:Nat),Value.int .u32 (f.ss:Nat),Value.int .u32 (f.nn:Nat),Value.bool f.on,Value.int .i64 f.cd,Value.slice d1 f.d.1 c1].toList
    have r8:=World.rangeAt_setCells_same w9 (x) 0 #[Value.int .i64 (f.k:Nat),Value.int .i64 (f.c:Nat),Value.int .i64 (f.s:Nat),Value.int .u32 (f.ss:Nat),Value.int .u32 (f.nn:Nat),Value.bool f.on,Value.int .i64 f.cd,Value.slice d1 f.d.1 c1].toList h8
    have l8:=(Array.getElem?_eq_some_iff.1 sp).1
    have l9:=(Array.getElem?_eq_some_iff.1 sq).1
    have b10:Below wr.heap.size wr (w9.setCells (x) 0 #[Value.int .i64 (f.k:Nat),Value.int .i64 (f.c:Nat),Value.int .i64 (f.s:Nat),Value.int .u32 (f.ss:Nat),Value.int .u32 (f.nn:Nat),Value.bool f.on,Value.int .i64 f.cd,Value.slice d1 f.d.1 c1].toList):=o8.below b9 (by simp[HX.out]) b9.size
    refine held_storeA (i:=10) (by kernel_rfl) rfl (by kernel_rfl) 81 (.tmp 6) (.tmp 22) rfl (x) 0 #[Value.int .i64 (f.k:Nat),Value.int .i64 (f.c:Nat),Value.int .i64 (f.s:Nat),Value.int .u32 (f.ss:Nat),Value.int .u32 (f.nn:Nat),Value.bool f.on,Value.int .i64 f.cd,Value.slice d1 f.d.1 c1] (by kernel_rfl) (by kernel_rfl) h8 (by kernel_rfl) (by kernel_rfl) (HSS.out _ b10) ?_
    obtain⟨w10,hw10⟩:∃ y,w9.setCells (x) 0 #[Value.int .i64 (f.k:Nat),Value.int .i64 (f.c:Nat),Value.int .i64 (f.s:Nat),Value.int .u32 (f.ss:Nat),Value.int .u32 (f.nn:Nat),Value.bool f.on,Value.int .i64 f.cd,Value.slice d1 f.d.1 c1].toList=y:=⟨_,rfl⟩
    rw[hw10]at b10 r8 o8 ⊢
    have s10:w10.heap[x+1]?=some (.cells #[.int .i64 0,.int .i64 0,.int .i64 0,.int .u32 0,.int .u32 0,.bool false,.int .i64 0,.slice none 0 0] 81 (0,0)):=(o8.block (x+1) l9 (by simp)).trans sq
    have h9:w10.there (x+1) 0 8:=there_row s10 rfl
    have o9:=off_setCells w10 (x+1) 0 #[Value.int .i64 (f.k:Nat),Value.int .i64 (f.c:Nat),Value.int .i64 (f.s:Nat),Value.int .u32 (f.ss:Nat),Value.int .u32 (f.nn:Nat),Value.bool f.on,Value.int .i64 f.cd,Value.slice d2 f.d.1 c2].toList
    have r9:=World.rangeAt_setCells_same w10 (x+1) 0 #[Value.int .i64 (f.k:Nat),Value.int .i64 (f.c:Nat),Value.int .i64 (f.s:Nat),Value.int .u32 (f.ss:Nat),Value.int .u32 (f.nn:Nat),Value.bool f.on,Value.int .i64 f.cd,Value.slice d2 f.d.1 c2].toList h9
    have b11:Below wr.heap.size wr (w10.setCells (x+1) 0 #[Value.int .i64 (f.k:Nat),Value.int .i64 (f.c:Nat),Value.int .i64 (f.s:Nat),Value.int .u32 (f.ss:Nat),Value.int .u32 (f.nn:Nat),Value.bool f.on,Value.int .i64 f.cd,Value.slice d2 f.d.1 c2].toList):=o9.below b10 (by simp[HX.out]) b10.size
    refine held_storeA (i:=11) (by kernel_rfl) rfl (by kernel_rfl) 81 (.tmp 7) (.tmp 26) rfl (x+1) 0 #[Value.int .i64 (f.k:Nat),Value.int .i64 (f.c:Nat),Value.int .i64 (f.s:Nat),Value.int .u32 (f.ss:Nat),Value.int .u32 (f.nn:Nat),Value.bool f.on,Value.int .i64 f.cd,Value.slice d2 f.d.1 c2] (by kernel_rfl) (by kernel_rfl) h9 (by kernel_rfl) (by kernel_rfl) (HSS.out _ b11) ?_
    obtain⟨w11,hw11⟩:∃ y,w10.setCells (x+1) 0 #[Value.int .i64 (f.k:Nat),Value.int .i64 (f.c:Nat),Value.int .i64 (f.s:Nat),Value.int .u32 (f.ss:Nat),Value.int .u32 (f.nn:Nat),Value.bool f.on,Value.int .i64 f.cd,Value.slice d2 f.d.1 c2].toList=y:=⟨_,rfl⟩
    rw[hw11]at b11 r9 o9 ⊢
    have lx:x<w10.heap.size:=Nat.lt_of_lt_of_le l8 o8.size
    have p0:w11.cell? ⟨x,0,none⟩=some (.int .i64 (f.k:Nat)):=(World.cell?_of_block (a:=⟨x,0,none⟩) (o9.block (x) lx (by simp))).trans (r8 0 _ rfl)
    have p1:w11.cell? ⟨x,1,none⟩=some (.int .i64 (f.c:Nat)):=(World.cell?_of_block (a:=⟨x,1,none⟩) (o9.block (x) lx (by simp))).trans (r8 1 _ rfl)
    have p2:w11.cell? ⟨x,2,none⟩=some (.int .i64 (f.s:Nat)):=(World.cell?_of_block (a:=⟨x,2,none⟩) (o9.block (x) lx (by simp))).trans (r8 2 _ rfl)
    have p3:w11.cell? ⟨x,3,none⟩=some (.int .u32 (f.ss:Nat)):=(World.cell?_of_block (a:=⟨x,3,none⟩) (o9.block (x) lx (by simp))).trans (r8 3 _ rfl)
    have p4:w11.cell? ⟨x,4,none⟩=some (.int .u32 (f.nn:Nat)):=(World.cell?_of_block (a:=⟨x,4,none⟩) (o9.block (x) lx (by simp))).trans (r8 4 _ rfl)
    have p5:w11.cell? ⟨x,5,none⟩=some (.bool f.on):=(World.cell?_of_block (a:=⟨x,5,none⟩) (o9.block (x) lx (by simp))).trans (r8 5 _ rfl)
    have p6:w11.cell? ⟨x,6,none⟩=some (.int .i64 f.cd):=(World.cell?_of_block (a:=⟨x,6,none⟩) (o9.block (x) lx (by simp))).trans (r8 6 _ rfl)
    have p7:w11.cell? ⟨x,7,none⟩=some (.slice d1 f.d.1 c1):=(World.cell?_of_block (a:=⟨x,7,none⟩) (o9.block (x) lx (by simp))).trans (r8 7 _ rfl)
    have q0:w11.cell? ⟨x+1,0,none⟩=some (.int .i64 (f.k:Nat)):=r9 0 _ rfl
    have q1:w11.cell? ⟨x+1,1,none⟩=some (.int .i64 (f.c:Nat)):=r9 1 _ rfl
    have q2:w11.cell? ⟨x+1,2,none⟩=some (.int .i64 (f.s:Nat)):=r9 2 _ rfl
    have q3:w11.cell? ⟨x+1,3,none⟩=some (.int .u32 (f.ss:Nat)):=r9 3 _ rfl
    have q4:w11.cell? ⟨x+1,4,none⟩=some (.int .u32 (f.nn:Nat)):=r9 4 _ rfl
    have q5:w11.cell? ⟨x+1,5,none⟩=some (.bool f.on):=r9 5 _ rfl
    have q6:w11.cell? ⟨x+1,6,none⟩=some (.int .i64 f.cd):=r9 6 _ rfl
    have q7:w11.cell? ⟨x+1,7,none⟩=some (.slice d2 f.d.1 c2):=r9 7 _ rfl
    have v1:=conv_any d1 f.d.1 c1 f.d.2 w11 (HR.out.1.below b11)
    have v2:=conv_any d2 f.d.1 c2 f.d.2 w11 (HR.out.2.below b11)
    obtain⟨Y,hY⟩:∃ Y,BA f.d.2 f.d.1=Y:=⟨_,rfl⟩
    rw[hY]at v1 v2
    have HW:Hid (Below w.heap.size w w11):=HI.out.trans (b11.mono HI.out.size)
    clear b8 b9 b10 b11 s8 s9 sp sq s10 h8 h9 o8 o9 r8 r9 l8 l9 z8 lx hw9 hw10 hw11 hY HSS HR HS0
    refine wpAnyH_done (by kernel_rfl) ?_ _
    go_wp2_with fail
    refine⟨⟨k+1,by omega,by simp,HW⟩,?_⟩
    have e1:natS (.int .i64 ((k:Nat):Int))=k:=by simp[natS]
    have e2:natS (.int .i64 (((k:Nat):Int)+1))=k+1:=by simp[natS]
    rw[e1,e2]
    omega
   ·refine any_val (Value.pointer (some ⟨x,0,none⟩)) (wr.drew.alloc (.cells #[.int .i64 0,.int .i64 0,.int .i64 0,.int .u32 0,.int .u32 0,.bool false,.int .i64 0,.slice none 0 0] 81)) rfl (by kernel_rfl) (by rw[← HX.out];go_simp) ⟨HSS.out _ b8,?_⟩
    refine held_new (i:=8) (Value.pointer (some ⟨x+1,0,none⟩)) ((wr.drew.alloc (.cells #[.int .i64 0,.int .i64 0,.int .i64 0,.int .u32 0,.int .u32 0,.bool false,.int .i64 0,.slice none 0 0] 81)).alloc (.cells #[.int .i64 0,.int .i64 0,.int .i64 0,.int .u32 0,.int .u32 0,.bool false,.int .i64 0,.slice none 0 0] 81)) (by kernel_rfl) rfl (by kernel_rfl) (by rw[← z8];go_simp) (HSS.out _ b9) ?_
    obtain⟨w9,hw9⟩:∃ y,((wr.drew.alloc (.cells #[.int .i64 0,.int .i64 0,.int .i64 0,.int .u32 0,.int .u32 0,.bool false,.int .i64 0,.slice none 0 0] 81)).alloc (.cells #[.int .i64 0,.int .i64 0,.int .i64 0,.int .u32 0,.int .u32 0,.bool false,.int .i64 0,.slice none 0 0] 81))=y:=⟨_,rfl⟩
    rw[hw9]at b9 s8 s9 ⊢
    have sp:w9.heap[x+1]?=some (.cells #[.int .i64 0,.int .i64 0,.int .i64 0,.int .u32 0,.int .u32 0,.bool false,.int .i64 0,.slice none 0 0] 81 (0,0)):=s9
    have sq:w9.heap[x]?=some (.cells #[.int .i64 0,.int .i64 0,.int .i64 0,.int .u32 0,.int .u32 0,.bool false,.int .i64 0,.slice none 0 0] 81 (0,0)):=s8
    have h8:w9.there (x+1) 0 8:=there_row sp rfl
    have o8:=off_setCells w9 (x+1) 0 #[Value.int .i64 (f.k:Nat),Value.int .i64 (f.c:Nat),Value.int .i64 (f.s:Nat),Value.int .u32 (f.ss:Nat),Value.int .u32 (f.nn:Nat),Value.bool f.on,Value.int .i64 f.cd,Value.slice d1 f.d.1 c1].toList
    have r8:=World.rangeAt_setCells_same w9 (x+1) 0 #[Value.int .i64 (f.k:Nat),Value.int .i64 (f.c:Nat),Value.int .i64 (f.s:Nat),Value.int .u32 (f.ss:Nat),Value.int .u32 (f.nn:Nat),Value.bool f.on,Value.int .i64 f.cd,Value.slice d1 f.d.1 c1].toList h8
    have l8:=(Array.getElem?_eq_some_iff.1 sp).1
    have l9:=(Array.getElem?_eq_some_iff.1 sq).1
    have b10:Below wr.heap.size wr (w9.setCells (x+1) 0 #[Value.int .i64 (f.k:Nat),Value.int .i64 (f.c:Nat),Value.int .i64 (f.s:Nat),Value.int .u32 (f.ss:Nat),Value.int .u32 (f.nn:Nat),Value.bool f.on,Value.int .i64 f.cd,Value.slice d1 f.d.1 c1].toList):=o8.below b9 (by simp[HX.out]) b9.size
    refine held_storeA (i:=10) (by kernel_rfl) rfl (by kernel_rfl) 81 (.tmp 6) (.tmp 22) rfl (x+1) 0 #[Value.int .i64 (f.k:Nat),Value.int .i64 (f.c:Nat),Value.int .i64 (f.s:Nat),Value.int .u32 (f.ss:Nat),Value.int .u32 (f.nn:Nat),Value.bool f.on,Value.int .i64 f.cd,Value.slice d1 f.d.1 c1] (by kernel_rfl) (by kernel_rfl) h8 (by kernel_rfl) (by kernel_rfl) (HSS.out _ b10) ?_
    obtain⟨w10,hw10⟩:∃ y,w9.setCells (x+1) 0 #[Value.int .i64 (f.k:Nat),Value.int .i64 (f.c:Nat),Value.int .i64 (f.s:Nat),Value.int .u32 (f.ss:Nat),Value.int .u32 (f.nn:Nat),Value.bool f.on,Value.int .i64 f.cd,Value.slice d1 f.d.1 c1].toList=y:=⟨_,rfl⟩
    rw[hw10]at b10 r8 o8 ⊢
    have s10:w10.heap[x]?=some (.cells #[.int .i64 0,.int .i64 0,.int .i64 0,.int .u32 0,.int .u32 0,.bool false,.int .i64 0,.slice none 0 0] 81 (0,0)):=(o8.block (x) l9 (by simp)).trans sq
    have h9:w10.there (x) 0 8:=there_row s10 rfl
    have o9:=off_setCells w10 (x) 0 #[Value.int .i64 (f.k:Nat),Value.int .i64 (f.c:Nat),Value.int .i64 (f.s:Nat),Value.int .u32 (f.ss:Nat),Value.int .u32 (f.nn:Nat),Value.bool f.on,Value.int .i64 f.cd,Value.slice d2 f.d.1 c2].toList
    have r9:=World.rangeAt_setCells_same w10 (x) 0 #[Value.int .i64 (f.k:Nat),Value.int .i64 (f.c:Nat),Value.int .i64 (f.s:Nat),Value.int .u32 (f.ss:Nat),Value.int .u32 (f.nn:Nat),Value.bool f.on,Value.int .i64 f.cd,Value.slice d2 f.d.1 c2].toList h9
    have b11:Below wr.heap.size wr (w10.setCells (x) 0 #[Value.int .i64 (f.k:Nat),Value.int .i64 (f.c:Nat),Value.int .i64 (f.s:Nat),Value.int .u32 (f.ss:Nat),Value.int .u32 (f.nn:Nat),Value.bool f.on,Value.int .i64 f.cd,Value.slice d2 f.d.1 c2].toList):=o9.below b10 (by simp[HX.out]) b10.size
    refine held_storeA (i:=11) (by kernel_rfl) rfl (by kernel_rfl) 81 (.tmp 7) (.tmp 26) rfl (x) 0 #[Value.int .i64 (f.k:Nat),Value.int .i64 (f.c:Nat),Value.int .i64 (f.s:Nat),Value.int .u32 (f.ss:Nat),Value.int .u32 (f.nn:Nat),Value.bool f.on,Value.int .i64 f.cd,Value.slice d2 f.d.1 c2] (by kernel_rfl) (by kernel_rfl) h9 (by kernel_rfl) (by kernel_rfl) (HSS.out _ b11) ?_
    obtain⟨w11,hw11⟩:∃ y,w10.setCells (x) 0 #[Value.int .i64 (f.k:Nat),Value.int .i64 (f.c:Nat),Value.int .i64 (f.s:Nat),Value.int .u32 (f.ss:Nat),Value.int .u32 (f.nn:Nat),Value.bool f.on,Value.int .i64 f.cd,Value.slice d2 f.d.1 c2].toList=y:=⟨_,rfl⟩
    rw[hw11]at b11 r9 o9 ⊢
    have lx:x+1<w10.heap.size:=Nat.lt_of_lt_of_le l8 o8.size
    have p0:w11.cell? ⟨x+1,0,none⟩=some (.int .i64 (f.k:Nat)):=(World.cell?_of_block (a:=⟨x+1,0,none⟩) (o9.block (x+1) lx (by simp))).trans (r8 0 _ rfl)
    have p1:w11.cell? ⟨x+1,1,none⟩=some (.int .i64 (f.c:Nat)):=(World.cell?_of_block (a:=⟨x+1,1,none⟩) (o9.block (x+1) lx (by simp))).trans (r8 1 _ rfl)
    have p2:w11.cell? ⟨x+1,2,none⟩=some (.int .i64 (f.s:Nat)):=(World.cell?_of_block (a:=⟨x+1,2,none⟩) (o9.block (x+1) lx (by simp))).trans (r8 2 _ rfl)
    have p3:w11.cell? ⟨x+1,3,none⟩=some (.int .u32 (f.ss:Nat)):=(World.cell?_of_block (a:=⟨x+1,3,none⟩) (o9.block (x+1) lx (by simp))).trans (r8 3 _ rfl)
    have p4:w11.cell? ⟨x+1,4,none⟩=some (.int .u32 (f.nn:Nat)):=(World.cell?_of_block (a:=⟨x+1,4,none⟩) (o9.block (x+1) lx (by simp))).trans (r8 4 _ rfl)
    have p5:w11.cell? ⟨x+1,5,none⟩=some (.bool f.on):=(World.cell?_of_block (a:=⟨x+1,5,none⟩) (o9.block (x+1) lx (by simp))).trans (r8 5 _ rfl)
    have p6:w11.cell? ⟨x+1,6,none⟩=some (.int .i64 f.cd):=(World.cell?_of_block (a:=⟨x+1,6,none⟩) (o9.block (x+1) lx (by simp))).trans (r8 6 _ rfl)
    have p7:w11.cell? ⟨x+1,7,none⟩=some (.slice d1 f.d.1 c1):=(World.cell?_of_block (a:=⟨x+1,7,none⟩) (o9.block (x+1) lx (by simp))).trans (r8 7 _ rfl)
    have q0:w11.cell? ⟨x,0,none⟩=some (.int .i64 (f.k:Nat)):=r9 0 _ rfl
    have q1:w11.cell? ⟨x,1,none⟩=some (.int .i64 (f.c:Nat)):=r9 1 _ rfl
    have q2:w11.cell? ⟨x,2,none⟩=some (.int .i64 (f.s:Nat)):=r9 2 _ rfl
    have q3:w11.cell? ⟨x,3,none⟩=some (.int .u32 (f.ss:Nat)):=r9 3 _ rfl
    have q4:w11.cell? ⟨x,4,none⟩=some (.int .u32 (f.nn:Nat)):=r9 4 _ rfl
    have q5:w11.cell? ⟨x,5,none⟩=some (.bool f.on):=r9 5 _ rfl
    have q6:w11.cell? ⟨x,6,none⟩=some (.int .i64 f.cd):=r9 6 _ rfl
    have q7:w11.cell? ⟨x,7,none⟩=some (.slice d2 f.d.1 c2):=r9 7 _ rfl
    have v1:=conv_any d1 f.d.1 c1 f.d.2 w11 (HR.out.1.below b11)
    have v2:=conv_any d2 f.d.1 c2 f.d.2 w11 (HR.out.2.below b11)
    obtain⟨Y,hY⟩:∃ Y,BA f.d.2 f.d.1=Y:=⟨_,rfl⟩
    rw[hY]at v1 v2
    have HW:Hid (Below w.heap.size w w11):=HI.out.trans (b11.mono HI.out.size)
    clear b8 b9 b10 b11 s8 s9 sp sq s10 h8 h9 o8 o9 r8 r9 l8 l9 z8 lx hw9 hw10 hw11 hY HSS HR HS0
    refine wpAnyH_done (by kernel_rfl) ?_ _
    go_wp2_with fail
    refine⟨⟨k+1,by omega,by simp,HW⟩,?_⟩
    have e1:natS (.int .i64 ((k:Nat):Int))=k:=by simp[natS]
    have e2:natS (.int .i64 (((k:Nat):Int)+1))=k+1:=by simp[natS]
    rw[e1,e2]
    omega
  ·obtain rfl:k=n:=by omega
   have hlt':¬ ((k:Nat):Int) < ((k:Nat):Int):=by omega
   go_wp2_with fail
   go_ret
   exact⟨rfl,HI.out⟩
end Go.Proofs.YtiopiheomoehbaaGreat
