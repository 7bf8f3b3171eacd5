/- Part 39: contracts that the proof rests on. -/
import Derived.Test.YtdmjfemodihfhaaGreatPkW37
set_option maxHeartbeats 64000000
set_option maxRecDepth 100000
namespace Go.Proofs.YtdmjfemodihfhaaGreat
set_option maxRecDepth 100000
open Go.RowKit Go.Maps Go.Sort
set_option linter.unusedVariables false
theorem wC (w:World):Calls Tryz.prog 30 #[.int .i64 1] w fun r w'=>∃ a0 c0 a1 c1,r=.returned (.agg #[.slice a0 2 c0,.slice a1 2 c1,.int .u32 50])∧Hid (w'.ownsRow (w.heap.size+2) 59 5 (.slice a0 2 c0) 2 (eT 2 i7)∧w'.ownsRow (w.heap.size+2) 59 5 (.slice a1 2 c1) 2 (eT 2 i7)∧(∀ g,(Value.slice a0 2 c0).ownBlock=some g→(Value.slice a1 2 c1).ownBlock≠some g)∧Below w.heap.size w w'):=by
 have hS:=fun wx=>t8 wx
 go_enter Tryz.func30,Tryz.ntmps30
 go_wp2_with fail
 have HS:Hid (Sp w ((w.alloc (.cells #[.slice none 0 0,.slice none 0 0,.int .u32 0] 30)).alloc (.cells #[.slice none 0 0,.slice none 0 0,.int .u32 50] 30)) 0 none 0 none 0):=by
  have a1':=au w (.cells #[.slice none 0 0,.slice none 0 0,.int .u32 0] 30)
  have a2':=au (w.alloc (.cells #[.slice none 0 0,.slice none 0 0,.int .u32 0] 30)) (.cells #[.slice none 0 0,.slice none 0 0,.int .u32 50] 30)
  simp only[World.size_alloc]at a1' a2'
  refine⟨ay (ay (Below.refl _ _) _) _,?_,a2',⟨by simp[eT],.inl ⟨rfl,rfl⟩⟩,⟨by simp[eT],.inl ⟨rfl,rfl⟩⟩,fun g hg=>by cases hg⟩
  exact ((ay (Below.refl _ _) _).block _ (by simp)).trans a1'
 go_loopw [4,5,7,8,9,10,11,12,13,14,15,16,17,18,19,20,21,22,23,24,25,26,27,28,29,30,31,32,33,34] (fun c _ _ _ _ _ _ _ _ _ _ _ _ _ _ _ _ _ _ _ _ _ _ _ _ _ _ _ _ _ wr=>∃ (i:Nat) (va:Option Addr) (vc:Nat) (ua:Option Addr) (uc:Nat),i≤2∧c=.int .i64 ((i:Nat):Int)∧Hid (Sp w wr i va vc ua uc)) (fun c _ _ _ _ _ _ _ _ _ _ _ _ _ _ _ _ _ _ _ _ _ _ _ _ _ _ _ _ _ _=>2-iS c)
 case atStart=>exact⟨0,none,0,none,0,by omega,rfl,HS⟩
 case round=>
  obtain⟨i,va,vc,ua,uc,hi,rfl,HI⟩:=hrel
  clear HS
  have hi3:i=0∨i=1∨i=2:=by omega
  rcases hi3 with rfl | rfl | rfl
  ·obtain⟨i0,hI,hz0,hz1,hz2⟩:=info_parts eE
   go_wp2_with fail
   refine (hS _).mono ?_
   rintro r w3 ⟨rfl,b3⟩
   have q0:=af (ac wr _ 0 _ _ _ HI.out.xb) (ay b3 (.cells #[.int .u32 7,.int .i64 2,.int .i64 1,.int .i64 10,.int .u32 9] 59))
   have q1:=af (ac wr _ 1 _ _ _ HI.out.xb) (ay b3 (.cells #[.int .u32 7,.int .i64 2,.int .i64 1,.int .i64 10,.int .u32 9] 59))
   have b4:=ay (ay b3 (.cells #[.int .u32 7,.int .i64 2,.int .i64 1,.int .i64 10,.int .u32 9] 59)) (.cells #[.int .u32 7,.int .i64 2,.int .i64 1,.int .i64 10,.int .u32 9] 59)
   have hrow:=cG HI.out.ov b4
   have lx:=(Array.getElem?_eq_some_iff.1 HI.out.xb).1
   have s3:=b3.size
   have nk:=au (w3.alloc (.cells #[.int .u32 7,.int .i64 2,.int .i64 1,.int .i64 10,.int .u32 9] 59)) (.cells #[.int .u32 7,.int .i64 2,.int .i64 1,.int .i64 10,.int .u32 9] 59)
   simp only[World.size_alloc]at nk
   have hcl:∀ j u,(i7 0).cs[j]?=some u→((w3.alloc (.cells #[.int .u32 7,.int .i64 2,.int .i64 1,.int .i64 10,.int .u32 9] 59)).alloc (.cells #[.int .u32 7,.int .i64 2,.int .i64 1,.int .i64 10,.int .u32 9] 59)).cell? ((⟨w3.heap.size+1,0,none⟩:Addr).add j)=some u:=ik nk
   have hbs:w.heap.size+2 ≤ ((w3.alloc (.cells #[.int .u32 7,.int .i64 2,.int .i64 1,.int .i64 10,.int .u32 9] 59)).alloc (.cells #[.int .u32 7,.int .i64 2,.int .i64 1,.int .i64 10,.int .u32 9] 59)).heap.size:=by simp;omega
   go_wp2_with (at_builtin;refine wpList_append_own_at _ rfl (.tmp 24) (.tmp 26) 27 rfl (w.heap.size+2) 59 i0 (.agg #[.int .u32 0,.int .i64 0,.int .i64 0,.int .i64 0,.int .u32 0]) 5 40 Tryz.underlying27 hI hz0 hz1 hz2 rfl (by decide) (.slice va 0 vc) 0 (eT 0 i7) rfl hrow ⟨w3.heap.size+1,0,none⟩ 1 1 (i7 0).cs rfl rfl hcl (jo _) (by unfold maxLen;omega) (by omega) hbs ?_)
   intro v5 w5 o5 g5 _ s5
   obtain⟨x5,y5,rfl,hx5⟩:=ie (n:=0) o5
   have nb:=fun g (hg:(Value.slice va 0 vc).ownBlock=some g)=>HI.out.ov.lt g hg
   have nu:=fun g (hg:(Value.slice ua 0 uc).ownBlock=some g)=>HI.out.ou.lt g hg
   have k5:w5.heap[w.heap.size+1]?=some (.cells #[.slice va 0 vc,.slice ua 0 uc,.int .u32 50] 30 (0,0)):=(g5.block _ (by simp;omega) (fun e=>by have:=(nb _ e.symm).1;omega)).trans ((b4.block _ lx).trans HI.out.xb)
   have p5:w5.heap[w3.heap.size]?=some (.cells #[.int .u32 7,.int .i64 2,.int .i64 1,.int .i64 10,.int .u32 9] 59 (0,0)):=(g5.block _ (by simp;omega) (fun e=>by have:=(nb _ e.symm).2;omega)).trans (((ay (Below.refl _ _) _).block w3.heap.size (by simp)).trans (au w3 (.cells #[.int .u32 7,.int .i64 2,.int .i64 1,.int .i64 10,.int .u32 9] 59)))
   have u5:w5.ownsRow (w.heap.size+2) 59 5 (.slice ua 0 uc) 0 (eT 0 i7):=bF (cG HI.out.ou b4) (fun g hg=>g5.block g (by have:=(nu g hg).2;simp;omega) (fun e=>HI.out.dis g e.symm hg))
   have r0:=ac w5 _ 0 _ _ _ k5
   have r1:=ac w5 _ 1 _ _ _ k5
   have rz:=fun k=>frozen_of_row w5 _ k _ _ k5
   have t0:=ac w5 _ 0 _ _ _ p5
   have t1:=ac w5 _ 1 _ _ _ p5
   have t2:=ac w5 _ 2 _ _ _ p5
   have t3:=ac w5 _ 3 _ _ _ p5
   have t4:=ac w5 _ 4 _ _ _ p5
   have s5s:=g5.size
   simp only[World.size_alloc]at s5s
   have o6:Off [w.heap.size+1] w5 (w5.setCell ⟨w.heap.size+1,0,none⟩ (.slice (some ⟨x5,0,none⟩) 1 y5)):=Off.setCell _ _ _ _
   have u7:((w5.setCell ⟨w.heap.size+1,0,none⟩ (.slice (some ⟨x5,0,none⟩) 1 y5)).alloc (.cells #[.int .u32 7,.int .i64 2,.int .i64 1,.int .i64 10,.int .u32 9] 59)).ownsRow (w.heap.size+2) 59 5 (.slice ua 0 uc) 0 (eT 0 i7):=cG (bF u5 (fun g hg=>o6.block g (by have:=(u5.lt g hg).2;omega) (by have:=(u5.lt g hg).1;simp;omega))) (ay (Below.refl _ _) _)
   have nk7:=au (w5.setCell ⟨w.heap.size+1,0,none⟩ (.slice (some ⟨x5,0,none⟩) 1 y5)) (.cells #[.int .u32 7,.int .i64 2,.int .i64 1,.int .i64 10,.int .u32 9] 59)
   have hs6:(w5.setCell ⟨w.heap.size+1,0,none⟩ (.slice (some ⟨x5,0,none⟩) 1 y5)).heap.size=w5.heap.size:=by simp[World.setCell]
   rw[hs6]at nk7
   have hcl7:∀ j u,(i7 0).cs[j]?=some u→((w5.setCell ⟨w.heap.size+1,0,none⟩ (.slice (some ⟨x5,0,none⟩) 1 y5)).alloc (.cells #[.int .u32 7,.int .i64 2,.int .i64 1,.int .i64 10,.int .u32 9] 59)).cell? ((⟨w5.heap.size,0,none⟩:Addr).add j)=some u:=ik nk7
   have hbs7:w.heap.size+2 ≤ ((w5.setCell ⟨w.heap.size+1,0,none⟩ (.slice (some ⟨x5,0,none⟩) 1 y5)).alloc (.cells #[.int .u32 7,.int .i64 2,.int .i64 1,.int .i64 10,.int .u32 9] 59)).heap.size:=by rw[World.size_alloc,hs6];omega
   have HH:Hid (_):=And.intro o5 (And.intro g5 (And.intro s5 (And.intro k5 (And.intro p5 (And.intro u5 (And.intro nb (And.intro nu b4)))))))
   clear o5 g5 s5 k5 p5 u5 hrow hcl hbs nk q0 q1 nk7 o6 nb nu
   go_wp2_with (at_builtin;refine wpList_append_own_at _ rfl (.tmp 30) (.tmp 32) 27 rfl (w.heap.size+2) 59 i0 (.agg #[.int .u32 0,.int .i64 0,.int .i64 0,.int .i64 0,.int .u32 0]) 5 40 Tryz.underlying27 hI hz0 hz1 hz2 rfl (by decide) (.slice ua 0 uc) 0 (eT 0 i7) rfl u7 ⟨w5.heap.size,0,none⟩ 1 1 (i7 0).cs rfl rfl hcl7 (jo _) (by unfold maxLen;omega) (by omega) hbs7 ?_)
   intro v8 w8 o8 g8 _ s8
   obtain⟨x8,y8,rfl,hx8⟩:=ie (n:=0) o8
   have key:Hid (Sp w (w8.setCell ⟨w.heap.size+1,1,none⟩ (.slice (some ⟨x8,0,none⟩) 1 y8)) 1 (some ⟨x5,0,none⟩) y5 (some ⟨x8,0,none⟩) y8∧w8.heap[w.heap.size+1]?=some (.cells #[.slice (some ⟨x5,0,none⟩) 1 y5,.slice ua 0 uc,.int .u32 50] 30 (0,0))):=by
    obtain⟨o5,g5,s5,k5,p5,u5,nb,nu,b4⟩:=HH.out
    have hI':=HI.out
    have o6:Off [w.heap.size+1] w5 (w5.setCell ⟨w.heap.size+1,0,none⟩ (.slice (some ⟨x5,0,none⟩) 1 y5)):=Off.setCell _ _ _ _
    have o9:Off [w.heap.size+1] w8 (w8.setCell ⟨w.heap.size+1,1,none⟩ (.slice (some ⟨x8,0,none⟩) 1 y8)):=Off.setCell _ _ _ _
    have g8s:=g8.size
    rw[World.size_alloc,hs6]at g8s
    have wr2:w.heap.size+2≤wr.heap.size:=by omega
    have thr:∀ k,k<w5.heap.size→k≠w.heap.size+1→(∀ g,(Value.slice ua 0 uc).ownBlock=some g→k≠g)→(w8.setCell ⟨w.heap.size+1,1,none⟩ (.slice (some ⟨x8,0,none⟩) 1 y8)).heap[k]?=w5.heap[k]?:=fun k hk h1 h2=>
     (o9.block k (by omega) (by simpa using h1)).trans ((g8.block k (by rw[World.size_alloc,hs6];omega) (fun e=>h2 k e.symm rfl)).trans (((ay (Below.refl _ _) _).block k (by rw[hs6];exact hk)).trans (o6.block k hk (by simpa using h1))))
    have kk6:(w5.setCell ⟨w.heap.size+1,0,none⟩ (.slice (some ⟨x5,0,none⟩) 1 y5)).heap[w.heap.size+1]?=some (.cells #[.slice (some ⟨x5,0,none⟩) 1 y5,.slice ua 0 uc,.int .u32 50] 30 (0,0)):=heap_setCell_same _ _ _ _ _ _ k5
    have kk8:w8.heap[w.heap.size+1]?=some (.cells #[.slice (some ⟨x5,0,none⟩) 1 y5,.slice ua 0 uc,.int .u32 50] 30 (0,0)):=(g8.block _ (by rw[World.size_alloc,hs6];omega) (fun e=>by have:=(nu _ e.symm).1;omega)).trans (((ay (Below.refl _ _) _).block _ (by rw[hs6];omega)).trans kk6)
    have b5:Below w.heap.size w w5:=(hI'.bel.trans (b4.mono (by omega))).grown g5 (by simp;omega) (fun j hj=>by have:=(nb j hj).1;omega)
    have l5:=(o5.lt x5 rfl).2
    have xu:∀ g,(Value.slice ua 0 uc).ownBlock=some g→x5≠g:=fun g hg e=>by
     subst e
     rcases s5 with h | h
     ·exact hI'.dis x5 (h.symm.trans rfl) hg
     ·have h2:some x5=some _:=h
      simp only[Option.some.injEq]at h2
      have:=(nu _ hg).2
      omega
    refine⟨⟨?_,?_,heap_setCell_same _ _ _ _ _ _ kk8,?_,?_,?_⟩,kk8⟩
    ·have b6:=o6.below b5 (fun k hk=>by simp at hk;omega) b5.size
     have b7:=(b6.alloc (by rw[hs6];exact b5.size) (.cells #[.int .u32 7,.int .i64 2,.int .i64 1,.int .i64 10,.int .u32 9] 59)).grown g8 (by rw[World.size_alloc,hs6];have:=b5.size;omega) (fun j hj=>by have:=(nu j hj).1;omega)
     exact o9.below b7 (fun k hk=>by simp at hk;omega) b7.size
    ·rw[thr _ (by omega) (by omega) (fun g hg=>by have:=(nu g hg).1;omega)]
     exact (g5.block _ (by simp;omega) (fun e=>by have:=(nb _ e.symm).1;omega)).trans ((b4.block _ (by omega)).trans hI'.rb)
    ·rw[cO]
     exact bF o5 (fun g hg=>by
      have e:g=x5:=by simpa [Value.ownBlock] using hg.symm
      subst e
      exact thr g l5 (by omega) xu)
    ·rw[cO]
     exact bF o8 (fun g hg=>by
      have e:g=x8:=by simpa [Value.ownBlock] using hg.symm
      subst e
      exact o9.block g (o8.lt g rfl).2 (by simp;omega))
    ·intro g hg hg'
     cases hg
     have e8:x8=x5:=by simpa [Value.ownBlock] using hg'
     rcases s8 with h | h
     ·have h2:some x8=_:=h
      exact xu x8 h2.symm e8.symm
     ·have h2:some x8=some _:=h
      simp only[Option.some.injEq]at h2
      omega
   have HS:Hid (_):=key.out.1
   have f0:=ac w8 _ 0 _ _ _ key.out.2
   have f1:=ac w8 _ 1 _ _ _ key.out.2
   have fz:=fun k=>frozen_of_row w8 _ k _ _ key.out.2
   clear key o8 g8 s8 HH u7 hcl7 hbs7 HI
   go_wp2_with fail
   go_roundw
   case rel=>exact⟨1,_,_,_,_,by omega,by go_num,HS⟩
   case measure=>simp[iS]
  ·obtain⟨i0,hI,hz0,hz1,hz2⟩:=info_parts eE
   go_wp2_with fail
   refine (hS _).mono ?_
   rintro r w3 ⟨rfl,b3⟩
   have q0:=af (ac wr _ 0 _ _ _ HI.out.xb) (ay b3 (.cells #[.int .u32 8,.int .i64 2,.int .i64 1,.int .i64 11,.int .u32 9] 59))
   have q1:=af (ac wr _ 1 _ _ _ HI.out.xb) (ay b3 (.cells #[.int .u32 8,.int .i64 2,.int .i64 1,.int .i64 11,.int .u32 9] 59))
   have b4:=ay (ay b3 (.cells #[.int .u32 8,.int .i64 2,.int .i64 1,.int .i64 11,.int .u32 9] 59)) (.cells #[.int .u32 8,.int .i64 2,.int .i64 1,.int .i64 11,.int .u32 9] 59)
   have hrow:=cG HI.out.ov b4
   have lx:=(Array.getElem?_eq_some_iff.1 HI.out.xb).1
   have s3:=b3.size
   have nk:=au (w3.alloc (.cells #[.int .u32 8,.int .i64 2,.int .i64 1,.int .i64 11,.int .u32 9] 59)) (.cells #[.int .u32 8,.int .i64 2,.int .i64 1,.int .i64 11,.int .u32 9] 59)
   simp only[World.size_alloc]at nk
   have hcl:∀ j u,(i7 1).cs[j]?=some u→((w3.alloc (.cells #[.int .u32 8,.int .i64 2,.int .i64 1,.int .i64 11,.int .u32 9] 59)).alloc (.cells #[.int .u32 8,.int .i64 2,.int .i64 1,.int .i64 11,.int .u32 9] 59)).cell? ((⟨w3.heap.size+1,0,none⟩:Addr).add j)=some u:=ik nk
   have hbs:w.heap.size+2 ≤ ((w3.alloc (.cells #[.int .u32 8,.int .i64 2,.int .i64 1,.int .i64 11,.int .u32 9] 59)).alloc (.cells #[.int .u32 8,.int .i64 2,.int .i64 1,.int .i64 11,.int .u32 9] 59)).heap.size:=by simp;omega
   go_wp2_with (at_builtin;refine wpList_append_own_at _ rfl (.tmp 24) (.tmp 26) 27 rfl (w.heap.size+2) 59 i0 (.agg #[.int .u32 0,.int .i64 0,.int .i64 0,.int .i64 0,.int .u32 0]) 5 40 Tryz.underlying27 hI hz0 hz1 hz2 rfl (by decide) (.slice va 1 vc) 1 (eT 1 i7) rfl hrow ⟨w3.heap.size+1,0,none⟩ 1 1 (i7 1).cs rfl rfl hcl (jo _) (by unfold maxLen;omega) (by omega) hbs ?_)
   intro v5 w5 o5 g5 _ s5
   obtain⟨x5,y5,rfl,hx5⟩:=ie (n:=1) o5
   have nb:=fun g (hg:(Value.slice va 1 vc).ownBlock=some g)=>HI.out.ov.lt g hg
   have nu:=fun g (hg:(Value.slice ua 1 uc).ownBlock=some g)=>HI.out.ou.lt g hg
   have k5:w5.heap[w.heap.size+1]?=some (.cells #[.slice va 1 vc,.slice ua 1 uc,.int .u32 50] 30 (0,0)):=(g5.block _ (by simp;omega) (fun e=>by have:=(nb _ e.symm).1;omega)).trans ((b4.block _ lx).trans HI.out.xb)
   have p5:w5.heap[w3.heap.size]?=some (.cells #[.int .u32 8,.int .i64 2,.int .i64 1,.int .i64 11,.int .u32 9] 59 (0,0)):=(g5.block _ (by simp;omega) (fun e=>by have:=(nb _ e.symm).2;omega)).trans (((ay (Below.refl _ _) _).block w3.heap.size (by simp)).trans (au w3 (.cells #[.int .u32 8,.int .i64 2,.int .i64 1,.int .i64 11,.int .u32 9] 59)))
   have u5:w5.ownsRow (w.heap.size+2) 59 5 (.slice ua 1 uc) 1 (eT 1 i7):=bF (cG HI.out.ou b4) (fun g hg=>g5.block g (by have:=(nu g hg).2;simp;omega) (fun e=>HI.out.dis g e.symm hg))
   have r0:=ac w5 _ 0 _ _ _ k5
   have r1:=ac w5 _ 1 _ _ _ k5
   have rz:=fun k=>frozen_of_row w5 _ k _ _ k5
   have t0:=ac w5 _ 0 _ _ _ p5
   have t1:=ac w5 _ 1 _ _ _ p5
   have t2:=ac w5 _ 2 _ _ _ p5
   have t3:=ac w5 _ 3 _ _ _ p5
   have t4:=ac w5 _ 4 _ _ _ p5
   have s5s:=g5.size
   simp only[World.size_alloc]at s5s
   have o6:Off [w.heap.size+1] w5 (w5.setCell ⟨w.heap.size+1,0,none⟩ (.slice (some ⟨x5,0,none⟩) 2 y5)):=Off.setCell _ _ _ _
   have u7:((w5.setCell ⟨w.heap.size+1,0,none⟩ (.slice (some ⟨x5,0,none⟩) 2 y5)).alloc (.cells #[.int .u32 8,.int .i64 2,.int .i64 1,.int .i64 11,.int .u32 9] 59)).ownsRow (w.heap.size+2) 59 5 (.slice ua 1 uc) 1 (eT 1 i7):=cG (bF u5 (fun g hg=>o6.block g (by have:=(u5.lt g hg).2;omega) (by have:=(u5.lt g hg).1;simp;omega))) (ay (Below.refl _ _) _)
   have nk7:=au (w5.setCell ⟨w.heap.size+1,0,none⟩ (.slice (some ⟨x5,0,none⟩) 2 y5)) (.cells #[.int .u32 8,.int .i64 2,.int .i64 1,.int .i64 11,.int .u32 9] 59)
   have hs6:(w5.setCell ⟨w.heap.size+1,0,none⟩ (.slice (some ⟨x5,0,none⟩) 2 y5)).heap.size=w5.heap.size:=by simp[World.setCell]
   rw[hs6]at nk7
   have hcl7:∀ j u,(i7 1).cs[j]?=some u→((w5.setCell ⟨w.heap.size+1,0,none⟩ (.slice (some ⟨x5,0,none⟩) 2 y5)).alloc (.cells #[.int .u32 8,.int .i64 2,.int .i64 1,.int .i64 11,.int .u32 9] 59)).cell? ((⟨w5.heap.size,0,none⟩:Addr).add j)=some u:=ik nk7
   have hbs7:w.heap.size+2 ≤ ((w5.setCell ⟨w.heap.size+1,0,none⟩ (.slice (some ⟨x5,0,none⟩) 2 y5)).alloc (.cells #[.int .u32 8,.int .i64 2,.int .i64 1,.int .i64 11,.int .u32 9] 59)).heap.size:=by rw[World.size_alloc,hs6];omega
   have HH:Hid (_):=And.intro o5 (And.intro g5 (And.intro s5 (And.intro k5 (And.intro p5 (And.intro u5 (And.intro nb (And.intro nu b4)))))))
   clear o5 g5 s5 k5 p5 u5 hrow hcl hbs nk q0 q1 nk7 o6 nb nu
   go_wp2_with (at_builtin;refine wpList_append_own_at _ rfl (.tmp 30) (.tmp 32) 27 rfl (w.heap.size+2) 59 i0 (.agg #[.int .u32 0,.int .i64 0,.int .i64 0,.int .i64 0,.int .u32 0]) 5 40 Tryz.underlying27 hI hz0 hz1 hz2 rfl (by decide) (.slice ua 1 uc) 1 (eT 1 i7) rfl u7 ⟨w5.heap.size,0,none⟩ 1 1 (i7 1).cs rfl rfl hcl7 (jo _) (by unfold maxLen;omega) (by omega) hbs7 ?_)
   intro v8 w8 o8 g8 _ s8
   obtain⟨x8,y8,rfl,hx8⟩:=ie (n:=1) o8
   have key:Hid (Sp w (w8.setCell ⟨w.heap.size+1,1,none⟩ (.slice (some ⟨x8,0,none⟩) 2 y8)) 2 (some ⟨x5,0,none⟩) y5 (some ⟨x8,0,none⟩) y8∧w8.heap[w.heap.size+1]?=some (.cells #[.slice (some ⟨x5,0,none⟩) 2 y5,.slice ua 1 uc,.int .u32 50] 30 (0,0))):=by
    obtain⟨o5,g5,s5,k5,p5,u5,nb,nu,b4⟩:=HH.out
    have hI':=HI.out
    have o6:Off [w.heap.size+1] w5 (w5.setCell ⟨w.heap.size+1,0,none⟩ (.slice (some ⟨x5,0,none⟩) 2 y5)):=Off.setCell _ _ _ _
    have o9:Off [w.heap.size+1] w8 (w8.setCell ⟨w.heap.size+1,1,none⟩ (.slice (some ⟨x8,0,none⟩) 2 y8)):=Off.setCell _ _ _ _
    have g8s:=g8.size
    rw[World.size_alloc,hs6]at g8s
    have wr2:w.heap.size+2≤wr.heap.size:=by omega
    have thr:∀ k,k<w5.heap.size→k≠w.heap.size+1→(∀ g,(Value.slice ua 1 uc).ownBlock=some g→k≠g)→(w8.setCell ⟨w.heap.size+1,1,none⟩ (.slice (some ⟨x8,0,none⟩) 2 y8)).heap[k]?=w5.heap[k]?:=fun k hk h1 h2=>
     (o9.block k (by omega) (by simpa using h1)).trans ((g8.block k (by rw[World.size_alloc,hs6];omega) (fun e=>h2 k e.symm rfl)).trans (((ay (Below.refl _ _) _).block k (by rw[hs6];exact hk)).trans (o6.block k hk (by simpa using h1))))
    have kk6:(w5.setCell ⟨w.heap.size+1,0,none⟩ (.slice (some ⟨x5,0,none⟩) 2 y5)).heap[w.heap.size+1]?=some (.cells #[.slice (some ⟨x5,0,none⟩) 2 y5,.slice ua 1 uc,.int .u32 50] 30 (0,0)):=heap_setCell_same _ _ _ _ _ _ k5
    have kk8:w8.heap[w.heap.size+1]?=some (.cells #[.slice (some ⟨x5,0,none⟩) 2 y5,.slice ua 1 uc,.int .u32 50] 30 (0,0)):=(g8.block _ (by rw[World.size_alloc,hs6];omega) (fun e=>by have:=(nu _ e.symm).1;omega)).trans (((ay (Below.refl _ _) _).block _ (by rw[hs6];omega)).trans kk6)
    have b5:Below w.heap.size w w5:=(hI'.bel.trans (b4.mono (by omega))).grown g5 (by simp;omega) (fun j hj=>by have:=(nb j hj).1;omega)
    have l5:=(o5.lt x5 rfl).2
    have xu:∀ g,(Value.slice ua 1 uc).ownBlock=some g→x5≠g:=fun g hg e=>by
     subst e
     rcases s5 with h | h
     ·exact hI'.dis x5 (h.symm.trans rfl) hg
     ·have h2:some x5=some _:=h
      simp only[Option.some.injEq]at h2
      have:=(nu _ hg).2
      omega
    refine⟨⟨?_,?_,heap_setCell_same _ _ _ _ _ _ kk8,?_,?_,?_⟩,kk8⟩
    ·have b6:=o6.below b5 (fun k hk=>by simp at hk;omega) b5.size
     have b7:=(b6.alloc (by rw[hs6];exact b5.size) (.cells #[.int .u32 8,.int .i64 2,.int .i64 1,.int .i64 11,.int .u32 9] 59)).grown g8 (by rw[World.size_alloc,hs6];have:=b5.size;omega) (fun j hj=>by have:=(nu j hj).1;omega)
     exact o9.below b7 (fun k hk=>by simp at hk;omega) b7.size
    ·rw[thr _ (by omega) (by omega) (fun g hg=>by have:=(nu g hg).1;omega)]
     exact (g5.block _ (by simp;omega) (fun e=>by have:=(nb _ e.symm).1;omega)).trans ((b4.block _ (by omega)).trans hI'.rb)
    ·rw[cO]
     exact bF o5 (fun g hg=>by
      have e:g=x5:=by simpa [Value.ownBlock] using hg.symm
      subst e
      exact thr g l5 (by omega) xu)
    ·rw[cO]
     exact bF o8 (fun g hg=>by
      have e:g=x8:=by simpa [Value.ownBlock] using hg.symm
      subst e
      exact o9.block g (o8.lt g rfl).2 (by simp;omega))
    ·intro g hg hg'
     cases hg
     have e8:x8=x5:=by simpa [Value.ownBlock] using hg'
     rcases s8 with h | h
     ·have h2:some x8=_:=h
      exact xu x8 h2.symm e8.symm
     ·have h2:some x8=some _:=h
      simp only[Option.some.injEq]at h2
      omega
   have HS:Hid (_):=key.out.1
   have f0:=ac w8 _ 0 _ _ _ key.out.2
   have f1:=ac w8 _ 1 _ _ _ key.out.2
   have fz:=fun k=>frozen_of_row w8 _ k _ _ key.out.2
   clear key o8 g8 s8 HH u7 hcl7 hbs7 HI
   go_wp2_with fail
   go_roundw
   case rel=>exact⟨2,_,_,_,_,by omega,by go_num,HS⟩
   case measure=>simp[iS]
  ·have x0:=ac wr _ 0 _ _ _ HI.out.xb
   have x1:=ac wr _ 1 _ _ _ HI.out.xb
   have x2:=ac wr _ 2 _ _ _ HI.out.xb
   have y0:=ac wr _ 0 _ _ _ HI.out.rb
   have y1:=ac wr _ 1 _ _ _ HI.out.rb
   have y2:=ac wr _ 2 _ _ _ HI.out.rb
   have yz:=fun k=>frozen_of_row wr _ k _ _ HI.out.rb
   go_wp2_with fail
   refine bodyPost_ret (v:=.agg #[.slice va 2 vc,.slice ua 2 uc,.int .u32 50]) (by simp[results,Tryz.results30,go_sem,y0,y1,y2]) rfl ?_
   have o:Off [w.heap.size] wr (((wr.setCell ⟨w.heap.size,0,none⟩ (.slice va 2 vc)).setCell ⟨w.heap.size,1,none⟩ (.slice ua 2 uc)).setCell ⟨w.heap.size,2,none⟩ (.int .u32 50)):=((Off.setCell _ _ _ _).trans (Off.setCell _ _ _ _)).trans (Off.setCell _ _ _ _)
   have hI:=HI.out
   exact⟨va,vc,ua,uc,rfl,(bF hI.ov (fun g hg=>o.block g (hI.ov.lt g hg).2 (by have:=(hI.ov.lt g hg).1;simp;omega))),(bF hI.ou (fun g hg=>o.block g (hI.ou.lt g hg).2 (by have:=(hI.ou.lt g hg).1;simp;omega))),hI.dis,o.below hI.bel (fun k hk=>by simp at hk;omega) hI.bel.size⟩
theorem zL (w:World):Calls Tryz.prog 12 #[.int .i64 1,.int .u32 9] w fun r w'=>∃ g0 c0 g1 c1,r=.returned (.agg #[.slice (some ⟨g0,0,none⟩) 2 c0,.slice (some ⟨g1,0,none⟩) 2 c1,.int .u32 50])∧Hid (2≤c0∧2≤c1∧PqRow w' (some ⟨g0,0,none⟩) 2 i7∧PqRow w' (some ⟨g1,0,none⟩) 2 i7∧Below w.heap.size w w'):=by
 have hP:=fun wx=>wC wx
 have kx:=au w (.cells #[.slice none 0 0,.slice none 0 0,.int .u32 0] 30)
 have bx:=ay (Below.refl _ w) (.cells #[.slice none 0 0,.slice none 0 0,.int .u32 0] 30)
 have zx:=iB w (.cells #[.slice none 0 0,.slice none 0 0,.int .u32 0] 30)
 go_enter Tryz.func12,Tryz.ntmps12
 go_wp2_with fail
 refine (hP _).mono ?_
 rintro r w1 ⟨a0,c0,a1,c1,rfl,H1⟩
 obtain⟨g0,rfl,hg0⟩:=iE H1.out.1 (by decide)
 obtain⟨g1,rfl,hg1⟩:=iE H1.out.2.1 (by decide)
 clear hP
 have b1:=H1.out.2.2.2
 have kx1:=(b1.block w.heap.size (by rw[zx];omega)).trans kx
 have b2:Below w1.heap.size w1 (w1.alloc (.cells #[.slice (some ⟨g0,0,none⟩) 2 c0,.slice (some ⟨g1,0,none⟩) 2 c1,.int .u32 50] 30)):=ay (Below.refl _ _) _
 have ky:=au w1 (.cells #[.slice (some ⟨g0,0,none⟩) 2 c0,.slice (some ⟨g1,0,none⟩) 2 c1,.int .u32 50] 30)
 have lx1:w.heap.size<w1.heap.size:=(Array.getElem?_eq_some_iff.1 kx1).1
 have kx2:=(b2.block w.heap.size lx1).trans kx1
 have o0:=cG H1.out.1 b2
 have o1:=cG H1.out.2.1 b2
 have hg01:g0≠g1:=fun e=>H1.out.2.2.1 g0 rfl (by rw[e];rfl)
 obtain⟨w2,hw2⟩:∃ z,(w1.alloc (.cells #[.slice (some ⟨g0,0,none⟩) 2 c0,.slice (some ⟨g1,0,none⟩) 2 c1,.int .u32 50] 30))=z:=⟨_,rfl⟩
 rw[hw2]at ky kx2 o0 o1 b2
 obtain⟨cur0,k0⟩:=aG o0 rfl
 obtain⟨cur1,k1⟩:=aG o1 rfl
 have own_at0:∀ j u,(eT 2 i7)[j]?=some u→cur0[j]?=some u:=fun j u hu=>(ac w2 g0 j _ _ _ k0).symm.trans (iL o0 j u hu)
 have own_at1:∀ j u,(eT 2 i7)[j]?=some u→cur1[j]?=some u:=fun j u hu=>(ac w2 g1 j _ _ _ k1).symm.trans (iL o1 j u hu)
 have s00:w2.setCell ⟨g0,4,none⟩ (.int .u32 9)=w2:=dK k0 (own_at0 (4) _ rfl)
 have e00:w2.cell? ⟨g0,4,none⟩=some (.int .u32 9):=(ac w2 g0 4 _ _ _ k0).trans (own_at0 (4) _ rfl)
 have z00:w2.frozen? ⟨g0,4,none⟩=false:=frozen_of_row w2 g0 4 _ _ k0
 have s01:w2.setCell ⟨g0,9,none⟩ (.int .u32 9)=w2:=dK k0 (own_at0 (9) _ rfl)
 have e01:w2.cell? ⟨g0,9,none⟩=some (.int .u32 9):=(ac w2 g0 9 _ _ _ k0).trans (own_at0 (9) _ rfl)
 have z01:w2.frozen? ⟨g0,9,none⟩=false:=frozen_of_row w2 g0 9 _ _ k0
 have s10:w2.setCell ⟨g1,4,none⟩ (.int .u32 9)=w2:=dK k1 (own_at1 (4) _ rfl)
 have e10:w2.cell? ⟨g1,4,none⟩=some (.int .u32 9):=(ac w2 g1 4 _ _ _ k1).trans (own_at1 (4) _ rfl)
 have z10:w2.frozen? ⟨g1,4,none⟩=false:=frozen_of_row w2 g1 4 _ _ k1
 have s11:w2.setCell ⟨g1,9,none⟩ (.int .u32 9)=w2:=dK k1 (own_at1 (9) _ rfl)
 have e11:w2.cell? ⟨g1,9,none⟩=some (.int .u32 9):=(ac w2 g1 9 _ _ _ k1).trans (own_at1 (9) _ rfl)
 have z11:w2.frozen? ⟨g1,9,none⟩=false:=frozen_of_row w2 g1 9 _ _ k1
 have y0:=ac w2 _ 0 _ _ _ ky
 have y1:=ac w2 _ 1 _ _ _ ky
 have y2:=ac w2 _ 2 _ _ _ ky
 have x0:=ac w2 _ 0 _ _ _ kx2
 have x1:=ac w2 _ 1 _ _ _ kx2
 have x2:=ac w2 _ 2 _ _ _ kx2
 have xz:=fun k=>frozen_of_row w2 _ k _ _ kx2
 have HF:Hid (_):=And.intro o0 (And.intro o1 (And.intro b2 (And.intro b1 (And.intro hg0 hg1))))
 have HE:Hid ((w1.alloc (.cells #[.slice (some ⟨g0,0,none⟩) 2 c0,.slice (some ⟨g1,0,none⟩) 2 c1,.int .u32 50] 30))=w2):=hw2
 have HX:Hid (_):=And.intro bx zx
 clear ky kx2 o0 o1 b2 b1 k0 k1 own_at0 own_at1 kx kx1 hw2 H1 bx
 go_upto_region 2 with fail
 rw[HE.out]
 go_wp2_with fail
 refine wp_loop_rounds 3 ?_
 rw[rounds_succ]
 go_wp2_with fail
 rw[rounds_succ]
 go_wp2_with fail
 rw[rounds_succ]
 go_wp2_with fail
 refine bodyPost_ret (v:=.agg #[.slice (some ⟨g0,0,none⟩) 2 c0,.slice (some ⟨g1,0,none⟩) 2 c1,.int .u32 50]) (by simp[results,Tryz.results12,go_sem,x0,x1,x2]) rfl ?_
 have o:Off [w.heap.size] w2 (((w2.setCell ⟨w.heap.size,0,none⟩ (.slice (some ⟨g0,0,none⟩) 2 c0)).setCell ⟨w.heap.size,1,none⟩ (.slice (some ⟨g1,0,none⟩) 2 c1)).setCell ⟨w.heap.size,2,none⟩ (.int .u32 50)):=((Off.setCell _ _ _ _).trans (Off.setCell _ _ _ _)).trans (Off.setCell _ _ _ _)
 obtain⟨o0,o1,b2,b1,hg0,hg1⟩:=HF.out
 obtain⟨bx,zx⟩:=HX.out
 have bz:Below w.heap.size w w2:=(bx.trans (b1.mono bx.size)).trans (b2.mono (Nat.le_trans bx.size b1.size))
 exact⟨g0,c0,g1,c1,rfl,m6 o0 (by decide),m6 o1 (by decide),PqRow.ofOwn (bF o0 (fun g hg=>o.block g (o0.lt g hg).2 (by have:=(o0.lt g hg).1;rw[zx]at this;simp;omega))),PqRow.ofOwn (bF o1 (fun g hg=>o.block g (o1.lt g hg).2 (by have:=(o1.lt g hg).1;rw[zx]at this;simp;omega))),o.below bz (fun k hk=>by simp at hk;omega) bz.size⟩
open Go.RowKit Go.Maps
section
variable {P:Pm}
end
end Go.Proofs.YtdmjfemodihfhaaGreat
namespace Go.Proofs.YtdmjfemodihfhaaGreat
set_option maxRecDepth 100000
open Go.RowKit Go.Maps
set_option linter.unusedVariables false
def iA (T:Nat→Nat):Obj:=.cells #[.int .i64 (T 0:Nat),.int .i64 (T 1:Nat),.int .i64 (T 2:Nat),.int .i64 (T 3:Nat)] 3 (0,0)
theorem gt {w:World} {q:Nat} {T:Nat→Nat} (h:w.heap[q]?=some (iA T)) {a:Nat} (ha:a<4) (v:Nat):(w.setCell ⟨q,a,none⟩ (.int .i64 (v:Nat))).heap[q]?=some (iA (aS T a v)):=by
 have k:(w.setCell ⟨q,a,none⟩ (.int .i64 (v:Nat))).heap[q]?=some (.cells ((#[.int .i64 (T 0:Nat),.int .i64 (T 1:Nat),.int .i64 (T 2:Nat),.int .i64 (T 3:Nat)]:Array Value).setIfInBounds a (.int .i64 (v:Nat))) 3 (0,0)):=heap_setCell_same _ _ _ _ _ _ h
 have:a=0∨a=1∨a=2∨a=3:=by omega
 rcases this with rfl | rfl | rfl | rfl
 all_goals exact k
theorem dx {w:World} {q:Nat} {T:Nat→Nat} (h:w.heap[q]?=some (iA T)) {a:Nat} (ha:a<4):w.cell? ⟨q,a,none⟩=some (.int .i64 (T a:Nat))∧w.frozen? ⟨q,a,none⟩=false:=by
 refine⟨?_,frozen_of_row w q a _ _ h⟩
 rw[ac w q a _ _ _ h]
 have:a=0∨a=1∨a=2∨a=3:=by omega
 rcases this with rfl | rfl | rfl | rfl <;> rfl
theorem PWn.turnB {e:Nat→Nat} {w0 w w':World} {t:Nat→Thing} {L:Pw} {S:Ws} {i q:Nat} {ob ob':Obj} (h:PWn e w0 (aA t i (cH [(q,ob)])) L w S) (hi:∀ j,i≠e j) (o:Off [q] w w') (hob:w'.heap[q]?=some ob'):PWn e w0 (aA t i (cH [(q,ob')])) L w' S:=by
 obtain⟨t1,L1,h1,hs,hx,he⟩:=h
 have e1:t1 i=cH [(q,ob)]:=by rw[he i hi,ai]
 have u1:(t1 i).U=[q]:=by rw[e1];rfl
 have lq:=(Array.getElem?_eq_some_iff.1 hob).1
 have hq:=h1.1.lt i q (by rw[u1];exact List.mem_singleton.2 rfl)
 refine⟨aA t1 i (cH [(q,ob')]),L1,⟨h1.1.turn i _ (by rw[u1];exact o) ?_ ?_ ?_,h1.2.1,fun j=>by rw[ag _ _ (fun z=>hi j z.symm)];exact h1.2.2 j⟩,hs,hx,fun k hk=>?_⟩
 ·intro p hp
  obtain rfl:=List.mem_singleton.1 hp
  exact hob
 ·intro k hk
  have hk:k ∈ [q]:=hk
  obtain rfl:=List.mem_singleton.1 hk
  exact⟨hq.1,lq⟩
 ·intro k hk j hj
  have hk:k ∈ [q]:=hk
  exact h1.1.dis i j (fun z=>hj z.symm) k (by rw[u1];exact hk)
 ·by_cases z:k=i
  ·subst z
   rw[ai,ai]
  ·rw[ag _ _ z,ag _ _ z,he k hk,ag _ _ z]
abbrev aar (A:Array Value) (s:Sh):Prop:=Enc A s.st s.ss s.nm s.sn s.dc s.v.lat (ak s.v) (ax s.v)
abbrev aaw (A:Array Value) (s:Sd):Prop:=Enc A s.st s.ss s.nm s.sn s.dc s.v.lat (ak s.v) (ax s.v)
def RwC (A hV dV:Array Value) (S:Ws) (m:Mv):Prop:=hV.size=9∧hV.all (·.oneCell')=true∧dV.size=9∧dV.all (·.oneCell')=true∧aar hV ((S.play m).S.hs m.c.toNat)∧aaw dV ((S.play m).S.ds m.c.toNat)∧A.toList[9]?=some (.int .i64 (S.play m).e)∧(∀ j v,hV.toList[j]?=some v→A.toList[11+j]?=some v)∧∀ j v,dV.toList[j]?=some v→A.toList[20+j]?=some v
theorem at9 {A:Array Value} {n:Nat} {v0 v1 v2 v3 v4 v5 v6 v7 v8:Value} (h0:A.toList[n+0]?=some v0) (h1:A.toList[n+1]?=some v1) (h2:A.toList[n+2]?=some v2) (h3:A.toList[n+3]?=some v3) (h4:A.toList[n+4]?=some v4) (h5:A.toList[n+5]?=some v5) (h6:A.toList[n+6]?=some v6) (h7:A.toList[n+7]?=some v7) (h8:A.toList[n+8]?=some v8):∀ j v,(#[v0,v1,v2,v3,v4,v5,v6,v7,v8]:Array Value).toList[j]?=some v→A.toList[n+j]?=some v:=fun j v hv=>by
 have hj:j<9:=(List.getElem?_eq_some_iff.1 hv).1
 have:j=0∨j=1∨j=2∨j=3∨j=4∨j=5∨j=6∨j=7∨j=8:=by omega
 rcases this with rfl | rfl | rfl | rfl | rfl | rfl | rfl | rfl | rfl
 ·exact h0.trans hv
 ·exact h1.trans hv
 ·exact h2.trans hv
 ·exact h3.trans hv
 ·exact h4.trans hv
 ·exact h5.trans hv
 ·exact h6.trans hv
 ·exact h7.trans hv
 ·exact h8.trans hv
theorem yl {w0 w:World} {t:Nat→Thing} {L:Pw} {S:Ws} {i:Nat} (m:Mv) (d:Option Addr) (c:Nat) (h:PWn ev w0 t L w S) (F:Fre ev t i) (I:S.In) (ok:m.Ok) (hn:0<S.n) (R:Row8 w d m.l c m.b) (hd:∀ y,d=some y→0<m.l→y.block≠L.x) (hl:m.l≤140737488351232):Calls Tryz.prog 15 #[.pointer (some ⟨L.x,0,none⟩),.agg #[.int .i64 m.k,.int .i64 m.c,.int .i64 m.s,.int .i64 m.f,.int .i64 m.a,.int .u32 (m.w:Nat),.int .i64 m.n,.bool m.h,.slice d m.l c]] w fun r w'=>∃ (A:Array Value) (E:Int),r=.returned (.tuple #[.agg A,.int .i64 E])∧A.size=29∧A.all (·.oneCell')=true∧Hid (E=S.bad m∧PWn ev w0 t L w' (S.play m).S∧(S.bad m=0→∃ hV dV,RwC A hV dV S m)):=by
 obtain⟨t1,L1,h1,hs,hx,he⟩:=h
 subst hs
 have F1:=F.els he
 have hP:=uP ev w0 w t1 L1 i m d c h1 F1 I ok hn R (fun y hy h0=>by rw[hx.x];exact hd y hy h0) hl
 rw[hx.x]at hP
 refine hP.mono ?_
 rintro r w' (⟨hb,rfl,H⟩ | ⟨hb,a',c',ah,ch,ad,cd,rfl,H⟩)
 ·refine⟨_,_,rfl,rfl,by kernel_rfl,rfl,?_,fun q=>absurd q hb⟩
  have hp:(L1.S.play m).S=L1.S:=by
   unfold Ws.play
   rw[if_pos hb]
  rw[hp]
  exact PWn.bind hx he H.out.1.n
 ·exact⟨_,_,rfl,rfl,by kernel_rfl,hb.symm,PWn.bind hx he (H.out.dropR F1),fun _=>⟨#[_,_,_,_,_,_,_,_,.slice ah _ ch],#[_,_,_,_,_,_,_,_,.slice ad _ cd],rfl,by kernel_rfl,rfl,by kernel_rfl,⟨rfl,rfl,rfl,rfl,rfl,rfl,rfl,rfl⟩,⟨rfl,rfl,rfl,rfl,rfl,rfl,rfl,rfl⟩,rfl,at9 (n:=11) rfl rfl rfl rfl rfl rfl rfl rfl rfl,at9 (n:=20) rfl rfl rfl rfl rfl rfl rfl rfl rfl⟩⟩
theorem zS (w:World):(Instr.makeSlice 57 (.int .i64 4) (.int .i64 4)).run Tryz.prog w=.ok (.slice (some ⟨w.heap.size,0,none⟩) 4 4) (w.alloc (.cells #[.int .i64 0,.int .i64 0,.int .i64 0,.int .i64 0] 3)):=by kernel_rfl
theorem qx:∀ k,k<2→Pok (qh k):=fun k hk=>by
 have:k=0∨k=1:=by omega
 rcases this with rfl | rfl <;> exact⟨by unfold rD qh;decide,by decide,by decide⟩
theorem vV:zO 2 2 50 (fun i=>(qh i).q) (fun i=>(qh i).q)=0:=by decide
def Wt (t dc:Nat) (v:Vs) (c:Nat):Prop:=min c t≤dc∧(t≤dc→v.lat≠0∧v.fr=false)
def Kpv (v v':Vs):Prop:=v.lat≠0∧v.fr=false→v'.lat≠0∧v'.fr=false
theorem Kpv.refl (v:Vs):Kpv v v:=fun h=>h
theorem Kpv.trans {a b c:Vs} (h:Kpv a b) (k:Kpv b c):Kpv a c:=fun e=>k (h e)
theorem nv (v:Vs) (x:Int):Kpv v (bZ v x):=by
 intro h
 unfold bZ
 rw[if_neg h.1]
 split
 ·exact h
 ·exact⟨h.1,rfl⟩
theorem fc (v:Vs) (o:Bool):Kpv v (dI v o):=by
 intro h
 unfold dI
 split
 ·exact h
 ·exact h
theorem qG (v:Vs):Kpv v (iy v):=by
 intro h
 unfold iy
 split
 ·next q=>
  unfold ak at q
  rw[h.2]at q
  simp at q
 ·exact h
def yZ (dc dc':Nat) (v v':Vs) (e:Int):Prop:=(dc'=dc∧Kpv v v')∨(dc'=0∧(e=0∨e=70))
theorem Wt.keep {t dc c dc':Nat} {v v':Vs} (h:Wt t dc v c) (h1:dc'=dc) (k:Kpv v v'):Wt t dc' v' c:=by
 subst h1
 exact⟨h.1,fun q=>k (h.2 q)⟩
theorem Wt.zero {t:Nat} (ht:1≤t) (v:Vs):Wt t 0 v 0:=⟨by omega,fun q=>by omega⟩
theorem Wt.less {t dc c:Nat} {v:Vs} (h:Wt t dc v c):Wt t dc v 0:=⟨by omega,h.2⟩
theorem Wt.kdc {t dc c dc':Nat} {v v':Vs} {e:Int} (ht:1≤t) (h:Wt t dc v c) (k:yZ dc dc' v v' e):Wt t dc' v' (if e=0∨e=70 then 0 else c):=by
 rcases k with ⟨k1,k2⟩ | ⟨k1,k2⟩
 ·split
  ·exact (h.keep k1 k2).less
  ·exact h.keep k1 k2
 ·rw[if_pos k2,k1]
  exact Wt.zero ht _
section
variable {P:Pm}
theorem ln (s:Sh) (x:Int):(aN s x).dc=s.dc:=by unfold aN d7;split <;> rfl
theorem kJ (s:Sd) (x:Int):(aB s x).dc=s.dc:=by unfold aB fT;split <;> rfl
theorem gh (s:Sh) (x:Int):(aN s x).dc=s.dc∧Kpv s.v (aN s x).v:=⟨ln s x,by rw[iw];exact nv _ _⟩
theorem eO (s:Sd) (x:Int):(aB s x).dc=s.dc∧Kpv s.v (aB s x).v:=⟨kJ s x,by rw[fJ];exact nv _ _⟩
theorem qo (s:Sh):(gW s).dc=s.dc∧Kpv s.v (gW s).v:=⟨(gh s 80).1,(gh s 80).2.trans (fc _ _)⟩
theorem uo (s:Sh):(aY s).dc=s.dc∧Kpv s.v (aY s).v:=by
 unfold aY
 split
 ·exact⟨rfl,Kpv.refl _⟩
 ·split
  ·exact⟨rfl,Kpv.refl _⟩
  ·split
   ·exact⟨(gh { s with ms:=s.ms+1 } 131).1,(gh { s with ms:=s.ms+1 } 131).2.trans (fc _ _)⟩
   ·exact⟨rfl,fc _ _⟩
theorem oj (s:Sh):(bE P s).dc=s.dc∧Kpv s.v (bE P s).v:=by
 unfold bE
 split
 ·exact⟨rfl,Kpv.refl _⟩
 ·have h1:=uo s
  have h2:(bu P (aY s)).1.dc=(aY s).dc∧Kpv (aY s).v (bu P (aY s)).1.v:=by
   unfold bu
   split
   ·exact⟨rfl,Kpv.refl _⟩
   ·split
    ·exact⟨rfl,Kpv.refl _⟩
    ·split
     ·exact⟨rfl,Kpv.refl _⟩
     ·split
      ·exact qo { aY s with sn:=(aY s).sn+1 }
      ·exact⟨rfl,Kpv.refl _⟩
  exact⟨h2.1.trans h1.1,h1.2.trans h2.2⟩
theorem lB (s:Sh) (l:Nat) (b:Nat→Nat) (h:Bool):(cr P s l b h).dc=s.dc∧Kpv s.v (cr P s l b h).v:=by
 unfold cr
 split <;> exact⟨rfl,Kpv.refl _⟩
theorem te (s:Sh) (len:Nat) (bs:Nat→Nat):yZ s.dc (bT P s len bs).dc s.v (bT P s len bs).v (cY P s len bs):=by
 unfold bT
 split
 ·exact .inl ⟨rfl,Kpv.refl _⟩
 ·next h=>
  refine .inr ⟨?_,.inl (by simpa using h)⟩
  unfold cy
  split
  ·rfl
  ·split
   ·rfl
   ·split
    ·rfl
    ·split
     ·rfl
     ·split
      ·exact (qo (qC { s with nm:=aP bs 9 })).1
      ·rfl
theorem gX {t dc c k:Nat} {v:Vs} (ht:t≤1073741824) (h:Wt t dc v c) (v':Vs) (hv:(gu t dc k=true→v'=bZ v 100)∧(gu t dc k=false→v'=v)):Wt t (tk t dc k) v' (min 1073741824 (c+k)):=by
 have h1:=h.1
 refine⟨by unfold tk;omega,fun q=>?_⟩
 by_cases z:gu t dc k=true
 ·rw[hv.1 z]
  unfold bZ
  rw[if_neg (by decide)]
  refine⟨?_,rfl⟩
  show (if v.lat=0 then (100:Int) else v.lat)≠0
  split
  ·decide
  ·next y=>exact y
 ·have z:gu t dc k=false:=by simpa using z
  rw[hv.2 z]
  refine h.2 ?_
  unfold gu at z
  have z2:=of_decide_eq_false z
  unfold tk at q
  omega
theorem tH {s:Sh} {c:Nat} (ht:P.t≤1073741824) (h:Wt P.t s.dc s.v c) {k:Int} (hk:0≤k):Wt P.t (cN P s k).dc (cN P s k).v (min 1073741824 (c+k.toNat)):=by
 unfold cN
 rw[if_neg (by omega)]
 split
 ·next z=>
  have:=gX ht h (bZ s.v 100) ⟨fun _=>rfl,fun y=>by rw[z]at y;cases y⟩ (k:=k.toNat)
  rw[ln,iw]
  exact this
 ·next z=>exact gX ht h s.v ⟨fun y=>absurd y z,fun _=>rfl⟩ (k:=k.toNat)
theorem uD {s:Sd} {c:Nat} (ht:P.t≤1073741824) (h:Wt P.t s.dc s.v c) {k:Int} (hk:0≤k):Wt P.t (cE P s k).dc (cE P s k).v (if cD s k=0 then min 1073741824 (c+k.toNat) else c):=by
 by_cases h6:s.st=6
 ·have e1:cE P s k=s:=by unfold cE;rw[if_pos h6]
  have e2:cD s k=70:=by unfold cD;rw[if_pos h6]
  rw[e1,e2,if_neg (by decide)]
  exact h
 ·have e2:cD s k=0:=by unfold cD;rw[if_neg h6,if_neg (by omega)]
  have e1:cE P s k=(if gu P.t s.dc k.toNat=true then aB { s with dc:=tk P.t s.dc k.toNat } 100 else { s with dc:=tk P.t s.dc k.toNat }):=by unfold cE;rw[if_neg h6,if_neg (by omega)]
  rw[e1,e2,if_pos rfl]
  split
  ·next z=>
   have:=gX ht h (bZ s.v 100) ⟨fun _=>rfl,fun y=>by rw[z]at y;cases y⟩ (k:=k.toNat)
   rw[kJ,fJ]
   exact this
  ·next z=>exact gX ht h s.v ⟨fun y=>absurd y z,fun _=>rfl⟩ (k:=k.toNat)
theorem ii (s:Sd):(bj s).dc=s.dc∧Kpv s.v (bj s).v:=by
 unfold bj
 split
 ·split
  ·exact⟨rfl,Kpv.refl _⟩
  ·split
   ·exact⟨(eO { s with od:=s.od+1 } 131).1,(eO { s with od:=s.od+1 } 131).2.trans (fc _ _)⟩
   ·exact⟨rfl,fc _ _⟩
 ·exact⟨rfl,Kpv.refl _⟩
theorem ks (s:Sd) (l:Nat) (b:Nat→Nat) (h:Bool):(cF P s l b h).dc=s.dc∧Kpv s.v (cF P s l b h).v:=by
 unfold cF
 split
 ·exact⟨rfl,Kpv.refl _⟩
 ·split <;> exact⟨rfl,Kpv.refl _⟩
theorem qk (s:Sd):(dQ s).dc=s.dc∧Kpv s.v (dQ s).v:=by
 unfold dQ
 split
 ·exact⟨rfl,Kpv.refl _⟩
 ·exact⟨rfl,qG _⟩
def Kdr (s:Sd) (R:Rs):Prop:=yZ s.dc R.s.dc s.v R.s.v R.e
theorem sO (mx n:Nat) (s:Sd):Kdr s (bn P mx n s):=by
 have he:=zN mx n s.ms.bs false s.ms
 unfold bn
 generalize nx mx n s.ms.bs false s.ms=X at *
 split
 ·exact .inl ⟨(eO { s with ms:=X.s } 80).1,(eO { s with ms:=X.s } 80).2.trans (fc _ _)⟩
 ·split
  ·next h1 h2=>
   refine .inr ⟨rfl,.inr ?_⟩
   show X.e=70
   omega
  ·exact .inl ⟨rfl,fc _ _⟩
theorem vk (mx n:Nat) (s:Sd) (k ss num fl len:Nat) (bs:Nat→Nat):Kdr s (aR P mx n s k ss num fl len bs):=by
 have r:∀ x:Int,Kdr s (aL P s x):=fun x=>.inl (ii s)
 unfold aR
 split
 ·split
  ·unfold bP
   split
   ·exact .inl (ii s)
   ·split
    ·exact .inl (ii s)
    ·rcases sO (P:=P) mx n (bj s) with h | h
     ·exact .inl ⟨h.1.trans (ii s).1,(ii s).2.trans h.2⟩
     ·exact .inr h
  ·exact r _
 ·split
  ·split
   ·show yZ s.dc (bf s).dc s.v (bf s).v 0
    unfold bf
    split
    ·exact .inr ⟨rfl,.inl rfl⟩
    ·exact .inl ⟨rfl,Kpv.refl _⟩
   ·exact r _
  ·split
   ·show yZ s.dc (bR s).dc s.v (bR s).v 0
    unfold bR
    split
    ·exact .inr ⟨rfl,.inl rfl⟩
    ·exact .inl ⟨rfl,Kpv.refl _⟩
   ·split
    ·exact .inr ⟨rfl,.inl rfl⟩
    ·split
     ·exact .inr ⟨(eO (i4 { s with nm:=P.n }) 80).1,.inl rfl⟩
     ·exact r _
theorem vO (mx n:Nat) (s:Sd) (len:Nat) (bs:Nat→Nat):Kdr s (an P mx n s len bs):=by
 have hh:Kdr s (bD P mx n s len bs):=by
  unfold bD
  split
  ·exact .inl ⟨rfl,Kpv.refl _⟩
  ·split
   ·exact .inl ⟨rfl,Kpv.refl _⟩
   ·split
    ·exact .inl ⟨rfl,Kpv.refl _⟩
    ·exact vk mx n s _ _ _ _ _ _
 unfold an
 split
 ·exact .inl ⟨rfl,Kpv.refl _⟩
 ·split
  ·exact hh
  ·exact hh
end
def bY (S:Ws) (m:Mv) (T:Nat→Nat):Nat→Nat:=
 if m.k=3∨m.k=4 then (if S.actEF m=0∨S.actEF m=70 then aS T (2*m.c.toNat+m.s.toNat-1) 0 else T)
 else if m.k=7 then aS T (2*m.c.toNat+m.s.toNat-1) 0
 else if m.k=5∧S.actEF m=0 then aS T (2*m.c.toNat+m.s.toNat-1) (min 1073741824 (T (2*m.c.toNat+m.s.toNat-1)+m.n.toNat)) else T
def Jw (S:Ws) (T:Nat→Nat):Prop:=∀ j,j<2→Wt (S.PH j).t (S.hs j).dc (S.hs j).v (T (2*j))∧Wt (S.PD j).t (S.ds j).dc (S.ds j).v (T (2*j+1))
theorem Jw.next {S:Ws} {T:Nat→Nat} (h:Jw S T) (I:S.In) (K:S.Kn) (hn:S.n=2) (ht:∀ j,j<2→(S.PH j).t≤1073741824∧(S.PD j).t≤1073741824) {m:Mv} (hb:S.bad m=0):Jw (S.play m).S (bY S m T):=by
 have l:=Ws.Law.of hb
 obtain⟨fx1,fx2,_⟩:=mS I K m
 intro j hj
 rw[fx1,fx2]
 obtain⟨hH,hD⟩:=h j hj
 have hs:m.k≠2→m.k≠8→m.s=1∨m.s=2:=l.sd
 have t1:1 ≤ (S.PH j).t∧1 ≤ (S.PD j).t:=⟨(K.ph j (by omega)).t1,(K.pd j (by omega)).t1⟩
 have t2:=ht j hj
 by_cases e:j=m.c.toNat
 ·obtain⟨e1,e2,e3⟩:=cC S hb
  rw[e]
  rw[e]at hH hD t1 t2
  rw[e1,e2]
  by_cases h1:m.k=1
  ·have d:S.actDF m=(if m.s=1 then S.ds m.c.toNat else cF (S.PD m.c.toNat) (S.ds m.c.toNat) m.l m.b m.h):=by unfold Ws.actDF;rw[if_pos h1]
   have g:S.actHF m=(if m.s=1 then cr (S.PH m.c.toNat) (S.hs m.c.toNat) m.l m.b m.h else S.hs m.c.toNat):=by unfold Ws.actHF;rw[if_pos h1]
   have t:bY S m T=T:=by unfold bY;rw[if_neg (by omega),if_neg (by omega),if_neg (fun y=>by have:=y.1;omega)]
   rw[d,g,t]
   split
   ·exact⟨hH.keep (lB _ _ _ _).1 (lB _ _ _ _).2,hD⟩
   ·exact⟨hH,hD.keep (ks _ _ _ _).1 (ks _ _ _ _).2⟩
  by_cases h2:m.k=2
  ·have d:S.actDF m=(S.ds m.c.toNat):=by unfold Ws.actDF;rw[if_neg h1,if_pos h2]
   have g:S.actHF m=(bE (S.PH m.c.toNat) (S.hs m.c.toNat)):=by unfold Ws.actHF;rw[if_neg h1,if_pos h2]
   have t:bY S m T=T:=by unfold bY;rw[if_neg (by omega),if_neg (by omega),if_neg (fun y=>by have:=y.1;omega)]
   rw[d,g,t]
   exact⟨hH.keep (oj _).1 (oj _).2,hD⟩
  by_cases h3:m.k=3∨m.k=4
  ·have d:S.actDF m=(if m.s=1 then S.ds m.c.toNat else (an (S.PD m.c.toNat) S.mx 16 (S.ds m.c.toNat) (S.fr m).1 (S.fr m).2).s):=by unfold Ws.actDF;rw[if_neg h1,if_neg h2,if_pos h3]
   have g:S.actHF m=(if m.s=1 then bT (S.PH m.c.toNat) (S.hs m.c.toNat) (S.fr m).1 (S.fr m).2 else S.hs m.c.toNat):=by unfold Ws.actHF;rw[if_neg h1,if_neg h2,if_pos h3]
   have ee:S.actEF m=(if m.s=1 then cY (S.PH m.c.toNat) (S.hs m.c.toNat) (S.fr m).1 (S.fr m).2 else (an (S.PD m.c.toNat) S.mx 16 (S.ds m.c.toNat) (S.fr m).1 (S.fr m).2).e):=by unfold Ws.actEF;rw[if_neg h1,if_neg h2,if_pos h3]
   have t:bY S m T=(if S.actEF m=0∨S.actEF m=70 then aS T (2*m.c.toNat+m.s.toNat-1) 0 else T):=by unfold bY;rw[if_pos h3]
   rw[d,g,t,ee]
   rcases hs (by omega) (by omega) with s1 | s2
   ·have ix:2*m.c.toNat+m.s.toNat-1=2*m.c.toNat:=by rw[s1];show 2*m.c.toNat+1-1=_;omega
    rw[ix,if_pos s1,if_pos s1,if_pos s1]
    have q:=Wt.kdc t1.1 hH (te (P:=S.PH m.c.toNat) (S.hs m.c.toNat) (S.fr m).1 (S.fr m).2)
    by_cases z:cY (S.PH m.c.toNat) (S.hs m.c.toNat) (S.fr m).1 (S.fr m).2=0∨cY (S.PH m.c.toNat) (S.hs m.c.toNat) (S.fr m).1 (S.fr m).2=70
    ·rw[if_pos z,ae,aF _ _ (by omega)]
     rw[if_pos z]at q
     exact⟨q,hD⟩
    ·rw[if_neg z]
     rw[if_neg z]at q
     exact⟨q,hD⟩
   ·have ix:2*m.c.toNat+m.s.toNat-1=2*m.c.toNat+1:=by rw[s2];show 2*m.c.toNat+2-1=_;omega
    have n1:¬ m.s=1:=by omega
    rw[ix,if_neg n1,if_neg n1,if_neg n1]
    have q:=Wt.kdc t1.2 hD (vO (P:=S.PD m.c.toNat) S.mx 16 (S.ds m.c.toNat) (S.fr m).1 (S.fr m).2)
    by_cases z:(an (S.PD m.c.toNat) S.mx 16 (S.ds m.c.toNat) (S.fr m).1 (S.fr m).2).e=0∨(an (S.PD m.c.toNat) S.mx 16 (S.ds m.c.toNat) (S.fr m).1 (S.fr m).2).e=70
    ·rw[if_pos z,ae,aF _ _ (by omega)]
     rw[if_pos z]at q
     exact⟨hH,q⟩
    ·rw[if_neg z]
     rw[if_neg z]at q
     exact⟨hH,q⟩
  by_cases h5:m.k=5
  ·have d:S.actDF m=(if m.s=1 then S.ds m.c.toNat else cE (S.PD m.c.toNat) (S.ds m.c.toNat) m.n):=by unfold Ws.actDF;rw[if_neg h1,if_neg h2,if_neg h3,if_pos h5]
   have g:S.actHF m=(if m.s=1 then cN (S.PH m.c.toNat) (S.hs m.c.toNat) m.n else S.hs m.c.toNat):=by unfold Ws.actHF;rw[if_neg h1,if_neg h2,if_neg h3,if_pos h5]
   have ee:S.actEF m=(if m.s=1 then cZ m.n else cD (S.ds m.c.toNat) m.n):=by unfold Ws.actEF;rw[if_neg h1,if_neg h2,if_neg h3,if_pos h5]
   have h05:=(l.n5 h5).1
   have t:bY S m T=(if S.actEF m=0 then aS T (2*m.c.toNat+m.s.toNat-1) (min 1073741824 (T (2*m.c.toNat+m.s.toNat-1)+m.n.toNat)) else T):=by
    unfold bY
    rw[if_neg h3,if_neg (by omega)]
    by_cases z:S.actEF m=0
    ·rw[if_pos ⟨h5,z⟩,if_pos z]
    ·rw[if_neg (fun y=>z y.2),if_neg z]
   rw[d,g,t,ee]
   rcases hs (by omega) (by omega) with s1 | s2
   ·have ix:2*m.c.toNat+m.s.toNat-1=2*m.c.toNat:=by rw[s1];show 2*m.c.toNat+1-1=_;omega
    have hE:cZ m.n=0:=by unfold cZ;rw[if_neg (by omega)]
    rw[ix,if_pos s1,if_pos s1,if_pos s1,if_pos hE,ae,aF _ _ (by omega)]
    exact⟨tH t2.1 hH h05,hD⟩
   ·have ix:2*m.c.toNat+m.s.toNat-1=2*m.c.toNat+1:=by rw[s2];show 2*m.c.toNat+2-1=_;omega
    have n1:¬ m.s=1:=by omega
    rw[ix,if_neg n1,if_neg n1,if_neg n1]
    have q:=uD t2.2 hD h05
    by_cases z:cD (S.ds m.c.toNat) m.n=0
    ·rw[if_pos z,ae,aF _ _ (by omega)]
     rw[if_pos z]at q
     exact⟨hH,q⟩
    ·rw[if_neg z]
     rw[if_neg z]at q
     exact⟨hH,q⟩
  by_cases h6:m.k=6
  ·have d:S.actDF m=(if m.s=1 then S.ds m.c.toNat else dQ (S.ds m.c.toNat)):=by unfold Ws.actDF;rw[if_neg h1,if_neg h2,if_neg h3,if_neg h5,if_pos h6]
   have g:S.actHF m=(if m.s=1 then gO (S.hs m.c.toNat) else S.hs m.c.toNat):=by unfold Ws.actHF;rw[if_neg h1,if_neg h2,if_neg h3,if_neg h5,if_pos h6]
   have t:bY S m T=T:=by unfold bY;rw[if_neg (by omega),if_neg (by omega),if_neg (fun y=>by have:=y.1;omega)]
   rw[d,g,t]
   split
   ·exact⟨hH.keep rfl (qG _),hD⟩
   ·exact⟨hH,hD.keep (qk _).1 (qk _).2⟩
  by_cases h7:m.k=7
  ·have d:S.actDF m=(if m.s=1 then S.ds m.c.toNat else bL S.mx 16 (S.ds m.c.toNat) m.n):=by unfold Ws.actDF;rw[if_neg h1,if_neg h2,if_neg h3,if_neg h5,if_neg h6,if_pos h7]
   have g:S.actHF m=(if m.s=1 then eM (S.hs m.c.toNat) else S.hs m.c.toNat):=by unfold Ws.actHF;rw[if_neg h1,if_neg h2,if_neg h3,if_neg h5,if_neg h6,if_pos h7]
   have t:bY S m T=aS T (2*m.c.toNat+m.s.toNat-1) 0:=by unfold bY;rw[if_neg h3,if_pos h7]
   rw[d,g,t]
   rcases hs (by omega) (by omega) with s1 | s2
   ·have ix:2*m.c.toNat+m.s.toNat-1=2*m.c.toNat:=by rw[s1];show 2*m.c.toNat+1-1=_;omega
    rw[ix,if_pos s1,if_pos s1,ae,aF _ _ (by omega)]
    exact⟨Wt.zero t1.1 _,hD⟩
   ·have ix:2*m.c.toNat+m.s.toNat-1=2*m.c.toNat+1:=by rw[s2];show 2*m.c.toNat+2-1=_;omega
    have n1:¬ m.s=1:=by omega
    rw[ix,if_neg n1,if_neg n1,ae,aF _ _ (by omega)]
    refine⟨hH,?_⟩
    have hn7:=l.n7 h7
    unfold bL
    rw[if_neg (by omega)]
    exact Wt.zero t1.2 _
  have d:S.actDF m=({ S.ds m.c.toNat with ms:=jA (S.ds m.c.toNat).ms m.n }):=by unfold Ws.actDF;rw[if_neg h1,if_neg h2,if_neg h3,if_neg h5,if_neg h6,if_neg h7]
  have g:S.actHF m=(S.hs m.c.toNat):=by unfold Ws.actHF;rw[if_neg h1,if_neg h2,if_neg h3,if_neg h5,if_neg h6,if_neg h7]
  have t:bY S m T=T:=by unfold bY;rw[if_neg (by omega),if_neg (by omega),if_neg (fun y=>by have:=y.1;omega)]
  rw[d,g,t]
  exact⟨hH,hD⟩
 ·obtain⟨e1,e2⟩:=kT I K hb e
  rw[e1,e2]
  have hT:bY S m T (2*j)=T (2*j)∧bY S m T (2*j+1)=T (2*j+1):=by
   unfold bY
   split
   ·split
    ·rcases hs (by omega) (by omega) with s | s
     ·rw[s];exact⟨aF _ _ (by show 2*j≠2*m.c.toNat+1-1;omega),aF _ _ (by show 2*j+1≠2*m.c.toNat+1-1;omega)⟩
     ·rw[s];exact⟨aF _ _ (by show 2*j≠2*m.c.toNat+2-1;omega),aF _ _ (by show 2*j+1≠2*m.c.toNat+2-1;omega)⟩
    ·exact⟨rfl,rfl⟩
   ·split
    ·rcases hs (by omega) (by omega) with s | s
     ·rw[s];exact⟨aF _ _ (by show 2*j≠2*m.c.toNat+1-1;omega),aF _ _ (by show 2*j+1≠2*m.c.toNat+1-1;omega)⟩
     ·rw[s];exact⟨aF _ _ (by show 2*j≠2*m.c.toNat+2-1;omega),aF _ _ (by show 2*j+1≠2*m.c.toNat+2-1;omega)⟩
    ·split
     ·next q=>
      have q1:=q.1
      rcases hs (by omega) (by omega) with s | s
      ·rw[s];exact⟨aF _ _ (by show 2*j≠2*m.c.toNat+1-1;omega),aF _ _ (by show 2*j+1≠2*m.c.toNat+1-1;omega)⟩
      ·rw[s];exact⟨aF _ _ (by show 2*j≠2*m.c.toNat+2-1;omega),aF _ _ (by show 2*j+1≠2*m.c.toNat+2-1;omega)⟩
     ·exact⟨rfl,rfl⟩
  rw[hT.1,hT.2]
  exact⟨hH,hD⟩
def iZ (v:Vs):Prop:=v.sm=true→v.lat=0
theorem sZ {v:Vs} (h:iZ v) (x:Int):iZ (bZ v x):=by
 unfold bZ
 split
 ·exact h
 ·intro e;cases e
theorem jg {v:Vs} (h:iZ v) (o:Bool):iZ (dI v o):=by
 unfold dI
 split
 ·exact h
 ·intro e;cases e
theorem eP {v:Vs} (h:iZ v):iZ (dW v):=h
theorem ue {v:Vs} (h:iZ v) (o:Bool) (bs:Nat→Nat):iZ (ei (gy (dW v) o) bs):=by
 unfold ei
 split
 ·next q=>exact fun _=>q.2
 ·exact h
theorem wo {v:Vs} (h:iZ v):iZ (iy v):=by
 unfold iy
 split
 ·exact fun _=>rfl
 ·exact h
theorem gI {s:Sh} (h:iZ s.v) (x:Int):iZ (aN s x).v:=by rw[iw];exact sZ h _
theorem mV {s:Sh} (h:iZ s.v):iZ (gW s).v:=jg (gI h 80) _
theorem rG {s:Sh} (h:iZ s.v):iZ (aY s).v:=by
 unfold aY
 split
 ·exact h
 ·split
  ·exact h
  ·split
   ·exact jg (gI (s:={ s with ms:=s.ms+1 }) h 131) _
   ·exact jg h _
theorem rW {P:Pm} {s:Sh} (h:iZ s.v):iZ (bE P s).v:=by
 unfold bE
 split
 ·exact h
 ·show iZ (bu P (aY s)).1.v
  have q:=rG h
  unfold bu
  split
  ·exact q
  ·split
   ·exact q
   ·split
    ·exact q
    ·split
     ·exact mV (s:={ aY s with sn:=(aY s).sn+1 }) q
     ·exact q
theorem qS {P:Pm} {s:Sh} (h:iZ s.v) (len:Nat) (bs:Nat→Nat):iZ (bT P s len bs).v:=by
 unfold bT
 split
 ·exact h
 ·unfold cy
  split
  ·exact eP h
  ·split
   ·exact eP h
   ·split
    ·exact eP (jg h true)
    ·split
     ·exact ue h _ _
     ·split
      ·exact mV (s:=qC { s with nm:=aP bs 9 }) (eP h)
      ·exact eP h
theorem wI {S:Ws} (I:S.In) (K:S.Kn) (m:Mv) (h:∀ j,j<S.n→iZ (S.hs j).v):∀ j,j<S.n→iZ ((S.play m).S.hs j).v:=by
 intro j hj
 by_cases hb:S.bad m=0
 ·by_cases e:j=m.c.toNat
  ·subst e
   rw[(cC S hb).2.1]
   have q:=h _ hj
   unfold Ws.actHF
   split
   ·split
    ·unfold cr;split <;> exact q
    ·exact q
   ·split
    ·exact rW q
    ·split
     ·split
      ·exact qS q _ _
      ·exact q
     ·split
      ·split
       ·unfold cN
        split
        ·exact q
        ·split
         ·exact gI (s:={ S.hs m.c.toNat with dc:=tk (S.PH m.c.toNat).t (S.hs m.c.toNat).dc m.n.toNat }) q 100
         ·exact q
       ·exact q
      ·split
       ·split
        ·exact wo q
        ·exact q
       ·split
        ·split
         ·exact fun e=>by cases e
         ·exact q
        ·exact q
  ·rw[(kT I K hb e).2]
   exact h j hj
 ·have hp:(S.play m).S=S:=by
   unfold Ws.play
   rw[if_pos hb]
  rw[hp]
  exact h j hj
theorem Jw.on {S:Ws} {T:Nat→Nat} (h:Jw S T) (I:S.In) (ho:∀ j,j<S.n→iZ (S.hs j).v) (hn:S.n=2) {j:Nat} (hj:j<2):((S.PH j).t≤T (2*j)→ax (S.hs j).v=false∧(S.hs j).v.lat≠0)∧((S.PD j).t≤T (2*j+1)→ax (S.ds j).v=false∧(S.ds j).v.lat≠0):=by
 obtain⟨hH,hD⟩:=h j hj
 have of:∀ v:Vs,iZ v→v.lat≠0→ax v=false:=fun v k q=>by
  cases e:ax v
  ·rfl
  ·exfalso
   unfold ax at e
   simp at e
   exact q (k e.2.2)
 refine⟨fun q=>?_,fun q=>?_⟩
 ·have a:=hH.2 (by have:=hH.1;omega)
  exact⟨of _ (ho j (by omega)) a.1,a.1⟩
 ·have a:=hD.2 (by have:=hD.1;omega)
  exact⟨of _ (I.iv j (by omega)).vok.sm a.1,a.1⟩
end Go.Proofs.YtdmjfemodihfhaaGreat
namespace Go.Proofs.YtdmjfemodihfhaaGreat
set_option maxRecDepth 100000
open Go.RowKit Go.Maps
theorem kX (w:World) (o:Array Value) (wx:World) (hb:Below (w.alloc (.cells o 39)).heap.size (w.alloc (.cells o 39)) wx) (i:Nat):wx.cell? ⟨w.heap.size,i,none⟩=o[i]?:=by
 rw[hb.cell (p:=⟨w.heap.size,i,none⟩) (by simp)]
 exact ac _ _ _ _ _ _ (au _ _)
theorem jV (w:World) (o:Array Value) (i:Nat) (wx:World) (hb:Below (w.alloc (.cells o 39)).heap.size (w.alloc (.cells o 39)) wx):wx.frozen? ⟨w.heap.size,i,none⟩=false:=by
 rw[hb.frozen (p:=⟨w.heap.size,i,none⟩) (by simp)]
 simp
theorem xI (m:Mv) (d:Option Addr) (e:Nat) (w:World) (hr:Row8 w d m.l e m.b) (hlen:m.l≤140737488351232):Calls Tryz.prog 14 #[.agg #[.int .i64 m.k,.int .i64 m.c,.int .i64 m.s,.int .i64 m.f,.int .i64 m.a,.int .u32 (m.w:Nat),.int .i64 m.n,.bool m.h,.slice d m.l e]] w fun r w'=>∃ a' c',r=.returned (.agg #[.int .i64 m.k,.int .i64 m.c,.int .i64 m.s,.int .i64 m.f,.int .i64 m.a,.int .u32 (m.w:Nat),.int .i64 m.n,.bool m.h,.slice a' m.l c'])∧Hid (Row8 w' a' m.l c' m.b∧Below w.heap.size w w'∧∀ y,a'=some y→0<m.l→w.heap.size≤y.block):=by
 obtain⟨i0,hi,hz0,hz1,hz2⟩:=info_parts bQ
 have hbd:=vu
 have hX:=fun wx hb=>kX w #[.int .i64 m.k,.int .i64 m.c,.int .i64 m.s,.int .i64 m.f,.int .i64 m.a,.int .u32 (m.w:Nat),.int .i64 m.n,.bool m.h,.slice d m.l e] wx hb
 have hXf:=fun i wx hb=>jV w #[.int .i64 m.k,.int .i64 m.c,.int .i64 m.s,.int .i64 m.f,.int .i64 m.a,.int .u32 (m.w:Nat),.int .i64 m.n,.bool m.h,.slice d m.l e] i wx hb
 obtain⟨wa,hwa⟩:∃ x,x=w.alloc (.cells #[.int .i64 m.k,.int .i64 m.c,.int .i64 m.s,.int .i64 m.f,.int .i64 m.a,.int .u32 (m.w:Nat),.int .i64 m.n,.bool m.h,.slice d m.l e] 39):=⟨_,rfl⟩
 rw[← hwa]at hX hXf
 have hA:Below w.heap.size w wa:=by rw[hwa];exact (Below.refl _ _).alloc (Nat.le_refl _) _
 have hAs:wa.heap.size=w.heap.size+1:=by rw[hwa];simp
 have hY:=fun wx hb=>kX wa #[.int .i64 0,.int .i64 0,.int .i64 0,.int .i64 0,.int .i64 0,.int .u32 0,.int .i64 0,.bool false,.slice none 0 0] wx hb
 have hYf:=fun i wx hb=>jV wa #[.int .i64 0,.int .i64 0,.int .i64 0,.int .i64 0,.int .i64 0,.int .u32 0,.int .i64 0,.bool false,.slice none 0 0] i wx hb
 obtain⟨wb,hwb⟩:∃ x,x=wa.alloc (.cells #[.int .i64 0,.int .i64 0,.int .i64 0,.int .i64 0,.int .i64 0,.int .u32 0,.int .i64 0,.bool false,.slice none 0 0] 39):=⟨_,rfl⟩
 rw[← hwb]at hY hYf
 have hB:Below wa.heap.size wa wb:=by rw[hwb];exact (Below.refl _ _).alloc (Nat.le_refl _) _
 have hBs:wb.heap.size=w.heap.size+1+1:=by rw[hwb,hwa];simp
 have hC:Below wb.heap.size wb (wb.alloc (.cells #[] 5)):=(Below.refl _ _).alloc (Nat.le_refl _) _
 have O0:(wb.alloc (.cells #[] 5)).ownsRow wb.heap.size 5 1 (.slice (some ⟨wb.heap.size,0,none⟩) 0 0) 0 (CB m.b 0):=World.ownsRow_made wb #[] 0 (Nat.le_refl _) (Nat.zero_le _) rfl
 have hszC:=hC.size
 have R0:=((hr.below hA).below hB).below hC
 rw[hAs]at hY hYf
 go_enter Tryz.func14,Tryz.ntmps14
 go_upto_region 1 with fail
 try rw[← hwa]
 try rw[← hwb]
 have H0:Hid (_):=And.intro hwa (And.intro hwb (And.intro hAs hBs))
 clear hwa hwb
 have x8:(wb.alloc (.cells #[] 5)).cell? ⟨w.heap.size,8,none⟩=some (.slice d m.l e):=hX (wb.alloc (.cells #[] 5)) (hB.trans (hC.mono (by omega))) 8
 clear hAs hBs
 go_wp2_with (at_builtin;refine aV rfl (.tmp 3) (.tmp 5) 37 rfl wb.heap.size 5 i0 (.int .u8 0) Tryz.underlying37 hi hz0 hz1 hz2 rfl _ 0 _ rfl O0 d m.l e m.b rfl R0 (by unfold maxLen;omega) (by omega) hszC ?_)
 intro v2 w2 hown2 hgrow2
 have hbel2:Below wb.heap.size wb w2:=hC.grown hgrow2 hszC (fun j hj=>(O0.lt j hj).1)
 rw[show CB m.b 0=[] from rfl,List.nil_append]at hown2
 have hlt:w.heap.size<wb.heap.size∧w.heap.size+1<wb.heap.size:=by have:=H0.out;omega
 have hbelA:Below wa.heap.size wa w2:=hB.trans (hbel2.mono (by have:=H0.out;omega))
 have x0:w2.cell? ⟨w.heap.size,0,none⟩=some ((.int .i64 m.k)):=hX w2 hbelA 0
 have x1:w2.cell? ⟨w.heap.size,1,none⟩=some ((.int .i64 m.c)):=hX w2 hbelA 1
 have x2:w2.cell? ⟨w.heap.size,2,none⟩=some ((.int .i64 m.s)):=hX w2 hbelA 2
 have x3:w2.cell? ⟨w.heap.size,3,none⟩=some ((.int .i64 m.f)):=hX w2 hbelA 3
 have x4:w2.cell? ⟨w.heap.size,4,none⟩=some ((.int .i64 m.a)):=hX w2 hbelA 4
 have x5:w2.cell? ⟨w.heap.size,5,none⟩=some ((.int .u32 (m.w:Nat))):=hX w2 hbelA 5
 have x6:w2.cell? ⟨w.heap.size,6,none⟩=some ((.int .i64 m.n)):=hX w2 hbelA 6
 have x7:w2.cell? ⟨w.heap.size,7,none⟩=some ((.bool m.h)):=hX w2 hbelA 7
 have x8:w2.cell? ⟨w.heap.size,8,none⟩=some ((.slice d m.l e)):=hX w2 hbelA 8
 have y0:w2.cell? ⟨w.heap.size+1,0,none⟩=some (.int .i64 0):=hY w2 hbel2 0
 have y1:w2.cell? ⟨w.heap.size+1,1,none⟩=some (.int .i64 0):=hY w2 hbel2 1
 have y2:w2.cell? ⟨w.heap.size+1,2,none⟩=some (.int .i64 0):=hY w2 hbel2 2
 have y3:w2.cell? ⟨w.heap.size+1,3,none⟩=some (.int .i64 0):=hY w2 hbel2 3
 have y4:w2.cell? ⟨w.heap.size+1,4,none⟩=some (.int .i64 0):=hY w2 hbel2 4
 have y5:w2.cell? ⟨w.heap.size+1,5,none⟩=some (.int .u32 0):=hY w2 hbel2 5
 have y6:w2.cell? ⟨w.heap.size+1,6,none⟩=some (.int .i64 0):=hY w2 hbel2 6
 have y7:w2.cell? ⟨w.heap.size+1,7,none⟩=some (.bool false):=hY w2 hbel2 7
 have y8:w2.cell? ⟨w.heap.size+1,8,none⟩=some (.slice none 0 0):=hY w2 hbel2 8
 have xf:=fun i=>hXf i w2 hbelA
 have yf:=fun i=>hYf i w2 hbel2
 obtain⟨a2,c2,rfl,R2⟩:=aT hown2 hr.byte
 have HR:Hid (w2.ownsRow wb.heap.size 5 1 (.slice a2 m.l c2) m.l (CB m.b m.l)∧Below wb.heap.size wb w2):=⟨hown2,hbel2⟩
 clear hgrow2 O0 R0 hC hszC hX hY hXf hYf hown2 R2 hbel2 hbelA hbd
 go_wp2_with fail
 refine bodyPost_ret (v:=.agg #[.int .i64 m.k,.int .i64 m.c,.int .i64 m.s,.int .i64 m.f,.int .i64 m.a,.int .u32 (m.w:Nat),.int .i64 m.n,.bool m.h,.slice a2 m.l c2]) (by simp[results,Tryz.results14,go_sem,y0,y1,y2,y3,y4,y5,y6,y7,y8]) rfl ⟨a2,c2,rfl,?_,?_,?_⟩
 ·obtain⟨a3,c3,e,R3⟩:=aT (ownsRow_setCell_below (ownsRow_setCell_below (ownsRow_setCell_below (ownsRow_setCell_below (ownsRow_setCell_below (ownsRow_setCell_below (ownsRow_setCell_below (ownsRow_setCell_below (ownsRow_setCell_below (ownsRow_setCell_below HR.out.1 (a:=⟨w.heap.size,8,none⟩) hlt.1 _) (a:=⟨w.heap.size+1,0,none⟩) hlt.2 _) (a:=⟨w.heap.size+1,1,none⟩) hlt.2 _) (a:=⟨w.heap.size+1,2,none⟩) hlt.2 _) (a:=⟨w.heap.size+1,3,none⟩) hlt.2 _) (a:=⟨w.heap.size+1,4,none⟩) hlt.2 _) (a:=⟨w.heap.size+1,5,none⟩) hlt.2 _) (a:=⟨w.heap.size+1,6,none⟩) hlt.2 _) (a:=⟨w.heap.size+1,7,none⟩) hlt.2 _) (a:=⟨w.heap.size+1,8,none⟩) hlt.2 _) hr.byte
  simp only[Value.slice.injEq,true_and]at e
  obtain⟨rfl,rfl⟩:=e
  exact R3
 ·have hb:Below w.heap.size w w2:=(hA.trans (hB.mono (by have:=H0.out;omega))).trans (HR.out.2.mono (by omega))
  exact ((((((((((hb.setCell (p:=⟨w.heap.size,8,none⟩) (Nat.le_refl _) _).setCell (p:=⟨w.heap.size+1,0,none⟩) (Nat.le_succ _) _).setCell (p:=⟨w.heap.size+1,1,none⟩) (Nat.le_succ _) _).setCell (p:=⟨w.heap.size+1,2,none⟩) (Nat.le_succ _) _).setCell (p:=⟨w.heap.size+1,3,none⟩) (Nat.le_succ _) _).setCell (p:=⟨w.heap.size+1,4,none⟩) (Nat.le_succ _) _).setCell (p:=⟨w.heap.size+1,5,none⟩) (Nat.le_succ _) _).setCell (p:=⟨w.heap.size+1,6,none⟩) (Nat.le_succ _) _).setCell (p:=⟨w.heap.size+1,7,none⟩) (Nat.le_succ _) _).setCell (p:=⟨w.heap.size+1,8,none⟩) (Nat.le_succ _) _)
 ·intro y hy hn
  rcases HR.out.1.2 with ⟨e,_⟩ | ⟨g,cap,cur,e,hg,_⟩
  ·simp only[Value.slice.injEq]at e
   rw[e.1]at hy
   cases hy
  ·simp only[Value.slice.injEq]at e
   rw[e.1]at hy
   cases hy
   have:=hlt.1
   show w.heap.size≤g
   omega
set_option linter.unusedVariables false
theorem vX (S:Ws) (l:List Fa):(S.note l).bg=S.bg:=rfl
theorem vA (S:Ws) (l:List Fa):(S.note l).mv=S.mv:=rfl
theorem tW {w:World} {q:Nat} (h:w.heap[q]?=some (.cells #[.int .u32 7,.int .i64 2,.int .i64 1,.int .i64 10,.int .u32 9] 59 (0,0))):PqRow w (some ⟨q,0,none⟩) 1 (fun _=>P0.q):=fun i hi=>by
 obtain rfl:i=0:=by omega
 refine⟨q,0,rfl,fun j u hu=>?_⟩
 rw[show 0+0*5+j=j by omega,ac w q j _ _ _ h]
 have e:(P0.q).cs.toArray=#[.int .u32 7,.int .i64 2,.int .i64 1,.int .i64 10,.int .u32 9]:=by rfl
 rw[← e]
 simpa using hu
theorem yY:zO 1 1 50 (fun _=>P0.q) (fun _=>P0.q)=0:=by decide
theorem yu (q0 q1:Nat) (w:World) (h0:w.heap[q0]?=some (.cells #[.int .u32 7,.int .i64 2,.int .i64 1,.int .i64 10,.int .u32 9] 59 (0,0))) (h1:w.heap[q1]?=some (.cells #[.int .u32 7,.int .i64 2,.int .i64 1,.int .i64 10,.int .u32 9] 59 (0,0))):Calls Tryz.prog 11 #[.agg #[.slice (some ⟨q0,0,none⟩) 1 1,.slice (some ⟨q1,0,none⟩) 1 1,.int .u32 50]] w fun r w'=>∃ L:Pw,r=.returned (.tuple #[.pointer (some ⟨L.x,0,none⟩),.int .i64 0])∧Hid (PW ev w w' (fo L) L∧L.S=s0 P0 P0 50):=
 xg (fun _=>P0) (fun _=>P0) q0 0 1 q1 0 1 1 50 (fun _ _=>nK) (fun _ _=>nK) (by decide) (by decide) (by decide) (by decide) (by decide) (by decide) w (tW h0) (tW h1) yY
theorem j6 (w:World) {A:Array Value} (hs:A.size=29) (ho:A.all (·.oneCell')=true):∃ wz,(storeCells ⟨w.heap.size,0,none⟩ A.toList).run Tryz.prog (w.alloc (.cells #[.int .i64 0,.int .i64 0,.int .i64 0,.int .i64 0,.int .i64 0,.int .u32 0,.int .i64 0,.bool false,.slice none 0 0,.int .i64 0,.int .i64 0,.int .i64 0,.int .u32 0,.int .u32 0,.int .u32 0,.int .i64 0,.int .i64 0,.bool false,.bool false,.slice none 0 0,.int .i64 0,.int .u32 0,.int .u32 0,.int .u32 0,.int .i64 0,.int .i64 0,.bool false,.bool false,.slice none 0 0] 45))=.ok () wz∧wz.rangeAt w.heap.size 0 A.toList∧Below w.heap.size w wz:=by
 have kr:=au w (.cells #[.int .i64 0,.int .i64 0,.int .i64 0,.int .i64 0,.int .i64 0,.int .u32 0,.int .i64 0,.bool false,.slice none 0 0,.int .i64 0,.int .i64 0,.int .i64 0,.int .u32 0,.int .u32 0,.int .u32 0,.int .i64 0,.int .i64 0,.bool false,.bool false,.slice none 0 0,.int .i64 0,.int .u32 0,.int .u32 0,.int .u32 0,.int .i64 0,.int .i64 0,.bool false,.bool false,.slice none 0 0] 45)
 have hth:(w.alloc (.cells #[.int .i64 0,.int .i64 0,.int .i64 0,.int .i64 0,.int .i64 0,.int .u32 0,.int .i64 0,.bool false,.slice none 0 0,.int .i64 0,.int .i64 0,.int .i64 0,.int .u32 0,.int .u32 0,.int .u32 0,.int .i64 0,.int .i64 0,.bool false,.bool false,.slice none 0 0,.int .i64 0,.int .u32 0,.int .u32 0,.int .u32 0,.int .i64 0,.int .i64 0,.bool false,.bool false,.slice none 0 0] 45)).there w.heap.size 0 A.size:=bc kr (by rw[hs];rfl)
 exact⟨_,gB hth ho,World.rangeAt_setCells_same _ w.heap.size 0 A.toList (by simpa using hth),(bK _ w.heap.size 0 A.toList).below (ay (Below.refl _ _) _) (by simp) (by rw[iB];omega)⟩
theorem sV (w:World):Calls Tryz.prog 13 #[] w fun r w'=>r=.returned (.bool true)∧Below w.heap.size w w':=by
 have hLo:=zX w
 go_enter Tryz.func13,Tryz.ntmps13
 go_wp2_with fail
 refine hLo.mono ?_
 rintro r w1 ⟨q0,q1,rfl,H1⟩
 clear hLo
 have hN:Calls Tryz.prog 11 #[.agg #[.slice (some ⟨q0,0,none⟩) 1 1,.slice (some ⟨q1,0,none⟩) 1 1,.int .u32 50]] w1 fun r w'=>∃ L:Pw,r=.returned (.tuple #[.pointer (some ⟨L.x,0,none⟩),.int .i64 0])∧Hid (PW ev w1 w' (fo L) L∧L.S=s0 P0 P0 50):=yu q0 q1 w1 H1.out.1 H1.out.2.1
 go_wp2_with fail
 refine hN.mono ?_
 rintro r w2 ⟨L,rfl,H2⟩
 clear hN
 have hP1:=aw1 H2.out.1 (jb L) H2.out.2
 obtain⟨X,hX⟩:∃ y,L.x=y:=⟨_,rfl⟩
 rw[hX]at hP1 ⊢
 have HX:Hid (L.x=X):=hX
 clear hX
 go_wp2_with fail
 refine hP1.mono ?_
 rintro r w3 ⟨A,rfl,hsA,hoA,hA10,H3⟩
 clear hP1
 obtain⟨wz,hst1,hrg1,hbl1⟩:=j6 w3 hsA hoA
 have cb:wz.cell? ⟨w3.heap.size,10,none⟩=some (.int .i64 0):=hrg1 10 _ hA10
 have lb:=World.block_lt_of_cell? wz _ cb
 obtain⟨ob,hob⟩:∃ ob,wz.heap[w3.heap.size]?=some ob:=⟨_,Array.getElem?_eq_getElem lb⟩
 have F0:=jb L
 have hp2:=H3.out.layL hbl1 (i:=2*0+1) (F0 0 (Nat.le_refl _)).1 (l:=[(w3.heap.size,ob)]) (fun p hp=>by
  simp only[List.mem_cons,List.not_mem_nil,or_false]at hp
  subst hp
  exact hob) (fun p hp=>by
  simp only[List.mem_cons,List.not_mem_nil,or_false]at hp
  subst hp
  exact Nat.le_refl _)
 have F1:Fre ev (aA (fo L) (2*0+1) (cH [(w3.heap.size,ob)])) 1:=F0.put _
 have hP2:=aw2 (T:=yW) a1.2.2 hp2 F1
 rw[HX.out]at hP2
 have HB:Hid (_):=And.intro cb (And.intro hob (And.intro hbl1 F0))
 clear hrg1 hbl1 cb lb hob hp2 F1 F0
 go_wp2_with fail
 refine hP2.mono ?_
 rintro r w4 ⟨A2,rfl,hsA2,hoA2,hB10,hB20,H4⟩
 clear hP2 hst1
 obtain⟨wy,hst2,hrg2,hbl2⟩:=j6 w4 hsA2 hoA2
 have c1:wy.cell? ⟨w4.heap.size,10,none⟩=some (.int .i64 1):=hrg2 10 _ hB10
 have c2:wy.cell? ⟨w4.heap.size,20,none⟩=some (.int .i64 2):=hrg2 20 _ hB20
 obtain⟨cb,hob,hbl1,F0⟩:=HB.out
 have hb4:=H4.out.box (q:=2*0+1) (F0 0 (Nat.le_refl _)).1 (ai _ _ _) _ (List.mem_cons_self ..)
 have hb5:=(hbl2.block w3.heap.size (Array.getElem?_eq_some_iff.1 hb4).1).trans hb4
 have c0:wy.cell? ⟨w3.heap.size,10,none⟩=some (.int .i64 0):=(World.cell?_of_block (w:=wz) (a:=⟨w3.heap.size,10,none⟩) (hb5.trans hob.symm)).trans cb
 have hp5:=H4.out.below hbl2
 have hFr:=vN hp5
 have hMo:=yk hp5
 obtain⟨_,_,e1,e2,_⟩:=a3 (T:=yW) a1.2.2
 rw[HX.out,vX,e1]at hFr
 rw[HX.out,vA,e2]at hMo
 have hbw:Below w1.heap.size w1 wy:=by
  obtain⟨t9,L9,h9,_⟩:=hp5
  exact h9.1.bel
 have HE:Hid (Below w.heap.size w wy):=H1.out.2.2.trans (hbw.mono H1.out.2.2.size)
 clear hrg2 hbl2 cb hob hbl1 F0 hb4 hb5 hp5 e1 e2 hbw HB H4 H3 H2 HX
 go_wp2_with fail
 refine hFr.mono ?_
 rintro r w6 ⟨rfl,rfl⟩
 go_wp2_with fail
 refine hMo.mono ?_
 rintro r w6 ⟨rfl,rfl⟩
 go_wp2_with fail
 go_ret
 exact⟨rfl,HE.out⟩
end Go.Proofs.YtdmjfemodihfhaaGreat
