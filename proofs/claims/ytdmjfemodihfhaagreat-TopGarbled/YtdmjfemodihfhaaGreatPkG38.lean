/- Part 39: contracts that the proof rests on. -/
import Derived.Deep.DeepCutAuto
import Derived.Deep.CutBlock
import Derived.Deep.RegionWith
import Derived.Test.YtdmjfemodihfhaaGreatPkG37
set_option maxHeartbeats 64000000
set_option maxRecDepth 100000
namespace Go.Proofs.YtdmjfemodihfhaaGreat
set_option maxRecDepth 100000
open Go.RowKit Go.Maps Go.Sort
set_option linter.unusedVariables false
theorem uR (w:World):Calls Tryz.prog 30 #[.int .i64 1] w fun r w'=>∃ a0 c0 a1 c1,r=.returned (.agg #[.slice a0 2 c0,.slice a1 2 c1,.int .u32 50])∧Hid (w'.ownsRow (w.heap.size+2) 59 5 (.slice a0 2 c0) 2 (eZ 2 i4)∧w'.ownsRow (w.heap.size+2) 59 5 (.slice a1 2 c1) 2 (eZ 2 i4)∧(∀ g,(Value.slice a0 2 c0).ownBlock=some g→(Value.slice a1 2 c1).ownBlock≠some g)∧Below w.heap.size w w'):=by
 have hS:=fun wx=>tw wx
 go_enter Tryz.func30,Tryz.ntmps30
 go_wp2_with fail
 have HS:Hid (Sp w ((w.alloc (.cells #[.slice none 0 0,.slice none 0 0,.int .u32 0] 30)).alloc (.cells #[.slice none 0 0,.slice none 0 0,.int .u32 50] 30)) 0 none 0 none 0):=by
  have a1':=au w (.cells #[.slice none 0 0,.slice none 0 0,.int .u32 0] 30)
  have a2':=au (w.alloc (.cells #[.slice none 0 0,.slice none 0 0,.int .u32 0] 30)) (.cells #[.slice none 0 0,.slice none 0 0,.int .u32 50] 30)
  simp only[World.size_alloc]at a1' a2'
  refine⟨az (az (Below.refl _ _) _) _,?_,a2',⟨by simp[eZ],.inl ⟨rfl,rfl⟩⟩,⟨by simp[eZ],.inl ⟨rfl,rfl⟩⟩,fun g hg=>by cases hg⟩
  exact ((az (Below.refl _ _) _).block _ (by simp)).trans a1'
 go_loopw [4,5,7,8,9,10,11,12,13,14,15,16,17,18,19,20,21,22,23,24,25,26,27,28,29,30,31,32,33,34] (fun c _ _ _ _ _ _ _ _ _ _ _ _ _ _ _ _ _ _ _ _ _ _ _ _ _ _ _ _ _ wr=>∃ (i:Nat) (va:Option Addr) (vc:Nat) (ua:Option Addr) (uc:Nat),i≤2∧c=.int .i64 ((i:Nat):Int)∧Hid (Sp w wr i va vc ua uc)) (fun c _ _ _ _ _ _ _ _ _ _ _ _ _ _ _ _ _ _ _ _ _ _ _ _ _ _ _ _ _ _=>2-iJ c)
 case atStart=>exact⟨0,none,0,none,0,by omega,rfl,HS⟩
 case round=>
  obtain⟨i,va,vc,ua,uc,hi,rfl,HI⟩:=hrel
  clear HS
  have hi3:i=0∨i=1∨i=2:=by omega
  rcases hi3 with rfl | rfl | rfl
  ·obtain⟨i0,hI,hz0,hz1,hz2⟩:=info_parts eE
   go_wp2_with fail
   refine (hS _).mono ?_
   rintro r w3 ⟨rfl,b3⟩
   have q0:=ae (ac wr _ 0 _ _ _ HI.out.xb) (az b3 (.cells #[.int .u32 7,.int .i64 2,.int .i64 1,.int .i64 10,.int .u32 9] 59))
   have q1:=ae (ac wr _ 1 _ _ _ HI.out.xb) (az b3 (.cells #[.int .u32 7,.int .i64 2,.int .i64 1,.int .i64 10,.int .u32 9] 59))
   have b4:=az (az b3 (.cells #[.int .u32 7,.int .i64 2,.int .i64 1,.int .i64 10,.int .u32 9] 59)) (.cells #[.int .u32 7,.int .i64 2,.int .i64 1,.int .i64 10,.int .u32 9] 59)
   have hrow:=cE HI.out.ov b4
   have lx:=(Array.getElem?_eq_some_iff.1 HI.out.xb).1
   have s3:=b3.size
   have nk:=au (w3.alloc (.cells #[.int .u32 7,.int .i64 2,.int .i64 1,.int .i64 10,.int .u32 9] 59)) (.cells #[.int .u32 7,.int .i64 2,.int .i64 1,.int .i64 10,.int .u32 9] 59)
   simp only[World.size_alloc]at nk
   have hcl:∀ j u,(i4 0).cs[j]?=some u→((w3.alloc (.cells #[.int .u32 7,.int .i64 2,.int .i64 1,.int .i64 10,.int .u32 9] 59)).alloc (.cells #[.int .u32 7,.int .i64 2,.int .i64 1,.int .i64 10,.int .u32 9] 59)).cell? ((⟨w3.heap.size+1,0,none⟩:Addr).add j)=some u:=gW nk
   have hbs:w.heap.size+2 ≤ ((w3.alloc (.cells #[.int .u32 7,.int .i64 2,.int .i64 1,.int .i64 10,.int .u32 9] 59)).alloc (.cells #[.int .u32 7,.int .i64 2,.int .i64 1,.int .i64 10,.int .u32 9] 59)).heap.size:=by simp;omega
   go_wp2_with (at_builtin;refine wpList_append_own_at _ rfl (.tmp 24) (.tmp 26) 27 rfl (w.heap.size+2) 59 i0 (.agg #[.int .u32 0,.int .i64 0,.int .i64 0,.int .i64 0,.int .u32 0]) 5 40 Tryz.underlying27 hI hz0 hz1 hz2 rfl (by decide) (.slice va 0 vc) 0 (eZ 0 i4) rfl hrow ⟨w3.heap.size+1,0,none⟩ 1 1 (i4 0).cs rfl rfl hcl (jb _) (by unfold maxLen;omega) (by omega) hbs ?_)
   intro v5 w5 o5 g5 _ s5
   obtain⟨x5,y5,rfl,hx5⟩:=gI (n:=0) o5
   have nb:=fun g (hg:(Value.slice va 0 vc).ownBlock=some g)=>HI.out.ov.lt g hg
   have nu:=fun g (hg:(Value.slice ua 0 uc).ownBlock=some g)=>HI.out.ou.lt g hg
   have k5:w5.heap[w.heap.size+1]?=some (.cells #[.slice va 0 vc,.slice ua 0 uc,.int .u32 50] 30 (0,0)):=(g5.block _ (by simp;omega) (fun e=>by have:=(nb _ e.symm).1;omega)).trans ((b4.block _ lx).trans HI.out.xb)
   have p5:w5.heap[w3.heap.size]?=some (.cells #[.int .u32 7,.int .i64 2,.int .i64 1,.int .i64 10,.int .u32 9] 59 (0,0)):=(g5.block _ (by simp;omega) (fun e=>by have:=(nb _ e.symm).2;omega)).trans (((az (Below.refl _ _) _).block w3.heap.size (by simp)).trans (au w3 (.cells #[.int .u32 7,.int .i64 2,.int .i64 1,.int .i64 10,.int .u32 9] 59)))
   have u5:w5.ownsRow (w.heap.size+2) 59 5 (.slice ua 0 uc) 0 (eZ 0 i4):=bH (cE HI.out.ou b4) (fun g hg=>g5.block g (by have:=(nu g hg).2;simp;omega) (fun e=>HI.out.dis g e.symm hg))
   have r0:=ac w5 _ 0 _ _ _ k5
   have r1:=ac w5 _ 1 _ _ _ k5
   have rz:=fun k=>frozen_of_row w5 _ k _ _ k5
   have t0:=ac w5 _ 0 _ _ _ p5
   have t1:=ac w5 _ 1 _ _ _ p5
   have t2:=ac w5 _ 2 _ _ _ p5
   have t3:=ac w5 _ 3 _ _ _ p5
   have t4:=ac w5 _ 4 _ _ _ p5
   have s5s:=g5.size
   simp only[World.size_alloc]at s5s
   have o6:Off [w.heap.size+1] w5 (w5.setCell ⟨w.heap.size+1,0,none⟩ (.slice (some ⟨x5,0,none⟩) 1 y5)):=Off.setCell _ _ _ _
   have u7:((w5.setCell ⟨w.heap.size+1,0,none⟩ (.slice (some ⟨x5,0,none⟩) 1 y5)).alloc (.cells #[.int .u32 7,.int .i64 2,.int .i64 1,.int .i64 10,.int .u32 9] 59)).ownsRow (w.heap.size+2) 59 5 (.slice ua 0 uc) 0 (eZ 0 i4):=cE (bH u5 (fun g hg=>o6.block g (by have:=(u5.lt g hg).2;omega) (by have:=(u5.lt g hg).1;simp;omega))) (az (Below.refl _ _) _)
   have nk7:=au (w5.setCell ⟨w.heap.size+1,0,none⟩ (.slice (some ⟨x5,0,none⟩) 1 y5)) (.cells #[.int .u32 7,.int .i64 2,.int .i64 1,.int .i64 10,.int .u32 9] 59)
   have hs6:(w5.setCell ⟨w.heap.size+1,0,none⟩ (.slice (some ⟨x5,0,none⟩) 1 y5)).heap.size=w5.heap.size:=by simp[World.setCell]
   rw[hs6]at nk7
   have hcl7:∀ j u,(i4 0).cs[j]?=some u→((w5.setCell ⟨w.heap.size+1,0,none⟩ (.slice (some ⟨x5,0,none⟩) 1 y5)).alloc (.cells #[.int .u32 7,.int .i64 2,.int .i64 1,.int .i64 10,.int .u32 9] 59)).cell? ((⟨w5.heap.size,0,none⟩:Addr).add j)=some u:=gW nk7
   have hbs7:w.heap.size+2 ≤ ((w5.setCell ⟨w.heap.size+1,0,none⟩ (.slice (some ⟨x5,0,none⟩) 1 y5)).alloc (.cells #[.int .u32 7,.int .i64 2,.int .i64 1,.int .i64 10,.int .u32 9] 59)).heap.size:=by rw[World.size_alloc,hs6];omega
   have HH:Hid (_):=And.intro o5 (And.intro g5 (And.intro s5 (And.intro k5 (And.intro p5 (And.intro u5 (And.intro nb (And.intro nu b4)))))))
   clear o5 g5 s5 k5 p5 u5 hrow hcl hbs nk q0 q1 nk7 o6 nb nu
   go_wp2_with (at_builtin;refine wpList_append_own_at _ rfl (.tmp 30) (.tmp 32) 27 rfl (w.heap.size+2) 59 i0 (.agg #[.int .u32 0,.int .i64 0,.int .i64 0,.int .i64 0,.int .u32 0]) 5 40 Tryz.underlying27 hI hz0 hz1 hz2 rfl (by decide) (.slice ua 0 uc) 0 (eZ 0 i4) rfl u7 ⟨w5.heap.size,0,none⟩ 1 1 (i4 0).cs rfl rfl hcl7 (jb _) (by unfold maxLen;omega) (by omega) hbs7 ?_)
   intro v8 w8 o8 g8 _ s8
   obtain⟨x8,y8,rfl,hx8⟩:=gI (n:=0) o8
   have key:Hid (Sp w (w8.setCell ⟨w.heap.size+1,1,none⟩ (.slice (some ⟨x8,0,none⟩) 1 y8)) 1 (some ⟨x5,0,none⟩) y5 (some ⟨x8,0,none⟩) y8∧w8.heap[w.heap.size+1]?=some (.cells #[.slice (some ⟨x5,0,none⟩) 1 y5,.slice ua 0 uc,.int .u32 50] 30 (0,0))):=by
    obtain⟨o5,g5,s5,k5,p5,u5,nb,nu,b4⟩:=HH.out
    have hI':=HI.out
    have o6:Off [w.heap.size+1] w5 (w5.setCell ⟨w.heap.size+1,0,none⟩ (.slice (some ⟨x5,0,none⟩) 1 y5)):=Off.setCell _ _ _ _
    have o9:Off [w.heap.size+1] w8 (w8.setCell ⟨w.heap.size+1,1,none⟩ (.slice (some ⟨x8,0,none⟩) 1 y8)):=Off.setCell _ _ _ _
    have g8s:=g8.size
    rw[World.size_alloc,hs6]at g8s
    have wr2:w.heap.size+2≤wr.heap.size:=by omega
    have thr:∀ k,k<w5.heap.size→k≠w.heap.size+1→(∀ g,(Value.slice ua 0 uc).ownBlock=some g→k≠g)→(w8.setCell ⟨w.heap.size+1,1,none⟩ (.slice (some ⟨x8,0,none⟩) 1 y8)).heap[k]?=w5.heap[k]?:=fun k hk h1 h2=>
     (o9.block k (by omega) (by simpa using h1)).trans ((g8.block k (by rw[World.size_alloc,hs6];omega) (fun e=>h2 k e.symm rfl)).trans (((az (Below.refl _ _) _).block k (by rw[hs6];exact hk)).trans (o6.block k hk (by simpa using h1))))
    have kk6:(w5.setCell ⟨w.heap.size+1,0,none⟩ (.slice (some ⟨x5,0,none⟩) 1 y5)).heap[w.heap.size+1]?=some (.cells #[.slice (some ⟨x5,0,none⟩) 1 y5,.slice ua 0 uc,.int .u32 50] 30 (0,0)):=heap_setCell_same _ _ _ _ _ _ k5
    have kk8:w8.heap[w.heap.size+1]?=some (.cells #[.slice (some ⟨x5,0,none⟩) 1 y5,.slice ua 0 uc,.int .u32 50] 30 (0,0)):=(g8.block _ (by rw[World.size_alloc,hs6];omega) (fun e=>by have:=(nu _ e.symm).1;omega)).trans (((az (Below.refl _ _) _).block _ (by rw[hs6];omega)).trans kk6)
    have b5:Below w.heap.size w w5:=(hI'.bel.trans (b4.mono (by omega))).grown g5 (by simp;omega) (fun j hj=>by have:=(nb j hj).1;omega)
    have l5:=(o5.lt x5 rfl).2
    have xu:∀ g,(Value.slice ua 0 uc).ownBlock=some g→x5≠g:=fun g hg e=>by
     subst e
     rcases s5 with h | h
     ·exact hI'.dis x5 (h.symm.trans rfl) hg
     ·have h2:some x5=some _:=h
      simp only[Option.some.injEq]at h2
      have:=(nu _ hg).2
      omega
    refine⟨⟨?_,?_,heap_setCell_same _ _ _ _ _ _ kk8,?_,?_,?_⟩,kk8⟩
    ·have b6:=o6.below b5 (fun k hk=>by simp at hk;omega) b5.size
     have b7:=(b6.alloc (by rw[hs6];exact b5.size) (.cells #[.int .u32 7,.int .i64 2,.int .i64 1,.int .i64 10,.int .u32 9] 59)).grown g8 (by rw[World.size_alloc,hs6];have:=b5.size;omega) (fun j hj=>by have:=(nu j hj).1;omega)
     exact o9.below b7 (fun k hk=>by simp at hk;omega) b7.size
    ·rw[thr _ (by omega) (by omega) (fun g hg=>by have:=(nu g hg).1;omega)]
     exact (g5.block _ (by simp;omega) (fun e=>by have:=(nb _ e.symm).1;omega)).trans ((b4.block _ (by omega)).trans hI'.rb)
    ·rw[cL]
     exact bH o5 (fun g hg=>by
      have e:g=x5:=by simpa [Value.ownBlock] using hg.symm
      subst e
      exact thr g l5 (by omega) xu)
    ·rw[cL]
     exact bH o8 (fun g hg=>by
      have e:g=x8:=by simpa [Value.ownBlock] using hg.symm
      subst e
      exact o9.block g (o8.lt g rfl).2 (by simp;omega))
    ·intro g hg hg'
     cases hg
     have e8:x8=x5:=by simpa [Value.ownBlock] using hg'
     rcases s8 with h | h
     ·have h2:some x8=_:=h
      exact xu x8 h2.symm e8.symm
     ·have h2:some x8=some _:=h
      simp only[Option.some.injEq]at h2
      omega
   have HS:Hid (_):=key.out.1
   have f0:=ac w8 _ 0 _ _ _ key.out.2
   have f1:=ac w8 _ 1 _ _ _ key.out.2
   have fz:=fun k=>frozen_of_row w8 _ k _ _ key.out.2
   clear key o8 g8 s8 HH u7 hcl7 hbs7 HI
   go_wp2_with fail
   go_roundw
   case rel=>exact⟨1,_,_,_,_,by omega,by go_num,HS⟩
   case measure=>simp[iJ]
  ·obtain⟨i0,hI,hz0,hz1,hz2⟩:=info_parts eE
   go_wp2_with fail
   refine (hS _).mono ?_
   rintro r w3 ⟨rfl,b3⟩
   have q0:=ae (ac wr _ 0 _ _ _ HI.out.xb) (az b3 (.cells #[.int .u32 8,.int .i64 2,.int .i64 1,.int .i64 11,.int .u32 9] 59))
   have q1:=ae (ac wr _ 1 _ _ _ HI.out.xb) (az b3 (.cells #[.int .u32 8,.int .i64 2,.int .i64 1,.int .i64 11,.int .u32 9] 59))
   have b4:=az (az b3 (.cells #[.int .u32 8,.int .i64 2,.int .i64 1,.int .i64 11,.int .u32 9] 59)) (.cells #[.int .u32 8,.int .i64 2,.int .i64 1,.int .i64 11,.int .u32 9] 59)
   have hrow:=cE HI.out.ov b4
   have lx:=(Array.getElem?_eq_some_iff.1 HI.out.xb).1
   have s3:=b3.size
   have nk:=au (w3.alloc (.cells #[.int .u32 8,.int .i64 2,.int .i64 1,.int .i64 11,.int .u32 9] 59)) (.cells #[.int .u32 8,.int .i64 2,.int .i64 1,.int .i64 11,.int .u32 9] 59)
   simp only[World.size_alloc]at nk
   have hcl:∀ j u,(i4 1).cs[j]?=some u→((w3.alloc (.cells #[.int .u32 8,.int .i64 2,.int .i64 1,.int .i64 11,.int .u32 9] 59)).alloc (.cells #[.int .u32 8,.int .i64 2,.int .i64 1,.int .i64 11,.int .u32 9] 59)).cell? ((⟨w3.heap.size+1,0,none⟩:Addr).add j)=some u:=gW nk
   have hbs:w.heap.size+2 ≤ ((w3.alloc (.cells #[.int .u32 8,.int .i64 2,.int .i64 1,.int .i64 11,.int .u32 9] 59)).alloc (.cells #[.int .u32 8,.int .i64 2,.int .i64 1,.int .i64 11,.int .u32 9] 59)).heap.size:=by simp;omega
   go_wp2_with (at_builtin;refine wpList_append_own_at _ rfl (.tmp 24) (.tmp 26) 27 rfl (w.heap.size+2) 59 i0 (.agg #[.int .u32 0,.int .i64 0,.int .i64 0,.int .i64 0,.int .u32 0]) 5 40 Tryz.underlying27 hI hz0 hz1 hz2 rfl (by decide) (.slice va 1 vc) 1 (eZ 1 i4) rfl hrow ⟨w3.heap.size+1,0,none⟩ 1 1 (i4 1).cs rfl rfl hcl (jb _) (by unfold maxLen;omega) (by omega) hbs ?_)
   intro v5 w5 o5 g5 _ s5
   obtain⟨x5,y5,rfl,hx5⟩:=gI (n:=1) o5
   have nb:=fun g (hg:(Value.slice va 1 vc).ownBlock=some g)=>HI.out.ov.lt g hg
   have nu:=fun g (hg:(Value.slice ua 1 uc).ownBlock=some g)=>HI.out.ou.lt g hg
   have k5:w5.heap[w.heap.size+1]?=some (.cells #[.slice va 1 vc,.slice ua 1 uc,.int .u32 50] 30 (0,0)):=(g5.block _ (by simp;omega) (fun e=>by have:=(nb _ e.symm).1;omega)).trans ((b4.block _ lx).trans HI.out.xb)
   have p5:w5.heap[w3.heap.size]?=some (.cells #[.int .u32 8,.int .i64 2,.int .i64 1,.int .i64 11,.int .u32 9] 59 (0,0)):=(g5.block _ (by simp;omega) (fun e=>by have:=(nb _ e.symm).2;omega)).trans (((az (Below.refl _ _) _).block w3.heap.size (by simp)).trans (au w3 (.cells #[.int .u32 8,.int .i64 2,.int .i64 1,.int .i64 11,.int .u32 9] 59)))
   have u5:w5.ownsRow (w.heap.size+2) 59 5 (.slice ua 1 uc) 1 (eZ 1 i4):=bH (cE HI.out.ou b4) (fun g hg=>g5.block g (by have:=(nu g hg).2;simp;omega) (fun e=>HI.out.dis g e.symm hg))
   have r0:=ac w5 _ 0 _ _ _ k5
   have r1:=ac w5 _ 1 _ _ _ k5
   have rz:=fun k=>frozen_of_row w5 _ k _ _ k5
   have t0:=ac w5 _ 0 _ _ _ p5
   have t1:=ac w5 _ 1 _ _ _ p5
   have t2:=ac w5 _ 2 _ _ _ p5
   have t3:=ac w5 _ 3 _ _ _ p5
   have t4:=ac w5 _ 4 _ _ _ p5
   have s5s:=g5.size
   simp only[World.size_alloc]at s5s
   have o6:Off [w.heap.size+1] w5 (w5.setCell ⟨w.heap.size+1,0,none⟩ (.slice (some ⟨x5,0,none⟩) 2 y5)):=Off.setCell _ _ _ _
   have u7:((w5.setCell ⟨w.heap.size+1,0,none⟩ (.slice (some ⟨x5,0,none⟩) 2 y5)).alloc (.cells #[.int .u32 8,.int .i64 2,.int .i64 1,.int .i64 11,.int .u32 9] 59)).ownsRow (w.heap.size+2) 59 5 (.slice ua 1 uc) 1 (eZ 1 i4):=cE (bH u5 (fun g hg=>o6.block g (by have:=(u5.lt g hg).2;omega) (by have:=(u5.lt g hg).1;simp;omega))) (az (Below.refl _ _) _)
   have nk7:=au (w5.setCell ⟨w.heap.size+1,0,none⟩ (.slice (some ⟨x5,0,none⟩) 2 y5)) (.cells #[.int .u32 8,.int .i64 2,.int .i64 1,.int .i64 11,.int .u32 9] 59)
   have hs6:(w5.setCell ⟨w.heap.size+1,0,none⟩ (.slice (some ⟨x5,0,none⟩) 2 y5)).heap.size=w5.heap.size:=by simp[World.setCell]
   rw[hs6]at nk7
   have hcl7:∀ j u,(i4 1).cs[j]?=some u→((w5.setCell ⟨w.heap.size+1,0,none⟩ (.slice (some ⟨x5,0,none⟩) 2 y5)).alloc (.cells #[.int .u32 8,.int .i64 2,.int .i64 1,.int .i64 11,.int .u32 9] 59)).cell? ((⟨w5.heap.size,0,none⟩:Addr).add j)=some u:=gW nk7
   have hbs7:w.heap.size+2 ≤ ((w5.setCell ⟨w.heap.size+1,0,none⟩ (.slice (some ⟨x5,0,none⟩) 2 y5)).alloc (.cells #[.int .u32 8,.int .i64 2,.int .i64 1,.int .i64 11,.int .u32 9] 59)).heap.size:=by rw[World.size_alloc,hs6];omega
   have HH:Hid (_):=And.intro o5 (And.intro g5 (And.intro s5 (And.intro k5 (And.intro p5 (And.intro u5 (And.intro nb (And.intro nu b4)))))))
   clear o5 g5 s5 k5 p5 u5 hrow hcl hbs nk q0 q1 nk7 o6 nb nu
   go_wp2_with (at_builtin;refine wpList_append_own_at _ rfl (.tmp 30) (.tmp 32) 27 rfl (w.heap.size+2) 59 i0 (.agg #[.int .u32 0,.int .i64 0,.int .i64 0,.int .i64 0,.int .u32 0]) 5 40 Tryz.underlying27 hI hz0 hz1 hz2 rfl (by decide) (.slice ua 1 uc) 1 (eZ 1 i4) rfl u7 ⟨w5.heap.size,0,none⟩ 1 1 (i4 1).cs rfl rfl hcl7 (jb _) (by unfold maxLen;omega) (by omega) hbs7 ?_)
   intro v8 w8 o8 g8 _ s8
   obtain⟨x8,y8,rfl,hx8⟩:=gI (n:=1) o8
   have key:Hid (Sp w (w8.setCell ⟨w.heap.size+1,1,none⟩ (.slice (some ⟨x8,0,none⟩) 2 y8)) 2 (some ⟨x5,0,none⟩) y5 (some ⟨x8,0,none⟩) y8∧w8.heap[w.heap.size+1]?=some (.cells #[.slice (some ⟨x5,0,none⟩) 2 y5,.slice ua 1 uc,.int .u32 50] 30 (0,0))):=by
    obtain⟨o5,g5,s5,k5,p5,u5,nb,nu,b4⟩:=HH.out
    have hI':=HI.out
    have o6:Off [w.heap.size+1] w5 (w5.setCell ⟨w.heap.size+1,0,none⟩ (.slice (some ⟨x5,0,none⟩) 2 y5)):=Off.setCell _ _ _ _
    have o9:Off [w.heap.size+1] w8 (w8.setCell ⟨w.heap.size+1,1,none⟩ (.slice (some ⟨x8,0,none⟩) 2 y8)):=Off.setCell _ _ _ _
    have g8s:=g8.size
    rw[World.size_alloc,hs6]at g8s
    have wr2:w.heap.size+2≤wr.heap.size:=by omega
    have thr:∀ k,k<w5.heap.size→k≠w.heap.size+1→(∀ g,(Value.slice ua 1 uc).ownBlock=some g→k≠g)→(w8.setCell ⟨w.heap.size+1,1,none⟩ (.slice (some ⟨x8,0,none⟩) 2 y8)).heap[k]?=w5.heap[k]?:=fun k hk h1 h2=>
     (o9.block k (by omega) (by simpa using h1)).trans ((g8.block k (by rw[World.size_alloc,hs6];omega) (fun e=>h2 k e.symm rfl)).trans (((az (Below.refl _ _) _).block k (by rw[hs6];exact hk)).trans (o6.block k hk (by simpa using h1))))
    have kk6:(w5.setCell ⟨w.heap.size+1,0,none⟩ (.slice (some ⟨x5,0,none⟩) 2 y5)).heap[w.heap.size+1]?=some (.cells #[.slice (some ⟨x5,0,none⟩) 2 y5,.slice ua 1 uc,.int .u32 50] 30 (0,0)):=heap_setCell_same _ _ _ _ _ _ k5
    have kk8:w8.heap[w.heap.size+1]?=some (.cells #[.slice (some ⟨x5,0,none⟩) 2 y5,.slice ua 1 uc,.int .u32 50] 30 (0,0)):=(g8.block _ (by rw[World.size_alloc,hs6];omega) (fun e=>by have:=(nu _ e.symm).1;omega)).trans (((az (Below.refl _ _) _).block _ (by rw[hs6];omega)).trans kk6)
    have b5:Below w.heap.size w w5:=(hI'.bel.trans (b4.mono (by omega))).grown g5 (by simp;omega) (fun j hj=>by have:=(nb j hj).1;omega)
    have l5:=(o5.lt x5 rfl).2
    have xu:∀ g,(Value.slice ua 1 uc).ownBlock=some g→x5≠g:=fun g hg e=>by
     subst e
     rcases s5 with h | h
     ·exact hI'.dis x5 (h.symm.trans rfl) hg
     ·have h2:some x5=some _:=h
      simp only[Option.some.injEq]at h2
      have:=(nu _ hg).2
      omega
    refine⟨⟨?_,?_,heap_setCell_same _ _ _ _ _ _ kk8,?_,?_,?_⟩,kk8⟩
    ·have b6:=o6.below b5 (fun k hk=>by simp at hk;omega) b5.size
     have b7:=(b6.alloc (by rw[hs6];exact b5.size) (.cells #[.int .u32 8,.int .i64 2,.int .i64 1,.int .i64 11,.int .u32 9] 59)).grown g8 (by rw[World.size_alloc,hs6];have:=b5.size;omega) (fun j hj=>by have:=(nu j hj).1;omega)
     exact o9.below b7 (fun k hk=>by simp at hk;omega) b7.size
    ·rw[thr _ (by omega) (by omega) (fun g hg=>by have:=(nu g hg).1;omega)]
     exact (g5.block _ (by simp;omega) (fun e=>by have:=(nb _ e.symm).1;omega)).trans ((b4.block _ (by omega)).trans hI'.rb)
    ·rw[cL]
     exact bH o5 (fun g hg=>by
      have e:g=x5:=by simpa [Value.ownBlock] using hg.symm
      subst e
      exact thr g l5 (by omega) xu)
    ·rw[cL]
     exact bH o8 (fun g hg=>by
      have e:g=x8:=by simpa [Value.ownBlock] using hg.symm
      subst e
      exact o9.block g (o8.lt g rfl).2 (by simp;omega))
    ·intro g hg hg'
     cases hg
     have e8:x8=x5:=by simpa [Value.ownBlock] using hg'
     rcases s8 with h | h
     ·have h2:some x8=_:=h
      exact xu x8 h2.symm e8.symm
     ·have h2:some x8=some _:=h
      simp only[Option.some.injEq]at h2
      omega
   have HS:Hid (_):=key.out.1
   have f0:=ac w8 _ 0 _ _ _ key.out.2
   have f1:=ac w8 _ 1 _ _ _ key.out.2
   have fz:=fun k=>frozen_of_row w8 _ k _ _ key.out.2
   clear key o8 g8 s8 HH u7 hcl7 hbs7 HI
   go_wp2_with fail
   go_roundw
   case rel=>exact⟨2,_,_,_,_,by omega,by go_num,HS⟩
   case measure=>simp[iJ]
  ·have x0:=ac wr _ 0 _ _ _ HI.out.xb
   have x1:=ac wr _ 1 _ _ _ HI.out.xb
   have x2:=ac wr _ 2 _ _ _ HI.out.xb
   have y0:=ac wr _ 0 _ _ _ HI.out.rb
   have y1:=ac wr _ 1 _ _ _ HI.out.rb
   have y2:=ac wr _ 2 _ _ _ HI.out.rb
   have yz:=fun k=>frozen_of_row wr _ k _ _ HI.out.rb
   go_wp2_with fail
   refine bodyPost_ret (v:=.agg #[.slice va 2 vc,.slice ua 2 uc,.int .u32 50]) (by simp[results,Tryz.results30,go_sem,y0,y1,y2]) rfl ?_
   have o:Off [w.heap.size] wr (((wr.setCell ⟨w.heap.size,0,none⟩ (.slice va 2 vc)).setCell ⟨w.heap.size,1,none⟩ (.slice ua 2 uc)).setCell ⟨w.heap.size,2,none⟩ (.int .u32 50)):=((Off.setCell _ _ _ _).trans (Off.setCell _ _ _ _)).trans (Off.setCell _ _ _ _)
   have hI:=HI.out
   exact⟨va,vc,ua,uc,rfl,(bH hI.ov (fun g hg=>o.block g (hI.ov.lt g hg).2 (by have:=(hI.ov.lt g hg).1;simp;omega))),(bH hI.ou (fun g hg=>o.block g (hI.ou.lt g hg).2 (by have:=(hI.ou.lt g hg).1;simp;omega))),hI.dis,o.below hI.bel (fun k hk=>by simp at hk;omega) hI.bel.size⟩
theorem zq (w:World):Calls Tryz.prog 12 #[.int .i64 1,.int .u32 9] w fun r w'=>∃ g0 c0 g1 c1,r=.returned (.agg #[.slice (some ⟨g0,0,none⟩) 2 c0,.slice (some ⟨g1,0,none⟩) 2 c1,.int .u32 50])∧Hid (2≤c0∧2≤c1∧PqRow w' (some ⟨g0,0,none⟩) 2 i4∧PqRow w' (some ⟨g1,0,none⟩) 2 i4∧Below w.heap.size w w'):=by
 have hP:=fun wx=>uR wx
 have kx:=au w (.cells #[.slice none 0 0,.slice none 0 0,.int .u32 0] 30)
 have bx:=az (Below.refl _ w) (.cells #[.slice none 0 0,.slice none 0 0,.int .u32 0] 30)
 have zx:=ik w (.cells #[.slice none 0 0,.slice none 0 0,.int .u32 0] 30)
 go_enter Tryz.func12,Tryz.ntmps12
 go_wp2_with fail
 refine (hP _).mono ?_
 rintro r w1 ⟨a0,c0,a1,c1,rfl,H1⟩
 obtain⟨g0,rfl,hg0⟩:=iu H1.out.1 (by decide)
 obtain⟨g1,rfl,hg1⟩:=iu H1.out.2.1 (by decide)
 clear hP
 have b1:=H1.out.2.2.2
 have kx1:=(b1.block w.heap.size (by rw[zx];omega)).trans kx
 have b2:Below w1.heap.size w1 (w1.alloc (.cells #[.slice (some ⟨g0,0,none⟩) 2 c0,.slice (some ⟨g1,0,none⟩) 2 c1,.int .u32 50] 30)):=az (Below.refl _ _) _
 have ky:=au w1 (.cells #[.slice (some ⟨g0,0,none⟩) 2 c0,.slice (some ⟨g1,0,none⟩) 2 c1,.int .u32 50] 30)
 have lx1:w.heap.size<w1.heap.size:=(Array.getElem?_eq_some_iff.1 kx1).1
 have kx2:=(b2.block w.heap.size lx1).trans kx1
 have o0:=cE H1.out.1 b2
 have o1:=cE H1.out.2.1 b2
 have hg01:g0≠g1:=fun e=>H1.out.2.2.1 g0 rfl (by rw[e];rfl)
 obtain⟨w2,hw2⟩:∃ z,(w1.alloc (.cells #[.slice (some ⟨g0,0,none⟩) 2 c0,.slice (some ⟨g1,0,none⟩) 2 c1,.int .u32 50] 30))=z:=⟨_,rfl⟩
 rw[hw2]at ky kx2 o0 o1 b2
 obtain⟨cur0,k0⟩:=aF o0 rfl
 obtain⟨cur1,k1⟩:=aF o1 rfl
 have own_at0:∀ j u,(eZ 2 i4)[j]?=some u→cur0[j]?=some u:=fun j u hu=>(ac w2 g0 j _ _ _ k0).symm.trans (iz o0 j u hu)
 have own_at1:∀ j u,(eZ 2 i4)[j]?=some u→cur1[j]?=some u:=fun j u hu=>(ac w2 g1 j _ _ _ k1).symm.trans (iz o1 j u hu)
 have s00:w2.setCell ⟨g0,4,none⟩ (.int .u32 9)=w2:=dJ k0 (own_at0 (4) _ rfl)
 have e00:w2.cell? ⟨g0,4,none⟩=some (.int .u32 9):=(ac w2 g0 4 _ _ _ k0).trans (own_at0 (4) _ rfl)
 have z00:w2.frozen? ⟨g0,4,none⟩=false:=frozen_of_row w2 g0 4 _ _ k0
 have s01:w2.setCell ⟨g0,9,none⟩ (.int .u32 9)=w2:=dJ k0 (own_at0 (9) _ rfl)
 have e01:w2.cell? ⟨g0,9,none⟩=some (.int .u32 9):=(ac w2 g0 9 _ _ _ k0).trans (own_at0 (9) _ rfl)
 have z01:w2.frozen? ⟨g0,9,none⟩=false:=frozen_of_row w2 g0 9 _ _ k0
 have s10:w2.setCell ⟨g1,4,none⟩ (.int .u32 9)=w2:=dJ k1 (own_at1 (4) _ rfl)
 have e10:w2.cell? ⟨g1,4,none⟩=some (.int .u32 9):=(ac w2 g1 4 _ _ _ k1).trans (own_at1 (4) _ rfl)
 have z10:w2.frozen? ⟨g1,4,none⟩=false:=frozen_of_row w2 g1 4 _ _ k1
 have s11:w2.setCell ⟨g1,9,none⟩ (.int .u32 9)=w2:=dJ k1 (own_at1 (9) _ rfl)
 have e11:w2.cell? ⟨g1,9,none⟩=some (.int .u32 9):=(ac w2 g1 9 _ _ _ k1).trans (own_at1 (9) _ rfl)
 have z11:w2.frozen? ⟨g1,9,none⟩=false:=frozen_of_row w2 g1 9 _ _ k1
 have y0:=ac w2 _ 0 _ _ _ ky
 have y1:=ac w2 _ 1 _ _ _ ky
 have y2:=ac w2 _ 2 _ _ _ ky
 have x0:=ac w2 _ 0 _ _ _ kx2
 have x1:=ac w2 _ 1 _ _ _ kx2
 have x2:=ac w2 _ 2 _ _ _ kx2
 have xz:=fun k=>frozen_of_row w2 _ k _ _ kx2
 have HF:Hid (_):=And.intro o0 (And.intro o1 (And.intro b2 (And.intro b1 (And.intro hg0 hg1))))
 have HE:Hid ((w1.alloc (.cells #[.slice (some ⟨g0,0,none⟩) 2 c0,.slice (some ⟨g1,0,none⟩) 2 c1,.int .u32 50] 30))=w2):=hw2
 have HX:Hid (_):=And.intro bx zx
 clear ky kx2 o0 o1 b2 b1 k0 k1 own_at0 own_at1 kx kx1 hw2 H1 bx
 go_upto_region 2 with fail
 rw[HE.out]
 go_wp2_with fail
 refine wp_loop_rounds 3 ?_
 rw[rounds_succ]
 go_wp2_with fail
 rw[rounds_succ]
 go_wp2_with fail
 rw[rounds_succ]
 go_wp2_with fail
 refine bodyPost_ret (v:=.agg #[.slice (some ⟨g0,0,none⟩) 2 c0,.slice (some ⟨g1,0,none⟩) 2 c1,.int .u32 50]) (by simp[results,Tryz.results12,go_sem,x0,x1,x2]) rfl ?_
 have o:Off [w.heap.size] w2 (((w2.setCell ⟨w.heap.size,0,none⟩ (.slice (some ⟨g0,0,none⟩) 2 c0)).setCell ⟨w.heap.size,1,none⟩ (.slice (some ⟨g1,0,none⟩) 2 c1)).setCell ⟨w.heap.size,2,none⟩ (.int .u32 50)):=((Off.setCell _ _ _ _).trans (Off.setCell _ _ _ _)).trans (Off.setCell _ _ _ _)
 obtain⟨o0,o1,b2,b1,hg0,hg1⟩:=HF.out
 obtain⟨bx,zx⟩:=HX.out
 have bz:Below w.heap.size w w2:=(bx.trans (b1.mono bx.size)).trans (b2.mono (Nat.le_trans bx.size b1.size))
 exact⟨g0,c0,g1,c1,rfl,nT o0 (by decide),nT o1 (by decide),PqRow.ofOwn (bH o0 (fun g hg=>o.block g (o0.lt g hg).2 (by have:=(o0.lt g hg).1;rw[zx]at this;simp;omega))),PqRow.ofOwn (bH o1 (fun g hg=>o.block g (o1.lt g hg).2 (by have:=(o1.lt g hg).1;rw[zx]at this;simp;omega))),o.below bz (fun k hk=>by simp at hk;omega) bz.size⟩
open Go.RowKit Go.Maps
section
variable {P:Pm}
end
end Go.Proofs.YtdmjfemodihfhaaGreat
namespace Go.Proofs.YtdmjfemodihfhaaGreat
set_option maxRecDepth 100000
open Go.RowKit Go.Maps
set_option linter.unusedVariables false
theorem PWn.turnB {e:Nat→Nat} {w0 w w':World} {t:Nat→Thing} {L:Pw} {S:Ws} {i q:Nat} {ob ob':Obj} (h:PWn e w0 (aA t i (cR [(q,ob)])) L w S) (hi:∀ j,i≠e j) (o:Off [q] w w') (hob:w'.heap[q]?=some ob'):PWn e w0 (aA t i (cR [(q,ob')])) L w' S:=by
 obtain⟨t1,L1,h1,hs,hx,he⟩:=h
 have e1:t1 i=cR [(q,ob)]:=by rw[he i hi,ai]
 have u1:(t1 i).U=[q]:=by rw[e1];rfl
 have lq:=(Array.getElem?_eq_some_iff.1 hob).1
 have hq:=h1.1.lt i q (by rw[u1];exact List.mem_singleton.2 rfl)
 refine⟨aA t1 i (cR [(q,ob')]),L1,⟨h1.1.turn i _ (by rw[u1];exact o) ?_ ?_ ?_,h1.2.1,fun j=>by rw[ag _ _ (fun z=>hi j z.symm)];exact h1.2.2 j⟩,hs,hx,fun k hk=>?_⟩
 ·intro p hp
  obtain rfl:=List.mem_singleton.1 hp
  exact hob
 ·intro k hk
  have hk:k ∈ [q]:=hk
  obtain rfl:=List.mem_singleton.1 hk
  exact⟨hq.1,lq⟩
 ·intro k hk j hj
  have hk:k ∈ [q]:=hk
  exact h1.1.dis i j (fun z=>hj z.symm) k (by rw[u1];exact hk)
 ·by_cases z:k=i
  ·subst z
   rw[ai,ai]
  ·rw[ag _ _ z,ag _ _ z,he k hk,ag _ _ z]
abbrev aab (A:Array Value) (s:Sh):Prop:=Enc A s.st s.ss s.nm s.sn s.dc s.v.lat (ak s.v) (ax s.v)
abbrev zV (A:Array Value) (s:Sd):Prop:=Enc A s.st s.ss s.nm s.sn s.dc s.v.lat (ak s.v) (ax s.v)
def RwC (A hV dV:Array Value) (S:Ws) (m:Mv):Prop:=hV.size=9∧hV.all (·.oneCell')=true∧dV.size=9∧dV.all (·.oneCell')=true∧aab hV ((S.play m).S.hs m.c.toNat)∧zV dV ((S.play m).S.ds m.c.toNat)∧A.toList[9]?=some (.int .i64 (S.play m).e)∧(∀ j v,hV.toList[j]?=some v→A.toList[11+j]?=some v)∧∀ j v,dV.toList[j]?=some v→A.toList[20+j]?=some v
theorem zO {A:Array Value} {n:Nat} {v0 v1 v2 v3 v4 v5 v6 v7 v8:Value} (h0:A.toList[n+0]?=some v0) (h1:A.toList[n+1]?=some v1) (h2:A.toList[n+2]?=some v2) (h3:A.toList[n+3]?=some v3) (h4:A.toList[n+4]?=some v4) (h5:A.toList[n+5]?=some v5) (h6:A.toList[n+6]?=some v6) (h7:A.toList[n+7]?=some v7) (h8:A.toList[n+8]?=some v8):∀ j v,(#[v0,v1,v2,v3,v4,v5,v6,v7,v8]:Array Value).toList[j]?=some v→A.toList[n+j]?=some v:=fun j v hv=>by
 have hj:j<9:=(List.getElem?_eq_some_iff.1 hv).1
 have:j=0∨j=1∨j=2∨j=3∨j=4∨j=5∨j=6∨j=7∨j=8:=by omega
 rcases this with rfl | rfl | rfl | rfl | rfl | rfl | rfl | rfl | rfl
 ·exact h0.trans hv
 ·exact h1.trans hv
 ·exact h2.trans hv
 ·exact h3.trans hv
 ·exact h4.trans hv
 ·exact h5.trans hv
 ·exact h6.trans hv
 ·exact h7.trans hv
 ·exact h8.trans hv
theorem xN {w0 w:World} {t:Nat→Thing} {L:Pw} {S:Ws} {i:Nat} (m:Mv) (d:Option Addr) (c:Nat) (h:PWn ev w0 t L w S) (F:Fre ev t i) (I:S.In) (ok:m.Ok) (hn:0<S.n) (R:Row8 w d m.l c m.b) (hd:∀ y,d=some y→0<m.l→y.block≠L.x) (hl:m.l≤140737488351232):Calls Tryz.prog 15 #[.pointer (some ⟨L.x,0,none⟩),.agg #[.int .i64 m.k,.int .i64 m.c,.int .i64 m.s,.int .i64 m.f,.int .i64 m.a,.int .u32 (m.w:Nat),.int .i64 m.n,.bool m.h,.slice d m.l c]] w fun r w'=>∃ (A:Array Value) (E:Int),r=.returned (.tuple #[.agg A,.int .i64 E])∧A.size=29∧A.all (·.oneCell')=true∧Hid (E=S.bad m∧PWn ev w0 t L w' (S.play m).S∧(S.bad m=0→∃ hV dV,RwC A hV dV S m)):=by
 obtain⟨t1,L1,h1,hs,hx,he⟩:=h
 subst hs
 have F1:=F.els he
 have hP:=pO ev w0 w t1 L1 i m d c h1 F1 I ok hn R (fun y hy h0=>by rw[hx.x];exact hd y hy h0) hl
 rw[hx.x]at hP
 refine hP.mono ?_
 rintro r w' (⟨hb,rfl,H⟩ | ⟨hb,a',c',ah,ch,ad,cd,rfl,H⟩)
 ·refine⟨_,_,rfl,rfl,by kernel_rfl,rfl,?_,fun q=>absurd q hb⟩
  have hp:(L1.S.play m).S=L1.S:=by
   unfold Ws.play
   rw[if_pos hb]
  rw[hp]
  exact PWn.bind hx he H.out.1.n
 ·exact⟨_,_,rfl,rfl,by kernel_rfl,hb.symm,PWn.bind hx he (H.out.dropR F1),fun _=>⟨#[_,_,_,_,_,_,_,_,.slice ah _ ch],#[_,_,_,_,_,_,_,_,.slice ad _ cd],rfl,by kernel_rfl,rfl,by kernel_rfl,⟨rfl,rfl,rfl,rfl,rfl,rfl,rfl,rfl⟩,⟨rfl,rfl,rfl,rfl,rfl,rfl,rfl,rfl⟩,rfl,zO (n:=11) rfl rfl rfl rfl rfl rfl rfl rfl rfl,zO (n:=20) rfl rfl rfl rfl rfl rfl rfl rfl rfl⟩⟩
theorem qg:∀ k,k<2→Pok (uz k):=fun k hk=>by
 have:k=0∨k=1:=by omega
 rcases this with rfl | rfl <;> exact⟨by unfold qX uz;decide,by decide,by decide⟩
theorem wg:ze 2 2 50 (fun i=>(uz i).q) (fun i=>(uz i).q)=0:=by decide
theorem mS (f g:Nat→Bool) (n:Nat) (h:∀ k,k<n→f k=g k):PM.V f n=PM.V g n:=by
 induction n with
 | zero=>rfl
 | succ n ih=>show 2*PM.V f n + (f n).toNat=2*PM.V g n + (g n).toNat;rw[ih (fun k hk=>h k (by omega)),h n (by omega)]
theorem pL (f:Nat→Bool) (n:Nat) (h:∀ k,k<n→f k=false):PM.V f n=0:=by
 induction n with
 | zero=>rfl
 | succ n ih=>show 2*PM.V f n + (f n).toNat=0;rw[ih (fun k hk=>h k (by omega)),h n (by omega)];rfl
theorem xm (x s:Nat) (hx:x<2 ^ s) (i:Nat) (hi:i≤s):PM.V (fun k=>x.testBit (s-1-k)) i=x >>> (s-i):=by
 induction i with
 | zero=>show 0=_;rw[Nat.shiftRight_eq_div_pow,Nat.sub_zero,Nat.div_eq_of_lt hx]
 | succ i ih=>
  show 2*PM.V (fun k=>x.testBit (s-1-k)) i + (x.testBit (s-1-i)).toNat=_
  rw[ih (by omega),PM.shr_step x (s - (i+1)) (s-i) (by omega),show s-1-i=s - (i+1) by omega]
theorem yJ {at_ x n:Nat} (h:at_+PM.bl x≤n):PM.V (PM.ly at_ (PM.bl x) x (PM.bl x)) n=PM.C x (2 ^ (n-at_-PM.bl x)):=by
 obtain⟨d,rfl⟩:∃ d,n=at_+PM.bl x+d:=⟨n-at_-PM.bl x,by omega⟩
 rw[PM.V_add,PM.V_add,pL (PM.ly at_ (PM.bl x) x (PM.bl x)) at_ (fun k hk=>by unfold PM.ly;rw[decide_eq_false (by omega)];rfl),
  pL (fun i=>PM.ly at_ (PM.bl x) x (PM.bl x) (at_+PM.bl x+i)) d (fun k hk=>by unfold PM.ly;rw[decide_eq_false (by omega)];rfl),
  mS (fun i=>PM.ly at_ (PM.bl x) x (PM.bl x) (at_+i)) (fun k=>x.testBit (PM.bl x-1-k)) (PM.bl x) (fun k hk=>by unfold PM.ly;rw[decide_eq_true (by omega),Bool.true_and,show at_+k-at_=k by omega]),
  xm x (PM.bl x) (PM.lt_bl x) (PM.bl x) (Nat.le_refl _),Nat.sub_self,Nat.shiftRight_zero,Nat.xor_zero,show at_+PM.bl x+d-at_-PM.bl x=d by omega,PM.C_pow_right 0,Nat.zero_mul,Nat.zero_xor]
theorem uw {f q:Nat→Nat} {n at_ x:Nat} (hx:x<4294967296) (hx0:x≠0) (hfit:at_+PM.bl x≤8*n) (hq:∀ k,k<8*n→PM.fb q k=PM.ly at_ (PM.bl x) x (PM.bl x) k) (hf:PM.R PM.g 32 (PM.V (PM.fb f) (8*n))=0) :
  ¬ PM.R PM.g 32 (PM.V (PM.fb (xr f q)) (8*n))=0:=by
 intro h
 rw[show xr f q=fun i=>f i ^^^ q i from rfl,PM.V_bytes_xor,PM.R_xor,hf,Nat.zero_xor,mS (PM.fb q) _ _ hq,yJ hfit]at h
 exact hx0 (PM.burst x _ hx h)
theorem oG {f:Fm} (hf:DE f.2 f.1=0) {a x:Nat} (hx:x<4294967296) (h0:x≠0) (hfit:a+PM.bl x≤8*f.1):DE (pA f a x).2 (pA f a x).1=42:=by
 obtain⟨h1,h2,h3,_⟩:=gH hf
 exact mE h1 h2 (uw hx h0 hfit (fun k _=>sG a x k) h3)
def Ek (F:Fm):Prop:=F.1=0∨DE F.2 F.1=0
theorem ir:Ek cT:=.inl rfl
theorem iA {k c s n f len:Nat} {bs:Nat→Nat} (hc:c<4294967296) (hs:s<4294967296) (hn:n<4294967296):Ek (cY k c s n f len bs):=by
 by_cases h:LW k c s n f len len=0
 ·right
  have hl:len≤8:=by have:=(fZ h).2.2.2.1;omega
  have e:=(ql k c s n f len bs hc hs hn hl h).1
  have hF:cY k c s n f len bs=(15+len+4,PM.sl (fr k c s n f len bs) (15+len)):=if_pos h
  rw[hF]
  exact e
 ·left
  have hF:cY k c s n f len bs=cT:=if_neg h
  rw[hF]
  rfl
section
variable {P:Pm} {mx n:Nat} {s:Sd}
theorem eV (hP:Pok P) (hs:s.ss<4294967296) (k num fl len:Nat) (bs:Nat→Nat) (hn:num<4294967296):Ek (dG P s k num fl len bs):=iA hP.c hs hn
theorem lJ (h:s.ss<4294967296):(bf s).ss<4294967296:=by
 unfold bf
 split
 ·split
  ·exact h
  ·show 0<4294967296
   decide
 ·exact h
theorem tG (hP:Pok P) (M:Mo mx n s) (hu:s.st≠6):Ek (bc P mx n s).f:=by
 have hv:=wJ (mx:=mx) (n:=n) (s:=s.ms) M.n10 (M.off hu) M.l0 M.mxl
 have hm:=M.mxl
 unfold bc
 generalize nx mx n s.ms.bs false s.ms=X at *
 split
 ·exact eV hP (by show 0<4294967296;decide) _ _ _ _ _ (by decide)
 ·split
  ·exact ir
  ·next e0=>
   have e0:X.e=0:=by simpa using e0
   refine eV hP ?_ _ _ _ _ _ (by decide)
   show X.v<4294967296
   have:=hv.1 e0
   omega
theorem vy (hP:Pok P) (M:Mo mx n s) (hs:s.ss<4294967296) (hu:s.st≠6):Ek (bO P mx n s).f:=by
 unfold bO
 split
 ·exact eV hP (lJ hs) _ _ _ _ _ (by decide)
 ·split
  ·exact eV hP (lJ hs) _ _ _ _ _ (by decide)
  ·exact tG hP M.odd (lu hu)
theorem v9 (hP:Pok P) (iv:Iv P s) (M:Mo mx n s) (hu:s.st≠6) (k ss num fl len:Nat) (bs:Nat→Nat):Ek (aP P mx n s k ss num fl len bs).f:=by
 have r:∀ x:Int,Ek (aL P s x).f:=fun x=>eV hP (lJ iv.ss) _ _ _ _ _ (by decide)
 unfold aP
 split
 ·split
  ·exact vy hP M iv.ss hu
  ·exact r _
 ·split
  ·split
   ·refine eV hP ?_ _ _ _ _ _ (by decide)
    unfold aZ
    split <;> exact iv.ss
   ·exact r _
  ·split
   ·refine eV hP ?_ _ _ _ _ _ (by decide)
    unfold cr
    split <;> exact iv.ss
   ·split
    ·next q=>
     refine eV hP iv.ss _ _ _ _ _ ?_
     have h1:=(iv.run q.2.1.2.1)
     have:=hP.n
     omega
    ·split
     ·refine eV hP ?_ _ _ _ _ _ hP.n
      show (aE (iT { s with nm:=P.n }) 80).ss<4294967296
      rw[(iK _ _).2.1]
      exact iv.ss
     ·exact r _
theorem uV (hP:Pok P) (iv:Iv P s) (M:Mo mx n s) (len:Nat) (bs:Nat→Nat):Ek (an P mx n s len bs).f:=by
 have hh:s.st≠6→Ek (bn P mx n s len bs).f:=by
  intro hu
  unfold bn
  split
  ·exact ir
  ·split
   ·exact ir
   ·split
    ·exact ir
    ·exact v9 hP iv M hu _ _ _ _ _ _
 unfold an
 split
 ·exact ir
 ·next hu=>
  split
  ·exact hh hu
  ·exact hh hu
end
theorem sE (s:Sh):(bj s).ss=s.ss∧(((bj s).st=s.st∧(bj s).sn=s.sn)∨(bj s).st=1):=by
 unfold bj
 split
 ·exact⟨rfl,.inl ⟨rfl,rfl⟩⟩
 ·split
  ·exact⟨rfl,.inl ⟨rfl,rfl⟩⟩
  ·refine⟨?_,.inr rfl⟩
   show (if s.st=4 then aS { s with ms:=s.ms+1 } 131 else { s with ms:=s.ms+1 }).ss=s.ss
   split
   ·exact (eh _ _).2.1
   ·rfl
theorem uX {P:Pm} {s:Sh} (hP:Pok P) (ih:Ih P s):Ek (aK P s):=by
 unfold aK
 split
 ·exact ir
 ·next h5=>
  obtain⟨e1,e2⟩:=sE s
  have hs:(bj s).ss<4294967296:=by rw[e1];exact ih.ss
  unfold bI
  split
  ·exact iA hP.c (by decide) (by decide)
  ·split
   ·exact iA hP.c hs (by decide)
   ·split
    ·exact iA hP.c hs (by decide)
    ·next h1 h2 h3=>
     have hsn:(bj s).sn+1<4294967296:=by
      rcases e2 with ⟨a,b⟩ | a
      ·rw[b]
       have q1:=ih.st1
       have q5:=ih.st5
       exact ih.sentY hP (by omega)
      ·exact absurd a h1
     split
     ·exact iA hP.c hs hsn
     ·exact iA hP.c hs hsn
def Ws.Bv (S:Ws):Prop:=∀ f,f ∈ S.bg→DE f.2 f.1=0
theorem wL {S:Ws} (h:S.Bv) (k s:Nat) {f:Fm} (hf:Ek f):(S.put k s f).Bv:=by
 unfold Ws.put
 split
 ·exact h
 ·next h0=>
  intro g hg
  rcases List.mem_append.1 hg with q | q
  ·exact h g q
  ·obtain rfl:=List.mem_singleton.1 q
   rcases hf with e | e
   ·exact absurd e h0
   ·exact e
theorem wu (S:Ws) (k:Nat) (f:Fm):(S.toD2 k f).bg=S.bg:=by
 unfold Ws.toD2
 split <;> rfl
structure Ws.In' (S:Ws):Prop where
 ih:∀ k,k<S.n→Ih (S.PH k) (S.hs k)
 iv:∀ k,k<S.n→Iv (S.PD k) (S.ds k)
theorem zt {S:Ws} {m:Mv} (h:S.Bv) (K:S.Kn) (I:S.In') (hk:m.c.toNat<S.n):(S.act m).S.Bv:=by
 unfold Ws.act
 dsimp only
 split
 ·split
  ·exact h
  ·exact h
 ·split
  ·exact wL (S:=S.setH _ _) h _ _ (uX (K.ph _ hk) (I.ih _ hk))
  ·split
   ·split
    ·unfold Ws.toH
     dsimp only
     split
     ·exact h
     ·exact h
    ·unfold Ws.toD
     dsimp only
     refine wL (S:=S.toD2 _ _) (fun f hf=>h f ?_) _ _ (uV (K.pd _ hk) (I.iv _ hk) (K.mo _ hk) _ _)
     rw[wu]at hf
     exact hf
   ·split
    ·split
     ·exact h
     ·exact h
    ·split
     ·split
      ·exact h
      ·exact h
     ·split
      ·split
       ·exact h
       ·exact h
      ·exact h
theorem xZ {S:Ws} {m:Mv} (h:S.Bv) (K:S.Kn) (I:S.In):(S.play m).S.Bv:=by
 by_cases hb:S.bad m=0
 ·have l:=Ws.Law.of hb
  have hp:(S.play m).S=(S.up.act m).S.note [oH (S.up.act m).S m.c.toNat,oD (S.up.act m).S m.c.toNat]:=by
   unfold Ws.play
   rw[if_neg (fun q=>q hb)]
   rfl
  rw[hp]
  have K':S.up.Kn:=⟨K.ph,K.pd,K.ha,K.da,K.mo,K.fb⟩
  have h':S.up.Bv:=h
  have hk:m.c.toNat<S.up.n:=l.kn
  have I':S.up.In':=⟨I.ih,I.iv⟩
  exact zt (m:=m) h' K' I' hk
 ·have hp:(S.play m).S=S:=by
   unfold Ws.play
   rw[if_pos hb]
  rw[hp]
  exact h
theorem rF {S:Ws} {m:Mv} (h:S.Bv) (hb:S.bad m=0) (h4:m.k=4) (hw:m.w<4294967296) :
  (S.play m).i = -1∧((S.play m).e=42∨((S.play m).e=70∧m.s=2∧(S.ds m.c.toNat).st=6)) ∧
  (((S.play m).S.hs m.c.toNat).st=(S.hs m.c.toNat).st∧((S.play m).S.hs m.c.toNat).ss=(S.hs m.c.toNat).ss∧((S.play m).S.hs m.c.toNat).nm=(S.hs m.c.toNat).nm∧((S.play m).S.hs m.c.toNat).sn=(S.hs m.c.toNat).sn∧((S.play m).S.hs m.c.toNat).dc=(S.hs m.c.toNat).dc∧((S.play m).S.hs m.c.toNat).v=(S.hs m.c.toNat).v) ∧
  (((S.play m).S.ds m.c.toNat).st=(S.ds m.c.toNat).st∧((S.play m).S.ds m.c.toNat).ss=(S.ds m.c.toNat).ss∧((S.play m).S.ds m.c.toNat).nm=(S.ds m.c.toNat).nm∧((S.play m).S.ds m.c.toNat).sn=(S.ds m.c.toNat).sn∧((S.play m).S.ds m.c.toNat).dc=(S.ds m.c.toNat).dc∧((S.play m).S.ds m.c.toNat).v=(S.ds m.c.toNat).v):=by
 have l:=Ws.Law.of hb
 obtain⟨e1,e2,e3⟩:=ry S hb
 have hfr:=l.fr (.inr h4)
 have hgb:=l.gb h4
 have hlt:m.f.toNat<S.bg.length:=by
  have:m.f < ((S.bg.length:Nat):Int):=hfr.2
  omega
 have hmem:S.bg.getD m.f.toNat cT ∈ S.bg:=by
  rw[List.getD_eq_getElem?_getD,List.getElem?_eq_getElem hlt]
  exact List.getElem_mem _
 have hDE:=h _ hmem
 have hfe:S.fr m=pA (S.bg.getD m.f.toNat cT) m.a.toNat m.w:=by unfold Ws.fr;rw[if_pos h4]
 have hmk:bL ((S.bg.getD m.f.toNat cT).1:Nat) m.a m.w=0:=hgb
 have hgo:m.w≠0∧m.a.toNat+PM.bl m.w≤8 * (S.bg.getD m.f.toNat cT).1:=by
  unfold bL at hmk
  split at hmk
  ·cases hmk
  ·split at hmk
   ·cases hmk
   ·next q=>
    constructor
    ·intro z;exact q (.inl z)
    ·omega
 have hc:DE (S.fr m).2 (S.fr m).1=42:=by rw[hfe];exact oG hDE hw hgo.1 hgo.2
 have hne:DE (S.fr m).2 (S.fr m).1≠0:=by rw[hc];decide
 have hH:di (S.PH m.c.toNat) (S.hs m.c.toNat) (S.fr m).1 (S.fr m).2=42:=by unfold di;rw[if_pos hne];exact hc
 have hD:an (S.PD m.c.toNat) S.mx 16 (S.ds m.c.toNat) (S.fr m).1 (S.fr m).2=(if (S.ds m.c.toNat).st=6 then ⟨S.ds m.c.toNat,cT,70⟩ else ⟨fL (S.ds m.c.toNat) 42,cT,42⟩):=by
  unfold an bn
  rw[if_pos hne,hc]
  split
  ·rfl
  ·rw[if_pos ⟨by show (42:Int)≠0;decide,by show (42:Int)≠70;decide⟩]
 have hk:(m.k=3∨m.k=4):=.inr h4
 have hI:(S.play m).i = -1:=by
  have hp:(S.play m).i=(S.up.act m).i:=by
   unfold Ws.play
   rw[if_neg (fun q=>q hb)]
   rfl
  rw[hp]
  unfold Ws.act
  dsimp only
  rw[if_neg (by omega),if_neg (by omega),if_pos hk]
  split
  ·rfl
  ·unfold Ws.toD
   dsimp only
   show (S.up.toD2 m.c.toNat (S.fr m)).putI (an (S.PD m.c.toNat) S.mx 16 (S.ds m.c.toNat) (S.fr m).1 (S.fr m).2).f = -1
   rw[hD]
   unfold Ws.putI
   split <;> rfl
 refine⟨hI,?_⟩
 have d:S.actDF m=(if m.s=1 then S.ds m.c.toNat else (an (S.PD m.c.toNat) S.mx 16 (S.ds m.c.toNat) (S.fr m).1 (S.fr m).2).s):=by unfold Ws.actDF;rw[if_neg (by omega),if_neg (by omega),if_pos hk]
 have g:S.actHF m=(if m.s=1 then cC (S.PH m.c.toNat) (S.hs m.c.toNat) (S.fr m).1 (S.fr m).2 else S.hs m.c.toNat):=by unfold Ws.actHF;rw[if_neg (by omega),if_neg (by omega),if_pos hk]
 have q:S.actEF m=(if m.s=1 then di (S.PH m.c.toNat) (S.hs m.c.toNat) (S.fr m).1 (S.fr m).2 else (an (S.PD m.c.toNat) S.mx 16 (S.ds m.c.toNat) (S.fr m).1 (S.fr m).2).e):=by unfold Ws.actEF;rw[if_neg (by omega),if_neg (by omega),if_pos hk]
 rw[e1,e2,e3,d,g,q]
 rcases l.sd (by omega) (by omega) with s1 | s2
 ·rw[if_pos s1,if_pos s1,if_pos s1]
  have hS:cC (S.PH m.c.toNat) (S.hs m.c.toNat) (S.fr m).1 (S.fr m).2=ej (S.hs m.c.toNat) 42:=by unfold cC;rw[hH,if_pos (by decide)]
  rw[hS,hH]
  exact⟨.inl rfl,⟨rfl,rfl,rfl,rfl,rfl,rfl⟩,⟨rfl,rfl,rfl,rfl,rfl,rfl⟩⟩
 ·have n1:¬ m.s=1:=by omega
  rw[if_neg n1,if_neg n1,if_neg n1,hD]
  by_cases h6:(S.ds m.c.toNat).st=6
  ·rw[if_pos h6]
   exact⟨.inr ⟨rfl,s2,h6⟩,⟨rfl,rfl,rfl,rfl,rfl,rfl⟩,⟨rfl,rfl,rfl,rfl,rfl,rfl⟩⟩
  ·rw[if_neg h6]
   exact⟨.inl rfl,⟨rfl,rfl,rfl,rfl,rfl,rfl⟩,⟨rfl,rfl,rfl,rfl,rfl,rfl⟩⟩
end Go.Proofs.YtdmjfemodihfhaaGreat
namespace Go.Proofs.YtdmjfemodihfhaaGreat
set_option maxRecDepth 100000
open Go.RowKit Go.Maps
theorem kj (w:World) (o:Array Value) (wx:World) (hb:Below (w.alloc (.cells o 39)).heap.size (w.alloc (.cells o 39)) wx) (i:Nat):wx.cell? ⟨w.heap.size,i,none⟩=o[i]?:=by
 rw[hb.cell (p:=⟨w.heap.size,i,none⟩) (by simp)]
 exact ac _ _ _ _ _ _ (au _ _)
theorem jD (w:World) (o:Array Value) (i:Nat) (wx:World) (hb:Below (w.alloc (.cells o 39)).heap.size (w.alloc (.cells o 39)) wx):wx.frozen? ⟨w.heap.size,i,none⟩=false:=by
 rw[hb.frozen (p:=⟨w.heap.size,i,none⟩) (by simp)]
 simp
theorem tc (m:Mv) (d:Option Addr) (e:Nat) (w:World) (hr:Row8 w d m.l e m.b) (hlen:m.l≤140737488351232):Calls Tryz.prog 14 #[.agg #[.int .i64 m.k,.int .i64 m.c,.int .i64 m.s,.int .i64 m.f,.int .i64 m.a,.int .u32 (m.w:Nat),.int .i64 m.n,.bool m.h,.slice d m.l e]] w fun r w'=>∃ a' c',r=.returned (.agg #[.int .i64 m.k,.int .i64 m.c,.int .i64 m.s,.int .i64 m.f,.int .i64 m.a,.int .u32 (m.w:Nat),.int .i64 m.n,.bool m.h,.slice a' m.l c'])∧Hid (Row8 w' a' m.l c' m.b∧Below w.heap.size w w'∧∀ y,a'=some y→0<m.l→w.heap.size≤y.block):=by
 obtain⟨i0,hi,hz0,hz1,hz2⟩:=info_parts bQ
 have hbd:=vG
 have hX:=fun wx hb=>kj w #[.int .i64 m.k,.int .i64 m.c,.int .i64 m.s,.int .i64 m.f,.int .i64 m.a,.int .u32 (m.w:Nat),.int .i64 m.n,.bool m.h,.slice d m.l e] wx hb
 have hXf:=fun i wx hb=>jD w #[.int .i64 m.k,.int .i64 m.c,.int .i64 m.s,.int .i64 m.f,.int .i64 m.a,.int .u32 (m.w:Nat),.int .i64 m.n,.bool m.h,.slice d m.l e] i wx hb
 obtain⟨wa,hwa⟩:∃ x,x=w.alloc (.cells #[.int .i64 m.k,.int .i64 m.c,.int .i64 m.s,.int .i64 m.f,.int .i64 m.a,.int .u32 (m.w:Nat),.int .i64 m.n,.bool m.h,.slice d m.l e] 39):=⟨_,rfl⟩
 rw[← hwa]at hX hXf
 have hA:Below w.heap.size w wa:=by rw[hwa];exact (Below.refl _ _).alloc (Nat.le_refl _) _
 have hAs:wa.heap.size=w.heap.size+1:=by rw[hwa];simp
 have hY:=fun wx hb=>kj wa #[.int .i64 0,.int .i64 0,.int .i64 0,.int .i64 0,.int .i64 0,.int .u32 0,.int .i64 0,.bool false,.slice none 0 0] wx hb
 have hYf:=fun i wx hb=>jD wa #[.int .i64 0,.int .i64 0,.int .i64 0,.int .i64 0,.int .i64 0,.int .u32 0,.int .i64 0,.bool false,.slice none 0 0] i wx hb
 obtain⟨wb,hwb⟩:∃ x,x=wa.alloc (.cells #[.int .i64 0,.int .i64 0,.int .i64 0,.int .i64 0,.int .i64 0,.int .u32 0,.int .i64 0,.bool false,.slice none 0 0] 39):=⟨_,rfl⟩
 rw[← hwb]at hY hYf
 have hB:Below wa.heap.size wa wb:=by rw[hwb];exact (Below.refl _ _).alloc (Nat.le_refl _) _
 have hBs:wb.heap.size=w.heap.size+1+1:=by rw[hwb,hwa];simp
 have hC:Below wb.heap.size wb (wb.alloc (.cells #[] 5)):=(Below.refl _ _).alloc (Nat.le_refl _) _
 have O0:(wb.alloc (.cells #[] 5)).ownsRow wb.heap.size 5 1 (.slice (some ⟨wb.heap.size,0,none⟩) 0 0) 0 (CB m.b 0):=World.ownsRow_made wb #[] 0 (Nat.le_refl _) (Nat.zero_le _) rfl
 have hszC:=hC.size
 have R0:=((hr.below hA).below hB).below hC
 rw[hAs]at hY hYf
 go_enter Tryz.func14,Tryz.ntmps14
 go_upto_region 1 with fail
 try rw[← hwa]
 try rw[← hwb]
 have H0:Hid (_):=And.intro hwa (And.intro hwb (And.intro hAs hBs))
 clear hwa hwb
 have x8:(wb.alloc (.cells #[] 5)).cell? ⟨w.heap.size,8,none⟩=some (.slice d m.l e):=hX (wb.alloc (.cells #[] 5)) (hB.trans (hC.mono (by omega))) 8
 clear hAs hBs
 go_wp2_with (at_builtin;refine aR rfl (.tmp 3) (.tmp 5) 37 rfl wb.heap.size 5 i0 (.int .u8 0) Tryz.underlying37 hi hz0 hz1 hz2 rfl _ 0 _ rfl O0 d m.l e m.b rfl R0 (by unfold maxLen;omega) (by omega) hszC ?_)
 intro v2 w2 hown2 hgrow2
 have hbel2:Below wb.heap.size wb w2:=hC.grown hgrow2 hszC (fun j hj=>(O0.lt j hj).1)
 rw[show CB m.b 0=[] from rfl,List.nil_append]at hown2
 have hlt:w.heap.size<wb.heap.size∧w.heap.size+1<wb.heap.size:=by have:=H0.out;omega
 have hbelA:Below wa.heap.size wa w2:=hB.trans (hbel2.mono (by have:=H0.out;omega))
 have x0:w2.cell? ⟨w.heap.size,0,none⟩=some ((.int .i64 m.k)):=hX w2 hbelA 0
 have x1:w2.cell? ⟨w.heap.size,1,none⟩=some ((.int .i64 m.c)):=hX w2 hbelA 1
 have x2:w2.cell? ⟨w.heap.size,2,none⟩=some ((.int .i64 m.s)):=hX w2 hbelA 2
 have x3:w2.cell? ⟨w.heap.size,3,none⟩=some ((.int .i64 m.f)):=hX w2 hbelA 3
 have x4:w2.cell? ⟨w.heap.size,4,none⟩=some ((.int .i64 m.a)):=hX w2 hbelA 4
 have x5:w2.cell? ⟨w.heap.size,5,none⟩=some ((.int .u32 (m.w:Nat))):=hX w2 hbelA 5
 have x6:w2.cell? ⟨w.heap.size,6,none⟩=some ((.int .i64 m.n)):=hX w2 hbelA 6
 have x7:w2.cell? ⟨w.heap.size,7,none⟩=some ((.bool m.h)):=hX w2 hbelA 7
 have x8:w2.cell? ⟨w.heap.size,8,none⟩=some ((.slice d m.l e)):=hX w2 hbelA 8
 have y0:w2.cell? ⟨w.heap.size+1,0,none⟩=some (.int .i64 0):=hY w2 hbel2 0
 have y1:w2.cell? ⟨w.heap.size+1,1,none⟩=some (.int .i64 0):=hY w2 hbel2 1
 have y2:w2.cell? ⟨w.heap.size+1,2,none⟩=some (.int .i64 0):=hY w2 hbel2 2
 have y3:w2.cell? ⟨w.heap.size+1,3,none⟩=some (.int .i64 0):=hY w2 hbel2 3
 have y4:w2.cell? ⟨w.heap.size+1,4,none⟩=some (.int .i64 0):=hY w2 hbel2 4
 have y5:w2.cell? ⟨w.heap.size+1,5,none⟩=some (.int .u32 0):=hY w2 hbel2 5
 have y6:w2.cell? ⟨w.heap.size+1,6,none⟩=some (.int .i64 0):=hY w2 hbel2 6
 have y7:w2.cell? ⟨w.heap.size+1,7,none⟩=some (.bool false):=hY w2 hbel2 7
 have y8:w2.cell? ⟨w.heap.size+1,8,none⟩=some (.slice none 0 0):=hY w2 hbel2 8
 have xf:=fun i=>hXf i w2 hbelA
 have yf:=fun i=>hYf i w2 hbel2
 obtain⟨a2,c2,rfl,R2⟩:=aQ hown2 hr.byte
 have HR:Hid (w2.ownsRow wb.heap.size 5 1 (.slice a2 m.l c2) m.l (CB m.b m.l)∧Below wb.heap.size wb w2):=⟨hown2,hbel2⟩
 clear hgrow2 O0 R0 hC hszC hX hY hXf hYf hown2 R2 hbel2 hbelA hbd
 go_wp2_with fail
 refine bodyPost_ret (v:=.agg #[.int .i64 m.k,.int .i64 m.c,.int .i64 m.s,.int .i64 m.f,.int .i64 m.a,.int .u32 (m.w:Nat),.int .i64 m.n,.bool m.h,.slice a2 m.l c2]) (by simp[results,Tryz.results14,go_sem,y0,y1,y2,y3,y4,y5,y6,y7,y8]) rfl ⟨a2,c2,rfl,?_,?_,?_⟩
 ·obtain⟨a3,c3,e,R3⟩:=aQ (ownsRow_setCell_below (ownsRow_setCell_below (ownsRow_setCell_below (ownsRow_setCell_below (ownsRow_setCell_below (ownsRow_setCell_below (ownsRow_setCell_below (ownsRow_setCell_below (ownsRow_setCell_below (ownsRow_setCell_below HR.out.1 (a:=⟨w.heap.size,8,none⟩) hlt.1 _) (a:=⟨w.heap.size+1,0,none⟩) hlt.2 _) (a:=⟨w.heap.size+1,1,none⟩) hlt.2 _) (a:=⟨w.heap.size+1,2,none⟩) hlt.2 _) (a:=⟨w.heap.size+1,3,none⟩) hlt.2 _) (a:=⟨w.heap.size+1,4,none⟩) hlt.2 _) (a:=⟨w.heap.size+1,5,none⟩) hlt.2 _) (a:=⟨w.heap.size+1,6,none⟩) hlt.2 _) (a:=⟨w.heap.size+1,7,none⟩) hlt.2 _) (a:=⟨w.heap.size+1,8,none⟩) hlt.2 _) hr.byte
  simp only[Value.slice.injEq,true_and]at e
  obtain⟨rfl,rfl⟩:=e
  exact R3
 ·have hb:Below w.heap.size w w2:=(hA.trans (hB.mono (by have:=H0.out;omega))).trans (HR.out.2.mono (by omega))
  exact ((((((((((hb.setCell (p:=⟨w.heap.size,8,none⟩) (Nat.le_refl _) _).setCell (p:=⟨w.heap.size+1,0,none⟩) (Nat.le_succ _) _).setCell (p:=⟨w.heap.size+1,1,none⟩) (Nat.le_succ _) _).setCell (p:=⟨w.heap.size+1,2,none⟩) (Nat.le_succ _) _).setCell (p:=⟨w.heap.size+1,3,none⟩) (Nat.le_succ _) _).setCell (p:=⟨w.heap.size+1,4,none⟩) (Nat.le_succ _) _).setCell (p:=⟨w.heap.size+1,5,none⟩) (Nat.le_succ _) _).setCell (p:=⟨w.heap.size+1,6,none⟩) (Nat.le_succ _) _).setCell (p:=⟨w.heap.size+1,7,none⟩) (Nat.le_succ _) _).setCell (p:=⟨w.heap.size+1,8,none⟩) (Nat.le_succ _) _)
 ·intro y hy hn
  rcases HR.out.1.2 with ⟨e,_⟩ | ⟨g,cap,cur,e,hg,_⟩
  ·simp only[Value.slice.injEq]at e
   rw[e.1]at hy
   cases hy
  ·simp only[Value.slice.injEq]at e
   rw[e.1]at hy
   cases hy
   have:=hlt.1
   show w.heap.size≤g
   omega
set_option linter.unusedVariables false
theorem wn (S:Ws) (l:List Fa):(S.note l).bg=S.bg:=rfl
theorem vW (S:Ws) (l:List Fa):(S.note l).mv=S.mv:=rfl
theorem bk {P:Program} {ops:Array Oper} {rest:List Oper} {op:Oper} {a:Act} {w:World} {Q:Exit→Act→World→Prop} (hw:Region.wanted op (yielded ops a.tmps)=true) (ty:TypeId) (x:Operand) (ho:op.op=.load ty x)
  (b o:Nat) (hx:a.eval x=.pointer (some ⟨b,o,none⟩)) (A:Array Value) (d:TypeDesc) (hc:w.rangeAt b o A.toList)
  (hu:P.underlying ty=some d) (hd:d.isRow=true) (hi:(P.info? ty).map (·.size)=some A.size)
  (h:wpList P ops Q rest (a.put op.dst (.agg A)) w):wpList P ops Q (op :: rest) a w:=
 ip hw ty x ho b o hx A.toList d hc hu hd (by simpa using hi) (by simpa using h)
theorem ul {w:World} {q:Nat} (h:w.heap[q]?=some (.cells #[.int .u32 7,.int .i64 2,.int .i64 1,.int .i64 10,.int .u32 9] 59 (0,0))):PqRow w (some ⟨q,0,none⟩) 1 (fun _=>P0.q):=fun i hi=>by
 obtain rfl:i=0:=by omega
 refine⟨q,0,rfl,fun j u hu=>?_⟩
 rw[show 0+0*5+j=j by omega,ac w q j _ _ _ h]
 have e:(P0.q).cs.toArray=#[.int .u32 7,.int .i64 2,.int .i64 1,.int .i64 10,.int .u32 9]:=by rfl
 rw[← e]
 simpa using hu
theorem zm:ze 1 1 50 (fun _=>P0.q) (fun _=>P0.q)=0:=by decide
theorem yj (q0 q1:Nat) (w:World) (h0:w.heap[q0]?=some (.cells #[.int .u32 7,.int .i64 2,.int .i64 1,.int .i64 10,.int .u32 9] 59 (0,0))) (h1:w.heap[q1]?=some (.cells #[.int .u32 7,.int .i64 2,.int .i64 1,.int .i64 10,.int .u32 9] 59 (0,0))):Calls Tryz.prog 11 #[.agg #[.slice (some ⟨q0,0,none⟩) 1 1,.slice (some ⟨q1,0,none⟩) 1 1,.int .u32 50]] w fun r w'=>∃ L:Pw,r=.returned (.tuple #[.pointer (some ⟨L.x,0,none⟩),.int .i64 0])∧Hid (PW ev w w' (ij L) L∧L.S=s0 P0 P0 50):=
 wZ (fun _=>P0) (fun _=>P0) q0 0 1 q1 0 1 1 50 (fun _ _=>mO) (fun _ _=>mO) (by decide) (by decide) (by decide) (by decide) (by decide) (by decide) w (ul h0) (ul h1) zm
theorem jP (w:World) {A:Array Value} (hs:A.size=29) (ho:A.all (·.oneCell')=true):∃ wz,(storeCells ⟨w.heap.size,0,none⟩ A.toList).run Tryz.prog (w.alloc (.cells #[.int .i64 0,.int .i64 0,.int .i64 0,.int .i64 0,.int .i64 0,.int .u32 0,.int .i64 0,.bool false,.slice none 0 0,.int .i64 0,.int .i64 0,.int .i64 0,.int .u32 0,.int .u32 0,.int .u32 0,.int .i64 0,.int .i64 0,.bool false,.bool false,.slice none 0 0,.int .i64 0,.int .u32 0,.int .u32 0,.int .u32 0,.int .i64 0,.int .i64 0,.bool false,.bool false,.slice none 0 0] 45))=.ok () wz∧wz.rangeAt w.heap.size 0 A.toList∧Below w.heap.size w wz:=by
 have kr:=au w (.cells #[.int .i64 0,.int .i64 0,.int .i64 0,.int .i64 0,.int .i64 0,.int .u32 0,.int .i64 0,.bool false,.slice none 0 0,.int .i64 0,.int .i64 0,.int .i64 0,.int .u32 0,.int .u32 0,.int .u32 0,.int .i64 0,.int .i64 0,.bool false,.bool false,.slice none 0 0,.int .i64 0,.int .u32 0,.int .u32 0,.int .u32 0,.int .i64 0,.int .i64 0,.bool false,.bool false,.slice none 0 0] 45)
 have hth:(w.alloc (.cells #[.int .i64 0,.int .i64 0,.int .i64 0,.int .i64 0,.int .i64 0,.int .u32 0,.int .i64 0,.bool false,.slice none 0 0,.int .i64 0,.int .i64 0,.int .i64 0,.int .u32 0,.int .u32 0,.int .u32 0,.int .i64 0,.int .i64 0,.bool false,.bool false,.slice none 0 0,.int .i64 0,.int .u32 0,.int .u32 0,.int .u32 0,.int .i64 0,.int .i64 0,.bool false,.bool false,.slice none 0 0] 45)).there w.heap.size 0 A.size:=aX kr (by rw[hs];rfl)
 exact⟨_,gy hth ho,World.rangeAt_setCells_same _ w.heap.size 0 A.toList (by simpa using hth),(bK _ w.heap.size 0 A.toList).below (az (Below.refl _ _) _) (by simp) (by rw[ik];omega)⟩
theorem tJ (w:World):Calls Tryz.prog 13 #[] w fun r w'=>r=.returned (.bool true)∧Below w.heap.size w w':=by
 have hLo:=yH w
 go_enter Tryz.func13,Tryz.ntmps13
 go_wp2_with fail
 refine hLo.mono ?_
 rintro r w1 ⟨q0,q1,rfl,H1⟩
 clear hLo
 have hN:Calls Tryz.prog 11 #[.agg #[.slice (some ⟨q0,0,none⟩) 1 1,.slice (some ⟨q1,0,none⟩) 1 1,.int .u32 50]] w1 fun r w'=>∃ L:Pw,r=.returned (.tuple #[.pointer (some ⟨L.x,0,none⟩),.int .i64 0])∧Hid (PW ev w1 w' (ij L) L∧L.S=s0 P0 P0 50):=yj q0 q1 w1 H1.out.1 H1.out.2.1
 go_wp2_with fail
 refine hN.mono ?_
 rintro r w2 ⟨L,rfl,H2⟩
 clear hN
 have hP1:=aw1 H2.out.1 (jd L) H2.out.2
 obtain⟨X,hX⟩:∃ y,L.x=y:=⟨_,rfl⟩
 rw[hX]at hP1 ⊢
 have HX:Hid (L.x=X):=hX
 clear hX
 go_wp2_with fail
 refine hP1.mono ?_
 rintro r w3 ⟨A,rfl,hsA,hoA,hA10,H3⟩
 clear hP1
 obtain⟨wz,hst1,hrg1,hbl1⟩:=jP w3 hsA hoA
 have cb:wz.cell? ⟨w3.heap.size,10,none⟩=some (.int .i64 0):=hrg1 10 _ hA10
 have lb:=World.block_lt_of_cell? wz _ cb
 obtain⟨ob,hob⟩:∃ ob,wz.heap[w3.heap.size]?=some ob:=⟨_,Array.getElem?_eq_getElem lb⟩
 have F0:=jd L
 have hp2:=H3.out.layL hbl1 (i:=2*0+1) (F0 0 (Nat.le_refl _)).1 (l:=[(w3.heap.size,ob)]) (fun p hp=>by
  simp only[List.mem_cons,List.not_mem_nil,or_false]at hp
  subst hp
  exact hob) (fun p hp=>by
  simp only[List.mem_cons,List.not_mem_nil,or_false]at hp
  subst hp
  exact Nat.le_refl _)
 have F1:Fre ev (aA (ij L) (2*0+1) (cR [(w3.heap.size,ob)])) 1:=F0.put _
 have hP2:=aw2 (T:=zG) a1.2.2 hp2 F1
 rw[HX.out]at hP2
 have HB:Hid (_):=And.intro cb (And.intro hob (And.intro hbl1 F0))
 clear hrg1 hbl1 cb lb hob hp2 F1 F0
 go_wp2_with fail
 refine hP2.mono ?_
 rintro r w4 ⟨A2,rfl,hsA2,hoA2,hB10,hB20,H4⟩
 clear hP2 hst1
 obtain⟨wy,hst2,hrg2,hbl2⟩:=jP w4 hsA2 hoA2
 have c1:wy.cell? ⟨w4.heap.size,10,none⟩=some (.int .i64 1):=hrg2 10 _ hB10
 have c2:wy.cell? ⟨w4.heap.size,20,none⟩=some (.int .i64 2):=hrg2 20 _ hB20
 obtain⟨cb,hob,hbl1,F0⟩:=HB.out
 have hb4:=H4.out.box (q:=2*0+1) (F0 0 (Nat.le_refl _)).1 (ai _ _ _) _ (List.mem_cons_self ..)
 have hb5:=(hbl2.block w3.heap.size (Array.getElem?_eq_some_iff.1 hb4).1).trans hb4
 have c0:wy.cell? ⟨w3.heap.size,10,none⟩=some (.int .i64 0):=(World.cell?_of_block (w:=wz) (a:=⟨w3.heap.size,10,none⟩) (hb5.trans hob.symm)).trans cb
 have hp5:=H4.out.below hbl2
 have hFr:=lD hp5
 have hMo:=xG hp5
 obtain⟨_,_,e1,e2,_⟩:=a3 (T:=zG) a1.2.2
 rw[HX.out,wn,e1]at hFr
 rw[HX.out,vW,e2]at hMo
 have hbw:Below w1.heap.size w1 wy:=by
  obtain⟨t9,L9,h9,_⟩:=hp5
  exact h9.1.bel
 have HE:Hid (Below w.heap.size w wy):=H1.out.2.2.trans (hbw.mono H1.out.2.2.size)
 clear hrg2 hbl2 cb hob hbl1 F0 hb4 hb5 hp5 e1 e2 hbw HB H4 H3 H2 HX
 go_wp2_with fail
 refine hFr.mono ?_
 rintro r w6 ⟨rfl,rfl⟩
 go_wp2_with fail
 refine hMo.mono ?_
 rintro r w6 ⟨rfl,rfl⟩
 go_wp2_with fail
 go_ret
 exact⟨rfl,HE.out⟩
def sf:Value→Nat
 | .int _ i=>i.toNat
 | _=>0
theorem PW.rebaseB {e:Nat→Nat} {w0 w2 w:World} {t:Nat→Thing} {L:Pw} (h:PW e w2 w t L) (b:Below w0.heap.size w0 w2) {i q:Nat} (hi:∀ j,i≠e j) {o:Obj} (h1:w0.heap.size≤q) (h2:q<w2.heap.size) (ho:w.heap[q]?=some o):PW e w0 w (aA t i (cR [(q,o)])) L:=by
 have z:=b.size
 have z2:=h.1.bel.size
 refine⟨⟨b.trans (h.1.bel.mono z),fun j=>?_,fun j k hk=>?_,fun j j' hj k hk hk'=>?_⟩,h.2.1,fun j=>by rw[ag _ _ (fun y=>hi j y.symm)];exact h.2.2 j⟩
 ·by_cases y:j=i
  ·subst y
   rw[ai]
   intro p hp
   obtain rfl:=List.mem_singleton.1 hp
   exact ho
  ·rw[ag _ _ y];exact h.1.ok j
 ·by_cases y:j=i
  ·subst y
   rw[ai]at hk
   have hk:k ∈ [q]:=hk
   obtain rfl:=List.mem_singleton.1 hk
   omega
  ·rw[ag _ _ y]at hk;have:=h.1.lt j k hk;omega
 ·by_cases y:j=i
  ·subst y
   rw[ai]at hk
   have hk:k ∈ [q]:=hk
   obtain rfl:=List.mem_singleton.1 hk
   rw[ag _ _ (fun y=>hj y.symm)]at hk'
   have:=h.1.lt j' k hk';omega
  ·rw[ag _ _ y]at hk
   by_cases y':j'=i
   ·subst y'
    rw[ai]at hk'
    have hk':k ∈ [q]:=hk'
    obtain rfl:=List.mem_singleton.1 hk'
    have:=h.1.lt j k hk;omega
   ·rw[ag _ _ y']at hk'
    exact h.1.dis j j' hj k hk hk'
theorem PWn.lay2 {e:Nat→Nat} {w0 w w1:World} {t:Nat→Thing} {L:Pw} {S:Ws} (h:PWn e w0 t L w1 S) (b:Below w1.heap.size w1 w) {i j:Nat} (hi:∀ q,i≠e q) (hj:∀ q,j≠e q) (hij:i≠j) {a a':Option Addr} {n n' c c':Nat} {bs bs':Nat→Nat} (R:Row8 w a n c bs) (R':Row8 w a' n' c' bs') (na:∀ y,a=some y→0<n→w1.heap.size≤y.block) (nb:∀ y,a'=some y→0<n'→w1.heap.size≤y.block) (ap:∀ y z,a=some y→a'=some z→0<n→0<n'→y.block≠z.block):PWn e w0 (aA (aA t i (dH a n c bs)) j (dH a' n' c' bs')) L w S:=by
 obtain⟨t1,L1,h1,hs,hx,he⟩:=h
 have h2:=h1.lay b hi R na
 have h3:=h2.layD hj R' (fun y hy h0=>Nat.le_trans h1.1.bel.size (nb y hy h0)) (fun y hy h0 k hk hm=>by
  by_cases z:k=i
  ·subst z
   rw[ai]at hm
   have hm:y.block ∈ (if 0<n then a.toList.map (·.block) else []):=hm
   split at hm
   ·next q=>
    simp only[List.mem_map,Option.mem_toList]at hm
    obtain⟨y',hy',e'⟩:=hm
    exact ap y' y hy' hy q h0 e'
   ·cases hm
  ·rw[ag _ _ z]at hm
   have:=h1.1.lt k _ hm
   have:=nb y hy h0
   omega)
 exact⟨_,L1,h3,hs,hx,(he.putB _ _).putB _ _⟩
theorem oL (x:Int):0≤IntKind.u64.wrap x:=by
 have e:IntKind.u64.wrap x=x % 18446744073709551616:=by simp[IntKind.wrap,IntKind.signed,IntKind.bits]
 rw[e]
 omega
theorem vn (x:Int):∃ y:Nat,wrap64 ((IntKind.u64.wrap x).tmod 2)=((y:Nat):Int)∧y<2:=by
 have h:=oL x
 generalize IntKind.u64.wrap x=u at *
 rw[Int.tmod_eq_emod_of_nonneg h]
 exact⟨(u % 2).toNat,by unfold wrap64;omega,by omega⟩
theorem uA (x:Int):∃ y:Nat,wrap64 (1+wrap64 ((IntKind.u64.wrap x).tmod 2))=((y:Nat):Int)∧(y=1∨y=2):=by
 have h:=oL x
 generalize IntKind.u64.wrap x=u at *
 rw[Int.tmod_eq_emod_of_nonneg h]
 exact⟨(1+u % 2).toNat,by unfold wrap64;omega,by omega⟩
theorem xM {n:Nat} (h:n≤300):IntKind.u64.wrap ((n:Nat):Int)=((n:Nat):Int):=by
 have e:IntKind.u64.wrap ((n:Nat):Int)=((n:Nat):Int) % 18446744073709551616:=by simp[IntKind.wrap,IntKind.signed,IntKind.bits]
 rw[e]
 omega
theorem uT (x:Int) {n:Nat} (h0:0<n) (h:n≤300):0≤IntKind.i64.wrap ((IntKind.u64.wrap x).tmod ((n:Nat):Int))∧IntKind.i64.wrap ((IntKind.u64.wrap x).tmod ((n:Nat):Int)) < ((n:Nat):Int):=by
 have hu:=oL x
 generalize IntKind.u64.wrap x=u at *
 rw[Int.tmod_eq_emod_of_nonneg hu]
 have h1:=Int.emod_nonneg u (b:=((n:Nat):Int)) (by omega)
 have h2:=Int.emod_lt_of_pos u (b:=((n:Nat):Int)) (by omega)
 generalize u % ((n:Nat):Int)=v at *
 have e:IntKind.i64.wrap v=v:=by
  have q:v % 18446744073709551616=v:=by omega
  simp[IntKind.wrap,IntKind.signed,IntKind.bits,q]
  omega
 rw[e]
 exact⟨h1,h2⟩
structure Gg (S:Ws) (k:Nat):Prop where
 I:S.In
 n:S.n=2
 B:S.Bv
 mv:S.mv≤k
theorem Gg.start:Gg (sN 2 50 uz uz) 0:=⟨zN _ _ _ _,rfl,(fun f hf=>by cases hf),Nat.le_refl _⟩
theorem uG {S:Ws} {k:Nat} (I:S.In) (K:S.Kn) {m:Mv} (h:S.mv≤k):(S.play m).S.mv≤k+1:=by
 by_cases hb:S.bad m=0
 ·have l:=Ws.Law.of hb
  have K':S.up.Kn:=⟨K.ph,K.pd,K.ha,K.da,K.mo,K.fb⟩
  have q:=(me K' (I.ih _ l.kn) (I.iv _ l.kn) l).mv
  have hp:(S.play m).S.mv=(S.up.act m).S.mv:=by
   unfold Ws.play
   rw[if_neg (fun q=>q hb)]
   rfl
  rw[hp,q]
  show S.mv+1≤k+1
  omega
 ·have hp:(S.play m).S=S:=by
   unfold Ws.play
   rw[if_pos hb]
  rw[hp]
  omega
theorem Gg.next {S:Ws} {k:Nat} (h:Gg S k) (K:S.Kn) {m:Mv}:Gg (S.play m).S (k+1):=
 ⟨h.I.play K,by rw[xj];exact h.n,xZ h.B K h.I,uG h.I K h.mv⟩
theorem um {S:Ws} {m:Mv} (K:S.Kn) (hm:S.mv<4096) (h4:m.k=4) (hc:0≤m.c∧m.c < ((S.n:Nat):Int)) (hs:m.s=1∨m.s=2):S.bad m=0∨S.bad m=151∨S.bad m=30:=by
 unfold Ws.bad
 rw[if_neg (by omega),if_neg (by omega),if_neg (by omega),if_neg (fun z=>by rcases hs with y | y;exact z.2.1 y;exact z.2.2 y),if_neg (by omega),if_pos h4]
 by_cases hf:m.f<0∨((S.bg.length:Nat):Int)≤m.f
 ·rw[if_pos hf]
  exact .inr (.inl rfl)
 ·rw[if_neg hf]
  have hlt:m.f.toNat<S.bg.length:=by omega
  have hmem:S.bg.getD m.f.toNat cT ∈ S.bg:=by
   rw[List.getD_eq_getElem?_getD,List.getElem?_eq_getElem hlt]
   exact List.getElem_mem _
  have:=(K.fb _ hmem).1
  unfold bL
  rw[if_neg (by omega)]
  split
  ·exact .inr (.inr rfl)
  ·exact .inl rfl
theorem xx {w0 w:World} {t:Nat→Thing} {L:Pw} {S:Ws} {i:Nat} (m:Mv) (d:Option Addr) (c:Nat) (h:PWn ev w0 t L w S) (F:Fre ev t i) (I:S.In) (ok:m.Ok) (hn:0<S.n) (R:Row8 w d m.l c m.b) (hd:∀ y,d=some y→0<m.l→y.block≠L.x) (hl:m.l≤140737488351232):Calls Tryz.prog 15 #[.pointer (some ⟨L.x,0,none⟩),.agg #[.int .i64 m.k,.int .i64 m.c,.int .i64 m.s,.int .i64 m.f,.int .i64 m.a,.int .u32 (m.w:Nat),.int .i64 m.n,.bool m.h,.slice d m.l c]] w fun r w'=>∃ (A:Array Value) (E:Int),r=.returned (.tuple #[.agg A,.int .i64 E])∧A.size=29∧A.all (·.oneCell')=true∧Hid (E=S.bad m∧PWn ev w0 t L w' (S.play m).S∧(S.bad m=0→A.toList[9]?=some (.int .i64 (S.play m).e)∧A.toList[10]?=some (.int .i64 (S.play m).i)∧∃ (hV dV:Array Value) (ah:Option Addr) (ch:Nat) (ad:Option Addr) (cd:Nat),hV=#[Value.int .i64 (((S.play m).S.hs m.c.toNat).st:Nat),Value.int .u32 (((S.play m).S.hs m.c.toNat).ss:Nat),Value.int .u32 (((S.play m).S.hs m.c.toNat).nm:Nat),Value.int .u32 (((S.play m).S.hs m.c.toNat).sn:Nat),Value.int .i64 (((S.play m).S.hs m.c.toNat).dc:Nat),Value.int .i64 ((S.play m).S.hs m.c.toNat).v.lat,Value.bool (ak ((S.play m).S.hs m.c.toNat).v),Value.bool (ax ((S.play m).S.hs m.c.toNat).v),Value.slice ah ((S.play m).S.PH m.c.toNat).i ch]∧dV=#[Value.int .i64 (((S.play m).S.ds m.c.toNat).st:Nat),Value.int .u32 (((S.play m).S.ds m.c.toNat).ss:Nat),Value.int .u32 (((S.play m).S.ds m.c.toNat).nm:Nat),Value.int .u32 (((S.play m).S.ds m.c.toNat).sn:Nat),Value.int .i64 (((S.play m).S.ds m.c.toNat).dc:Nat),Value.int .i64 ((S.play m).S.ds m.c.toNat).v.lat,Value.bool (ak ((S.play m).S.ds m.c.toNat).v),Value.bool (ax ((S.play m).S.ds m.c.toNat).v),Value.slice ad ((S.play m).S.PD m.c.toNat).o cd]∧(∀ j v,hV.toList[j]?=some v→A.toList[11+j]?=some v)∧(∀ j v,dV.toList[j]?=some v→A.toList[20+j]?=some v)∧Row8 w' ah ((S.play m).S.PH m.c.toNat).i ch (cu ((S.play m).S.hs m.c.toNat).v)∧Row8 w' ad ((S.play m).S.PD m.c.toNat).o cd (cu ((S.play m).S.ds m.c.toNat).v))):=by
 obtain⟨t1,L1,h1,hs,hx,he⟩:=h
 subst hs
 have F1:=F.els he
 have hP:=pO ev w0 w t1 L1 i m d c h1 F1 I ok hn R (fun y hy h0=>by rw[hx.x];exact hd y hy h0) hl
 rw[hx.x]at hP
 refine hP.mono ?_
 rintro r w' (⟨hb,rfl,H⟩ | ⟨hb,a',c',ah,ch,ad,cd,rfl,H⟩)
 ·refine⟨_,_,rfl,rfl,by kernel_rfl,rfl,?_,fun q=>absurd q hb⟩
  have hp:(L1.S.play m).S=L1.S:=by
   unfold Ws.play
   rw[if_pos hb]
  rw[hp]
  exact PWn.bind hx he H.out.1.n
 ·have r1:=H.out.rowq (q:=2 * (i+2)+1) (fun j=>by unfold ev;omega) (by unfold vI;rw[ag _ _ (by omega)];exact ai _ _ _)
  have r2:=H.out.rowq (q:=2 * (i+3)+1) (fun j=>by unfold ev;omega) (by unfold vI;exact ai _ _ _)
  exact⟨_,_,rfl,rfl,by kernel_rfl,hb.symm,PWn.bind hx he (H.out.dropR F1),fun _=>⟨rfl,rfl,_,_,ah,ch,ad,cd,rfl,rfl,zO (n:=11) rfl rfl rfl rfl rfl rfl rfl rfl rfl,zO (n:=20) rfl rfl rfl rfl rfl rfl rfl rfl rfl,r1,r2⟩⟩
end Go.Proofs.YtdmjfemodihfhaaGreat
