/- Part 39: contracts that the proof rests on. -/
import Derived.Test.YtdmjfemodihfhaaGreatPkL37
set_option maxHeartbeats 64000000
set_option maxRecDepth 100000
namespace Go.Proofs.YtdmjfemodihfhaaGreat
set_option maxRecDepth 100000
open Go.RowKit Go.Maps Go.Sort
set_option linter.unusedVariables false
theorem wA (w:World):Calls Tryz.prog 30 #[.int .i64 1] w fun r w'=>∃ a0 c0 a1 c1,r=.returned (.agg #[.slice a0 2 c0,.slice a1 2 c1,.int .u32 50])∧Hid (w'.ownsRow (w.heap.size+2) 59 5 (.slice a0 2 c0) 2 (eX 2 iV)∧w'.ownsRow (w.heap.size+2) 59 5 (.slice a1 2 c1) 2 (eX 2 iV)∧(∀ g,(Value.slice a0 2 c0).ownBlock=some g→(Value.slice a1 2 c1).ownBlock≠some g)∧Below w.heap.size w w'):=by
 have hS:=fun wx=>tC wx
 go_enter Tryz.func30,Tryz.ntmps30
 go_wp2_with fail
 have HS:Hid (Sp w ((w.alloc (.cells #[.slice none 0 0,.slice none 0 0,.int .u32 0] 30)).alloc (.cells #[.slice none 0 0,.slice none 0 0,.int .u32 50] 30)) 0 none 0 none 0):=by
  have a1':=au w (.cells #[.slice none 0 0,.slice none 0 0,.int .u32 0] 30)
  have a2':=au (w.alloc (.cells #[.slice none 0 0,.slice none 0 0,.int .u32 0] 30)) (.cells #[.slice none 0 0,.slice none 0 0,.int .u32 50] 30)
  simp only[World.size_alloc]at a1' a2'
  refine⟨ay (ay (Below.refl _ _) _) _,?_,a2',⟨by simp[eX],.inl ⟨rfl,rfl⟩⟩,⟨by simp[eX],.inl ⟨rfl,rfl⟩⟩,fun g hg=>by cases hg⟩
  exact ((ay (Below.refl _ _) _).block _ (by simp)).trans a1'
 go_loopw [4,5,7,8,9,10,11,12,13,14,15,16,17,18,19,20,21,22,23,24,25,26,27,28,29,30,31,32,33,34] (fun c _ _ _ _ _ _ _ _ _ _ _ _ _ _ _ _ _ _ _ _ _ _ _ _ _ _ _ _ _ wr=>∃ (i:Nat) (va:Option Addr) (vc:Nat) (ua:Option Addr) (uc:Nat),i≤2∧c=.int .i64 ((i:Nat):Int)∧Hid (Sp w wr i va vc ua uc)) (fun c _ _ _ _ _ _ _ _ _ _ _ _ _ _ _ _ _ _ _ _ _ _ _ _ _ _ _ _ _ _=>2-iC c)
 case atStart=>exact⟨0,none,0,none,0,by omega,rfl,HS⟩
 case round=>
  obtain⟨i,va,vc,ua,uc,hi,rfl,HI⟩:=hrel
  clear HS
  have hi3:i=0∨i=1∨i=2:=by omega
  rcases hi3 with rfl | rfl | rfl
  ·obtain⟨i0,hI,hz0,hz1,hz2⟩:=info_parts eF
   go_wp2_with fail
   refine (hS _).mono ?_
   rintro r w3 ⟨rfl,b3⟩
   have q0:=af (ac wr _ 0 _ _ _ HI.out.xb) (ay b3 (.cells #[.int .u32 7,.int .i64 2,.int .i64 1,.int .i64 10,.int .u32 9] 59))
   have q1:=af (ac wr _ 1 _ _ _ HI.out.xb) (ay b3 (.cells #[.int .u32 7,.int .i64 2,.int .i64 1,.int .i64 10,.int .u32 9] 59))
   have b4:=ay (ay b3 (.cells #[.int .u32 7,.int .i64 2,.int .i64 1,.int .i64 10,.int .u32 9] 59)) (.cells #[.int .u32 7,.int .i64 2,.int .i64 1,.int .i64 10,.int .u32 9] 59)
   have hrow:=cC HI.out.ov b4
   have lx:=(Array.getElem?_eq_some_iff.1 HI.out.xb).1
   have s3:=b3.size
   have nk:=au (w3.alloc (.cells #[.int .u32 7,.int .i64 2,.int .i64 1,.int .i64 10,.int .u32 9] 59)) (.cells #[.int .u32 7,.int .i64 2,.int .i64 1,.int .i64 10,.int .u32 9] 59)
   simp only[World.size_alloc]at nk
   have hcl:∀ j u,(iV 0).cs[j]?=some u→((w3.alloc (.cells #[.int .u32 7,.int .i64 2,.int .i64 1,.int .i64 10,.int .u32 9] 59)).alloc (.cells #[.int .u32 7,.int .i64 2,.int .i64 1,.int .i64 10,.int .u32 9] 59)).cell? ((⟨w3.heap.size+1,0,none⟩:Addr).add j)=some u:=gF nk
   have hbs:w.heap.size+2 ≤ ((w3.alloc (.cells #[.int .u32 7,.int .i64 2,.int .i64 1,.int .i64 10,.int .u32 9] 59)).alloc (.cells #[.int .u32 7,.int .i64 2,.int .i64 1,.int .i64 10,.int .u32 9] 59)).heap.size:=by simp;omega
   go_wp2_with (at_builtin;refine wpList_append_own_at _ rfl (.tmp 24) (.tmp 26) 27 rfl (w.heap.size+2) 59 i0 (.agg #[.int .u32 0,.int .i64 0,.int .i64 0,.int .i64 0,.int .u32 0]) 5 40 Tryz.underlying27 hI hz0 hz1 hz2 rfl (by decide) (.slice va 0 vc) 0 (eX 0 iV) rfl hrow ⟨w3.heap.size+1,0,none⟩ 1 1 (iV 0).cs rfl rfl hcl (iZ _) (by unfold maxLen;omega) (by omega) hbs ?_)
   intro v5 w5 o5 g5 _ s5
   obtain⟨x5,y5,rfl,hx5⟩:=gJ (n:=0) o5
   have nb:=fun g (hg:(Value.slice va 0 vc).ownBlock=some g)=>HI.out.ov.lt g hg
   have nu:=fun g (hg:(Value.slice ua 0 uc).ownBlock=some g)=>HI.out.ou.lt g hg
   have k5:w5.heap[w.heap.size+1]?=some (.cells #[.slice va 0 vc,.slice ua 0 uc,.int .u32 50] 30 (0,0)):=(g5.block _ (by simp;omega) (fun e=>by have:=(nb _ e.symm).1;omega)).trans ((b4.block _ lx).trans HI.out.xb)
   have p5:w5.heap[w3.heap.size]?=some (.cells #[.int .u32 7,.int .i64 2,.int .i64 1,.int .i64 10,.int .u32 9] 59 (0,0)):=(g5.block _ (by simp;omega) (fun e=>by have:=(nb _ e.symm).2;omega)).trans (((ay (Below.refl _ _) _).block w3.heap.size (by simp)).trans (au w3 (.cells #[.int .u32 7,.int .i64 2,.int .i64 1,.int .i64 10,.int .u32 9] 59)))
   have u5:w5.ownsRow (w.heap.size+2) 59 5 (.slice ua 0 uc) 0 (eX 0 iV):=bJ (cC HI.out.ou b4) (fun g hg=>g5.block g (by have:=(nu g hg).2;simp;omega) (fun e=>HI.out.dis g e.symm hg))
   have r0:=ac w5 _ 0 _ _ _ k5
   have r1:=ac w5 _ 1 _ _ _ k5
   have rz:=fun k=>frozen_of_row w5 _ k _ _ k5
   have t0:=ac w5 _ 0 _ _ _ p5
   have t1:=ac w5 _ 1 _ _ _ p5
   have t2:=ac w5 _ 2 _ _ _ p5
   have t3:=ac w5 _ 3 _ _ _ p5
   have t4:=ac w5 _ 4 _ _ _ p5
   have s5s:=g5.size
   simp only[World.size_alloc]at s5s
   have o6:Off [w.heap.size+1] w5 (w5.setCell ⟨w.heap.size+1,0,none⟩ (.slice (some ⟨x5,0,none⟩) 1 y5)):=Off.setCell _ _ _ _
   have u7:((w5.setCell ⟨w.heap.size+1,0,none⟩ (.slice (some ⟨x5,0,none⟩) 1 y5)).alloc (.cells #[.int .u32 7,.int .i64 2,.int .i64 1,.int .i64 10,.int .u32 9] 59)).ownsRow (w.heap.size+2) 59 5 (.slice ua 0 uc) 0 (eX 0 iV):=cC (bJ u5 (fun g hg=>o6.block g (by have:=(u5.lt g hg).2;omega) (by have:=(u5.lt g hg).1;simp;omega))) (ay (Below.refl _ _) _)
   have nk7:=au (w5.setCell ⟨w.heap.size+1,0,none⟩ (.slice (some ⟨x5,0,none⟩) 1 y5)) (.cells #[.int .u32 7,.int .i64 2,.int .i64 1,.int .i64 10,.int .u32 9] 59)
   have hs6:(w5.setCell ⟨w.heap.size+1,0,none⟩ (.slice (some ⟨x5,0,none⟩) 1 y5)).heap.size=w5.heap.size:=by simp[World.setCell]
   rw[hs6]at nk7
   have hcl7:∀ j u,(iV 0).cs[j]?=some u→((w5.setCell ⟨w.heap.size+1,0,none⟩ (.slice (some ⟨x5,0,none⟩) 1 y5)).alloc (.cells #[.int .u32 7,.int .i64 2,.int .i64 1,.int .i64 10,.int .u32 9] 59)).cell? ((⟨w5.heap.size,0,none⟩:Addr).add j)=some u:=gF nk7
   have hbs7:w.heap.size+2 ≤ ((w5.setCell ⟨w.heap.size+1,0,none⟩ (.slice (some ⟨x5,0,none⟩) 1 y5)).alloc (.cells #[.int .u32 7,.int .i64 2,.int .i64 1,.int .i64 10,.int .u32 9] 59)).heap.size:=by rw[World.size_alloc,hs6];omega
   have HH:Hid (_):=And.intro o5 (And.intro g5 (And.intro s5 (And.intro k5 (And.intro p5 (And.intro u5 (And.intro nb (And.intro nu b4)))))))
   clear o5 g5 s5 k5 p5 u5 hrow hcl hbs nk q0 q1 nk7 o6 nb nu
   go_wp2_with (at_builtin;refine wpList_append_own_at _ rfl (.tmp 30) (.tmp 32) 27 rfl (w.heap.size+2) 59 i0 (.agg #[.int .u32 0,.int .i64 0,.int .i64 0,.int .i64 0,.int .u32 0]) 5 40 Tryz.underlying27 hI hz0 hz1 hz2 rfl (by decide) (.slice ua 0 uc) 0 (eX 0 iV) rfl u7 ⟨w5.heap.size,0,none⟩ 1 1 (iV 0).cs rfl rfl hcl7 (iZ _) (by unfold maxLen;omega) (by omega) hbs7 ?_)
   intro v8 w8 o8 g8 _ s8
   obtain⟨x8,y8,rfl,hx8⟩:=gJ (n:=0) o8
   have key:Hid (Sp w (w8.setCell ⟨w.heap.size+1,1,none⟩ (.slice (some ⟨x8,0,none⟩) 1 y8)) 1 (some ⟨x5,0,none⟩) y5 (some ⟨x8,0,none⟩) y8∧w8.heap[w.heap.size+1]?=some (.cells #[.slice (some ⟨x5,0,none⟩) 1 y5,.slice ua 0 uc,.int .u32 50] 30 (0,0))):=by
    obtain⟨o5,g5,s5,k5,p5,u5,nb,nu,b4⟩:=HH.out
    have hI':=HI.out
    have o6:Off [w.heap.size+1] w5 (w5.setCell ⟨w.heap.size+1,0,none⟩ (.slice (some ⟨x5,0,none⟩) 1 y5)):=Off.setCell _ _ _ _
    have o9:Off [w.heap.size+1] w8 (w8.setCell ⟨w.heap.size+1,1,none⟩ (.slice (some ⟨x8,0,none⟩) 1 y8)):=Off.setCell _ _ _ _
    have g8s:=g8.size
    rw[World.size_alloc,hs6]at g8s
    have wr2:w.heap.size+2≤wr.heap.size:=by omega
    have thr:∀ k,k<w5.heap.size→k≠w.heap.size+1→(∀ g,(Value.slice ua 0 uc).ownBlock=some g→k≠g)→(w8.setCell ⟨w.heap.size+1,1,none⟩ (.slice (some ⟨x8,0,none⟩) 1 y8)).heap[k]?=w5.heap[k]?:=fun k hk h1 h2=>
     (o9.block k (by omega) (by simpa using h1)).trans ((g8.block k (by rw[World.size_alloc,hs6];omega) (fun e=>h2 k e.symm rfl)).trans (((ay (Below.refl _ _) _).block k (by rw[hs6];exact hk)).trans (o6.block k hk (by simpa using h1))))
    have kk6:(w5.setCell ⟨w.heap.size+1,0,none⟩ (.slice (some ⟨x5,0,none⟩) 1 y5)).heap[w.heap.size+1]?=some (.cells #[.slice (some ⟨x5,0,none⟩) 1 y5,.slice ua 0 uc,.int .u32 50] 30 (0,0)):=heap_setCell_same _ _ _ _ _ _ k5
    have kk8:w8.heap[w.heap.size+1]?=some (.cells #[.slice (some ⟨x5,0,none⟩) 1 y5,.slice ua 0 uc,.int .u32 50] 30 (0,0)):=(g8.block _ (by rw[World.size_alloc,hs6];omega) (fun e=>by have:=(nu _ e.symm).1;omega)).trans (((ay (Below.refl _ _) _).block _ (by rw[hs6];omega)).trans kk6)
    have b5:Below w.heap.size w w5:=(hI'.bel.trans (b4.mono (by omega))).grown g5 (by simp;omega) (fun j hj=>by have:=(nb j hj).1;omega)
    have l5:=(o5.lt x5 rfl).2
    have xu:∀ g,(Value.slice ua 0 uc).ownBlock=some g→x5≠g:=fun g hg e=>by
     subst e
     rcases s5 with h | h
     ·exact hI'.dis x5 (h.symm.trans rfl) hg
     ·have h2:some x5=some _:=h
      simp only[Option.some.injEq]at h2
      have:=(nu _ hg).2
      omega
    refine⟨⟨?_,?_,heap_setCell_same _ _ _ _ _ _ kk8,?_,?_,?_⟩,kk8⟩
    ·have b6:=o6.below b5 (fun k hk=>by simp at hk;omega) b5.size
     have b7:=(b6.alloc (by rw[hs6];exact b5.size) (.cells #[.int .u32 7,.int .i64 2,.int .i64 1,.int .i64 10,.int .u32 9] 59)).grown g8 (by rw[World.size_alloc,hs6];have:=b5.size;omega) (fun j hj=>by have:=(nu j hj).1;omega)
     exact o9.below b7 (fun k hk=>by simp at hk;omega) b7.size
    ·rw[thr _ (by omega) (by omega) (fun g hg=>by have:=(nu g hg).1;omega)]
     exact (g5.block _ (by simp;omega) (fun e=>by have:=(nb _ e.symm).1;omega)).trans ((b4.block _ (by omega)).trans hI'.rb)
    ·rw[cJ]
     exact bJ o5 (fun g hg=>by
      have e:g=x5:=by simpa [Value.ownBlock] using hg.symm
      subst e
      exact thr g l5 (by omega) xu)
    ·rw[cJ]
     exact bJ o8 (fun g hg=>by
      have e:g=x8:=by simpa [Value.ownBlock] using hg.symm
      subst e
      exact o9.block g (o8.lt g rfl).2 (by simp;omega))
    ·intro g hg hg'
     cases hg
     have e8:x8=x5:=by simpa [Value.ownBlock] using hg'
     rcases s8 with h | h
     ·have h2:some x8=_:=h
      exact xu x8 h2.symm e8.symm
     ·have h2:some x8=some _:=h
      simp only[Option.some.injEq]at h2
      omega
   have HS:Hid (_):=key.out.1
   have f0:=ac w8 _ 0 _ _ _ key.out.2
   have f1:=ac w8 _ 1 _ _ _ key.out.2
   have fz:=fun k=>frozen_of_row w8 _ k _ _ key.out.2
   clear key o8 g8 s8 HH u7 hcl7 hbs7 HI
   go_wp2_with fail
   go_roundw
   case rel=>exact⟨1,_,_,_,_,by omega,by go_num,HS⟩
   case measure=>simp[iC]
  ·obtain⟨i0,hI,hz0,hz1,hz2⟩:=info_parts eF
   go_wp2_with fail
   refine (hS _).mono ?_
   rintro r w3 ⟨rfl,b3⟩
   have q0:=af (ac wr _ 0 _ _ _ HI.out.xb) (ay b3 (.cells #[.int .u32 8,.int .i64 2,.int .i64 1,.int .i64 11,.int .u32 9] 59))
   have q1:=af (ac wr _ 1 _ _ _ HI.out.xb) (ay b3 (.cells #[.int .u32 8,.int .i64 2,.int .i64 1,.int .i64 11,.int .u32 9] 59))
   have b4:=ay (ay b3 (.cells #[.int .u32 8,.int .i64 2,.int .i64 1,.int .i64 11,.int .u32 9] 59)) (.cells #[.int .u32 8,.int .i64 2,.int .i64 1,.int .i64 11,.int .u32 9] 59)
   have hrow:=cC HI.out.ov b4
   have lx:=(Array.getElem?_eq_some_iff.1 HI.out.xb).1
   have s3:=b3.size
   have nk:=au (w3.alloc (.cells #[.int .u32 8,.int .i64 2,.int .i64 1,.int .i64 11,.int .u32 9] 59)) (.cells #[.int .u32 8,.int .i64 2,.int .i64 1,.int .i64 11,.int .u32 9] 59)
   simp only[World.size_alloc]at nk
   have hcl:∀ j u,(iV 1).cs[j]?=some u→((w3.alloc (.cells #[.int .u32 8,.int .i64 2,.int .i64 1,.int .i64 11,.int .u32 9] 59)).alloc (.cells #[.int .u32 8,.int .i64 2,.int .i64 1,.int .i64 11,.int .u32 9] 59)).cell? ((⟨w3.heap.size+1,0,none⟩:Addr).add j)=some u:=gF nk
   have hbs:w.heap.size+2 ≤ ((w3.alloc (.cells #[.int .u32 8,.int .i64 2,.int .i64 1,.int .i64 11,.int .u32 9] 59)).alloc (.cells #[.int .u32 8,.int .i64 2,.int .i64 1,.int .i64 11,.int .u32 9] 59)).heap.size:=by simp;omega
   go_wp2_with (at_builtin;refine wpList_append_own_at _ rfl (.tmp 24) (.tmp 26) 27 rfl (w.heap.size+2) 59 i0 (.agg #[.int .u32 0,.int .i64 0,.int .i64 0,.int .i64 0,.int .u32 0]) 5 40 Tryz.underlying27 hI hz0 hz1 hz2 rfl (by decide) (.slice va 1 vc) 1 (eX 1 iV) rfl hrow ⟨w3.heap.size+1,0,none⟩ 1 1 (iV 1).cs rfl rfl hcl (iZ _) (by unfold maxLen;omega) (by omega) hbs ?_)
   intro v5 w5 o5 g5 _ s5
   obtain⟨x5,y5,rfl,hx5⟩:=gJ (n:=1) o5
   have nb:=fun g (hg:(Value.slice va 1 vc).ownBlock=some g)=>HI.out.ov.lt g hg
   have nu:=fun g (hg:(Value.slice ua 1 uc).ownBlock=some g)=>HI.out.ou.lt g hg
   have k5:w5.heap[w.heap.size+1]?=some (.cells #[.slice va 1 vc,.slice ua 1 uc,.int .u32 50] 30 (0,0)):=(g5.block _ (by simp;omega) (fun e=>by have:=(nb _ e.symm).1;omega)).trans ((b4.block _ lx).trans HI.out.xb)
   have p5:w5.heap[w3.heap.size]?=some (.cells #[.int .u32 8,.int .i64 2,.int .i64 1,.int .i64 11,.int .u32 9] 59 (0,0)):=(g5.block _ (by simp;omega) (fun e=>by have:=(nb _ e.symm).2;omega)).trans (((ay (Below.refl _ _) _).block w3.heap.size (by simp)).trans (au w3 (.cells #[.int .u32 8,.int .i64 2,.int .i64 1,.int .i64 11,.int .u32 9] 59)))
   have u5:w5.ownsRow (w.heap.size+2) 59 5 (.slice ua 1 uc) 1 (eX 1 iV):=bJ (cC HI.out.ou b4) (fun g hg=>g5.block g (by have:=(nu g hg).2;simp;omega) (fun e=>HI.out.dis g e.symm hg))
   have r0:=ac w5 _ 0 _ _ _ k5
   have r1:=ac w5 _ 1 _ _ _ k5
   have rz:=fun k=>frozen_of_row w5 _ k _ _ k5
   have t0:=ac w5 _ 0 _ _ _ p5
   have t1:=ac w5 _ 1 _ _ _ p5
   have t2:=ac w5 _ 2 _ _ _ p5
   have t3:=ac w5 _ 3 _ _ _ p5
   have t4:=ac w5 _ 4 _ _ _ p5
   have s5s:=g5.size
   simp only[World.size_alloc]at s5s
   have o6:Off [w.heap.size+1] w5 (w5.setCell ⟨w.heap.size+1,0,none⟩ (.slice (some ⟨x5,0,none⟩) 2 y5)):=Off.setCell _ _ _ _
   have u7:((w5.setCell ⟨w.heap.size+1,0,none⟩ (.slice (some ⟨x5,0,none⟩) 2 y5)).alloc (.cells #[.int .u32 8,.int .i64 2,.int .i64 1,.int .i64 11,.int .u32 9] 59)).ownsRow (w.heap.size+2) 59 5 (.slice ua 1 uc) 1 (eX 1 iV):=cC (bJ u5 (fun g hg=>o6.block g (by have:=(u5.lt g hg).2;omega) (by have:=(u5.lt g hg).1;simp;omega))) (ay (Below.refl _ _) _)
   have nk7:=au (w5.setCell ⟨w.heap.size+1,0,none⟩ (.slice (some ⟨x5,0,none⟩) 2 y5)) (.cells #[.int .u32 8,.int .i64 2,.int .i64 1,.int .i64 11,.int .u32 9] 59)
   have hs6:(w5.setCell ⟨w.heap.size+1,0,none⟩ (.slice (some ⟨x5,0,none⟩) 2 y5)).heap.size=w5.heap.size:=by simp[World.setCell]
   rw[hs6]at nk7
   have hcl7:∀ j u,(iV 1).cs[j]?=some u→((w5.setCell ⟨w.heap.size+1,0,none⟩ (.slice (some ⟨x5,0,none⟩) 2 y5)).alloc (.cells #[.int .u32 8,.int .i64 2,.int .i64 1,.int .i64 11,.int .u32 9] 59)).cell? ((⟨w5.heap.size,0,none⟩:Addr).add j)=some u:=gF nk7
   have hbs7:w.heap.size+2 ≤ ((w5.setCell ⟨w.heap.size+1,0,none⟩ (.slice (some ⟨x5,0,none⟩) 2 y5)).alloc (.cells #[.int .u32 8,.int .i64 2,.int .i64 1,.int .i64 11,.int .u32 9] 59)).heap.size:=by rw[World.size_alloc,hs6];omega
   have HH:Hid (_):=And.intro o5 (And.intro g5 (And.intro s5 (And.intro k5 (And.intro p5 (And.intro u5 (And.intro nb (And.intro nu b4)))))))
   clear o5 g5 s5 k5 p5 u5 hrow hcl hbs nk q0 q1 nk7 o6 nb nu
   go_wp2_with (at_builtin;refine wpList_append_own_at _ rfl (.tmp 30) (.tmp 32) 27 rfl (w.heap.size+2) 59 i0 (.agg #[.int .u32 0,.int .i64 0,.int .i64 0,.int .i64 0,.int .u32 0]) 5 40 Tryz.underlying27 hI hz0 hz1 hz2 rfl (by decide) (.slice ua 1 uc) 1 (eX 1 iV) rfl u7 ⟨w5.heap.size,0,none⟩ 1 1 (iV 1).cs rfl rfl hcl7 (iZ _) (by unfold maxLen;omega) (by omega) hbs7 ?_)
   intro v8 w8 o8 g8 _ s8
   obtain⟨x8,y8,rfl,hx8⟩:=gJ (n:=1) o8
   have key:Hid (Sp w (w8.setCell ⟨w.heap.size+1,1,none⟩ (.slice (some ⟨x8,0,none⟩) 2 y8)) 2 (some ⟨x5,0,none⟩) y5 (some ⟨x8,0,none⟩) y8∧w8.heap[w.heap.size+1]?=some (.cells #[.slice (some ⟨x5,0,none⟩) 2 y5,.slice ua 1 uc,.int .u32 50] 30 (0,0))):=by
    obtain⟨o5,g5,s5,k5,p5,u5,nb,nu,b4⟩:=HH.out
    have hI':=HI.out
    have o6:Off [w.heap.size+1] w5 (w5.setCell ⟨w.heap.size+1,0,none⟩ (.slice (some ⟨x5,0,none⟩) 2 y5)):=Off.setCell _ _ _ _
    have o9:Off [w.heap.size+1] w8 (w8.setCell ⟨w.heap.size+1,1,none⟩ (.slice (some ⟨x8,0,none⟩) 2 y8)):=Off.setCell _ _ _ _
    have g8s:=g8.size
    rw[World.size_alloc,hs6]at g8s
    have wr2:w.heap.size+2≤wr.heap.size:=by omega
    have thr:∀ k,k<w5.heap.size→k≠w.heap.size+1→(∀ g,(Value.slice ua 1 uc).ownBlock=some g→k≠g)→(w8.setCell ⟨w.heap.size+1,1,none⟩ (.slice (some ⟨x8,0,none⟩) 2 y8)).heap[k]?=w5.heap[k]?:=fun k hk h1 h2=>
     (o9.block k (by omega) (by simpa using h1)).trans ((g8.block k (by rw[World.size_alloc,hs6];omega) (fun e=>h2 k e.symm rfl)).trans (((ay (Below.refl _ _) _).block k (by rw[hs6];exact hk)).trans (o6.block k hk (by simpa using h1))))
    have kk6:(w5.setCell ⟨w.heap.size+1,0,none⟩ (.slice (some ⟨x5,0,none⟩) 2 y5)).heap[w.heap.size+1]?=some (.cells #[.slice (some ⟨x5,0,none⟩) 2 y5,.slice ua 1 uc,.int .u32 50] 30 (0,0)):=heap_setCell_same _ _ _ _ _ _ k5
    have kk8:w8.heap[w.heap.size+1]?=some (.cells #[.slice (some ⟨x5,0,none⟩) 2 y5,.slice ua 1 uc,.int .u32 50] 30 (0,0)):=(g8.block _ (by rw[World.size_alloc,hs6];omega) (fun e=>by have:=(nu _ e.symm).1;omega)).trans (((ay (Below.refl _ _) _).block _ (by rw[hs6];omega)).trans kk6)
    have b5:Below w.heap.size w w5:=(hI'.bel.trans (b4.mono (by omega))).grown g5 (by simp;omega) (fun j hj=>by have:=(nb j hj).1;omega)
    have l5:=(o5.lt x5 rfl).2
    have xu:∀ g,(Value.slice ua 1 uc).ownBlock=some g→x5≠g:=fun g hg e=>by
     subst e
     rcases s5 with h | h
     ·exact hI'.dis x5 (h.symm.trans rfl) hg
     ·have h2:some x5=some _:=h
      simp only[Option.some.injEq]at h2
      have:=(nu _ hg).2
      omega
    refine⟨⟨?_,?_,heap_setCell_same _ _ _ _ _ _ kk8,?_,?_,?_⟩,kk8⟩
    ·have b6:=o6.below b5 (fun k hk=>by simp at hk;omega) b5.size
     have b7:=(b6.alloc (by rw[hs6];exact b5.size) (.cells #[.int .u32 8,.int .i64 2,.int .i64 1,.int .i64 11,.int .u32 9] 59)).grown g8 (by rw[World.size_alloc,hs6];have:=b5.size;omega) (fun j hj=>by have:=(nu j hj).1;omega)
     exact o9.below b7 (fun k hk=>by simp at hk;omega) b7.size
    ·rw[thr _ (by omega) (by omega) (fun g hg=>by have:=(nu g hg).1;omega)]
     exact (g5.block _ (by simp;omega) (fun e=>by have:=(nb _ e.symm).1;omega)).trans ((b4.block _ (by omega)).trans hI'.rb)
    ·rw[cJ]
     exact bJ o5 (fun g hg=>by
      have e:g=x5:=by simpa [Value.ownBlock] using hg.symm
      subst e
      exact thr g l5 (by omega) xu)
    ·rw[cJ]
     exact bJ o8 (fun g hg=>by
      have e:g=x8:=by simpa [Value.ownBlock] using hg.symm
      subst e
      exact o9.block g (o8.lt g rfl).2 (by simp;omega))
    ·intro g hg hg'
     cases hg
     have e8:x8=x5:=by simpa [Value.ownBlock] using hg'
     rcases s8 with h | h
     ·have h2:some x8=_:=h
      exact xu x8 h2.symm e8.symm
     ·have h2:some x8=some _:=h
      simp only[Option.some.injEq]at h2
      omega
   have HS:Hid (_):=key.out.1
   have f0:=ac w8 _ 0 _ _ _ key.out.2
   have f1:=ac w8 _ 1 _ _ _ key.out.2
   have fz:=fun k=>frozen_of_row w8 _ k _ _ key.out.2
   clear key o8 g8 s8 HH u7 hcl7 hbs7 HI
   go_wp2_with fail
   go_roundw
   case rel=>exact⟨2,_,_,_,_,by omega,by go_num,HS⟩
   case measure=>simp[iC]
  ·have x0:=ac wr _ 0 _ _ _ HI.out.xb
   have x1:=ac wr _ 1 _ _ _ HI.out.xb
   have x2:=ac wr _ 2 _ _ _ HI.out.xb
   have y0:=ac wr _ 0 _ _ _ HI.out.rb
   have y1:=ac wr _ 1 _ _ _ HI.out.rb
   have y2:=ac wr _ 2 _ _ _ HI.out.rb
   have yz:=fun k=>frozen_of_row wr _ k _ _ HI.out.rb
   go_wp2_with fail
   refine bodyPost_ret (v:=.agg #[.slice va 2 vc,.slice ua 2 uc,.int .u32 50]) (by simp[results,Tryz.results30,go_sem,y0,y1,y2]) rfl ?_
   have o:Off [w.heap.size] wr (((wr.setCell ⟨w.heap.size,0,none⟩ (.slice va 2 vc)).setCell ⟨w.heap.size,1,none⟩ (.slice ua 2 uc)).setCell ⟨w.heap.size,2,none⟩ (.int .u32 50)):=((Off.setCell _ _ _ _).trans (Off.setCell _ _ _ _)).trans (Off.setCell _ _ _ _)
   have hI:=HI.out
   exact⟨va,vc,ua,uc,rfl,(bJ hI.ov (fun g hg=>o.block g (hI.ov.lt g hg).2 (by have:=(hI.ov.lt g hg).1;simp;omega))),(bJ hI.ou (fun g hg=>o.block g (hI.ou.lt g hg).2 (by have:=(hI.ou.lt g hg).1;simp;omega))),hI.dis,o.below hI.bel (fun k hk=>by simp at hk;omega) hI.bel.size⟩
theorem zl (w:World):Calls Tryz.prog 12 #[.int .i64 1,.int .u32 9] w fun r w'=>∃ g0 c0 g1 c1,r=.returned (.agg #[.slice (some ⟨g0,0,none⟩) 2 c0,.slice (some ⟨g1,0,none⟩) 2 c1,.int .u32 50])∧Hid (2≤c0∧2≤c1∧PqRow w' (some ⟨g0,0,none⟩) 2 iV∧PqRow w' (some ⟨g1,0,none⟩) 2 iV∧Below w.heap.size w w'):=by
 have hP:=fun wx=>wA wx
 have kx:=au w (.cells #[.slice none 0 0,.slice none 0 0,.int .u32 0] 30)
 have bx:=ay (Below.refl _ w) (.cells #[.slice none 0 0,.slice none 0 0,.int .u32 0] 30)
 have zx:=gi w (.cells #[.slice none 0 0,.slice none 0 0,.int .u32 0] 30)
 go_enter Tryz.func12,Tryz.ntmps12
 go_wp2_with fail
 refine (hP _).mono ?_
 rintro r w1 ⟨a0,c0,a1,c1,rfl,H1⟩
 obtain⟨g0,rfl,hg0⟩:=iy H1.out.1 (by decide)
 obtain⟨g1,rfl,hg1⟩:=iy H1.out.2.1 (by decide)
 clear hP
 have b1:=H1.out.2.2.2
 have kx1:=(b1.block w.heap.size (by rw[zx];omega)).trans kx
 have b2:Below w1.heap.size w1 (w1.alloc (.cells #[.slice (some ⟨g0,0,none⟩) 2 c0,.slice (some ⟨g1,0,none⟩) 2 c1,.int .u32 50] 30)):=ay (Below.refl _ _) _
 have ky:=au w1 (.cells #[.slice (some ⟨g0,0,none⟩) 2 c0,.slice (some ⟨g1,0,none⟩) 2 c1,.int .u32 50] 30)
 have lx1:w.heap.size<w1.heap.size:=(Array.getElem?_eq_some_iff.1 kx1).1
 have kx2:=(b2.block w.heap.size lx1).trans kx1
 have o0:=cC H1.out.1 b2
 have o1:=cC H1.out.2.1 b2
 have hg01:g0≠g1:=fun e=>H1.out.2.2.1 g0 rfl (by rw[e];rfl)
 obtain⟨w2,hw2⟩:∃ z,(w1.alloc (.cells #[.slice (some ⟨g0,0,none⟩) 2 c0,.slice (some ⟨g1,0,none⟩) 2 c1,.int .u32 50] 30))=z:=⟨_,rfl⟩
 rw[hw2]at ky kx2 o0 o1 b2
 obtain⟨cur0,k0⟩:=aF o0 rfl
 obtain⟨cur1,k1⟩:=aF o1 rfl
 have own_at0:∀ j u,(eX 2 iV)[j]?=some u→cur0[j]?=some u:=fun j u hu=>(ac w2 g0 j _ _ _ k0).symm.trans (iz o0 j u hu)
 have own_at1:∀ j u,(eX 2 iV)[j]?=some u→cur1[j]?=some u:=fun j u hu=>(ac w2 g1 j _ _ _ k1).symm.trans (iz o1 j u hu)
 have s00:w2.setCell ⟨g0,4,none⟩ (.int .u32 9)=w2:=dI k0 (own_at0 (4) _ rfl)
 have e00:w2.cell? ⟨g0,4,none⟩=some (.int .u32 9):=(ac w2 g0 4 _ _ _ k0).trans (own_at0 (4) _ rfl)
 have z00:w2.frozen? ⟨g0,4,none⟩=false:=frozen_of_row w2 g0 4 _ _ k0
 have s01:w2.setCell ⟨g0,9,none⟩ (.int .u32 9)=w2:=dI k0 (own_at0 (9) _ rfl)
 have e01:w2.cell? ⟨g0,9,none⟩=some (.int .u32 9):=(ac w2 g0 9 _ _ _ k0).trans (own_at0 (9) _ rfl)
 have z01:w2.frozen? ⟨g0,9,none⟩=false:=frozen_of_row w2 g0 9 _ _ k0
 have s10:w2.setCell ⟨g1,4,none⟩ (.int .u32 9)=w2:=dI k1 (own_at1 (4) _ rfl)
 have e10:w2.cell? ⟨g1,4,none⟩=some (.int .u32 9):=(ac w2 g1 4 _ _ _ k1).trans (own_at1 (4) _ rfl)
 have z10:w2.frozen? ⟨g1,4,none⟩=false:=frozen_of_row w2 g1 4 _ _ k1
 have s11:w2.setCell ⟨g1,9,none⟩ (.int .u32 9)=w2:=dI k1 (own_at1 (9) _ rfl)
 have e11:w2.cell? ⟨g1,9,none⟩=some (.int .u32 9):=(ac w2 g1 9 _ _ _ k1).trans (own_at1 (9) _ rfl)
 have z11:w2.frozen? ⟨g1,9,none⟩=false:=frozen_of_row w2 g1 9 _ _ k1
 have y0:=ac w2 _ 0 _ _ _ ky
 have y1:=ac w2 _ 1 _ _ _ ky
 have y2:=ac w2 _ 2 _ _ _ ky
 have x0:=ac w2 _ 0 _ _ _ kx2
 have x1:=ac w2 _ 1 _ _ _ kx2
 have x2:=ac w2 _ 2 _ _ _ kx2
 have xz:=fun k=>frozen_of_row w2 _ k _ _ kx2
 have HF:Hid (_):=And.intro o0 (And.intro o1 (And.intro b2 (And.intro b1 (And.intro hg0 hg1))))
 have HE:Hid ((w1.alloc (.cells #[.slice (some ⟨g0,0,none⟩) 2 c0,.slice (some ⟨g1,0,none⟩) 2 c1,.int .u32 50] 30))=w2):=hw2
 have HX:Hid (_):=And.intro bx zx
 clear ky kx2 o0 o1 b2 b1 k0 k1 own_at0 own_at1 kx kx1 hw2 H1 bx
 go_upto_region 2 with fail
 rw[HE.out]
 go_wp2_with fail
 refine wp_loop_rounds 3 ?_
 rw[rounds_succ]
 go_wp2_with fail
 rw[rounds_succ]
 go_wp2_with fail
 rw[rounds_succ]
 go_wp2_with fail
 refine bodyPost_ret (v:=.agg #[.slice (some ⟨g0,0,none⟩) 2 c0,.slice (some ⟨g1,0,none⟩) 2 c1,.int .u32 50]) (by simp[results,Tryz.results12,go_sem,x0,x1,x2]) rfl ?_
 have o:Off [w.heap.size] w2 (((w2.setCell ⟨w.heap.size,0,none⟩ (.slice (some ⟨g0,0,none⟩) 2 c0)).setCell ⟨w.heap.size,1,none⟩ (.slice (some ⟨g1,0,none⟩) 2 c1)).setCell ⟨w.heap.size,2,none⟩ (.int .u32 50)):=((Off.setCell _ _ _ _).trans (Off.setCell _ _ _ _)).trans (Off.setCell _ _ _ _)
 obtain⟨o0,o1,b2,b1,hg0,hg1⟩:=HF.out
 obtain⟨bx,zx⟩:=HX.out
 have bz:Below w.heap.size w w2:=(bx.trans (b1.mono bx.size)).trans (b2.mono (Nat.le_trans bx.size b1.size))
 exact⟨g0,c0,g1,c1,rfl,ns o0 (by decide),ns o1 (by decide),PqRow.ofOwn (bJ o0 (fun g hg=>o.block g (o0.lt g hg).2 (by have:=(o0.lt g hg).1;rw[zx]at this;simp;omega))),PqRow.ofOwn (bJ o1 (fun g hg=>o.block g (o1.lt g hg).2 (by have:=(o1.lt g hg).1;rw[zx]at this;simp;omega))),o.below bz (fun k hk=>by simp at hk;omega) bz.size⟩
open Go.RowKit Go.Maps
section
variable {P:Pm}
end
end Go.Proofs.YtdmjfemodihfhaaGreat
namespace Go.Proofs.YtdmjfemodihfhaaGreat
set_option maxRecDepth 100000
open Go.RowKit Go.Maps
set_option linter.unusedVariables false
theorem PWn.turnB {e:Nat→Nat} {w0 w w':World} {t:Nat→Thing} {L:Pw} {S:Ws} {i q:Nat} {ob ob':Obj} (h:PWn e w0 (aE t i (dk [(q,ob)])) L w S) (hi:∀ j,i≠e j) (o:Off [q] w w') (hob:w'.heap[q]?=some ob'):PWn e w0 (aE t i (dk [(q,ob')])) L w' S:=by
 obtain⟨t1,L1,h1,hs,hx,he⟩:=h
 have e1:t1 i=dk [(q,ob)]:=by rw[he i hi,ai]
 have u1:(t1 i).U=[q]:=by rw[e1];rfl
 have lq:=(Array.getElem?_eq_some_iff.1 hob).1
 have hq:=h1.1.lt i q (by rw[u1];exact List.mem_singleton.2 rfl)
 refine⟨aE t1 i (dk [(q,ob')]),L1,⟨h1.1.turn i _ (by rw[u1];exact o) ?_ ?_ ?_,h1.2.1,fun j=>by rw[ag _ _ (fun z=>hi j z.symm)];exact h1.2.2 j⟩,hs,hx,fun k hk=>?_⟩
 ·intro p hp
  obtain rfl:=List.mem_singleton.1 hp
  exact hob
 ·intro k hk
  have hk:k ∈ [q]:=hk
  obtain rfl:=List.mem_singleton.1 hk
  exact⟨hq.1,lq⟩
 ·intro k hk j hj
  have hk:k ∈ [q]:=hk
  exact h1.1.dis i j (fun z=>hj z.symm) k (by rw[u1];exact hk)
 ·by_cases z:k=i
  ·subst z
   rw[ai,ai]
  ·rw[ag _ _ z,ag _ _ z,he k hk,ag _ _ z]
abbrev aay (A:Array Value) (s:Sh):Prop:=Enc A s.st s.ss s.nm s.sn s.dc s.v.lat (ak s.v) (ax s.v)
abbrev aar (A:Array Value) (s:Sd):Prop:=Enc A s.st s.ss s.nm s.sn s.dc s.v.lat (ak s.v) (ax s.v)
def RwC (A hV dV:Array Value) (S:Ws) (m:Mv):Prop:=hV.size=9∧hV.all (·.oneCell')=true∧dV.size=9∧dV.all (·.oneCell')=true∧aay hV ((S.play m).S.hs m.c.toNat)∧aar dV ((S.play m).S.ds m.c.toNat)∧A.toList[9]?=some (.int .i64 (S.play m).e)∧(∀ j v,hV.toList[j]?=some v→A.toList[11+j]?=some v)∧∀ j v,dV.toList[j]?=some v→A.toList[20+j]?=some v
theorem at9 {A:Array Value} {n:Nat} {v0 v1 v2 v3 v4 v5 v6 v7 v8:Value} (h0:A.toList[n+0]?=some v0) (h1:A.toList[n+1]?=some v1) (h2:A.toList[n+2]?=some v2) (h3:A.toList[n+3]?=some v3) (h4:A.toList[n+4]?=some v4) (h5:A.toList[n+5]?=some v5) (h6:A.toList[n+6]?=some v6) (h7:A.toList[n+7]?=some v7) (h8:A.toList[n+8]?=some v8):∀ j v,(#[v0,v1,v2,v3,v4,v5,v6,v7,v8]:Array Value).toList[j]?=some v→A.toList[n+j]?=some v:=fun j v hv=>by
 have hj:j<9:=(List.getElem?_eq_some_iff.1 hv).1
 have:j=0∨j=1∨j=2∨j=3∨j=4∨j=5∨j=6∨j=7∨j=8:=by omega
 rcases this with rfl | rfl | rfl | rfl | rfl | rfl | rfl | rfl | rfl
 ·exact h0.trans hv
 ·exact h1.trans hv
 ·exact h2.trans hv
 ·exact h3.trans hv
 ·exact h4.trans hv
 ·exact h5.trans hv
 ·exact h6.trans hv
 ·exact h7.trans hv
 ·exact h8.trans hv
theorem yg {w0 w:World} {t:Nat→Thing} {L:Pw} {S:Ws} {i:Nat} (m:Mv) (d:Option Addr) (c:Nat) (h:PWn ev w0 t L w S) (F:Fre ev t i) (I:S.In) (ok:m.Ok) (hn:0<S.n) (R:Row8 w d m.l c m.b) (hd:∀ y,d=some y→0<m.l→y.block≠L.x) (hl:m.l≤140737488351232):Calls Tryz.prog 15 #[.pointer (some ⟨L.x,0,none⟩),.agg #[.int .i64 m.k,.int .i64 m.c,.int .i64 m.s,.int .i64 m.f,.int .i64 m.a,.int .u32 (m.w:Nat),.int .i64 m.n,.bool m.h,.slice d m.l c]] w fun r w'=>∃ (A:Array Value) (E:Int),r=.returned (.tuple #[.agg A,.int .i64 E])∧A.size=29∧A.all (·.oneCell')=true∧Hid (E=S.bad m∧PWn ev w0 t L w' (S.play m).S∧(S.bad m=0→∃ hV dV,RwC A hV dV S m)):=by
 obtain⟨t1,L1,h1,hs,hx,he⟩:=h
 subst hs
 have F1:=F.els he
 have hP:=vD ev w0 w t1 L1 i m d c h1 F1 I ok hn R (fun y hy h0=>by rw[hx.x];exact hd y hy h0) hl
 rw[hx.x]at hP
 refine hP.mono ?_
 rintro r w' (⟨hb,rfl,H⟩ | ⟨hb,a',c',ah,ch,ad,cd,rfl,H⟩)
 ·refine⟨_,_,rfl,rfl,by kernel_rfl,rfl,?_,fun q=>absurd q hb⟩
  have hp:(L1.S.play m).S=L1.S:=by
   unfold Ws.play
   rw[if_pos hb]
  rw[hp]
  exact PWn.bind hx he H.out.1.n
 ·exact⟨_,_,rfl,rfl,by kernel_rfl,hb.symm,PWn.bind hx he (H.out.dropR F1),fun _=>⟨#[_,_,_,_,_,_,_,_,.slice ah _ ch],#[_,_,_,_,_,_,_,_,.slice ad _ cd],rfl,by kernel_rfl,rfl,by kernel_rfl,⟨rfl,rfl,rfl,rfl,rfl,rfl,rfl,rfl⟩,⟨rfl,rfl,rfl,rfl,rfl,rfl,rfl,rfl⟩,rfl,at9 (n:=11) rfl rfl rfl rfl rfl rfl rfl rfl rfl,at9 (n:=20) rfl rfl rfl rfl rfl rfl rfl rfl rfl⟩⟩
theorem mO (w:World) {A:Array Value} (hs:A.size=9) (ho:A.all (·.oneCell')=true):∃ wz,(storeCells ⟨w.heap.size,0,none⟩ A.toList).run Tryz.prog (w.alloc (.cells #[.int .i64 0,.int .u32 0,.int .u32 0,.int .u32 0,.int .i64 0,.int .i64 0,.bool false,.bool false,.slice none 0 0] 43))=.ok () wz∧wz.rangeAt w.heap.size 0 A.toList∧Below w.heap.size w wz∧wz.there w.heap.size 0 9:=by
 have kr:=au w (.cells #[.int .i64 0,.int .u32 0,.int .u32 0,.int .u32 0,.int .i64 0,.int .i64 0,.bool false,.bool false,.slice none 0 0] 43)
 have h9:(w.alloc (.cells #[.int .i64 0,.int .u32 0,.int .u32 0,.int .u32 0,.int .i64 0,.int .i64 0,.bool false,.bool false,.slice none 0 0] 43)).there w.heap.size 0 9:=aQ kr rfl
 have hth:(w.alloc (.cells #[.int .i64 0,.int .u32 0,.int .u32 0,.int .u32 0,.int .i64 0,.int .i64 0,.bool false,.bool false,.slice none 0 0] 43)).there w.heap.size 0 A.size:=by rw[hs];exact h9
 exact⟨_,dN hth ho,World.rangeAt_setCells_same _ w.heap.size 0 A.toList (by simpa using hth),(aY _ w.heap.size 0 A.toList).below (ay (Below.refl _ _) _) (by simp) (by rw[gi];omega),World.there_setCells h9 _ _ _⟩
theorem pX:∀ k,k<2→Pok (un k):=fun k hk=>by
 have:k=0∨k=1:=by omega
 rcases this with rfl | rfl <;> exact⟨by unfold qv un;decide,by decide,by decide⟩
theorem vy:zb 2 2 50 (fun i=>(un i).q) (fun i=>(un i).q)=0:=by decide
def Lts (v v':Vs):Prop:=v.lat≠0→v'.lat=v.lat
theorem Lts.refl (v:Vs):Lts v v:=fun _=>rfl
theorem Lts.trans {a b c:Vs} (h:Lts a b) (k:Lts b c):Lts a c:=fun e=>(k (by rw[h e];exact e)).trans (h e)
theorem mG (v:Vs) (x:Int):Lts v (cH v x):=by
 intro h
 unfold cH
 rw[if_neg h]
 split <;> rfl
theorem du (v:Vs) (o:Bool):Lts v (dE v o):=by
 intro _
 unfold dE
 split <;> rfl
theorem cQ (v:Vs):Lts v (dj v):=fun _=>rfl
theorem nO (v:Vs) (o:Bool) (bs:Nat→Nat):Lts v (dH (fD (dj v) o) bs):=by
 intro _
 unfold dH
 split <;> rfl
section
variable {P:Pm}
theorem gw (s:Sh) (x:Int):Lts s.v (aR s x).v:=by rw[jm];exact mG _ _
theorem mE (s:Sh):Lts s.v (io s).v:=(gw s 80).trans (du _ _)
theorem rZ (s:Sh):Lts s.v (bc s).v:=by
 unfold bc
 split
 ·exact Lts.refl _
 ·split
  ·exact Lts.refl _
  ·split
   ·exact (gw { s with ms:=s.ms+1 } 131).trans (du _ _)
   ·exact du _ _
theorem qM (s:Sh):Lts s.v (bF P s).v:=by
 unfold bF
 split
 ·exact Lts.refl _
 ·refine (rZ s).trans ?_
  show Lts (bc s).v (bu P (bc s)).1.v
  unfold bu
  split
  ·exact Lts.refl _
  ·split
   ·exact Lts.refl _
   ·split
    ·exact Lts.refl _
    ·split
     ·exact mE { bc s with sn:=(bc s).sn+1 }
     ·exact Lts.refl _
theorem pb (s:Sh) (l:Nat) (b:Nat→Nat) (h:Bool):Lts s.v (cy P s l b h).v:=by
 unfold cy
 split <;> exact Lts.refl _
theorem sa (s:Sh) (k:Int):Lts s.v (cM P s k).v:=by
 unfold cM
 split
 ·exact Lts.refl _
 ·split
  ·exact gw { s with dc:=tk P.t s.dc k.toNat } 100
  ·exact Lts.refl _
theorem qG (s:Sh) (len:Nat) (bs:Nat→Nat):Lts s.v (bZ P s len bs).v:=by
 unfold bZ
 split
 ·exact Lts.refl _
 ·unfold cr
  split
  ·exact cQ _
  ·split
   ·exact cQ _
   ·split
    ·exact (du s.v true).trans (cQ _)
    ·split
     ·exact nO _ _ _
     ·split
      ·exact (cQ s.v).trans (mE (n6 { s with nm:=aN bs 9 }))
      ·exact cQ _
theorem eV (s:Sd) (x:Int):Lts s.v (aB s x).v:=by rw[gY];exact mG _ _
theorem gC (s:Sd):Lts s.v (bf s).v:=by
 unfold bf
 split
 ·split
  ·exact Lts.refl _
  ·split
   ·exact (eV { s with od:=s.od+1 } 131).trans (du _ _)
   ·exact du _ _
 ·exact Lts.refl _
theorem oC (s:Sd) (l:Nat) (b:Nat→Nat) (h:Bool):Lts s.v (cE P s l b h).v:=by
 unfold cE
 split
 ·exact Lts.refl _
 ·split <;> exact Lts.refl _
theorem qS (s:Sd) (k:Int):Lts s.v (cU P s k).v:=by
 unfold cU
 split
 ·exact Lts.refl _
 ·split
  ·exact Lts.refl _
  ·split
   ·exact eV { s with dc:=tk P.t s.dc k.toNat } 100
   ·exact Lts.refl _
def zX (s:Sd) (R:Rs):Prop:=Lts s.v R.s.v∨(R.e=70∧R.s.st=6∧R.s.v.lat=0)
theorem rh (mx n:Nat) (s:Sd):zX s (bj P mx n s):=by
 have he:=zG mx n s.ms.bs false s.ms
 unfold bj
 generalize nx mx n s.ms.bs false s.ms=X at *
 split
 ·exact .inl ((eV { s with ms:=X.s } 80).trans (du _ _))
 ·split
  ·next h1 h2=>
   refine .inr ⟨?_,rfl,rfl⟩
   show X.e=70
   omega
  ·exact .inl (du _ _)
theorem t7 (mx n:Nat) (s:Sd) (k ss num fl len:Nat) (bs:Nat→Nat):zX s (aP P mx n s k ss num fl len bs):=by
 have r:∀ x:Int,zX s (aK P s x):=fun x=>.inl (gC s)
 unfold aP
 split
 ·split
  ·unfold bP
   split
   ·exact .inl (gC s)
   ·split
    ·exact .inl (gC s)
    ·rcases rh (P:=P) mx n (bf s) with h | h
     ·exact .inl ((gC s).trans h)
     ·exact .inr h
  ·exact r _
 ·split
  ·split
   ·refine .inl ?_
    show Lts s.v (be s).v
    unfold be
    split
    ·exact cQ _
    ·exact Lts.refl _
   ·exact r _
  ·split
   ·refine .inl ?_
    show Lts s.v (co s).v
    unfold co
    split
    ·exact (du s.v true).trans (cQ _)
    ·exact Lts.refl _
   ·split
    ·exact .inl (nO _ _ _)
    ·split
     ·refine .inl ?_
      show Lts s.v (dE (aB (iO { s with nm:=P.n }) 80).v false)
      exact ((cQ s.v).trans (eV (iO { s with nm:=P.n }) 80)).trans (du _ _)
     ·exact r _
theorem sq (mx n:Nat) (s:Sd) (len:Nat) (bs:Nat→Nat):zX s (aq P mx n s len bs):=by
 have hh:zX s (bC P mx n s len bs):=by
  unfold bC
  split
  ·exact .inl (Lts.refl _)
  ·split
   ·exact .inl (Lts.refl _)
   ·split
    ·exact .inl (Lts.refl _)
    ·exact t7 mx n s _ _ _ _ _ _
 unfold aq
 split
 ·exact .inl (Lts.refl _)
 ·split
  ·next h=>
   rcases hh with q | q
   ·exact .inl q
   ·exact absurd q.1 h.2
  ·exact hh
end
def uX (S:Ws) (m:Mv) (sd:Int) (v v':Vs) (st':Nat):Prop:=v'.lat=0∧m.s=sd∧((m.k=6∧(S.play m).e=0∧ak v=true)∨m.k=7∨(sd=2∧(m.k=3∨m.k=4)∧(S.play m).e=70∧st'=6))
theorem pW (v:Vs):Lts v (gh v)∨((gh v).lat=0∧ak v=true):=by
 unfold gh
 split
 ·next h=>exact .inr ⟨rfl,h⟩
 ·exact .inl (Lts.refl _)
theorem aat {S:Ws} (I:S.In) (K:S.Kn) {m:Mv} {j:Nat} (hj:j<S.n):Lts (S.hs j).v ((S.play m).S.hs j).v∨(S.bad m=0∧j=m.c.toNat∧uX S m 1 (S.hs j).v ((S.play m).S.hs j).v ((S.play m).S.hs j).st):=by
 by_cases hb:S.bad m=0
 ·have l:=Ws.Law.of hb
  by_cases e:j=m.c.toNat
  ·obtain⟨e1,e2,e3⟩:=iu S hb
   subst e
   unfold uX
   rw[e2,e3]
   by_cases h1:m.k=1
   ·have d:S.actHF m=(if m.s=1 then cy (S.PH m.c.toNat) (S.hs m.c.toNat) m.l m.b m.h else S.hs m.c.toNat):=by unfold Ws.actHF;rw[if_pos h1]
    rw[d]
    by_cases s1:m.s=1
    ·rw[if_pos s1]
     exact .inl (pb _ _ _ _)
    ·rw[if_neg s1]
     exact .inl (Lts.refl _)
   by_cases h2:m.k=2
   ·have d:S.actHF m=(bF (S.PH m.c.toNat) (S.hs m.c.toNat)):=by unfold Ws.actHF;rw[if_neg h1,if_pos h2]
    rw[d]
    exact .inl (qM _)
   by_cases h3:m.k=3∨m.k=4
   ·have d:S.actHF m=(if m.s=1 then bZ (S.PH m.c.toNat) (S.hs m.c.toNat) (S.fr m).1 (S.fr m).2 else S.hs m.c.toNat):=by unfold Ws.actHF;rw[if_neg h1,if_neg h2,if_pos h3]
    rw[d]
    by_cases s1:m.s=1
    ·rw[if_pos s1]
     exact .inl (qG _ _ _)
    ·rw[if_neg s1]
     exact .inl (Lts.refl _)
   by_cases h5:m.k=5
   ·have d:S.actHF m=(if m.s=1 then cM (S.PH m.c.toNat) (S.hs m.c.toNat) m.n else S.hs m.c.toNat):=by unfold Ws.actHF;rw[if_neg h1,if_neg h2,if_neg h3,if_pos h5]
    rw[d]
    by_cases s1:m.s=1
    ·rw[if_pos s1]
     exact .inl (sa _ _)
    ·rw[if_neg s1]
     exact .inl (Lts.refl _)
   by_cases h6:m.k=6
   ·have d:S.actHF m=(if m.s=1 then gO (S.hs m.c.toNat) else S.hs m.c.toNat):=by unfold Ws.actHF;rw[if_neg h1,if_neg h2,if_neg h3,if_neg h5,if_pos h6]
    rw[d]
    by_cases s1:m.s=1
    ·rw[if_pos s1]
     have g:S.actEF m=(if m.s=1 then eo (S.hs m.c.toNat) else ei (S.ds m.c.toNat)):=by unfold Ws.actEF;rw[if_neg h1,if_neg h2,if_neg h3,if_neg h5,if_pos h6]
     rcases pW (S.hs m.c.toNat).v with q | q
     ·exact .inl q
     ·refine .inr ⟨hb,rfl,q.1,s1,.inl ⟨h6,?_,q.2⟩⟩
      rw[g,if_pos s1]
      unfold eo j7
      rw[if_pos q.2]
    ·rw[if_neg s1]
     exact .inl (Lts.refl _)
   by_cases h7:m.k=7
   ·have d:S.actHF m=(if m.s=1 then eI (S.hs m.c.toNat) else S.hs m.c.toNat):=by unfold Ws.actHF;rw[if_neg h1,if_neg h2,if_neg h3,if_neg h5,if_neg h6,if_pos h7]
    rw[d]
    by_cases s1:m.s=1
    ·rw[if_pos s1]
     exact .inr ⟨hb,rfl,rfl,s1,.inr (.inl h7)⟩
    ·rw[if_neg s1]
     exact .inl (Lts.refl _)
   have d:S.actHF m=(S.hs m.c.toNat):=by unfold Ws.actHF;rw[if_neg h1,if_neg h2,if_neg h3,if_neg h5,if_neg h6,if_neg h7]
   rw[d]
   exact .inl (Lts.refl _)
  ·rw[(iD I K hb e).2]
   exact .inl (Lts.refl _)
 ·have hp:(S.play m).S=S:=by
   unfold Ws.play
   rw[if_pos hb]
  rw[hp]
  exact .inl (Lts.refl _)
theorem aao {S:Ws} (I:S.In) (K:S.Kn) {m:Mv} {j:Nat} (hj:j<S.n):Lts (S.ds j).v ((S.play m).S.ds j).v∨(S.bad m=0∧j=m.c.toNat∧uX S m 2 (S.ds j).v ((S.play m).S.ds j).v ((S.play m).S.ds j).st):=by
 by_cases hb:S.bad m=0
 ·have l:=Ws.Law.of hb
  by_cases e:j=m.c.toNat
  ·obtain⟨e1,e2,e3⟩:=iu S hb
   subst e
   unfold uX
   rw[e1,e3]
   by_cases h1:m.k=1
   ·have d:S.actDF m=(if m.s=1 then S.ds m.c.toNat else cE (S.PD m.c.toNat) (S.ds m.c.toNat) m.l m.b m.h):=by unfold Ws.actDF;rw[if_pos h1]
    rw[d]
    by_cases s1:m.s=1
    ·rw[if_pos s1]
     exact .inl (Lts.refl _)
    ·rw[if_neg s1]
     have s2:m.s=2:=by rcases l.sd (by omega) (by omega) with y | y;exact absurd y s1;exact y
     exact .inl (oC _ _ _ _)
   by_cases h2:m.k=2
   ·have d:S.actDF m=(S.ds m.c.toNat):=by unfold Ws.actDF;rw[if_neg h1,if_pos h2]
    rw[d]
    exact .inl (Lts.refl _)
   by_cases h3:m.k=3∨m.k=4
   ·have d:S.actDF m=(if m.s=1 then S.ds m.c.toNat else (aq (S.PD m.c.toNat) S.mx 16 (S.ds m.c.toNat) (S.fr m).1 (S.fr m).2).s):=by unfold Ws.actDF;rw[if_neg h1,if_neg h2,if_pos h3]
    rw[d]
    by_cases s1:m.s=1
    ·rw[if_pos s1]
     exact .inl (Lts.refl _)
    ·rw[if_neg s1]
     have s2:m.s=2:=by rcases l.sd (by omega) (by omega) with y | y;exact absurd y s1;exact y
     rcases sq (P:=S.PD m.c.toNat) S.mx 16 (S.ds m.c.toNat) (S.fr m).1 (S.fr m).2 with q | q
     ·exact .inl q
     ·have g:S.actEF m=(if m.s=1 then dX (S.PH m.c.toNat) (S.hs m.c.toNat) (S.fr m).1 (S.fr m).2 else (aq (S.PD m.c.toNat) S.mx 16 (S.ds m.c.toNat) (S.fr m).1 (S.fr m).2).e):=by unfold Ws.actEF;rw[if_neg h1,if_neg h2,if_pos h3]
      rw[g,if_neg s1]
      exact .inr ⟨hb,rfl,q.2.2,s2,.inr (.inr ⟨rfl,h3,q.1,q.2.1⟩)⟩
   by_cases h5:m.k=5
   ·have d:S.actDF m=(if m.s=1 then S.ds m.c.toNat else cU (S.PD m.c.toNat) (S.ds m.c.toNat) m.n):=by unfold Ws.actDF;rw[if_neg h1,if_neg h2,if_neg h3,if_pos h5]
    rw[d]
    by_cases s1:m.s=1
    ·rw[if_pos s1]
     exact .inl (Lts.refl _)
    ·rw[if_neg s1]
     have s2:m.s=2:=by rcases l.sd (by omega) (by omega) with y | y;exact absurd y s1;exact y
     exact .inl (qS _ _)
   by_cases h6:m.k=6
   ·have d:S.actDF m=(if m.s=1 then S.ds m.c.toNat else dQ (S.ds m.c.toNat)):=by unfold Ws.actDF;rw[if_neg h1,if_neg h2,if_neg h3,if_neg h5,if_pos h6]
    rw[d]
    by_cases s1:m.s=1
    ·rw[if_pos s1]
     exact .inl (Lts.refl _)
    ·rw[if_neg s1]
     have s2:m.s=2:=by rcases l.sd (by omega) (by omega) with y | y;exact absurd y s1;exact y
     have g:S.actEF m=(if m.s=1 then eo (S.hs m.c.toNat) else ei (S.ds m.c.toNat)):=by unfold Ws.actEF;rw[if_neg h1,if_neg h2,if_neg h3,if_neg h5,if_pos h6]
     by_cases h6s:(S.ds m.c.toNat).st=6
     ·unfold dQ
      rw[if_pos h6s]
      exact .inl (Lts.refl _)
     ·have da:dQ (S.ds m.c.toNat)={ S.ds m.c.toNat with v:=gh (S.ds m.c.toNat).v }:=by unfold dQ;rw[if_neg h6s]
      rw[da]
      rcases pW (S.ds m.c.toNat).v with q | q
      ·exact .inl q
      ·refine .inr ⟨hb,rfl,q.1,s2,.inl ⟨h6,?_,q.2⟩⟩
       rw[g,if_neg s1]
       unfold ei j7
       rw[if_neg h6s,if_pos q.2]
   by_cases h7:m.k=7
   ·have d:S.actDF m=(if m.s=1 then S.ds m.c.toNat else bK S.mx 16 (S.ds m.c.toNat) m.n):=by unfold Ws.actDF;rw[if_neg h1,if_neg h2,if_neg h3,if_neg h5,if_neg h6,if_pos h7]
    rw[d]
    by_cases s1:m.s=1
    ·rw[if_pos s1]
     exact .inl (Lts.refl _)
    ·rw[if_neg s1]
     have s2:m.s=2:=by rcases l.sd (by omega) (by omega) with y | y;exact absurd y s1;exact y
     refine .inr ⟨hb,rfl,?_,s2,.inr (.inl h7)⟩
     have hn:=l.n7 h7
     unfold bK
     rw[if_neg (by omega)]
     rfl
   have d:S.actDF m=({ S.ds m.c.toNat with ms:=jl (S.ds m.c.toNat).ms m.n }):=by unfold Ws.actDF;rw[if_neg h1,if_neg h2,if_neg h3,if_neg h5,if_neg h6,if_neg h7]
   rw[d]
   exact .inl (Lts.refl _)
  ·rw[(iD I K hb e).1]
   exact .inl (Lts.refl _)
 ·have hp:(S.play m).S=S:=by
   unfold Ws.play
   rw[if_pos hb]
  rw[hp]
  exact .inl (Lts.refl _)
end Go.Proofs.YtdmjfemodihfhaaGreat
namespace Go.Proofs.YtdmjfemodihfhaaGreat
set_option maxRecDepth 100000
open Go.RowKit Go.Maps
set_option linter.unusedVariables false
section
variable {P:Pm}
end
def iN (v:Vs):Prop:=v.sm=true→v.lat=0
theorem tA {v:Vs} (h:iN v) (x:Int):iN (cH v x):=by
 unfold cH
 split
 ·exact h
 ·intro e;cases e
theorem iW {v:Vs} (h:iN v) (o:Bool):iN (dE v o):=by
 unfold dE
 split
 ·exact h
 ·intro e;cases e
theorem eC {v:Vs} (h:iN v):iN (dj v):=h
theorem uA {v:Vs} (h:iN v) (o:Bool) (bs:Nat→Nat):iN (dH (fD (dj v) o) bs):=by
 unfold dH
 split
 ·next q=>exact fun _=>q.2
 ·exact h
theorem vH {v:Vs} (h:iN v):iN (gh v):=by
 unfold gh
 split
 ·exact fun _=>rfl
 ·exact h
theorem gv {s:Sh} (h:iN s.v) (x:Int):iN (aR s x).v:=by rw[jm];exact tA h _
theorem nS {s:Sh} (h:iN s.v):iN (io s).v:=iW (gv h 80) _
theorem ry {s:Sh} (h:iN s.v):iN (bc s).v:=by
 unfold bc
 split
 ·exact h
 ·split
  ·exact h
  ·split
   ·exact iW (gv (s:={ s with ms:=s.ms+1 }) h 131) _
   ·exact iW h _
theorem qZ {P:Pm} {s:Sh} (h:iN s.v):iN (bF P s).v:=by
 unfold bF
 split
 ·exact h
 ·show iN (bu P (bc s)).1.v
  have q:=ry h
  unfold bu
  split
  ·exact q
  ·split
   ·exact q
   ·split
    ·exact q
    ·split
     ·exact nS (s:={ bc s with sn:=(bc s).sn+1 }) q
     ·exact q
theorem qI {P:Pm} {s:Sh} (h:iN s.v) (len:Nat) (bs:Nat→Nat):iN (bZ P s len bs).v:=by
 unfold bZ
 split
 ·exact h
 ·unfold cr
  split
  ·exact eC h
  ·split
   ·exact eC h
   ·split
    ·exact eC (iW h true)
    ·split
     ·exact uA h _ _
     ·split
      ·exact nS (s:=n6 { s with nm:=aN bs 9 }) (eC h)
      ·exact eC h
theorem uP {S:Ws} (I:S.In) (K:S.Kn) (m:Mv) (h:∀ j,j<S.n→iN (S.hs j).v):∀ j,j<S.n→iN ((S.play m).S.hs j).v:=by
 intro j hj
 by_cases hb:S.bad m=0
 ·by_cases e:j=m.c.toNat
  ·subst e
   rw[(iu S hb).2.1]
   have q:=h _ hj
   unfold Ws.actHF
   split
   ·split
    ·unfold cy;split <;> exact q
    ·exact q
   ·split
    ·exact qZ q
    ·split
     ·split
      ·exact qI q _ _
      ·exact q
     ·split
      ·split
       ·unfold cM
        split
        ·exact q
        ·split
         ·exact gv (s:={ S.hs m.c.toNat with dc:=tk (S.PH m.c.toNat).t (S.hs m.c.toNat).dc m.n.toNat }) q 100
         ·exact q
       ·exact q
      ·split
       ·split
        ·exact vH q
        ·exact q
       ·split
        ·split
         ·exact fun e=>by cases e
         ·exact q
        ·exact q
  ·rw[(iD I K hb e).2]
   exact h j hj
 ·have hp:(S.play m).S=S:=by
   unfold Ws.play
   rw[if_pos hb]
  rw[hp]
  exact h j hj
end Go.Proofs.YtdmjfemodihfhaaGreat
namespace Go.Proofs.YtdmjfemodihfhaaGreat
set_option maxRecDepth 100000
open Go.RowKit Go.Maps
set_option linter.unusedVariables false
structure Vw where
 st:Nat
 lat:Int
 rq:Bool
 on:Bool
def hvw (s:Sh):Vw:=⟨s.st,s.v.lat,ak s.v,ax s.v⟩
def dvw (s:Sd):Vw:=⟨s.st,s.v.lat,ak s.v,ax s.v⟩
def Ws.vw (S:Ws) (k s:Nat):Vw:=if s=0 then hvw (S.hs k) else dvw (S.ds k)
def Lk (x:Vw):Prop:=(x.lat≠0→x.on=false)∧(x.rq=true→x.lat≠0∧x.st=4)
theorem pL {v:Vs} {st:Nat} (o:iN v) (r:v.run=decide (st=4)):(v.lat≠0→ax v=false)∧(ak v=true→v.lat≠0∧st=4):=by
 refine⟨fun q=>?_,fun q=>?_⟩
 ·cases e:ax v
  ·rfl
  ·exfalso
   unfold ax at e
   simp at e
   exact q (o e.2.2)
 ·unfold ak at q
  rw[r]at q
  simp at q
  exact⟨q.2.1,q.1⟩
theorem wn {S:Ws} (I:S.In) (o:∀ j,j<S.n→iN (S.hs j).v) {k s:Nat} (hk:k<S.n):Lk (S.vw k s):=by
 unfold Ws.vw
 split
 ·exact pL (o k hk) (I.ih k hk).vr
 ·exact pL (I.iv k hk).vok.sm (I.iv k hk).vr
def xI (m:Mv) (e:Int) (s:Nat) (old x:Vw):Prop:=x.lat=0∧m.s=((s+1:Nat):Int)∧((m.k=6∧e=0∧old.rq=true)∨m.k=7∨(s=1∧m.k≠6∧m.k≠7∧e=70∧x.st=6))
theorem wg {S:Ws} (I:S.In) (K:S.Kn) {m:Mv} {k s:Nat} (hk:k<S.n) (hs:s<2):(S.vw k s).lat=0∨((S.play m).S.vw k s).lat=(S.vw k s).lat∨(S.bad m=0∧m.c=((k:Nat):Int)∧xI m (S.play m).e s (S.vw k s) ((S.play m).S.vw k s)):=by
 have hs2:s=0∨s=1:=by omega
 by_cases z:(S.vw k s).lat=0
 ·exact .inl z
 refine .inr ?_
 rcases hs2 with rfl | rfl
 ·rcases aat I K (m:=m) hk with h | ⟨hb,hc,g1,g2,g3⟩
  ·exact .inl (h z)
  ·refine .inr ⟨hb,by rw[hc];exact (Ws.Law.of hb).c,g1,g2,?_⟩
   rcases g3 with g | g | g
   ·exact .inl g
   ·exact .inr (.inl g)
   ·exact absurd g.1 (by decide)
 ·rcases aao I K (m:=m) hk with h | ⟨hb,hc,g1,g2,g3⟩
  ·exact .inl (h z)
  ·refine .inr ⟨hb,by rw[hc];exact (Ws.Law.of hb).c,g1,g2,?_⟩
   rcases g3 with g | g | g
   ·exact .inl g
   ·exact .inr (.inl g)
   ·exact .inr (.inr ⟨rfl,by have:=g.2.1;omega,by have:=g.2.1;omega,g.2.2.1,g.2.2.2⟩)
structure Jl (S:Ws):Prop where
 I:S.In
 n:S.n=2
 o:∀ j,j<S.n→iN (S.hs j).v
theorem Jl.start:Jl (sN 2 50 un un):=⟨yQ _ _ _ _,rfl,fun j hj e=>by cases e⟩
theorem Jl.next {S:Ws} (h:Jl S) (K:S.Kn) (m:Mv):Jl (S.play m).S:=by
 have hn:(S.play m).S.n=S.n:=yv S m
 exact⟨h.I.play K,by rw[hn];exact h.n,fun j hj=>uP h.I K m h.o j (by rw[← hn];exact hj)⟩
theorem kf (w:World) (o:Array Value) (wx:World) (hb:Below (w.alloc (.cells o 39)).heap.size (w.alloc (.cells o 39)) wx) (i:Nat):wx.cell? ⟨w.heap.size,i,none⟩=o[i]?:=by
 rw[hb.cell (p:=⟨w.heap.size,i,none⟩) (by simp)]
 exact ac _ _ _ _ _ _ (au _ _)
theorem jr (w:World) (o:Array Value) (i:Nat) (wx:World) (hb:Below (w.alloc (.cells o 39)).heap.size (w.alloc (.cells o 39)) wx):wx.frozen? ⟨w.heap.size,i,none⟩=false:=by
 rw[hb.frozen (p:=⟨w.heap.size,i,none⟩) (by simp)]
 simp
theorem xS (m:Mv) (d:Option Addr) (e:Nat) (w:World) (hr:Row8 w d m.l e m.b) (hlen:m.l≤140737488351232):Calls Tryz.prog 14 #[.agg #[.int .i64 m.k,.int .i64 m.c,.int .i64 m.s,.int .i64 m.f,.int .i64 m.a,.int .u32 (m.w:Nat),.int .i64 m.n,.bool m.h,.slice d m.l e]] w fun r w'=>∃ a' c',r=.returned (.agg #[.int .i64 m.k,.int .i64 m.c,.int .i64 m.s,.int .i64 m.f,.int .i64 m.a,.int .u32 (m.w:Nat),.int .i64 m.n,.bool m.h,.slice a' m.l c'])∧Hid (Row8 w' a' m.l c' m.b∧Below w.heap.size w w'∧∀ y,a'=some y→0<m.l→w.heap.size≤y.block):=by
 obtain⟨i0,hi,hz0,hz1,hz2⟩:=info_parts bQ
 have hbd:=vE
 have hX:=fun wx hb=>kf w #[.int .i64 m.k,.int .i64 m.c,.int .i64 m.s,.int .i64 m.f,.int .i64 m.a,.int .u32 (m.w:Nat),.int .i64 m.n,.bool m.h,.slice d m.l e] wx hb
 have hXf:=fun i wx hb=>jr w #[.int .i64 m.k,.int .i64 m.c,.int .i64 m.s,.int .i64 m.f,.int .i64 m.a,.int .u32 (m.w:Nat),.int .i64 m.n,.bool m.h,.slice d m.l e] i wx hb
 obtain⟨wa,hwa⟩:∃ x,x=w.alloc (.cells #[.int .i64 m.k,.int .i64 m.c,.int .i64 m.s,.int .i64 m.f,.int .i64 m.a,.int .u32 (m.w:Nat),.int .i64 m.n,.bool m.h,.slice d m.l e] 39):=⟨_,rfl⟩
 rw[← hwa]at hX hXf
 have hA:Below w.heap.size w wa:=by rw[hwa];exact (Below.refl _ _).alloc (Nat.le_refl _) _
 have hAs:wa.heap.size=w.heap.size+1:=by rw[hwa];simp
 have hY:=fun wx hb=>kf wa #[.int .i64 0,.int .i64 0,.int .i64 0,.int .i64 0,.int .i64 0,.int .u32 0,.int .i64 0,.bool false,.slice none 0 0] wx hb
 have hYf:=fun i wx hb=>jr wa #[.int .i64 0,.int .i64 0,.int .i64 0,.int .i64 0,.int .i64 0,.int .u32 0,.int .i64 0,.bool false,.slice none 0 0] i wx hb
 obtain⟨wb,hwb⟩:∃ x,x=wa.alloc (.cells #[.int .i64 0,.int .i64 0,.int .i64 0,.int .i64 0,.int .i64 0,.int .u32 0,.int .i64 0,.bool false,.slice none 0 0] 39):=⟨_,rfl⟩
 rw[← hwb]at hY hYf
 have hB:Below wa.heap.size wa wb:=by rw[hwb];exact (Below.refl _ _).alloc (Nat.le_refl _) _
 have hBs:wb.heap.size=w.heap.size+1+1:=by rw[hwb,hwa];simp
 have hC:Below wb.heap.size wb (wb.alloc (.cells #[] 5)):=(Below.refl _ _).alloc (Nat.le_refl _) _
 have O0:(wb.alloc (.cells #[] 5)).ownsRow wb.heap.size 5 1 (.slice (some ⟨wb.heap.size,0,none⟩) 0 0) 0 (CB m.b 0):=World.ownsRow_made wb #[] 0 (Nat.le_refl _) (Nat.zero_le _) rfl
 have hszC:=hC.size
 have R0:=((hr.below hA).below hB).below hC
 rw[hAs]at hY hYf
 go_enter Tryz.func14,Tryz.ntmps14
 go_upto_region 1 with fail
 try rw[← hwa]
 try rw[← hwb]
 have H0:Hid (_):=And.intro hwa (And.intro hwb (And.intro hAs hBs))
 clear hwa hwb
 have x8:(wb.alloc (.cells #[] 5)).cell? ⟨w.heap.size,8,none⟩=some (.slice d m.l e):=hX (wb.alloc (.cells #[] 5)) (hB.trans (hC.mono (by omega))) 8
 clear hAs hBs
 go_wp2_with (at_builtin;refine aT rfl (.tmp 3) (.tmp 5) 37 rfl wb.heap.size 5 i0 (.int .u8 0) Tryz.underlying37 hi hz0 hz1 hz2 rfl _ 0 _ rfl O0 d m.l e m.b rfl R0 (by unfold maxLen;omega) (by omega) hszC ?_)
 intro v2 w2 hown2 hgrow2
 have hbel2:Below wb.heap.size wb w2:=hC.grown hgrow2 hszC (fun j hj=>(O0.lt j hj).1)
 rw[show CB m.b 0=[] from rfl,List.nil_append]at hown2
 have hlt:w.heap.size<wb.heap.size∧w.heap.size+1<wb.heap.size:=by have:=H0.out;omega
 have hbelA:Below wa.heap.size wa w2:=hB.trans (hbel2.mono (by have:=H0.out;omega))
 have x0:w2.cell? ⟨w.heap.size,0,none⟩=some ((.int .i64 m.k)):=hX w2 hbelA 0
 have x1:w2.cell? ⟨w.heap.size,1,none⟩=some ((.int .i64 m.c)):=hX w2 hbelA 1
 have x2:w2.cell? ⟨w.heap.size,2,none⟩=some ((.int .i64 m.s)):=hX w2 hbelA 2
 have x3:w2.cell? ⟨w.heap.size,3,none⟩=some ((.int .i64 m.f)):=hX w2 hbelA 3
 have x4:w2.cell? ⟨w.heap.size,4,none⟩=some ((.int .i64 m.a)):=hX w2 hbelA 4
 have x5:w2.cell? ⟨w.heap.size,5,none⟩=some ((.int .u32 (m.w:Nat))):=hX w2 hbelA 5
 have x6:w2.cell? ⟨w.heap.size,6,none⟩=some ((.int .i64 m.n)):=hX w2 hbelA 6
 have x7:w2.cell? ⟨w.heap.size,7,none⟩=some ((.bool m.h)):=hX w2 hbelA 7
 have x8:w2.cell? ⟨w.heap.size,8,none⟩=some ((.slice d m.l e)):=hX w2 hbelA 8
 have y0:w2.cell? ⟨w.heap.size+1,0,none⟩=some (.int .i64 0):=hY w2 hbel2 0
 have y1:w2.cell? ⟨w.heap.size+1,1,none⟩=some (.int .i64 0):=hY w2 hbel2 1
 have y2:w2.cell? ⟨w.heap.size+1,2,none⟩=some (.int .i64 0):=hY w2 hbel2 2
 have y3:w2.cell? ⟨w.heap.size+1,3,none⟩=some (.int .i64 0):=hY w2 hbel2 3
 have y4:w2.cell? ⟨w.heap.size+1,4,none⟩=some (.int .i64 0):=hY w2 hbel2 4
 have y5:w2.cell? ⟨w.heap.size+1,5,none⟩=some (.int .u32 0):=hY w2 hbel2 5
 have y6:w2.cell? ⟨w.heap.size+1,6,none⟩=some (.int .i64 0):=hY w2 hbel2 6
 have y7:w2.cell? ⟨w.heap.size+1,7,none⟩=some (.bool false):=hY w2 hbel2 7
 have y8:w2.cell? ⟨w.heap.size+1,8,none⟩=some (.slice none 0 0):=hY w2 hbel2 8
 have xf:=fun i=>hXf i w2 hbelA
 have yf:=fun i=>hYf i w2 hbel2
 obtain⟨a2,c2,rfl,R2⟩:=aS hown2 hr.byte
 have HR:Hid (w2.ownsRow wb.heap.size 5 1 (.slice a2 m.l c2) m.l (CB m.b m.l)∧Below wb.heap.size wb w2):=⟨hown2,hbel2⟩
 clear hgrow2 O0 R0 hC hszC hX hY hXf hYf hown2 R2 hbel2 hbelA hbd
 go_wp2_with fail
 refine bodyPost_ret (v:=.agg #[.int .i64 m.k,.int .i64 m.c,.int .i64 m.s,.int .i64 m.f,.int .i64 m.a,.int .u32 (m.w:Nat),.int .i64 m.n,.bool m.h,.slice a2 m.l c2]) (by simp[results,Tryz.results14,go_sem,y0,y1,y2,y3,y4,y5,y6,y7,y8]) rfl ⟨a2,c2,rfl,?_,?_,?_⟩
 ·obtain⟨a3,c3,e,R3⟩:=aS (ownsRow_setCell_below (ownsRow_setCell_below (ownsRow_setCell_below (ownsRow_setCell_below (ownsRow_setCell_below (ownsRow_setCell_below (ownsRow_setCell_below (ownsRow_setCell_below (ownsRow_setCell_below (ownsRow_setCell_below HR.out.1 (a:=⟨w.heap.size,8,none⟩) hlt.1 _) (a:=⟨w.heap.size+1,0,none⟩) hlt.2 _) (a:=⟨w.heap.size+1,1,none⟩) hlt.2 _) (a:=⟨w.heap.size+1,2,none⟩) hlt.2 _) (a:=⟨w.heap.size+1,3,none⟩) hlt.2 _) (a:=⟨w.heap.size+1,4,none⟩) hlt.2 _) (a:=⟨w.heap.size+1,5,none⟩) hlt.2 _) (a:=⟨w.heap.size+1,6,none⟩) hlt.2 _) (a:=⟨w.heap.size+1,7,none⟩) hlt.2 _) (a:=⟨w.heap.size+1,8,none⟩) hlt.2 _) hr.byte
  simp only[Value.slice.injEq,true_and]at e
  obtain⟨rfl,rfl⟩:=e
  exact R3
 ·have hb:Below w.heap.size w w2:=(hA.trans (hB.mono (by have:=H0.out;omega))).trans (HR.out.2.mono (by omega))
  exact ((((((((((hb.setCell (p:=⟨w.heap.size,8,none⟩) (Nat.le_refl _) _).setCell (p:=⟨w.heap.size+1,0,none⟩) (Nat.le_succ _) _).setCell (p:=⟨w.heap.size+1,1,none⟩) (Nat.le_succ _) _).setCell (p:=⟨w.heap.size+1,2,none⟩) (Nat.le_succ _) _).setCell (p:=⟨w.heap.size+1,3,none⟩) (Nat.le_succ _) _).setCell (p:=⟨w.heap.size+1,4,none⟩) (Nat.le_succ _) _).setCell (p:=⟨w.heap.size+1,5,none⟩) (Nat.le_succ _) _).setCell (p:=⟨w.heap.size+1,6,none⟩) (Nat.le_succ _) _).setCell (p:=⟨w.heap.size+1,7,none⟩) (Nat.le_succ _) _).setCell (p:=⟨w.heap.size+1,8,none⟩) (Nat.le_succ _) _)
 ·intro y hy hn
  rcases HR.out.1.2 with ⟨e,_⟩ | ⟨g,cap,cur,e,hg,_⟩
  ·simp only[Value.slice.injEq]at e
   rw[e.1]at hy
   cases hy
  ·simp only[Value.slice.injEq]at e
   rw[e.1]at hy
   cases hy
   have:=hlt.1
   show w.heap.size≤g
   omega
theorem uL (S:Ws) (l:List Fa):(S.note l).bg=S.bg:=rfl
theorem vY (S:Ws) (l:List Fa):(S.note l).mv=S.mv:=rfl
theorem bn {P:Program} {ops:Array Oper} {rest:List Oper} {op:Oper} {a:Act} {w:World} {Q:Exit→Act→World→Prop} (hw:Region.wanted op (yielded ops a.tmps)=true) (ty:TypeId) (x:Operand) (ho:op.op=.load ty x)
  (b o:Nat) (hx:a.eval x=.pointer (some ⟨b,o,none⟩)) (A:Array Value) (d:TypeDesc) (hc:w.rangeAt b o A.toList)
  (hu:P.underlying ty=some d) (hd:d.isRow=true) (hi:(P.info? ty).map (·.size)=some A.size)
  (h:wpList P ops Q rest (a.put op.dst (.agg A)) w):wpList P ops Q (op :: rest) a w:=
 iI hw ty x ho b o hx A.toList d hc hu hd (by simpa using hi) (by simpa using h)
end Go.Proofs.YtdmjfemodihfhaaGreat
