/- Part 40: contracts that the proof rests on. -/
import Derived.Test.YtgaeofgdiaknpaaGreatPkR38
set_option maxHeartbeats 64000000
namespace Go.Proofs.YtgaeofgdiaknpaaGreat
set_option maxRecDepth 100000
open Go.RowKit Go.Maps
set_option linter.unusedVariables false
theorem pconcatQ (P Q:Nat→Pq) (s q0 o0 n0 c0 q1 o1 n1 c1:Nat) (w:World) (hs:w.heap[s]?=some (.cells #[.slice (some ⟨q0,o0,none⟩) n0 c0,.slice (some ⟨q1,o1,none⟩) n1 c1] 23 (0,0))) (h0:PqRow w (some ⟨q0,o0,none⟩) n0 P) (h1:PqRow w (some ⟨q1,o1,none⟩) n1 Q) (l0:0<n0) (b0:n0≤1000) (b1:n1≤1000):Calls Tryz.prog 34 #[.slice (some ⟨s,0,none⟩) 2 2] w fun r w'=>∃ a c,r=.returned (.slice a (n0+n1) c)∧Hid (PqRow w' a (n0+n1) (fun i=>if i<n0 then P i else Q (i-n0))∧n0+n1≤c∧Below w.heap.size w w'):=by
 obtain⟨i0,hI,hz0,hz1,hz2⟩:=info_parts info_parY
 have e0:=cell_of_row w s 0 _ _ _ hs
 have e1:=cell_of_row w s 1 _ _ _ hs
 have hG:=pgrowN (n0+n1) (by omega) (by omega) w
 rw[Int.natCast_add]at hG
 have ls:=(Array.getElem?_eq_some_iff.1 hs).1
 have H0:Hid (_):=ls
 have Hs:Hid (_):=hs
 have Hp:Hid (_):=h0
 have Hq:Hid (_):=h1
 have f0:¬ (((n0:Nat):Int)<0):=by omega
 have f1:¬ (((n0:Nat):Int) + ((n1:Nat):Int)<0):=by omega
 clear hs h0 h1 ls
 go_enter Tryz.func34,Tryz.ntmps34
 go_wp2_with fail
 refine wp_loop_rounds 3 ?_
 rw[rounds_succ]
 go_wp2_with fail
 rw[rounds_succ]
 go_wp2_with fail
 rw[rounds_succ]
 go_wp2_with fail
 refine hG.mono ?_
 rintro r w1 ⟨a,c,rfl,H1⟩
 have oA:=H1.out.1
 have bb1:=H1.out.2
 have d0:=cell_of_row w1 s 0 _ _ _ ((bb1.block s H0.out).trans Hs.out)
 have d1:=cell_of_row w1 s 1 _ _ _ ((bb1.block s H0.out).trans Hs.out)
 have sA:=(PqRow.below Hp.out bb1).src
 have zA:w.heap.size≤w1.heap.size:=bb1.size
 have HB1:Hid (_):=bb1
 clear bb1 hG e0 e1
 go_wp2_with fail
 refine wp_loop_rounds 3 ?_
 rw[rounds_succ]
 go_wp2_with (at_builtin;refine wpList_append_own_at _ rfl _ _ 23 rfl w.heap.size 50 i0 (.agg #[.int .u32 0,.int .i64 0,.int .i64 0,.int .i64 0,.int .u32 0]) 5 40 Tryz.underlying23 hI hz0 hz1 hz2 rfl (by decide) (.slice a 0 c) 0 [] rfl oA ⟨q0,o0,none⟩ n0 c0 (flQ n0 P) rfl (flQ_len _ _) sA (flQ_one _ _) (by unfold maxLen;omega) (by omega) zA ?_)
 intro v2 w2 o2 g2 _ _
 obtain⟨a2,c2,rfl⟩:=own_shape o2
 have bb2:=HB1.out.grown g2 zA (fun k hk=>(oA.lt k hk).1)
 have k0:=cell_of_row w2 s 0 _ _ _ ((bb2.block s H0.out).trans Hs.out)
 have k1:=cell_of_row w2 s 1 _ _ _ ((bb2.block s H0.out).trans Hs.out)
 have sB:=(PqRow.below Hq.out bb2).src
 have zB:w.heap.size≤w2.heap.size:=bb2.size
 have HB2:Hid (_):=bb2
 clear oA sA zA d0 d1 bb2 g2
 go_wp2_with fail
 rw[rounds_succ]
 go_wp2_with (at_builtin;refine wpList_append_own_at _ rfl _ _ 23 rfl w.heap.size 50 i0 (.agg #[.int .u32 0,.int .i64 0,.int .i64 0,.int .i64 0,.int .u32 0]) 5 40 Tryz.underlying23 hI hz0 hz1 hz2 rfl (by decide) (.slice a2 n0 c2) n0 (flQ n0 P) rfl o2 ⟨q1,o1,none⟩ n1 c1 (flQ n1 Q) rfl (flQ_len _ _) sB (flQ_one _ _) (by unfold maxLen;omega) (by omega) zB ?_)
 intro v3 w3 o3 g3 _ _
 obtain⟨a3,c3,rfl⟩:=own_shape o3
 have HF:Hid (_):=And.intro o3 (HB2.out.grown g3 zB (fun k hk=>(o2.lt k hk).1))
 have m1:=cell_of_row w3 s 1 _ _ _ ((HF.out.2.block s H0.out).trans Hs.out)
 clear o2 o3 sB zB k0 k1 g3
 go_wp2_with fail
 rw[rounds_succ]
 go_wp2_with fail
 go_ret
 have h3:=HF.out.1
 rw[← flQ_cat]at h3
 refine⟨_,_,rfl,PqRow.ofOwn h3,?_,HF.out.2⟩
 rcases h3.2 with ⟨e,e2⟩ | ⟨g,cap,cur,e,_,_,hle,_⟩
 ·omega
 ·injection e with _ _ e3
  omega
def Pq.law (p:Pq):Prop:=okP p.c p.o p.i p.t p.n
instance (p:Pq):Decidable p.law:=inferInstanceAs (Decidable (okP p.c p.o p.i p.t p.n))
def allQ (P:Nat→Pq) (n:Nat):Bool:=(List.range n).all fun i=>decide (P i).law
theorem allQ_succ (P:Nat→Pq) (n:Nat):allQ P (n+1)=(allQ P n && decide (P n).law):=by
 unfold allQ
 rw[List.range_succ,List.all_append]
 simp
def ckE (n0 n1 mx:Nat) (P Q:Nat→Pq):Int:=if n0<1∨8<n0∨n1≠n0∨mx<1 then 2 else if allQ (fun i=>if i<n0 then P i else Q (i-n0)) (n0+n1)=false then 90 else if (dblC P n0 || dblC Q n1)=true then 160 else 0
theorem pcheckQ (P Q:Nat→Pq) (a0 a1:Option Addr) (n0 c0 n1 c1 mx:Nat) (w:World) (h0:PqRow w a0 n0 P) (h1:PqRow w a1 n1 Q) (u0:n0≤c0) (u1:n1≤c1) (b0:n0≤1000000) (b1:n1≤1000000):Calls Tryz.prog 18 #[.agg #[.slice a0 n0 c0,.slice a1 n1 c1,.int .u32 (mx:Nat)]] w fun r w'=>r=.returned (.int .i64 (ckE n0 n1 mx P Q))∧Hid (Below w.heap.size w w'):=by
 have kA:=heap_alloc_new w (.cells #[.slice a0 n0 c0,.slice a1 n1 c1,.int .u32 (mx:Nat)] 26)
 have bA:=belY (Below.refl _ w) (.cells #[.slice a0 n0 c0,.slice a1 n1 c1,.int .u32 (mx:Nat)] 26)
 obtain⟨wa,hwa⟩:∃ y,w.alloc (.cells #[.slice a0 n0 c0,.slice a1 n1 c1,.int .u32 (mx:Nat)] 26)=y:=⟨_,rfl⟩
 rw[hwa]at kA bA
 have r0:=h0.below bA
 have r1:=h1.below bA
 obtain⟨x,hx⟩:∃ y,w.heap.size=y:=⟨_,rfl⟩
 have HB:Hid (Below w.heap.size w wa):=bA
 rw[hx]at kA
 have y0:wa.cell? ⟨x,0,none⟩=some (.slice a0 n0 c0):=cell_of_row wa x 0 _ _ _ kA
 have y1:wa.cell? ⟨x,1,none⟩=some (.slice a1 n1 c1):=cell_of_row wa x 1 _ _ _ kA
 have y2:wa.cell? ⟨x,2,none⟩=some (.int .u32 (mx:Nat)):=cell_of_row wa x 2 _ _ _ kA
 have HK:Hid (_):=kA
 have HR:Hid (_):=And.intro r0 r1
 have HE:Hid (_=wa):=hwa
 have HS:Hid (w.heap.size=x):=hx
 clear kA bA hwa hx r0 r1 h0 h1
 unfold ckE
 by_cases g1:n0<1
 ·rw[if_pos (.inl g1)]
  have g1':((n0:Nat):Int)<1:=by omega
  go_enter Tryz.func18,Tryz.ntmps18
  go_upto_region 1 with fail
  rw[HE.out,HS.out]
  go_wp2_with fail
  go_ret
  exact⟨rfl,HB.out⟩
 by_cases g2:8<n0
 ·rw[if_pos (.inr (.inl g2))]
  have g1':¬ (((n0:Nat):Int)<1):=by omega
  have g2':((n0:Nat):Int) > 8:=by omega
  go_enter Tryz.func18,Tryz.ntmps18
  go_upto_region 1 with fail
  rw[HE.out,HS.out]
  go_wp2_with fail
  go_ret
  exact⟨rfl,HB.out⟩
 have g1':¬ (((n0:Nat):Int)<1):=by omega
 have g2':¬ (((n0:Nat):Int) > 8):=by omega
 by_cases g3:n1=n0
 rotate_left
 ·rw[if_pos (.inr (.inr (.inl g3)))]
  have g3':(((n1:Nat):Int) != ((n0:Nat):Int))=true:=by simp;omega
  go_enter Tryz.func18,Tryz.ntmps18
  go_upto_region 1 with fail
  rw[HE.out,HS.out]
  go_wp2_with fail
  go_ret
  exact⟨rfl,HB.out⟩
 subst g3
 have g3':(((n1:Nat):Int) != ((n1:Nat):Int))=false:=by simp
 by_cases g4:mx<1
 ·rw[if_pos (.inr (.inr (.inr g4)))]
  have g4':((mx:Nat):Int)<1:=by omega
  go_enter Tryz.func18,Tryz.ntmps18
  go_upto_region 1 with fail
  rw[HE.out,HS.out]
  go_wp2_with fail
  go_ret
  exact⟨rfl,HB.out⟩
 have g4':¬ (((mx:Nat):Int)<1):=by omega
 rw[if_neg (by omega:¬ (n1<1∨8<n1∨n1≠n1∨mx<1))]
 obtain⟨q0,o0,ea0,_⟩:=HR.out.1 0 (by omega)
 obtain⟨q1,o1,ea1,_⟩:=HR.out.2 0 (by omega)
 subst ea0 ea1
 have bB:=belY (Below.refl _ wa) (.cells #[.slice (some ⟨q0,o0,none⟩) n1 c0,.slice (some ⟨q1,o1,none⟩) n1 c1] 23)
 have kB:=heap_alloc_new wa (.cells #[.slice (some ⟨q0,o0,none⟩) n1 c0,.slice (some ⟨q1,o1,none⟩) n1 c1] 23)
 have hCc:=pconcatQ P Q wa.heap.size q0 o0 n1 c0 q1 o1 n1 c1 (wa.alloc (.cells #[.slice (some ⟨q0,o0,none⟩) n1 c0,.slice (some ⟨q1,o1,none⟩) n1 c1] 23)) kB (PqRow.below HR.out.1 bB) (PqRow.below HR.out.2 bB) (by omega) (by omega) (by omega)
 have HBB:Hid (_):=bB
 clear bB kB g1 g2 g4
 obtain⟨R,hR⟩:∃ z,(if allQ (fun i=>if i<n1 then P i else Q (i-n1)) (n1+n1)=false then (90:Int) else if (dblC P n1 || dblC Q n1)=true then 160 else 0)=z:=⟨_,rfl⟩
 have HRR:Hid (_):=hR
 rw[hR]
 clear hR
 obtain⟨C,hC⟩:∃ C:Nat→Pq,(fun i=>if i<n1 then P i else Q (i-n1))=C:=⟨_,rfl⟩
 rw[hC]at hCc
 have HC:Hid (_):=hC
 clear hC
 go_enter Tryz.func18,Tryz.ntmps18
 go_upto_region 1 with fail
 rw[HE.out,HS.out]
 go_wp2_with fail
 refine hCc.mono ?_
 rintro r w1 ⟨a,c,rfl,H1⟩
 clear hCc y0 y1 y2
 have hb1:Below wa.heap.size wa w1:=HBB.out.trans (H1.out.2.2.mono HBB.out.size)
 have HB1:Hid (_):=hb1
 clear hb1
 go_wp2_with fail
 go_loopw [2,4,5,37,38,39,40,41,42,43,44,45,46] (fun _ _ _ v0 _ _ _ _ _ _ _ _ _ wr=>∃ i:Nat,i≤n1+n1∧v0=.int .i64 ((i:Nat):Int)∧Hid (allQ C i=true∧Below w1.heap.size w1 wr)) (fun _ _ _ v0 _ _ _ _ _ _ _ _ _ _=>n1+n1-natQ v0)
 case atStart=>exact⟨0,by omega,rfl,rfl,Below.refl _ _⟩
 case round=>
  obtain⟨i,hi,rfl,HI⟩:=hrel
  by_cases hlt:i<n1+n1
  rotate_left
  ·obtain rfl:i=n1+n1:=by omega
   have hlt':¬ (((n1+n1:Nat):Nat):Int) < (((n1+n1:Nat):Nat):Int):=by omega
   have hbr:Below wa.heap.size wa wr:=HB1.out.trans (HI.out.2.mono HB1.out.size)
   have kr:=(hbr.block x (Array.getElem?_eq_some_iff.1 HK.out).1).trans HK.out
   have y0:wr.cell? ⟨x,0,none⟩=some (.slice (some ⟨q0,o0,none⟩) n1 c0):=cell_of_row wr x 0 _ _ _ kr
   have y1:wr.cell? ⟨x,1,none⟩=some (.slice (some ⟨q1,o1,none⟩) n1 c1):=cell_of_row wr x 1 _ _ _ kr
   have hD:=pdoubledC (some ⟨q0,o0,none⟩) n1 c0 P wr (PqRow.below HR.out.1 hbr) (by omega) u0
   have HBr:Hid (_):=hbr
   clear kr hbr
   cases hd:dblC P n1 with
   | true=>
    rw[hd]at hD
    have HN:Hid (R=160):=by
     show R=160
     rw[← HRR.out,HC.out,HI.out.1,hd]
     rfl
    clear hd
    go_wp2_with fail
    refine hD.mono ?_
    rintro r w3 ⟨rfl,H3⟩
    clear hD
    go_wp2_with fail
    go_ret
    exact⟨by rw[HN.out] <;> rfl,(HB.out.trans (HBr.out.mono HB.out.size)).trans (H3.out.mono (Nat.le_trans HB.out.size HBr.out.size))⟩
   | false=>
    rw[hd]at hD
    have HN0:Hid (dblC P n1=false):=hd
    clear hd
    go_wp2_with fail
    refine hD.mono ?_
    rintro r w3 ⟨rfl,H3⟩
    clear hD y0 y1
    have hb3:Below wa.heap.size wa w3:=HBr.out.trans (H3.out.mono HBr.out.size)
    have kr:=(hb3.block x (Array.getElem?_eq_some_iff.1 HK.out).1).trans HK.out
    have y1:w3.cell? ⟨x,1,none⟩=some (.slice (some ⟨q1,o1,none⟩) n1 c1):=cell_of_row w3 x 1 _ _ _ kr
    have hD:=pdoubledC (some ⟨q1,o1,none⟩) n1 c1 Q w3 (PqRow.below HR.out.2 hb3) (by omega) u1
    have HB3:Hid (_):=hb3
    clear kr hb3
    cases hd:dblC Q n1 with
    | true=>
     rw[hd]at hD
     have HN:Hid (R=160):=by
      show R=160
      rw[← HRR.out,HC.out,HI.out.1,HN0.out,hd]
      rfl
     clear hd
     go_wp2_with fail
     refine hD.mono ?_
     rintro r w4 ⟨rfl,H4⟩
     clear hD
     go_wp2_with fail
     go_ret
     exact⟨by rw[HN.out] <;> rfl,(HB.out.trans (HB3.out.mono HB.out.size)).trans (H4.out.mono (Nat.le_trans HB.out.size HB3.out.size))⟩
    | false=>
     rw[hd]at hD
     have HN:Hid (R=0):=by
      show R=0
      rw[← HRR.out,HC.out,HI.out.1,HN0.out,hd]
      rfl
     clear hd
     go_wp2_with fail
     refine hD.mono ?_
     rintro r w4 ⟨rfl,H4⟩
     clear hD
     go_wp2_with fail
     go_ret
     exact⟨by rw[HN.out] <;> rfl,(HB.out.trans (HB3.out.mono HB.out.size)).trans (H4.out.mono (Nat.le_trans HB.out.size HB3.out.size))⟩
  have hlt':((i:Nat):Int) < (((n1+n1:Nat):Nat):Int):=by omega
  obtain⟨q,off,ea,cc⟩:=(PqRow.below H1.out.1 HI.out.2) i hlt
  subst ea
  obtain⟨p,hP⟩:∃ y,C i=y:=⟨_,rfl⟩
  rw[hP]at cc
  have c0:wr.cell? ⟨q,off+i*5,none⟩=some (.int .u32 (p.c:Nat)):=cc 0 _ rfl
  have c1:wr.cell? ⟨q,off+i*5+1,none⟩=some (.int .i64 p.o):=cc 1 _ rfl
  have c2:wr.cell? ⟨q,off+i*5+2,none⟩=some (.int .i64 p.i):=cc 2 _ rfl
  have c3:wr.cell? ⟨q,off+i*5+3,none⟩=some (.int .i64 p.t):=cc 3 _ rfl
  have c4:wr.cell? ⟨q,off+i*5+4,none⟩=some (.int .u32 (p.n:Nat)):=cc 4 _ rfl
  have bA:=belY (Below.refl _ wr) (.cells #[.int .u32 (p.c:Nat),.int .i64 p.o,.int .i64 p.i,.int .i64 p.t,.int .u32 (p.n:Nat)] 50)
  have HP:Hid (_):=hP
  have HBx:Hid (_):=HI.out.2.trans (bA.mono HI.out.2.size)
  clear cc hP bA
  by_cases hl:p.law
  ·have hCk:=check_any p.c p.o p.i p.t p.n (wr.alloc (.cells #[.int .u32 (p.c:Nat),.int .i64 p.o,.int .i64 p.i,.int .i64 p.t,.int .u32 (p.n:Nat)] 50)) 0 (if_pos (show okP p.c p.o p.i p.t p.n from hl))
   have HN:Hid (allQ C (i+1)=true):=by
    show allQ C (i+1)=true
    rw[allQ_succ,HI.out.1,HP.out]
    simpa using hl
   clear hl
   go_wp2_with fail
   refine hCk.mono ?_
   rintro r w3 ⟨rfl,b3⟩
   have HB3:Hid (_):=b3
   clear hCk b3
   go_wp2_with fail
   go_roundw
   case rel=>exact⟨i+1,by omega,by first | rfl | go_num,HN.out,HBx.out.trans (HB3.out.mono HBx.out.size)⟩
   case measure=>simp only[natQ];omega
  ·have hCk:=check_any p.c p.o p.i p.t p.n (wr.alloc (.cells #[.int .u32 (p.c:Nat),.int .i64 p.o,.int .i64 p.i,.int .i64 p.t,.int .u32 (p.n:Nat)] 50)) 90 (if_neg (show ¬ okP p.c p.o p.i p.t p.n from hl))
   have HN:Hid (R=90):=by
    show R=90
    rw[← HRR.out,HC.out]
    refine if_pos ?_
    rw[Bool.eq_false_iff]
    intro hh
    have:=List.all_eq_true.1 hh i (List.mem_range.2 hlt)
    rw[HP.out]at this
    exact hl (by simpa using this)
   clear hl
   go_wp2_with fail
   refine hCk.mono ?_
   rintro r w3 ⟨rfl,b3⟩
   have HB3:Hid (_):=b3
   clear hCk b3
   go_wp2_with fail
   go_ret
   have e1:Below wa.heap.size wa w3:=HB1.out.trans ((HBx.out.trans (HB3.out.mono HBx.out.size)).mono HB1.out.size)
   exact⟨by rw[HN.out] <;> rfl,HB.out.trans (e1.mono HB.out.size)⟩
theorem pcopiedQ (P Q:Nat→Pq) (q0 o0 v0 q1 o1 v1 n mx:Nat) (w:World) (k0:PqRow w (some ⟨q0,o0,none⟩) n P) (k1:PqRow w (some ⟨q1,o1,none⟩) n Q) (hn:n≤1000000):Calls Tryz.prog 19 #[.agg #[.slice (some ⟨q0,o0,none⟩) n v0,.slice (some ⟨q1,o1,none⟩) n v1,.int .u32 (mx:Nat)]] w fun r w'=>∃ a0 c0 a1 c1,r=.returned (.agg #[.slice a0 n c0,.slice a1 n c1,.int .u32 (mx:Nat)])∧Hid (w'.ownsRow w.heap.size 50 5 (.slice a0 n c0) n (flQ n P)∧w'.ownsRow w.heap.size 50 5 (.slice a1 n c1) n (flQ n Q)∧Below w.heap.size w w'∧∀ k,(Value.slice a0 n c0).ownBlock=some k→(Value.slice a1 n c1).ownBlock≠some k):=by
 have kA0:=heap_alloc_new w (.cells #[.slice (some ⟨q0,o0,none⟩) n v0,.slice (some ⟨q1,o1,none⟩) n v1,.int .u32 (mx:Nat)] 26)
 have bA:=belY (belY (Below.refl _ w) (.cells #[.slice (some ⟨q0,o0,none⟩) n v0,.slice (some ⟨q1,o1,none⟩) n v1,.int .u32 (mx:Nat)] 26)) (.cells #[.slice none 0 0,.slice none 0 0,.int .u32 0] 26)
 have s1:(w.alloc (.cells #[.slice (some ⟨q0,o0,none⟩) n v0,.slice (some ⟨q1,o1,none⟩) n v1,.int .u32 (mx:Nat)] 26)).heap.size=w.heap.size+1:=sz1 _ _
 have kA:((w.alloc (.cells #[.slice (some ⟨q0,o0,none⟩) n v0,.slice (some ⟨q1,o1,none⟩) n v1,.int .u32 (mx:Nat)] 26)).alloc (.cells #[.slice none 0 0,.slice none 0 0,.int .u32 0] 26)).heap[w.heap.size]?=_:=(Below.heap_alloc _ _ _ (by omega)).trans kA0
 have kB:=heap_alloc_new (w.alloc (.cells #[.slice (some ⟨q0,o0,none⟩) n v0,.slice (some ⟨q1,o1,none⟩) n v1,.int .u32 (mx:Nat)] 26)) (.cells #[.slice none 0 0,.slice none 0 0,.int .u32 0] 26)
 rw[s1]at kB
 have s2:((w.alloc (.cells #[.slice (some ⟨q0,o0,none⟩) n v0,.slice (some ⟨q1,o1,none⟩) n v1,.int .u32 (mx:Nat)] 26)).alloc (.cells #[.slice none 0 0,.slice none 0 0,.int .u32 0] 26)).heap.size=w.heap.size+2:=sz2 _ _ _
 obtain⟨wa,hwa⟩:∃ y,(w.alloc (.cells #[.slice (some ⟨q0,o0,none⟩) n v0,.slice (some ⟨q1,o1,none⟩) n v1,.int .u32 (mx:Nat)] 26)).alloc (.cells #[.slice none 0 0,.slice none 0 0,.int .u32 0] 26)=y:=⟨_,rfl⟩
 rw[hwa]at kA bA kB s2
 have j0:=k0.below bA
 have j1:=k1.below bA
 obtain⟨x,hx⟩:∃ y,w.heap.size=y:=⟨_,rfl⟩
 have HBa:Hid (Below w.heap.size w wa):=bA
 rw[hx]at kA kB s2
 have hS:∀ w',Below wa.heap.size wa w'→w'.cell? ⟨x,0,none⟩=some (Value.slice (some ⟨q0,o0,none⟩) n v0)∧w'.cell? ⟨x,1,none⟩=some (Value.slice (some ⟨q1,o1,none⟩) n v1)∧w'.cell? ⟨x,2,none⟩=some (Value.int .u32 (mx:Nat)):=fun w' b=>⟨cellY (cell_of_row wa x 0 _ _ _ kA) b,cellY (cell_of_row wa x 1 _ _ _ kA) b,cellY (cell_of_row wa x 2 _ _ _ kA) b⟩
 have HS0:=hS wa.drew (Below.drew (Below.refl _ _))
 have HSS:Hid (_):=hS
 have HJ:Hid (_):=And.intro j0 (And.intro j1 (And.intro kB s2))
 have HE:Hid (_=wa):=hwa
 have HS:Hid (w.heap.size=x):=hx
 clear kA0 kA kB bA s1 s2 hwa hx j0 j1 k0 k1 hS
 go_enter Tryz.func19,Tryz.ntmps19
 go_upto_region 1 with fail
 rw[HE.out,HS.out]
 refine wp_region_held_drew (S:=fun w'=>w'.cell? ⟨x,0,none⟩=some (Value.slice (some ⟨q0,o0,none⟩) n v0)∧w'.cell? ⟨x,1,none⟩=some (Value.slice (some ⟨q1,o1,none⟩) n v1)∧w'.cell? ⟨x,2,none⟩=some (Value.int .u32 (mx:Nat))) (by kernel_rfl) HS0 (fun _=>?_)
 refine tkH (i:=0) (v:=Value.pointer (some ⟨x,0,none⟩)) ?_
 refine tkH (i:=1) (v:=Value.slice (some ⟨q0,o0,none⟩) n v0) ?_
 refine tkH (i:=3) (v:=Value.pointer (some ⟨x,1,none⟩)) ?_
 refine tkH (i:=4) (v:=Value.slice (some ⟨q1,o1,none⟩) n v1) ?_
 refine tkH (i:=6) (v:=Value.pointer (some ⟨x,2,none⟩)) ?_
 refine tkH (i:=7) (v:=Value.int .u32 (mx:Nat)) ?_
 have bd:Below wa.heap.size wa wa.drew:=Below.drew (Below.refl _ _)
 refine held_call (i:=2) 37 #[Value.slice (some ⟨q0,o0,none⟩) n v0] (by kernel_rfl) rfl (by kernel_rfl) (by go_simp) ?_
 refine (pcloneQ q0 o0 n v0 P wa.drew (PqRow.below HJ.out.1 bd) hn).mono ?_
 rintro r w1 ⟨a0,c0,rfl,H1⟩
 have b1:Below wa.heap.size wa w1:=bd.trans H1.out.2
 refine⟨_,rfl,HSS.out w1 b1,?_⟩
 have HSa:=HSS.out w1 b1
 refine held_call (i:=5) 37 #[Value.slice (some ⟨q1,o1,none⟩) n v1] (by kernel_rfl) rfl (by kernel_rfl) (by go_simp) ?_
 refine (pcloneQ q1 o1 n v1 Q w1 (PqRow.below HJ.out.2.1 b1) hn).mono ?_
 rintro r w2 ⟨a1,c1,rfl,H2⟩
 have b2:Below wa.heap.size wa w2:=b1.trans (H2.out.2.mono b1.size)
 have HSb:=HSS.out w2 b2
 refine⟨_,rfl,HSb,?_⟩
 refine tkH (i:=8) (v:=Value.agg #[Value.slice a0 n c0,Value.slice a1 n c1,Value.int .u32 (mx:Nat)]) ?_
 obtain⟨_,_,kB,s2⟩:=HJ.out
 have kB2:=(b2.block (x+1) (by omega)).trans kB
 have y0:=cell_of_row w2 (x+1) 0 _ _ _ kB2
 have y1:=cell_of_row w2 (x+1) 1 _ _ _ kB2
 have y2:=cell_of_row w2 (x+1) 2 _ _ _ kB2
 have yz:=fun k=>frozen_of_row w2 (x+1) k _ _ kB2
 have kB3:(((w2.setCell ⟨x+1,0,none⟩ (Value.slice a0 n c0)).setCell ⟨x+1,1,none⟩ (Value.slice a1 n c1)).setCell ⟨x+1,2,none⟩ (Value.int .u32 (mx:Nat))).heap[x+1]?=some (.cells #[Value.slice a0 n c0,Value.slice a1 n c1,Value.int .u32 (mx:Nat)] 26 (0,0)):=Joins.block_setCell (Joins.block_setCell (Joins.block_setCell kB2 _) _) _
 have o3:Off [x+1] w2 (((w2.setCell ⟨x+1,0,none⟩ (Value.slice a0 n c0)).setCell ⟨x+1,1,none⟩ (Value.slice a1 n c1)).setCell ⟨x+1,2,none⟩ (Value.int .u32 (mx:Nat))):=((Off.setCell (x+1) 0 w2 _).trans (Off.setCell (x+1) 1 _ _)).trans (Off.setCell (x+1) 2 _ _)
 have hS3:(((w2.setCell ⟨x+1,0,none⟩ (Value.slice a0 n c0)).setCell ⟨x+1,1,none⟩ (Value.slice a1 n c1)).setCell ⟨x+1,2,none⟩ (Value.int .u32 (mx:Nat))).cell? ⟨x,0,none⟩=some (Value.slice (some ⟨q0,o0,none⟩) n v0)∧(((w2.setCell ⟨x+1,0,none⟩ (Value.slice a0 n c0)).setCell ⟨x+1,1,none⟩ (Value.slice a1 n c1)).setCell ⟨x+1,2,none⟩ (Value.int .u32 (mx:Nat))).cell? ⟨x,1,none⟩=some (Value.slice (some ⟨q1,o1,none⟩) n v1)∧(((w2.setCell ⟨x+1,0,none⟩ (Value.slice a0 n c0)).setCell ⟨x+1,1,none⟩ (Value.slice a1 n c1)).setCell ⟨x+1,2,none⟩ (Value.int .u32 (mx:Nat))).cell? ⟨x,2,none⟩=some (Value.int .u32 (mx:Nat)):=by
  obtain⟨u0,u1,u2⟩:=HSb
  refine⟨?_,?_,?_⟩
  ·rw[World.cell?_of_block (w:=w2) (o3.block x (by have:=b2.size;omega) (by simp))];exact u0
  ·rw[World.cell?_of_block (w:=w2) (o3.block x (by have:=b2.size;omega) (by simp))];exact u1
  ·rw[World.cell?_of_block (w:=w2) (o3.block x (by have:=b2.size;omega) (by simp))];exact u2
 obtain⟨w3,hw3⟩:∃ z,(((w2.setCell ⟨x+1,0,none⟩ (Value.slice a0 n c0)).setCell ⟨x+1,1,none⟩ (Value.slice a1 n c1)).setCell ⟨x+1,2,none⟩ (Value.int .u32 (mx:Nat)))=z:=⟨_,rfl⟩
 rw[hw3]at kB3 o3 hS3
 refine held_skip (i:=9) w3 (by kernel_rfl) rfl (by kernel_rfl) (by rw[← hw3];go_simp) hS3 ?_
 refine wpAnyH_done (by kernel_rfl) ?_ _
 have z0:=cell_of_row w3 (x+1) 0 _ _ _ kB3
 have z1:=cell_of_row w3 (x+1) 1 _ _ _ kB3
 have z2:=cell_of_row w3 (x+1) 2 _ _ _ kB3
 have HO:Hid (_):=And.intro o3 (And.intro b1 (And.intro b2 s2))
 clear o3 b1 b2 s2 kB kB2 kB3 hS3 HSb HSa hw3 HS0 bd y0 y1 y2 yz
 go_wp2_with fail
 refine bodyPost_ret (v:=.agg #[.slice a0 n c0,.slice a1 n c1,.int .u32 (mx:Nat)]) (by simp[results,Tryz.results19,go_sem,z0,z1,z2]) rfl ?_
 obtain⟨o3,b1,b2,s2⟩:=HO.out
 have hb:=HBa.out
 have hsx:=HS.out
 have hdz:wa.drew.heap.size=wa.heap.size:=rfl
 have lt1:=H1.out.1.lt
 have lt2:=H2.out.1.lt
 have l1:=b1.size
 have u0:w2.ownsRow wa.heap.size 50 5 (.slice a0 n c0) n (flQ n P):=own_offY (l:=[]) H1.out.1 (Off.of_below H2.out.2) (by simp)
 have v0:=own_offY u0 o3 (fun k hk hm=>by have:=(lt1 k hk).1;simp at hm;omega)
 have v1:=own_offY H2.out.1 o3 (fun k hk hm=>by have:=(lt2 k hk).1;simp at hm;omega)
 refine⟨a0,c0,a1,c1,rfl,own_lowY v0 (by omega),own_lowY v1 (by omega),o3.below (hb.trans (b2.mono hb.size)) (by simp;omega) (Nat.le_trans hb.size b2.size),fun k hk hm=>?_⟩
 have:=(lt1 k hk).2
 have:=(lt2 k hm).1
 omega
def Pm.q (P:Pm):Pq:=⟨P.c,P.o,P.i,P.t,P.n⟩
end Go.Proofs.YtgaeofgdiaknpaaGreat
