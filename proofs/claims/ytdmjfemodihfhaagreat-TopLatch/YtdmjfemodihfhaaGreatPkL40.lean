/- Part 41: contracts that the proof rests on. -/
import Derived.Deep.Upon
import Derived.Deep.MidRow
import Derived.Deep.DeepCutAuto
import Derived.Deep.CutBlock
import Derived.Deep.RegionWith
import Derived.Deep.QuietTactic
import Derived.BigQuiet
import Derived.Test.YtdmjfemodihfhaaGreatPkL39
set_option maxHeartbeats 64000000
set_option maxRecDepth 100000
namespace Go.Proofs.YtdmjfemodihfhaaGreat
set_option maxRecDepth 100000
open Go.RowKit Go.Maps
set_option linter.unusedVariables false
def cA:Value→Nat
 | .int _ i=>i.toNat
 | _=>0
def Vx (A:Array Value) (x:Vw):Prop:=∃ (s1 s2 s3:Int) (s4:Int) (a:Option Addr) (n c:Nat),A=#[.int .i64 (x.st:Nat),.int .u32 s1,.int .u32 s2,.int .u32 s3,.int .i64 s4,.int .i64 x.lat,.bool x.rq,.bool x.on,.slice a n c]
theorem Vx.size {A:Array Value} {x:Vw} (h:Vx A x):A.size=9:=by
 obtain⟨_,_,_,_,_,_,_,rfl⟩:=h
 rfl
theorem Vx.one {A:Array Value} {x:Vw} (h:Vx A x):A.all (·.oneCell')=true:=by
 obtain⟨_,_,_,_,_,_,_,rfl⟩:=h
 kernel_rfl
theorem Vx.c0 {A:Array Value} {x:Vw} (h:Vx A x):A.toList[0]?=some (.int .i64 (x.st:Nat)):=by
 obtain⟨_,_,_,_,_,_,_,rfl⟩:=h
 rfl
theorem Vx.c5 {A:Array Value} {x:Vw} (h:Vx A x):A.toList[5]?=some (.int .i64 x.lat):=by
 obtain⟨_,_,_,_,_,_,_,rfl⟩:=h
 rfl
theorem Vx.c6 {A:Array Value} {x:Vw} (h:Vx A x):A.toList[6]?=some (.bool x.rq):=by
 obtain⟨_,_,_,_,_,_,_,rfl⟩:=h
 rfl
theorem Vx.c7 {A:Array Value} {x:Vw} (h:Vx A x):A.toList[7]?=some (.bool x.on):=by
 obtain⟨_,_,_,_,_,_,_,rfl⟩:=h
 rfl
theorem oy {e:Nat→Nat} {w0 w:World} {t:Nat→Thing} {L:Pw} {S:Ws} {k:Nat} (h:PWn e w0 t L w S) (hk:k<S.n):Calls Tryz.prog 17 #[.pointer (some ⟨L.x,0,none⟩),.int .i64 (k:Nat)] w fun r w'=>∃ A B:Array Value,r=.returned (.tuple #[.agg A,.agg B])∧Hid (Vx A (S.vw k 0)∧Vx B (S.vw k 1)∧Below w.heap.size w w'):=by
 refine (yO L.x k (S.PH k).i (S.PD k).o _ _ _ _ _ _ _ _ _ _ _ _ _ _ _ _ (dC (S.hs k).v) (dC (S.ds k).v) w (fun w1 b1=>yd (h.below b1) hk) (fun w1 b1=>yu (h.below b1) hk)).mono ?_
 rintro r w' ⟨a,ca,b,cb,rfl,H⟩
 exact⟨_,_,rfl,⟨_,_,_,_,_,_,_,rfl⟩,⟨_,_,_,_,_,_,_,rfl⟩,H.out.2.2.1⟩
theorem thB {w w':World} {b o n:Nat} (h:w.there b o n) (hb:Below w.heap.size w w'):w'.there b o n:=fun j hj=>by
 obtain⟨h1,h2⟩:=h j hj
 have lt:b<w.heap.size:=by
  obtain⟨v,hv⟩:=Option.isSome_iff_exists.1 h1
  exact World.block_lt_of_cell? w _ hv
 have e:=hb.block b lt
 exact⟨by rw[World.cell?_of_block (a:=⟨b,o+j,none⟩) e];exact h1,by rw[World.frozen?_of_block (a:=⟨b,o+j,none⟩) e];exact h2⟩
theorem yj {A B:Array Value} {x y:Vw} (hA:Vx A x) (hB:Vx B y) (w:World):(Instr.buildSlice 61 2 #[(0,.agg A),(1,.agg B)]).run Tryz.prog w=.ok (.slice (some ⟨w.heap.size,0,none⟩) 2 2) (w.alloc (.cells (A ++ B) 43)):=by
 obtain⟨_,_,_,_,_,_,_,rfl⟩:=hA
 obtain⟨_,_,_,_,_,_,_,rfl⟩:=hB
 kernel_rfl
theorem iR {P:Program} {ops:Array Oper} {rest:List Oper} {op:Oper} {a:Act} {w:World} {Q:Exit→Act→World→Prop} (hgd:op.guard=none) (t:TypeId) (x y:Operand) (ho:op.op=.buildSlice t 2 #[(0,x),(1,y)]) (A B v:Value) (w':World) (hx:a.eval x=A) (hy:a.eval y=B)
  (hrun:(Instr.buildSlice t 2 #[(0,A),(1,B)]).run P w=.ok v w') (h:wpList P ops Q rest (a.put op.dst v) w'):wpList P ops Q (op :: rest) a w:=
 wpList_plain hgd fun _ hK=>by
  unfold Oper.wp execOp
  simp only[ho,Sem.run_bind,Sem.run_pure,Result.andThen_ok,List.map_toArray,List.map_cons,List.map_nil,hx,hy,hrun]
  exact hK _ _ h
theorem mH {w w':World} {b o:Nat} {cs:List Value} (h:w.rangeAt b o cs) (hb:Below w.heap.size w w'):w'.rangeAt b o cs:=fun j v hv=>af (h j v hv) hb
theorem wu {e:Nat→Nat} {w0 x:World} {t:Nat→Thing} {i pq:Nat} {ob:Obj} {L:Pw} {S:Ws} {A:Array Value} {v:Vw} {a:Nat} (h:PWn e w0 (aE t i (dk [(pq,ob)])) L x S) (hi:∀ j,i≠e j) (th:x.there pq 0 36) (hA:Vx A v) (ha:a+9≤36):∃ x' ob',(storeCells ⟨pq,a,none⟩ A.toList).run Tryz.prog x=.ok () x'∧PWn e w0 (aE t i (dk [(pq,ob')])) L x' S∧x'.there pq 0 36∧x'.rangeAt pq a A.toList∧(∀ a2 cs,x.rangeAt pq a2 cs→(a2+cs.length≤a∨a+9≤a2)→x'.rangeAt pq a2 cs)∧∀ w0':World,Below w0'.heap.size w0' x→w0'.heap.size≤pq→Below w0'.heap.size w0' x':=by
 have ta:x.there pq a A.size:=fun j hj=>by
  have:=th (a+j) (by rw[hA.size]at hj;omega)
  rw[Nat.zero_add]at this
  exact this
 have t2:=World.there_setCells th pq a A.toList
 obtain⟨v0,hv0⟩:=Option.isSome_iff_exists.1 (t2 0 (by decide)).1
 have lt:=World.block_lt_of_cell? _ _ hv0
 refine⟨x.setCells pq a A.toList,_,dN ta hA.one,h.turnB hi (aY x pq a A.toList) (Array.getElem?_eq_getElem lt),t2,World.rangeAt_setCells_same x pq a A.toList (by simpa using ta),fun a2 cs hc hd=>World.rangeAt_setCells_apart hc pq a A.toList (.inr ?_),fun w0' hb hq=>(aY x pq a A.toList).below hb (fun k hk=>by simp at hk;omega) hb.size⟩
 have:=hA.size
 simp only[Array.length_toList]
 omega
theorem lZ (a:Option Addr) (len cap:Nat) (w:World) (O:OpRow w a len):Calls Tryz.prog 6 #[.slice a len cap] w fun r w'=>r=.returned (.bool true)∧Below w.heap.size w w':=by
 have HO:Hid (OpRow w a len):=O
 have hlen:=O.1
 clear O
 have hNe:=zl w
 go_enter Tryz.func6,Tryz.ntmps6
 go_wp2_with fail
 refine hNe.mono ?_
 rintro r w1 ⟨g0,v0,g1,v1,rfl,H1⟩
 clear hNe
 have hN:Calls Tryz.prog 11 #[.agg #[.slice (some ⟨g0,0,none⟩) 2 v0,.slice (some ⟨g1,0,none⟩) 2 v1,.int .u32 50]] w1 fun r w'=>∃ L:Pw,r=.returned (.tuple #[.pointer (some ⟨L.x,0,none⟩),.int .i64 0])∧Hid (PW ev w1 w' (jW L) L∧L.S=sN 2 50 un un):=wY un un g0 0 v0 g1 0 v1 2 50 pX pX (by decide) (by decide) (by decide) (by decide) H1.out.1 H1.out.2.1 w1 H1.out.2.2.1 H1.out.2.2.2.1 vy
 have HB1:Hid (Below w.heap.size w w1):=H1.out.2.2.2.2
 clear H1
 go_wp2_with fail
 refine hN.mono ?_
 rintro r w2 ⟨L,rfl,H2⟩
 clear hN
 obtain⟨X,hX⟩:∃ y,L.x=y:=⟨_,rfl⟩
 rw[hX]
 have HX:Hid (L.x=X):=hX
 clear hX
 have hAw:=tq w2
 go_wp2_with fail
 refine hAw.mono ?_
 rintro r w3 ⟨rfl,b3⟩
 clear hAw
 have HS0:Hid (∃ S,Jl S∧PWn ev w1 (jW L) L w3 S):=by
  have hp:=H2.out.1.n
  rw[H2.out.2]at hp
  exact⟨_,Jl.start,hp.below b3⟩
 clear b3 H2
 go_wp2_with fail
 go_loopw [5,6,7,8,9,10,11,12,13,14,15,16,28,29,30,31,32,33,34,35,36,37,38,39,40,41,42,43,44,45,46,47,48,49,50,51,52,53,54,55,56,57,58,59,60,61,62,63,64,65,66,67,68,69,70,71,72,73,74,75,76,77,78,79,80,81,82,83,84,85,86,87,88,89,90,91,92,93,94,95,96,97,98,99,100,101,102,103,104,105,106,107,108,109,110,111,112,113,114,115,116,117,118,119,120,121,122,123,124,125,126,127,128,129,130,131,132,133,134,135,136,137,138,139,140,141,142,143,144,145] (fun i _ _ _ _ _ _ _ _ _ _ _ _ _ _ _ _ _ _ _ _ _ _ _ _ _ _ _ _ _ _ _ _ _ _ _ _ _ _ _ _ _ _ _ _ _ _ _ _ _ _ _ _ _ _ _ _ _ _ _ _ _ _ _ _ _ _ _ _ _ _ _ _ _ _ _ _ _ _ _ _ _ _ _ _ _ _ _ _ _ _ _ _ _ _ _ _ _ _ _ _ _ _ _ _ _ _ _ _ _ _ _ _ _ _ _ _ _ _ _ _ _ _ _ _ _ _ _ _ _ wr=>∃ k:Nat,k≤len∧k≤300∧i=.int .i64 ((k:Nat):Int)∧Hid (∃ S,Jl S∧PWn ev w1 (jW L) L wr S)) (fun i _ _ _ _ _ _ _ _ _ _ _ _ _ _ _ _ _ _ _ _ _ _ _ _ _ _ _ _ _ _ _ _ _ _ _ _ _ _ _ _ _ _ _ _ _ _ _ _ _ _ _ _ _ _ _ _ _ _ _ _ _ _ _ _ _ _ _ _ _ _ _ _ _ _ _ _ _ _ _ _ _ _ _ _ _ _ _ _ _ _ _ _ _ _ _ _ _ _ _ _ _ _ _ _ _ _ _ _ _ _ _ _ _ _ _ _ _ _ _ _ _ _ _ _ _ _ _ _ _ _=>len-cA i)
 case atStart=>exact⟨0,by omega,by omega,rfl,HS0⟩
 case round=>
  obtain⟨k,hk,hk3,rfl,HI⟩:=hrel
  clear HS0
  by_cases hlt:k<len
  ·have hlt':((k:Nat):Int) < ((len:Nat):Int):=by omega
   by_cases h3:k<300
   ·have h3':((k:Nat):Int)<300:=by omega
    obtain⟨b,off,rfl,hb,hm⟩:=HO.out.2 (by omega)
    obtain⟨m,d,ok,R,hl,hcl⟩:=hm k hlt
    obtain⟨S,g,hp⟩:=HI.out
    have hbr:Below w.heap.size w wr:=by
     obtain⟨t9,L9,h9,_⟩:=hp
     exact HB1.out.trans (h9.1.bel.mono HB1.out.size)
    have p0:wr.cell? ⟨b,off+k*9,none⟩=some (.int .i64 m.k):=af (hcl 0 _ rfl) hbr
    have p1:wr.cell? ⟨b,off+k*9+1,none⟩=some (.int .i64 m.c):=af (hcl 1 _ rfl) hbr
    have p2:wr.cell? ⟨b,off+k*9+2,none⟩=some (.int .i64 m.s):=af (hcl 2 _ rfl) hbr
    have p3:wr.cell? ⟨b,off+k*9+3,none⟩=some (.int .i64 m.f):=af (hcl 3 _ rfl) hbr
    have p4:wr.cell? ⟨b,off+k*9+4,none⟩=some (.int .i64 m.a):=af (hcl 4 _ rfl) hbr
    have p5:wr.cell? ⟨b,off+k*9+5,none⟩=some (.int .u32 (m.w:Nat)):=af (hcl 5 _ rfl) hbr
    have p6:wr.cell? ⟨b,off+k*9+6,none⟩=some (.int .i64 m.n):=af (hcl 6 _ rfl) hbr
    have p7:wr.cell? ⟨b,off+k*9+7,none⟩=some (.bool m.h):=af (hcl 7 _ rfl) hbr
    have p8:wr.cell? ⟨b,off+k*9+8,none⟩=some (.slice d.a m.l d.c):=af (hcl 8 _ rfl) hbr
    have hCo:=xS m d.a d.c wr (R.below hbr) hl
    have HG:Hid (_):=And.intro g (And.intro ok hl)
    have HKn:Hid (S.Kn):=hp.kn
    have HP:Hid (PWn ev w1 (jW L) L wr S):=hp
    clear hm R hcl g hp hbr ok hl hb HI
    go_wp2_with fail
    refine hCo.mono ?_
    rintro r w6 ⟨d6,c6,rfl,H6⟩
    clear hCo p0 p1 p2 p3 p4 p5 p6 p7 p8
    have kM:=au w6 (.cells #[.int .i64 m.k,.int .i64 m.c,.int .i64 m.s,.int .i64 m.f,.int .i64 m.a,.int .u32 (m.w:Nat),.int .i64 m.n,.bool m.h,.slice d6 m.l c6] 39)
    have bM:=ay (Below.refl _ w6) (.cells #[.int .i64 m.k,.int .i64 m.c,.int .i64 m.s,.int .i64 m.f,.int .i64 m.a,.int .u32 (m.w:Nat),.int .i64 m.n,.bool m.h,.slice d6 m.l c6] 39)
    obtain⟨w7,hw7⟩:∃ y,w6.alloc (.cells #[.int .i64 m.k,.int .i64 m.c,.int .i64 m.s,.int .i64 m.f,.int .i64 m.a,.int .u32 (m.w:Nat),.int .i64 m.n,.bool m.h,.slice d6 m.l c6] 39)=y:=⟨_,rfl⟩
    rw[hw7]at kM bM
    have hp7:=(HP.out.below H6.out.2.1).layL bM (i:=2*0+1) (fun j=>by unfold ev;omega) (l:=[(w6.heap.size,.cells #[.int .i64 m.k,.int .i64 m.c,.int .i64 m.s,.int .i64 m.f,.int .i64 m.a,.int .u32 (m.w:Nat),.int .i64 m.n,.bool m.h,.slice d6 m.l c6] 39 (0,0))]) (fun p hp=>by
     simp only[List.mem_cons,List.not_mem_nil,or_false]at hp
     subst hp
     exact kM) (fun p hp=>by
     simp only[List.mem_cons,List.not_mem_nil,or_false]at hp
     subst hp
     exact Nat.le_refl _)
    obtain⟨pm,hpm⟩:∃ y,w6.heap.size=y:=⟨_,rfl⟩
    rw[hpm]at kM hp7
    have kW:=au w7 (.cells #[.int .i64 0,.int .u32 0,.int .u32 0,.int .u32 0,.int .i64 0,.int .i64 0,.bool false,.bool false,.slice none 0 0,.int .i64 0,.int .u32 0,.int .u32 0,.int .u32 0,.int .i64 0,.int .i64 0,.bool false,.bool false,.slice none 0 0,.int .i64 0,.int .u32 0,.int .u32 0,.int .u32 0,.int .i64 0,.int .i64 0,.bool false,.bool false,.slice none 0 0,.int .i64 0,.int .u32 0,.int .u32 0,.int .u32 0,.int .i64 0,.int .i64 0,.bool false,.bool false,.slice none 0 0] 60)
    have bW:=ay (Below.refl _ w7) (.cells #[.int .i64 0,.int .u32 0,.int .u32 0,.int .u32 0,.int .i64 0,.int .i64 0,.bool false,.bool false,.slice none 0 0,.int .i64 0,.int .u32 0,.int .u32 0,.int .u32 0,.int .i64 0,.int .i64 0,.bool false,.bool false,.slice none 0 0,.int .i64 0,.int .u32 0,.int .u32 0,.int .u32 0,.int .i64 0,.int .i64 0,.bool false,.bool false,.slice none 0 0,.int .i64 0,.int .u32 0,.int .u32 0,.int .u32 0,.int .i64 0,.int .i64 0,.bool false,.bool false,.slice none 0 0] 60)
    obtain⟨w8,hw8⟩:∃ y,w7.alloc (.cells #[.int .i64 0,.int .u32 0,.int .u32 0,.int .u32 0,.int .i64 0,.int .i64 0,.bool false,.bool false,.slice none 0 0,.int .i64 0,.int .u32 0,.int .u32 0,.int .u32 0,.int .i64 0,.int .i64 0,.bool false,.bool false,.slice none 0 0,.int .i64 0,.int .u32 0,.int .u32 0,.int .u32 0,.int .i64 0,.int .i64 0,.bool false,.bool false,.slice none 0 0,.int .i64 0,.int .u32 0,.int .u32 0,.int .u32 0,.int .i64 0,.int .i64 0,.bool false,.bool false,.slice none 0 0] 60)=y:=⟨_,rfl⟩
    rw[hw8]at kW bW
    have hp8:=hp7.layL bW (i:=2*1+1) (fun j=>by unfold ev;omega) (l:=[(w7.heap.size,.cells #[.int .i64 0,.int .u32 0,.int .u32 0,.int .u32 0,.int .i64 0,.int .i64 0,.bool false,.bool false,.slice none 0 0,.int .i64 0,.int .u32 0,.int .u32 0,.int .u32 0,.int .i64 0,.int .i64 0,.bool false,.bool false,.slice none 0 0,.int .i64 0,.int .u32 0,.int .u32 0,.int .u32 0,.int .i64 0,.int .i64 0,.bool false,.bool false,.slice none 0 0,.int .i64 0,.int .u32 0,.int .u32 0,.int .u32 0,.int .i64 0,.int .i64 0,.bool false,.bool false,.slice none 0 0] 60 (0,0))]) (fun p hp=>by
     simp only[List.mem_cons,List.not_mem_nil,or_false]at hp
     subst hp
     exact kW) (fun p hp=>by
     simp only[List.mem_cons,List.not_mem_nil,or_false]at hp
     subst hp
     exact Nat.le_refl _)
    obtain⟨pq,hpq⟩:∃ y,w7.heap.size=y:=⟨_,rfl⟩
    rw[hpq]at kW hp8
    have th0:w8.there pq 0 36:=aQ kW rfl
    have HR6:Hid (Row8 w6 d6 m.l c6 m.b∧Below w6.heap.size w6 w8∧(∀ y,d6=some y→0<m.l→y.block≠X)∧w6.heap.size≤pq):=⟨H6.out.1,bM.trans (bW.mono bM.size),fun y hy h0 e=>by
     have h1:=H6.out.2.2 y hy h0
     have h2:L.x<wr.heap.size:=by
      obtain⟨t9,L9,h9,_,hx9,_⟩:=HP.out
      rw[← hx9.x]
      exact (h9.2.wb h9.1).lt _ (by simp[Wc.U,Pw.core])
     rw[HX.out]at h2
     omega,by rw[← hpq];exact bM.size⟩
    clear bM bW kM kW hp7 H6
    go_wp2_with fail
    refine wp_loop_rounds 3 ?_
    rw[rounds_succ]
    have hEn:=oy hp8 (k:=0) (by rw[HG.out.1.n];decide)
    rw[HX.out]at hEn
    go_wp2_with fail
    refine hEn.mono ?_
    rintro r x0 ⟨A0,B0,rfl,H0⟩
    clear hEn
    obtain⟨vA0,vB0,bx0⟩:=H0.out
    have sA0:=vA0.size
    have sB0:=vB0.size
    obtain⟨y0,oy0,ra0,py0,ty0,ga0,na0,ba0⟩:=wu (hp8.below bx0) (fun j=>by unfold ev;omega) (thB th0 bx0) vA0 (a:=0) (by decide)
    obtain⟨z0,oz0,rb0,pz0,th1,gb0,nb0,bb0⟩:=wu py0 (fun j=>by unfold ev;omega) ty0 vB0 (a:=9) (by decide)
    have HW0:Hid (z0.rangeAt pq 0 A0.toList∧z0.rangeAt pq 9 B0.toList∧Vx A0 (S.vw 0 0)∧Vx B0 (S.vw 0 1)):=⟨nb0 _ _ ga0 (.inl (by rw[Array.length_toList,sA0];decide)),gb0,vA0,vB0⟩
    have HBZ0:Hid (Below w6.heap.size w6 z0):=bb0 _ (ba0 _ (HR6.out.2.1.trans (bx0.mono HR6.out.2.1.size)) HR6.out.2.2.2) HR6.out.2.2.2
    clear na0 nb0 ga0 gb0 ba0 bb0 vA0 vB0 bx0 H0 hp8 th0 py0 ty0
    clear hw7 hw8 hpm hpq
    go_wp2_with fail
    rw[rounds_succ]
    have hEn:=oy pz0 (k:=1) (by rw[HG.out.1.n];decide)
    rw[HX.out]at hEn
    go_wp2_with fail
    refine hEn.mono ?_
    rintro r x1 ⟨A1,B1,rfl,H1⟩
    clear hEn
    obtain⟨vA1,vB1,bx1⟩:=H1.out
    have sA1:=vA1.size
    have sB1:=vB1.size
    obtain⟨y1,oy1,ra1,py1,ty1,ga1,na1,ba1⟩:=wu (pz0.below bx1) (fun j=>by unfold ev;omega) (thB th1 bx1) vA1 (a:=18) (by decide)
    obtain⟨z1,oz1,rb1,pz1,th2,gb1,nb1,bb1⟩:=wu py1 (fun j=>by unfold ev;omega) ty1 vB1 (a:=27) (by decide)
    have HW1:Hid (∀ j,j<2→∀ s,s<2→∃ A,Vx A (S.vw j s)∧z1.rangeAt pq ((2*j+s)*9) A.toList):=fun j hj s hs=>by
     obtain⟨h1,h2,v1,v2⟩:=HW0.out
     rcases (by omega:j=0∨j=1) with rfl | rfl
     ·rcases (by omega:s=0∨s=1) with rfl | rfl
      ·exact⟨_,v1,nb1 _ _ (na1 _ _ (mH h1 bx1) (.inl (by rw[Array.length_toList,v1.size];decide))) (.inl (by rw[Array.length_toList,v1.size];decide))⟩
      ·exact⟨_,v2,nb1 _ _ (na1 _ _ (mH h2 bx1) (.inl (by rw[Array.length_toList,v2.size];decide))) (.inl (by rw[Array.length_toList,v2.size];decide))⟩
     ·rcases (by omega:s=0∨s=1) with rfl | rfl
      ·exact⟨_,vA1,nb1 _ _ ga1 (.inl (by rw[Array.length_toList,sA1];decide))⟩
      ·exact⟨_,vB1,gb1⟩
    have HBZ:Hid (Below w6.heap.size w6 z1):=bb1 _ (ba1 _ (HBZ0.out.trans (bx1.mono HBZ0.out.size)) HR6.out.2.2.2) HR6.out.2.2.2
    clear na1 nb1 ga1 gb1 ba1 bb1 vA1 vB1 bx1 H1 pz0 th1 py1 ty1 HW0 th2 HBZ0
    go_wp2_with fail
    rw[rounds_succ]
    have kMz:=pz1.box (q:=2*0+1) (fun j=>by unfold ev;omega) (by rw[ag _ _ (by decide)];exact ai _ _ _) _ (List.mem_cons_self ..)
    have kqz:=pz1.box (q:=2*1+1) (fun j=>by unfold ev;omega) (ai _ _ _) _ (List.mem_cons_self ..)
    have q0:z1.cell? ⟨pm,0,none⟩=some (.int .i64 m.k):=ac z1 pm 0 _ _ _ kMz
    have q1:z1.cell? ⟨pm,1,none⟩=some (.int .i64 m.c):=ac z1 pm 1 _ _ _ kMz
    have q2:z1.cell? ⟨pm,2,none⟩=some (.int .i64 m.s):=ac z1 pm 2 _ _ _ kMz
    have q3:z1.cell? ⟨pm,3,none⟩=some (.int .i64 m.f):=ac z1 pm 3 _ _ _ kMz
    have q4:z1.cell? ⟨pm,4,none⟩=some (.int .i64 m.a):=ac z1 pm 4 _ _ _ kMz
    have q5:z1.cell? ⟨pm,5,none⟩=some (.int .u32 (m.w:Nat)):=ac z1 pm 5 _ _ _ kMz
    have q6:z1.cell? ⟨pm,6,none⟩=some (.int .i64 m.n):=ac z1 pm 6 _ _ _ kMz
    have q7:z1.cell? ⟨pm,7,none⟩=some (.bool m.h):=ac z1 pm 7 _ _ _ kMz
    have q8:z1.cell? ⟨pm,8,none⟩=some (.slice d6 m.l c6):=ac z1 pm 8 _ _ _ kMz
    have HZ:Hid (PWn ev w1 (aE (aE (jW L) (2*0+1) (dk [(pm,.cells #[.int .i64 m.k,.int .i64 m.c,.int .i64 m.s,.int .i64 m.f,.int .i64 m.a,.int .u32 (m.w:Nat),.int .i64 m.n,.bool m.h,.slice d6 m.l c6] 39 (0,0))])) (2*1+1) (dk [(pq,oz1)])) L z1 S):=pz1
    obtain⟨OZ,hOZ⟩:∃ y,oz1=y:=⟨_,rfl⟩
    have hPl:Calls Tryz.prog 15 #[.pointer (some ⟨X,0,none⟩),.agg #[.int .i64 m.k,.int .i64 m.c,.int .i64 m.s,.int .i64 m.f,.int .i64 m.a,.int .u32 (m.w:Nat),.int .i64 m.n,.bool m.h,.slice d6 m.l c6]] z1 fun r w'=>∃ (A:Array Value) (E:Int),r=.returned (.tuple #[.agg A,.int .i64 E])∧A.size=29∧A.all (·.oneCell')=true∧Hid (E=S.bad m∧PWn ev w1 (aE (aE (jW L) (2*0+1) (dk [(pm,.cells #[.int .i64 m.k,.int .i64 m.c,.int .i64 m.s,.int .i64 m.f,.int .i64 m.a,.int .u32 (m.w:Nat),.int .i64 m.n,.bool m.h,.slice d6 m.l c6] 39 (0,0))])) (2*1+1) (dk [(pq,oz1)])) L w' (S.play m).S∧(S.bad m=0→∃ hV dV,RwC A hV dV S m)):=by
     have F2:Fre ev (aE (aE (jW L) (2*0+1) (dk [(pm,.cells #[.int .i64 m.k,.int .i64 m.c,.int .i64 m.s,.int .i64 m.f,.int .i64 m.a,.int .u32 (m.w:Nat),.int .i64 m.n,.bool m.h,.slice d6 m.l c6] 39 (0,0))])) (2*1+1) (dk [(pq,oz1)])) 2:=((gR L).put _).put _
     have hb:Below w6.heap.size w6 z1:=HBZ.out
     have:=yg (i:=2) m d6 c6 HZ.out F2 HG.out.1.I HG.out.2.1 (by rw[HG.out.1.n];decide) (HR6.out.1.below hb) (fun y hy h0 e=>HR6.out.2.2.1 y hy h0 (by rw[e,HX.out])) HG.out.2.2
     rw[HX.out]at this
     exact this
    clear pz1 kMz kqz
    go_wp2_with fail
    refine hPl.mono ?_
    rintro r w10 ⟨A,E,rfl,hsA,hoA,H10⟩
    clear hPl q0 q1 q2 q3 q4 q5 q6 q7 q8
    obtain⟨w11,hst1,hrg1,hbl1⟩:=jy w10 hsA hoA
    obtain⟨rb,hrb⟩:∃ y,w10.heap.size=y:=⟨_,rfl⟩
    rw[hrb]at hrg1 hst1
    have hp10:=H10.out.2.1
    have hp11:=hp10.below hbl1
    have kM:=hp11.box (q:=2*0+1) (fun j=>by unfold ev;omega) (by rw[ag _ _ (by decide)];exact ai _ _ _) _ (List.mem_cons_self ..)
    have kq:=hp11.box (q:=2*1+1) (fun j=>by unfold ev;omega) (ai _ _ _) _ (List.mem_cons_self ..)
    have kz:=HZ.out.box (q:=2*1+1) (fun j=>by unfold ev;omega) (ai _ _ _) _ (List.mem_cons_self ..)
    have HV:Hid (PWn ev w1 (aE (aE (jW L) (2*0+1) (dk [(pm,.cells #[.int .i64 m.k,.int .i64 m.c,.int .i64 m.s,.int .i64 m.f,.int .i64 m.a,.int .u32 (m.w:Nat),.int .i64 m.n,.bool m.h,.slice d6 m.l c6] 39 (0,0))])) (2*1+1) (dk [(pq,oz1)])) L w11 (S.play m).S):=hp11
    have HWa:Hid (∀ j,j<2→∀ s,s<2→∃ A,Vx A (S.vw j s)∧w11.rangeAt pq ((2*j+s)*9) A.toList):=fun j hj s hs=>by
     obtain⟨A2,v2,h2⟩:=HW1.out j hj s hs
     exact⟨A2,v2,fun i u hu=>(World.cell?_of_block (a:=⟨pq,(2*j+s)*9+i,none⟩) (kq.trans kz.symm)).trans (h2 i u hu)⟩
    have HMr:Hid (w11.rangeAt pm 0 (#[Value.int .i64 m.k,Value.int .i64 m.c,Value.int .i64 m.s,Value.int .i64 m.f,Value.int .i64 m.a,Value.int .u32 (m.w:Nat),Value.int .i64 m.n,Value.bool m.h,Value.slice d6 m.l c6]:Array Value).toList):=fun i u hu=>by
     rw[Nat.zero_add,ac w11 pm i _ _ _ kM,← hu,Array.getElem?_toList]
    have HRr:Hid (w11.rangeAt rb 0 A.toList∧(S.bad m=0→A.toList[9]?=some (.int .i64 (S.play m).e))):=⟨hrg1,fun h0=>by
     obtain⟨hV,dV,sH,oH_,sD,oD_,eH,eD,a9,aH,aD⟩:=H10.out.2.2 h0
     exact a9⟩
    have HE0:Hid (E=S.bad m):=H10.out.1
    have HJ2:Hid (Jl (S.play m).S):=HG.out.1.next HKn.out m
    have HT9:∀ wx,Below w11.heap.size w11 wx→∃ S,Jl S∧PWn ev w1 (jW L) L wx S:=fun wx b=>⟨_,HJ2.out,((HV.out.below b).drop (fun j=>by unfold ev;omega) (by rw[ag _ _ (by decide)];exact ((gR L) 1 (by decide)).2)).drop (fun j=>by unfold ev;omega) ((gR L) 0 (by decide)).2⟩
    have HT8:Hid (_):=HT9
    clear hp10 hp11 kM kq kz H10 hrg1 hbl1 HW1 HZ HP HR6 HT9
    go_wp2_with fail
    go_loopw [11,12,13,14,15,16,66,67,68,69,70,71,72,73,74,75,76,77,78,79,80,81,82,83,84,85,86,87,88,89,90,91,92,93,94,95,96,97,98,99,100,101,102,103,104,105,106,107,108,109,110,111,112,113,114,115,116,117,118,119,120,121,122,123,124,125,126,127,128,129,130,131,132,133,134,135,136,137,138,139,140,141,142,143,144,145] (fun kk _ _ _ _ _ _ _ _ _ _ _ _ _ _ _ _ _ _ _ _ _ _ _ _ _ _ _ _ _ _ _ _ _ _ _ _ _ _ _ _ _ _ _ _ _ _ _ _ _ _ _ _ _ _ _ _ _ _ _ _ _ _ _ _ _ _ _ _ _ _ _ _ _ _ _ _ _ _ _ _ _ _ _ _ _ wr=>∃ j:Nat,j≤2∧kk=.int .i64 ((j:Nat):Int)∧Hid (Below w11.heap.size w11 wr)) (fun kk _ _ _ _ _ _ _ _ _ _ _ _ _ _ _ _ _ _ _ _ _ _ _ _ _ _ _ _ _ _ _ _ _ _ _ _ _ _ _ _ _ _ _ _ _ _ _ _ _ _ _ _ _ _ _ _ _ _ _ _ _ _ _ _ _ _ _ _ _ _ _ _ _ _ _ _ _ _ _ _ _ _ _ _ _ _=>2-cA kk)
    case atStart=>exact⟨0,by omega,rfl,Below.refl _ _⟩
    case round=>
     obtain⟨j,hj,rfl,HJ⟩:=hrel
     by_cases hj2:j<2
     ·have hj2':((j:Nat):Int)<2:=by omega
      have hEn:=oy (HV.out.below HJ.out) (k:=j) (by rw[HJ2.out.n];exact hj2)
      rw[HX.out]at hEn
      clear hst1 hrb
      go_wp2_with fail
      refine hEn.mono ?_
      rintro r w12 ⟨Ah,Ad,rfl,H12⟩
      clear hEn
      obtain⟨vh,vd,b12⟩:=H12.out
      have sh:=vh.size
      have sd:=vd.size
      obtain⟨wy,wz,hst2,hst3,hrA,hrB,hbl⟩:=rU w12 vh.size vh.one vd.size vd.one
      have HBz:Hid (Below w11.heap.size w11 wz):=(HJ.out.trans (b12.mono HJ.out.size)).trans (hbl.mono (Nat.le_trans HJ.out.size b12.size))
      have HVV:Hid (_):=And.intro vh vd
      have HRA:Hid (_):=And.intro hrA hrB
      have HBD:Hid (_):=yj vh vd wz
      clear vh vd b12 hbl hrA hrB H12
      have hih:(Tryz.prog.info? 43).map (·.size)=some Ah.size:=by rw[sh];kernel_rfl
      have zH:(Tryz.prog.info? 43).map (·.size)=some Ad.size:=by rw[sd];kernel_rfl
      go_wp2_with (first | refine bn (by kernel_rfl) 43 (.tmp 12) rfl w12.heap.size 0 rfl Ah _ HRA.out.1 Tryz.underlying43 rfl hih ?_ | refine bn (by kernel_rfl) 43 (.tmp 13) rfl (w12.heap.size+1) 0 rfl Ad _ HRA.out.2 Tryz.underlying43 rfl zH ?_ | refine iR rfl 61 (.tmp 76) (.tmp 77) rfl (.agg Ah) (.agg Ad) (.slice (some ⟨wz.heap.size,0,none⟩) 2 2) (wz.alloc (.cells (Ah ++ Ad) 43)) rfl rfl HBD.out ?_)
      have kv:=au wz (.cells (Ah ++ Ad) 43)
      have bv:=ay (Below.refl _ wz) (.cells (Ah ++ Ad) 43)
      obtain⟨wv,hwv⟩:∃ y,wz.alloc (.cells (Ah ++ Ad) 43)=y:=⟨_,rfl⟩
      obtain⟨sb,hsb⟩:∃ y,wz.heap.size=y:=⟨_,rfl⟩
      rw[hwv]at kv bv ⊢
      rw[hsb]at kv ⊢
      have HBv:Hid (Below w11.heap.size w11 wv):=HBz.out.trans (bv.mono HBz.out.size)
      have HS:Hid (∀ s,s<2→∃ Ax,Vx Ax ((S.play m).S.vw j s)∧wv.rangeAt sb (s*9) Ax.toList):=fun s hs=>by
       obtain⟨vh,vd⟩:=HVV.out
       rcases (by omega:s=0∨s=1) with rfl | rfl
       ·refine⟨Ah,vh,fun i u hu=>?_⟩
        have hi:i<Ah.size:=by
         rw[Array.getElem?_toList]at hu
         exact (Array.getElem?_eq_some_iff.1 hu).1
        rw[ac wv sb _ _ _ _ kv,show 0*9+i=i by omega,Array.getElem?_append_left hi,← hu,Array.getElem?_toList]
       ·refine⟨Ad,vd,fun i u hu=>?_⟩
        rw[ac wv sb _ _ _ _ kv,Array.getElem?_append_right (by rw[vh.size];omega),vh.size,show 1*9+i-9=i by omega,← hu,Array.getElem?_toList]
      clear kv bv hwv hsb hst2 hst3 sh sd hih zH HVV HRA HBD HBz
      go_loopw [80,14,15,16,81,82,83,84,85,86,87,88,89,90,91,92,93,94,95,96,97,98,99,100,101,102,103,104,105,106,107,108,109,110,111,112,113,114,115,116,117,118,119,120,121,122,123,124,125,126,127,128,129,130,131,132,133,134,135,136,137,138,139,140,141,142,143,144,145] (fun cc _ _ _ _ _ _ _ _ _ _ _ _ _ _ _ _ _ _ _ _ _ _ _ _ _ _ _ _ _ _ _ _ _ _ _ _ _ _ _ _ _ _ _ _ _ _ _ _ _ _ _ _ _ _ _ _ _ _ _ _ _ _ _ _ _ _ _ _ wr=>∃ s:Nat,s≤2∧cc=.int .i64 ((s:Nat):Int)∧Hid (Below wv.heap.size wv wr)) (fun cc _ _ _ _ _ _ _ _ _ _ _ _ _ _ _ _ _ _ _ _ _ _ _ _ _ _ _ _ _ _ _ _ _ _ _ _ _ _ _ _ _ _ _ _ _ _ _ _ _ _ _ _ _ _ _ _ _ _ _ _ _ _ _ _ _ _ _ _ _=>2-cA cc)
      case atStart=>exact⟨0,by omega,rfl,Below.refl _ _⟩
      case round=>
       obtain⟨s,hs,rfl,HC⟩:=hrel
       by_cases hs2:s<2
       ·have hs2':((s:Nat):Int)<2:=by omega
        obtain⟨Ax,vx,rx⟩:=HS.out s hs2
        obtain⟨Ao,vo,ro⟩:=HWa.out j hj2 s hs2
        have sx:=vx.size
        have so:=vo.size
        obtain⟨wx,hsx,hrx,hbx,_⟩:=mO wr vx.size vx.one
        have bx:Below w11.heap.size w11 wx:=(HBv.out.trans (HC.out.mono HBv.out.size)).trans (hbx.mono (Nat.le_trans HBv.out.size HC.out.size))
        have HRX:Hid (_):=And.intro (mH rx HC.out) (mH ro bx)
        have hix:(Tryz.prog.info? 43).map (·.size)=some Ax.size:=by rw[sx];kernel_rfl
        clear rx ro
        obtain⟨wo,hso,hro,hbo,_⟩:=mO wx vo.size vo.one
        have hio:(Tryz.prog.info? 43).map (·.size)=some Ao.size:=by rw[so];kernel_rfl
        have hir:(Tryz.prog.info? 45).map (·.size)=some A.size:=by rw[hsA];kernel_rfl
        obtain⟨MA,hMA⟩:∃ y,(#[Value.int .i64 m.k,Value.int .i64 m.c,Value.int .i64 m.s,Value.int .i64 m.f,Value.int .i64 m.a,Value.int .u32 (m.w:Nat),Value.int .i64 m.n,Value.bool m.h,Value.slice d6 m.l c6]:Array Value)=y:=⟨_,rfl⟩
        have him:(Tryz.prog.info? 39).map (·.size)=some MA.size:=by rw[← hMA];kernel_rfl
        have bo:Below w11.heap.size w11 wo:=bx.trans (hbo.mono bx.size)
        have hrx2:=mH hrx hbo
        have HBo:Hid (Below wv.heap.size wv wo):=(HC.out.trans (hbx.mono HC.out.size)).trans (hbo.mono (Nat.le_trans HC.out.size hbx.size))
        have HLD:Hid (wo.rangeAt pm 0 MA.toList∧wo.rangeAt rb 0 A.toList∧wo.rangeAt wx.heap.size 0 Ao.toList∧wo.rangeAt wr.heap.size 0 Ax.toList):=⟨by rw[← hMA];exact mH HMr.out bo,mH HRr.out.1 bo,hro,hrx2⟩
        have x0:wo.cell? ⟨wr.heap.size,0,none⟩=some (.int .i64 (((S.play m).S.vw j s).st:Nat)):=hrx2 0 _ vx.c0
        have x5:wo.cell? ⟨wr.heap.size,5,none⟩=some (.int .i64 ((S.play m).S.vw j s).lat):=hrx2 5 _ vx.c5
        have x6:wo.cell? ⟨wr.heap.size,6,none⟩=some (.bool ((S.play m).S.vw j s).rq):=hrx2 6 _ vx.c6
        have x7:wo.cell? ⟨wr.heap.size,7,none⟩=some (.bool ((S.play m).S.vw j s).on):=hrx2 7 _ vx.c7
        have o5:wo.cell? ⟨wx.heap.size,5,none⟩=some (.int .i64 (S.vw j s).lat):=hro 5 _ vo.c5
        have mc1:wo.cell? ⟨pm,1,none⟩=some (.int .i64 m.c):=mH HMr.out bo 1 _ rfl
        obtain⟨lk1,lk2⟩:=wn HJ2.out.I HJ2.out.o (k:=j) (s:=s) (by rw[HJ2.out.n];exact hj2)
        have HWt:=wg HG.out.1.I HKn.out (m:=m) (k:=j) (s:=s) (by rw[HG.out.1.n];exact hj2) hs2
        have HEd:Hid (∀ wy,S.bad m=0→xI m (S.play m).e s (S.vw j s) ((S.play m).S.vw j s)→Calls Tryz.prog 19 #[.agg MA,.agg A,.int .i64 (((s:Nat):Int)+1),.agg Ao,.agg Ax] wy fun r w'=>r=.returned (.bool true)∧Below wy.heap.size wy w'):=fun wy h0 q=>by
         refine ym MA A Ao Ax m.k m.s (S.play m).e _ _ _ wy ?_ ?_ ?_ (by rw[← Array.getElem?_toList];exact vo.c6) (by rw[← Array.getElem?_toList];exact vx.c0) (by rw[q.2.1];rfl) ?_
         ·rw[← hMA];rfl
         ·rw[← hMA];rfl
         ·rw[← Array.getElem?_toList];exact HRr.out.2 h0
         ·rcases q.2.2 with h | h | ⟨h1,h2,h3,h4,h5⟩
          ·exact .inl h
          ·exact .inr (.inl h)
          ·exact .inr (.inr ⟨by rw[h1];rfl,h2,h3,h4,by rw[h5];rfl⟩)
        have HW9:Hid (_):=HWt
        have HVX:Hid (_):=And.intro vx vo
        have HSE:Hid (_):=HE0
        obtain⟨XS,hXS⟩:∃ y,((((S.play m).S.vw j s).st:Nat):Int)=y:=⟨_,rfl⟩
        obtain⟨XL,hXL⟩:∃ y,((S.play m).S.vw j s).lat=y:=⟨_,rfl⟩
        obtain⟨XQ,hXQ⟩:∃ y,((S.play m).S.vw j s).rq=y:=⟨_,rfl⟩
        obtain⟨XO,hXO⟩:∃ y,((S.play m).S.vw j s).on=y:=⟨_,rfl⟩
        obtain⟨OL,hOL⟩:∃ y,(S.vw j s).lat=y:=⟨_,rfl⟩
        rw[hXS]at x0
        rw[hXL]at x5 lk1 lk2
        rw[hXQ]at x6 lk2
        rw[hXO]at x7 lk1
        rw[hOL]at o5
        have lk3:XQ=true→XS=4:=fun q=>by rw[← hXS,(lk2 q).2];rfl
        have HEQ:Hid (((S.play m).S.vw j s).lat=XL∧(S.vw j s).lat=OL):=⟨hXL,hOL⟩
        have HMA:Hid (_):=hMA
        clear vx vo hrx hrx2 hro hbx hbo bx bo hMA HWt hXS hXL hXQ hXO hOL HVX
        go_upto_region 21 with (refine bn (by kernel_rfl) 43 (.tmp 83) rfl sb (s*9) rfl Ax _ HRX.out.1 Tryz.underlying43 rfl hix ?_)
        go_upto_region 22 with (refine bn (by kernel_rfl) 43 (.tmp 89) rfl pq ((2*j+s)*9) rfl Ao _ HRX.out.2 Tryz.underlying43 rfl hio ?_)
        clear hsx hso
        by_cases hl:XL=0
        ·subst hl
         have hq:XQ=false:=by
          cases hq:XQ
          ·rfl
          ·exact absurd rfl (lk2 hq).1
         subst hq
         by_cases ho:OL=0
         ·subst ho
          have HE3:Hid (Below wv.heap.size wv wo):=HBo.out
          go_wp2_with fail
          refine⟨⟨s+1,by omega,by simp,HE3⟩,?_⟩
          have e1:cA (.int .i64 ((s:Nat):Int))=s:=by simp[cA]
          have e2:cA (.int .i64 (((s:Nat):Int)+1))=s+1:=by simp[cA]
          rw[e1,e2]
          omega
         ·have ho':(OL == 0)=false:=by simpa using ho
          have ho'':((0:Int) == OL)=false:=by simpa using (fun e:(0:Int)=OL=>ho e.symm)
          obtain⟨hb0,hcj,hwt⟩:S.bad m=0∧m.c=((j:Nat):Int)∧xI m (S.play m).e s (S.vw j s) ((S.play m).S.vw j s):=by
           rcases HW9.out with h | h | h
           ·rw[HEQ.out.2]at h;exact absurd h ho
           ·rw[HEQ.out.1,HEQ.out.2]at h;exact absurd h.symm ho
           ·exact h
          have hE:E=0:=HE0.out.trans hb0
          subst hE
          rw[hcj]at mc1
          have hEd:=HEd.out wo hb0 hwt
          clear hwt hb0 hcj
          clear lk1 lk2 lk3
          go_upto_region 25 with fail
          go_wp2_with (first | refine bn (by kernel_rfl) 39 (.tmp 6) rfl pm 0 rfl MA _ HLD.out.1 Tryz.underlying39 rfl him ?_ | refine bn (by kernel_rfl) 45 (.tmp 9) rfl rb 0 rfl A _ HLD.out.2.1 Tryz.underlying45 rfl hir ?_ | refine bn (by kernel_rfl) 43 (.tmp 16) rfl wx.heap.size 0 rfl Ao _ HLD.out.2.2.1 Tryz.underlying43 rfl hio ?_ | refine bn (by kernel_rfl) 43 (.tmp 15) rfl wr.heap.size 0 rfl Ax _ HLD.out.2.2.2 Tryz.underlying43 rfl hix ?_)
          refine hEd.mono ?_
          rintro r wq ⟨rfl,bq⟩
          have HE3:Hid (Below wv.heap.size wv wq):=HBo.out.trans (bq.mono HBo.out.size)
          clear hEd
          go_wp2_with fail
          refine⟨⟨s+1,by omega,by simp,HE3⟩,?_⟩
          have e1:cA (.int .i64 ((s:Nat):Int))=s:=by simp[cA]
          have e2:cA (.int .i64 (((s:Nat):Int)+1))=s+1:=by simp[cA]
          rw[e1,e2]
          omega
        ·have hl':(XL != 0)=true:=by simpa using hl
         have hl'':(XL == 0)=false:=by simpa using hl
         have n6:XO=false:=lk1 hl
         subst n6
         have hOX:OL=0∨OL=XL:=by
          rcases HW9.out with h | h | h
          ·rw[HEQ.out.2]at h;exact .inl h
          ·rw[HEQ.out.1,HEQ.out.2]at h;exact .inr h.symm
          ·have:=h.2.2.1
           rw[HEQ.out.1]at this
           exact absurd this hl
         cases hq:XQ
         ·subst hq
          rcases hOX with rfl | rfl
          ·have HE3:Hid (Below wv.heap.size wv wo):=HBo.out
           go_wp2_with fail
           refine⟨⟨s+1,by omega,by simp,HE3⟩,?_⟩
           have e1:cA (.int .i64 ((s:Nat):Int))=s:=by simp[cA]
           have e2:cA (.int .i64 (((s:Nat):Int)+1))=s+1:=by simp[cA]
           rw[e1,e2]
           omega
          ·have HE3:Hid (Below wv.heap.size wv wo):=HBo.out
           go_wp2_with fail
           refine⟨⟨s+1,by omega,by simp,HE3⟩,?_⟩
           have e1:cA (.int .i64 ((s:Nat):Int))=s:=by simp[cA]
           have e2:cA (.int .i64 (((s:Nat):Int)+1))=s+1:=by simp[cA]
           rw[e1,e2]
           omega
         ·subst hq
          have h4:XS=4:=lk3 rfl
          subst h4
          rcases hOX with rfl | rfl
          ·have HE3:Hid (Below wv.heap.size wv wo):=HBo.out
           go_wp2_with fail
           refine⟨⟨s+1,by omega,by simp,HE3⟩,?_⟩
           have e1:cA (.int .i64 ((s:Nat):Int))=s:=by simp[cA]
           have e2:cA (.int .i64 (((s:Nat):Int)+1))=s+1:=by simp[cA]
           rw[e1,e2]
           omega
          ·have HE3:Hid (Below wv.heap.size wv wo):=HBo.out
           go_wp2_with fail
           refine⟨⟨s+1,by omega,by simp,HE3⟩,?_⟩
           have e1:cA (.int .i64 ((s:Nat):Int))=s:=by simp[cA]
           have e2:cA (.int .i64 (((s:Nat):Int)+1))=s+1:=by simp[cA]
           rw[e1,e2]
           omega
       ·have hs2':¬ ((s:Nat):Int)<2:=by omega
        have HE2:Hid (Below w11.heap.size w11 wr):=HBv.out.trans (HC.out.mono HBv.out.size)
        go_wp2_with fail
        refine⟨⟨j+1,by omega,by simp,HE2⟩,?_⟩
        have e1:cA (.int .i64 ((j:Nat):Int))=j:=by simp[cA]
        have e2:cA (.int .i64 (((j:Nat):Int)+1))=j+1:=by simp[cA]
        rw[e1,e2]
        omega
     ·have hj2':¬ ((j:Nat):Int)<2:=by omega
      have HT:Hid (∃ S,Jl S∧PWn ev w1 (jW L) L wr S):=HT8.out _ HJ.out
      clear HV HJ hst1 hrb
      go_wp2_with fail
      refine⟨⟨k+1,by omega,by omega,by simp,HT⟩,?_⟩
      have e1:cA (.int .i64 ((k:Nat):Int))=k:=by simp[cA]
      have e2:cA (.int .i64 (((k:Nat):Int)+1))=k+1:=by simp[cA]
      rw[e1,e2]
      omega
   ·have h3':¬ ((k:Nat):Int)<300:=by omega
    have HE:Hid (Below w1.heap.size w1 wr):=by
     obtain⟨S,_,t9,L9,h9,_⟩:=HI.out
     exact h9.1.bel
    clear HI
    go_wp2_with fail
    go_ret
    exact⟨rfl,HB1.out.trans (HE.out.mono HB1.out.size)⟩
  ·have hlt':¬ ((k:Nat):Int) < ((len:Nat):Int):=by omega
   have HE:Hid (Below w1.heap.size w1 wr):=by
    obtain⟨S,_,t9,L9,h9,_⟩:=HI.out
    exact h9.1.bel
   clear HI
   go_wp2_with fail
   go_ret
   exact⟨rfl,HB1.out.trans (HE.out.mono HB1.out.size)⟩
theorem topLatch_walk (a0:Option Addr) (len0 cap0:Nat) (w:World) (w0:OpRow w a0 len0) :
  Calls Tryz.prog 6 #[.slice a0 len0 cap0] w fun e w'=>e=.returned (.bool true)∧Below w.heap.size w w':=lZ a0 len0 cap0 w w0
end Go.Proofs.YtdmjfemodihfhaaGreat
