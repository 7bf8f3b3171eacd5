/- Part 40: contracts that the proof rests on. -/
import Derived.Deep.RegionLaw
import Derived.Test.YtfgnmadnmjdbiaaGreatPkU38
set_option maxHeartbeats 64000000
set_option maxRecDepth 100000
namespace Go.Proofs.YtfgnmadnmjdbiaaGreat
open Tryz
open Go.RowKit Go.Maps
set_option linter.unusedVariables false
theorem jw {P:Program} {ops:Array Oper} {o:Oper} {a:Act} {w:World} {K:Act→World→Prop} {Q:Exit→Act→World→Prop} {E:Prop} {R:Value→World→Prop}
  (f:FuncId) (ts:Array Operand) (ty:Array TypeId) (_:o.op=.call { callee:=.value (.func f),args:=ts,argTypes:=ty }) (hw:Region.wanted o (yielded ops a.tmps)=true) (args:Array Value) (hrun:(execOp a.eval o).run P w=.ok (.enter f args) w) (hc:Calls P f args w fun e w'=>∃ v,e=.returned v∧R v w') (hK:∀ v w',R v w'→K (a.put o.dst v) w') :
  if Region.wanted o (yielded ops a.tmps)=true then Oper.wp P o a w K Q else E:=by
 rw[if_pos hw]
 unfold Oper.wp
 rw[hrun]
 refine hc.mono ?_
 rintro e w'' ⟨v,rfl,hr⟩
 exact hK _ _ hr
theorem ks {B:Nat} {w0 w:World} (h:Below B w0 w) (n:Nat):Below B w0 (w.drewN n):=⟨h.os,h.tape,h.output,h.size,h.block⟩
structure StP (P:Pm) (S:Ws) (a k:Nat):Prop where
 I:S.In
 n:S.n=1
 ph:S.PH 0=P
 pd:S.PD 0=P
 mv:S.mv≤k
 pj:Pj (S.hs 0) (S.ds 0) 4 a
 l1:(S.hs 0).v.lat=0
 l2:(S.ds 0).v.lat=0
theorem StP.talk {P:Pm} {S S':Ws} {a k:Nat} {b b2:Nat→Nat} (h:StP P S a k) (r:Tkr P S S' 0 a b b2):StP P S' (a+1) (k+7)∧vT P S' 0 b b2=true:=by
 obtain⟨g,l1,l2⟩:=r.good h.I (by rw[h.n];decide) h.pj h.l1 h.l2
 exact⟨⟨r.sm.I,r.sm.n.trans h.n,by rw[r.sm.ph];exact h.ph,by rw[r.sm.pd];exact h.pd,by have:=r.sm.mv;have:=h.mv;omega,r.pj,l1,l2⟩,g⟩
theorem tp (C:Nat) (o i t:Int) (N:Nat) (a:Option Addr) (len cap:Nat) (w:World) (hno:¬ kf C o i t N):Calls prog 4 #[.agg #[.int .u32 (C:Nat),.int .i64 o,.int .i64 i,.int .i64 t,.int .u32 (N:Nat)],.slice a len cap] w fun r w'=>r=.returned (.bool true)∧Below w.heap.size w w':=by
 have zP:(#[.int .u32 (C:Nat),.int .i64 o,.int .i64 i,.int .i64 t,.int .u32 (N:Nat)]:Array Value).size=5:=rfl
 have hiP:(prog.info? 42).map (·.size)=some (#[.int .u32 (C:Nat),.int .i64 o,.int .i64 i,.int .i64 t,.int .u32 (N:Nat)]:Array Value).size:=by kernel_rfl
 have hAw:=pY (w.alloc (.cells #[.int .u32 (C:Nat),.int .i64 o,.int .i64 i,.int .i64 t,.int .u32 (N:Nat)] 42))
 have hk:=aC w (.cells #[.int .u32 (C:Nat),.int .i64 o,.int .i64 i,.int .i64 t,.int .u32 (N:Nat)] 42)
 have hz:=gU w (.cells #[.int .u32 (C:Nat),.int .i64 o,.int .i64 i,.int .i64 t,.int .u32 (N:Nat)] 42)
 have hB0:Below w.heap.size w (w.alloc (.cells #[.int .u32 (C:Nat),.int .i64 o,.int .i64 i,.int .i64 t,.int .u32 (N:Nat)] 42)):=aJ (Below.refl _ _) _
 go_enter func4,ntmps4
 go_wp2_with fail
 refine hAw.mono ?_
 rintro r w1 ⟨rfl,b1⟩
 clear hAw
 have k1:=(b1.block w.heap.size (by rw[hz];omega)).trans hk
 have HK1:Hid (w1.heap[w.heap.size]?=some (.cells #[.int .u32 (C:Nat),.int .i64 o,.int .i64 i,.int .i64 t,.int .u32 (N:Nat)] 42 (0,0))):=k1
 have HB1:Hid (Below w.heap.size w w1):=hB0.trans (b1.mono hB0.size)
 have HL1:Hid (w.heap.size<w1.heap.size):=Nat.lt_of_lt_of_le (by rw[hz];omega) b1.size
 have hr1:w1.rangeAt w.heap.size 0 (#[.int .u32 (C:Nat),.int .i64 o,.int .i64 i,.int .i64 t,.int .u32 (N:Nat)]:Array Value).toList:=fun j v hv=>by rw[Nat.zero_add,ae w1 _ j _ _ _ k1];simpa using hv
 have hLa:=nF C o i t N w1 false (decide_eq_false hno)
 clear b1 hk hz hB0 k1 zP
 go_wp2_with (refine bP (by kernel_rfl) 42 (.tmp 2) rfl w.heap.size 0 rfl #[.int .u32 (C:Nat),.int .i64 o,.int .i64 i,.int .i64 t,.int .u32 (N:Nat)] _ hr1 underlying42 rfl hiP ?_)
 refine hLa.mono ?_
 rintro r w2 ⟨rfl,b2⟩
 clear hLa hr1
 have HB2:Hid (Below w.heap.size w w2):=HB1.out.trans (b2.mono HB1.out.size)
 clear b2
 go_wp2_with fail
 go_ret
 exact⟨rfl,HB2.out⟩
theorem ud (P:Pm) (hP:Pok P) (a:Option Addr) (len cap:Nat) (w:World) (hO:OpbRow w a len):Calls prog 4 #[.agg #[.int .u32 (P.c:Nat),.int .i64 (P.o:Nat),.int .i64 (P.i:Nat),.int .i64 (P.t:Nat),.int .u32 (P.n:Nat)],.slice a len cap] w fun r w'=>r=.returned (.bool true)∧Below w.heap.size w w':=by
 have HO:Hid (OpbRow w a len):=hO
 clear hO
 have zP:(#[.int .u32 (P.c:Nat),.int .i64 (P.o:Nat),.int .i64 (P.i:Nat),.int .i64 (P.t:Nat),.int .u32 (P.n:Nat)]:Array Value).size=5:=rfl
 have hiP:(prog.info? 42).map (·.size)=some (#[.int .u32 (P.c:Nat),.int .i64 (P.o:Nat),.int .i64 (P.i:Nat),.int .i64 (P.t:Nat),.int .u32 (P.n:Nat)]:Array Value).size:=by kernel_rfl
 have hAw:=pY (w.alloc (.cells #[.int .u32 (P.c:Nat),.int .i64 (P.o:Nat),.int .i64 (P.i:Nat),.int .i64 (P.t:Nat),.int .u32 (P.n:Nat)] 42))
 have hk:=aC w (.cells #[.int .u32 (P.c:Nat),.int .i64 (P.o:Nat),.int .i64 (P.i:Nat),.int .i64 (P.t:Nat),.int .u32 (P.n:Nat)] 42)
 have hz:=gU w (.cells #[.int .u32 (P.c:Nat),.int .i64 (P.o:Nat),.int .i64 (P.i:Nat),.int .i64 (P.t:Nat),.int .u32 (P.n:Nat)] 42)
 have hB0:Below w.heap.size w (w.alloc (.cells #[.int .u32 (P.c:Nat),.int .i64 (P.o:Nat),.int .i64 (P.i:Nat),.int .i64 (P.t:Nat),.int .u32 (P.n:Nat)] 42)):=aJ (Below.refl _ _) _
 go_enter func4,ntmps4
 go_wp2_with fail
 refine hAw.mono ?_
 rintro r w1 ⟨rfl,b1⟩
 clear hAw
 have k1:=(b1.block w.heap.size (by rw[hz];omega)).trans hk
 have HK1:Hid (w1.heap[w.heap.size]?=some (.cells #[.int .u32 (P.c:Nat),.int .i64 (P.o:Nat),.int .i64 (P.i:Nat),.int .i64 (P.t:Nat),.int .u32 (P.n:Nat)] 42 (0,0))):=k1
 have HB1:Hid (Below w.heap.size w w1):=hB0.trans (b1.mono hB0.size)
 have HL1:Hid (w.heap.size<w1.heap.size):=Nat.lt_of_lt_of_le (by rw[hz];omega) b1.size
 have hr1:w1.rangeAt w.heap.size 0 (#[.int .u32 (P.c:Nat),.int .i64 (P.o:Nat),.int .i64 (P.i:Nat),.int .i64 (P.t:Nat),.int .u32 (P.n:Nat)]:Array Value).toList:=fun j v hv=>by rw[Nat.zero_add,ae w1 _ j _ _ _ k1];simpa using hv
 have hLa:=nF P.c P.o P.i P.t P.n w1 true (decide_eq_true hP.ok)
 clear b1 hk hz hB0 k1 zP
 go_wp2_with (refine bP (by kernel_rfl) 42 (.tmp 2) rfl w.heap.size 0 rfl #[.int .u32 (P.c:Nat),.int .i64 (P.o:Nat),.int .i64 (P.i:Nat),.int .i64 (P.t:Nat),.int .u32 (P.n:Nat)] _ hr1 underlying42 rfl hiP ?_)
 refine hLa.mono ?_
 rintro r w2 ⟨rfl,b2⟩
 clear hLa hr1
 have b3:Below w2.heap.size w2 ((w2.alloc (.cells #[.int .u32 (P.c:Nat),.int .i64 (P.o:Nat),.int .i64 (P.i:Nat),.int .i64 (P.t:Nat),.int .u32 (P.n:Nat)] 42)).alloc (.cells #[.int .u32 (P.c:Nat),.int .i64 (P.o:Nat),.int .i64 (P.i:Nat),.int .i64 (P.t:Nat),.int .u32 (P.n:Nat)] 42)):=aJ (aJ (Below.refl _ _) _) _
 have k2:=(b2.block w.heap.size HL1.out).trans HK1.out
 have hl2:w.heap.size<w2.heap.size:=Nat.lt_of_lt_of_le HL1.out b2.size
 have k2b:=(Below.heap_alloc w2 (.cells #[.int .u32 (P.c:Nat),.int .i64 (P.o:Nat),.int .i64 (P.i:Nat),.int .i64 (P.t:Nat),.int .u32 (P.n:Nat)] 42) w.heap.size hl2).trans k2
 have k3:=(b3.block w.heap.size hl2).trans k2
 have HB3:Hid (Below w.heap.size w ((w2.alloc (.cells #[.int .u32 (P.c:Nat),.int .i64 (P.o:Nat),.int .i64 (P.i:Nat),.int .i64 (P.t:Nat),.int .u32 (P.n:Nat)] 42)).alloc (.cells #[.int .u32 (P.c:Nat),.int .i64 (P.o:Nat),.int .i64 (P.i:Nat),.int .i64 (P.t:Nat),.int .u32 (P.n:Nat)] 42))):=(HB1.out.trans (b2.mono HB1.out.size)).trans (b3.mono (Nat.le_trans HB1.out.size b2.size))
 have hr2:w2.rangeAt w.heap.size 0 (#[.int .u32 (P.c:Nat),.int .i64 (P.o:Nat),.int .i64 (P.i:Nat),.int .i64 (P.t:Nat),.int .u32 (P.n:Nat)]:Array Value).toList:=fun j v hv=>by rw[Nat.zero_add,ae w2 _ j _ _ _ k2];simpa using hv
 have hr2b:(w2.alloc (.cells #[.int .u32 (P.c:Nat),.int .i64 (P.o:Nat),.int .i64 (P.i:Nat),.int .i64 (P.t:Nat),.int .u32 (P.n:Nat)] 42)).rangeAt w.heap.size 0 (#[.int .u32 (P.c:Nat),.int .i64 (P.o:Nat),.int .i64 (P.i:Nat),.int .i64 (P.t:Nat),.int .u32 (P.n:Nat)]:Array Value).toList:=fun j v hv=>by rw[Nat.zero_add,ae (w2.alloc (.cells #[.int .u32 (P.c:Nat),.int .i64 (P.o:Nat),.int .i64 (P.i:Nat),.int .i64 (P.t:Nat),.int .u32 (P.n:Nat)] 42)) _ j _ _ _ k2b];simpa using hv
 have u1:=gU w2 (.cells #[.int .u32 (P.c:Nat),.int .i64 (P.o:Nat),.int .i64 (P.i:Nat),.int .i64 (P.t:Nat),.int .u32 (P.n:Nat)] 42)
 have n0:((w2.alloc (.cells #[.int .u32 (P.c:Nat),.int .i64 (P.o:Nat),.int .i64 (P.i:Nat),.int .i64 (P.t:Nat),.int .u32 (P.n:Nat)] 42)).alloc (.cells #[.int .u32 (P.c:Nat),.int .i64 (P.o:Nat),.int .i64 (P.i:Nat),.int .i64 (P.t:Nat),.int .u32 (P.n:Nat)] 42)).heap[w2.heap.size]?=some (.cells #[.int .u32 (P.c:Nat),.int .i64 (P.o:Nat),.int .i64 (P.i:Nat),.int .i64 (P.t:Nat),.int .u32 (P.n:Nat)] 42 (0,0)):=(Below.heap_alloc _ _ _ (by rw[u1];omega)).trans (aC _ _)
 have n1:((w2.alloc (.cells #[.int .u32 (P.c:Nat),.int .i64 (P.o:Nat),.int .i64 (P.i:Nat),.int .i64 (P.t:Nat),.int .u32 (P.n:Nat)] 42)).alloc (.cells #[.int .u32 (P.c:Nat),.int .i64 (P.o:Nat),.int .i64 (P.i:Nat),.int .i64 (P.t:Nat),.int .u32 (P.n:Nat)] 42)).heap[w2.heap.size+1]?=some (.cells #[.int .u32 (P.c:Nat),.int .i64 (P.o:Nat),.int .i64 (P.i:Nat),.int .i64 (P.t:Nat),.int .u32 (P.n:Nat)] 42 (0,0)):=by rw[← u1];exact aC _ _
 have hN:Calls prog 11 #[.agg #[.slice (af w2.heap.size 0) 1 1,.slice (af (w2.heap.size+1) 0) 1 1,.int .u32 1]] ((w2.alloc (.cells #[.int .u32 (P.c:Nat),.int .i64 (P.o:Nat),.int .i64 (P.i:Nat),.int .i64 (P.t:Nat),.int .u32 (P.n:Nat)] 42)).alloc (.cells #[.int .u32 (P.c:Nat),.int .i64 (P.o:Nat),.int .i64 (P.i:Nat),.int .i64 (P.t:Nat),.int .u32 (P.n:Nat)] 42)) fun r w'=>∃ L:Pw,r=.returned (.tuple #[ac L.x 0,.int .i64 0])∧Hid (PW ev ((w2.alloc (.cells #[.int .u32 (P.c:Nat),.int .i64 (P.o:Nat),.int .i64 (P.i:Nat),.int .i64 (P.t:Nat),.int .u32 (P.n:Nat)] 42)).alloc (.cells #[.int .u32 (P.c:Nat),.int .i64 (P.o:Nat),.int .i64 (P.i:Nat),.int .i64 (P.t:Nat),.int .u32 (P.n:Nat)] 42)) w' (oc L) L∧L.S=s0 P P 1):=wh P P hP hP w2.heap.size (w2.heap.size+1) 1 (by decide) (by decide) _ n0 n1
 have HK3:Hid (((w2.alloc (.cells #[.int .u32 (P.c:Nat),.int .i64 (P.o:Nat),.int .i64 (P.i:Nat),.int .i64 (P.t:Nat),.int .u32 (P.n:Nat)] 42)).alloc (.cells #[.int .u32 (P.c:Nat),.int .i64 (P.o:Nat),.int .i64 (P.i:Nat),.int .i64 (P.t:Nat),.int .u32 (P.n:Nat)] 42)).heap[w.heap.size]?=some (.cells #[.int .u32 (P.c:Nat),.int .i64 (P.o:Nat),.int .i64 (P.i:Nat),.int .i64 (P.t:Nat),.int .u32 (P.n:Nat)] 42 (0,0))∧w.heap.size < ((w2.alloc (.cells #[.int .u32 (P.c:Nat),.int .i64 (P.o:Nat),.int .i64 (P.i:Nat),.int .i64 (P.t:Nat),.int .u32 (P.n:Nat)] 42)).alloc (.cells #[.int .u32 (P.c:Nat),.int .i64 (P.o:Nat),.int .i64 (P.i:Nat),.int .i64 (P.t:Nat),.int .u32 (P.n:Nat)] 42)).heap.size):=⟨k3,Nat.lt_of_lt_of_le hl2 b3.size⟩
 clear b2 b3 k2 k2b k3 hl2 n0 n1
 go_wp2_with (first | refine bP (by kernel_rfl) 42 (.tmp 2) rfl w.heap.size 0 rfl #[.int .u32 (P.c:Nat),.int .i64 (P.o:Nat),.int .i64 (P.i:Nat),.int .i64 (P.t:Nat),.int .u32 (P.n:Nat)] _ hr2 underlying42 rfl hiP ?_ | refine bP (by kernel_rfl) 42 (.tmp 2) rfl w.heap.size 0 rfl #[.int .u32 (P.c:Nat),.int .i64 (P.o:Nat),.int .i64 (P.i:Nat),.int .i64 (P.t:Nat),.int .u32 (P.n:Nat)] _ hr2b underlying42 rfl hiP ?_)
 refine hN.mono ?_
 rintro r w4 ⟨L,rfl,H4⟩
 clear hN hr2 hr2b u1
 obtain⟨w3,hw3⟩:∃ y,((w2.alloc (.cells #[.int .u32 (P.c:Nat),.int .i64 (P.o:Nat),.int .i64 (P.i:Nat),.int .i64 (P.t:Nat),.int .u32 (P.n:Nat)] 42)).alloc (.cells #[.int .u32 (P.c:Nat),.int .i64 (P.o:Nat),.int .i64 (P.i:Nat),.int .i64 (P.t:Nat),.int .u32 (P.n:Nat)] 42))=y:=⟨_,rfl⟩
 rw[hw3]at H4 HB3 HK3
 have hp:=H4.out.1.n
 rw[H4.out.2]at hp
 obtain⟨X,hX⟩:∃ y,L.x=y:=⟨_,rfl⟩
 have hSe:Calls prog 8 #[ac L.x 0,.int .i64 0,.int .i64 3] w4 fun r w'=>r=.returned (.tuple #[.int .i64 3,.bool true,.int .i64 0])∧Hid (∃ S',PWn ev w3 (oc L) L w' S'∧Sm (s0 P P 1) S' 15∧Pj (S'.hs 0) (S'.ds 0) 4 0∧(S'.hs 0).v.lat=0∧(S'.ds 0).v.lat=0∧(S'.hs 0).hd=false∧(S'.ds 0).hd=false):=mS (c:=0) (i:=0) (P:=P) 3 hp (ix L) (vZ _ _ _) Nat.one_pos (Nat.le_of_ble_eq_true rfl) (by decide) rfl rfl tN rfl rfl (by decide) (by decide)
 rw[hX]at hSe ⊢
 have HX:Hid (L.x=X):=hX
 clear hp hX H4 hw3
 go_wp2_with fail
 refine hSe.mono ?_
 rintro r w5 ⟨rfl,H5⟩
 clear hSe
 have HS0:Hid (∃ S,StP P S 0 15∧PWn ev w3 (oc L) L w5 S):=by
  obtain⟨S1,p5,sm,J,l1,l2,_⟩:=H5.out
  exact⟨S1,⟨sm.I,sm.n,by rw[sm.ph];rfl,by rw[sm.pd];rfl,by have:=sm.mv;exact this,J,l1,l2⟩,p5⟩
 clear H5
 go_wp2_with fail
 go_loopw [9,10,11,12,13,46,47,48,49,50,51,52,53,54,55,56,57,58,59,60,61,62,63,64,65,66,67,68,69,70,71,72,73,74,75,76,77,78,79,80,81,82,83,84,85,86,87,88,89,90] (fun i _ _ _ _ _ _ _ _ _ _ _ _ _ _ _ _ _ _ _ _ _ _ _ _ _ _ _ _ _ _ _ _ _ _ _ _ _ _ _ _ _ _ _ _ _ _ _ _ _ wr=>∃ k:Nat,k≤len∧k≤20∧(k:Nat)<P.n∧i=.int .i64 ((k:Nat):Int)∧Hid (∃ S,StP P S k (15+7*k)∧PWn ev w3 (oc L) L wr S)) (fun i _ _ _ _ _ _ _ _ _ _ _ _ _ _ _ _ _ _ _ _ _ _ _ _ _ _ _ _ _ _ _ _ _ _ _ _ _ _ _ _ _ _ _ _ _ _ _ _ _ _=>len-j7 i)
 case atStart=>exact⟨0,by omega,by omega,by have:=hP.n2;omega,rfl,HS0⟩
 case round=>
  obtain⟨k,hk,hk3,hkn,rfl,HI⟩:=hrel
  clear HS0
  have HBr:Hid (Below w3.heap.size w3 wr):=by
   obtain⟨S,_,t9,L9,h9,_⟩:=HI.out
   exact h9.1.bel
  have kr:=(HBr.out.block w.heap.size HK3.out.2).trans HK3.out.1
  have c4:wr.cell? ⟨w.heap.size,4,none⟩=some (.int .u32 (P.n:Nat)):=by rw[ae wr _ 4 _ _ _ kr];rfl
  have hz:=hP.n
  have e1:IntKind.u32.wrap ((k:Nat):Int)=((k:Nat):Int):=by unfold IntKind.wrap;simp[IntKind.bits,IntKind.signed];omega
  have e2:IntKind.u32.wrap (((k:Nat):Int)+1)=((k:Nat):Int)+1:=by unfold IntKind.wrap;simp[IntKind.bits,IntKind.signed];omega
  by_cases hlt:k<len∧k<20∧k+1<P.n
  ·obtain⟨h1,h2,h3⟩:=hlt
   have g1:((k:Nat):Int) < ((len:Nat):Int):=by omega
   have g2:((k:Nat):Int)<20:=by omega
   have g3:((k:Nat):Int)+1 < ((P.n:Nat):Int):=by omega
   clear kr
   go_upto_region 14 with fail
   obtain⟨b,off,rfl,hbl,hm⟩:=HO.out.2 (by omega)
   obtain⟨e,l,cp,bs,R,hcl⟩:=hm k h1
   have kr:=(HBr.out.block w.heap.size HK3.out.2).trans HK3.out.1
   have HBw:Hid (Below w.heap.size w wr):=HB3.out.trans (HBr.out.mono HB3.out.size)
   have hcl0:w.cell? ⟨b,off+k,none⟩=some (.slice e l cp):=by have:=hcl;rw[Nat.mul_one,Nat.add_zero]at this;exact this
   have hx:∀ wx,Below wr.heap.size wr wx→wx.cell? ⟨b,off+k,none⟩=some (.slice e l cp)∧wx.cell? ⟨w.heap.size,1,none⟩=some (.int .i64 (P.o:Nat))∧wx.cell? ⟨w.heap.size,2,none⟩=some (.int .i64 (P.i:Nat)):=fun wx bx=>⟨ag (ag hcl0 HBw.out) bx,ag (by rw[ae wr _ 1 _ _ _ kr];rfl) bx,ag (by rw[ae wr _ 2 _ _ _ kr];rfl) bx⟩
   obtain⟨x0,x1,x2⟩:=hx wr (Below.refl _ _)
   have hRr:=R.below HBw.out
   have hF:∀ n:Nat,1≤n→n≤8→∀ wx,Below wr.heap.size wr wx→Calls prog 15 #[.slice e l cp,.int .i64 (n:Nat)] wx fun r w'=>∃ x,r=.returned x∧((∃ g,x=.slice (af g 0) n n∧Hid (Row8 w' (af g 0) n n (fun i=>if i<l then bs i else 1)∧wx.heap.size≤g))∧Below wx.heap.size wx w'):=fun n hn1 hn2 wx bx=>
    (zT e l cp n bs wx (hRr.below bx) hn1 hn2).mono fun _ _ ⟨q,H⟩=>⟨_,q,⟨_,rfl,H.out.1,Nat.le_refl _⟩,H.out.2⟩
   have hn_o1:=hP.o1
   have hn_o2:=hP.o8
   have hn_i1:=hP.i1
   have hn_i2:=hP.i8
   clear hm R hcl hcl0 hbl kr hRr
   go_cut [10,11] (fun d u wx=>∃ g1 g2 w6,d=.slice (af g1 0) P.o P.o∧u=.slice (af g2 0) P.i P.i∧Hid (Below wr.heap.size wr w6∧Row8 w6 (af g1 0) P.o P.o (fun i=>if i<l then bs i else 1)∧wr.heap.size≤g1∧Below w6.heap.size w6 wx∧Row8 wx (af g2 0) P.i P.i (fun i=>if i<l then bs i else 1)∧w6.heap.size≤g2))
   case first=>
    go_region_law (first
     | (refine jw 15 #[.tmp 67,.tmp 69] #[22,3] rfl (by kernel_rfl) #[.slice e l cp,.int .i64 (P.o:Nat)] (by kernel_rfl) (hF P.o hn_o1 hn_o2 _ (by repeat (first | with_reducible assumption | with_reducible exact Below.refl _ _ | with_reducible refine ks ?_ _ | with_reducible refine Below.drew ?_ | with_reducible refine aJ ?_ _))) ?_;rintro x w6 ⟨⟨g1,rfl,hw6⟩,bw6⟩;have Bw6:=Below.trans (show Below wr.heap.size wr _ by repeat (first | with_reducible assumption | with_reducible exact Below.refl _ _ | with_reducible refine ks ?_ _ | with_reducible refine Below.drew ?_ | with_reducible refine aJ ?_ _)) (bw6.mono (Below.size (show Below wr.heap.size wr _ by repeat (first | with_reducible assumption | with_reducible exact Below.refl _ _ | with_reducible refine ks ?_ _ | with_reducible refine Below.drew ?_ | with_reducible refine aJ ?_ _))));obtain⟨y0w6,y1w6,y2w6⟩:=hx _ Bw6)
     | (refine jw 15 #[.tmp 74,.tmp 76] #[22,3] rfl (by kernel_rfl) #[.slice e l cp,.int .i64 (P.i:Nat)] (by kernel_rfl) (hF P.i hn_i1 hn_i2 _ (by repeat (first | with_reducible assumption | with_reducible exact Below.refl _ _ | with_reducible refine ks ?_ _ | with_reducible refine Below.drew ?_ | with_reducible refine aJ ?_ _))) ?_;rintro x w7 ⟨⟨g2,rfl,hw7⟩,bw7⟩;have Bw7:=Below.trans (show Below wr.heap.size wr _ by repeat (first | with_reducible assumption | with_reducible exact Below.refl _ _ | with_reducible refine ks ?_ _ | with_reducible refine Below.drew ?_ | with_reducible refine aJ ?_ _)) (bw7.mono (Below.size (show Below wr.heap.size wr _ by repeat (first | with_reducible assumption | with_reducible exact Below.refl _ _ | with_reducible refine ks ?_ _ | with_reducible refine Below.drew ?_ | with_reducible refine aJ ?_ _))));obtain⟨y0w7,y1w7,y2w7⟩:=hx _ Bw7))
    all_goals
     go_wp2_with fail
     go_meet
     exact⟨g1,g2,w6,rfl,rfl,Bw6,hw6.out.1,hw6.out.2,bw7,hw7.out.1,hw7.out.2⟩
   case rest=>
    obtain⟨g1,g2,w6,rfl,rfl,H⟩:=hcut
    obtain⟨w7,hw7⟩:∃ y,wc=y:=⟨_,rfl⟩
    rw[hw7]at H ⊢
    clear hw7
    obtain⟨S,hS,hp⟩:=HI.out
    have hxl:L.x<wr.heap.size:=by
     obtain⟨t9,L9,h9,_,hx9,_⟩:=hp
     rw[← hx9.x]
     exact (h9.2.wb h9.1).lt _ (by simp[Wc.U,Pw.core])
    have p6:=hp.lay H.out.1 (i:=2*0+1) (fun j=>by unfold ev;omega) H.out.2.1 (fun y hy _=>by cases hy;exact H.out.2.2.1)
    have p7:=p6.lay H.out.2.2.2.1 (i:=2 * (0+1)+1) (fun j=>by unfold ev;omega) H.out.2.2.2.2.1 (fun y hy _=>by cases hy;exact H.out.2.2.2.2.2)
    have hT:Calls prog 9 #[ac X 0,.int .i64 0,.slice (af g1 0) P.o P.o,.slice (af g2 0) P.i P.i] w7 fun r w'=>r=.returned (.tuple #[.bool true,.int .i64 0])∧Hid (∃ S,StP P S (k+1) (15+7 * (k+1))∧PWn ev w3 (oc L) L w' S):=by
     have:=ye (c:=0) (i:=0) (a:=k) (P:=P) p7 (ix L) hS.I (by rw[hS.n];decide) (by have:=hS.mv;omega) (by decide) hS.ph hS.pd hS.pj h3 rfl rfl (fun y hy _=>by cases hy;have:=H.out.2.2.1;show g1≠L.x;omega) (fun y hy _=>by cases hy;have:=H.out.2.2.2.2.2;have:=H.out.1.size;show g2≠L.x;omega)
     rw[HX.out]at this
     refine this.mono ?_
     rintro r w' ⟨bb,rfl,K⟩
     obtain⟨S',q,tk,eb⟩:=K.out
     obtain⟨st,gd⟩:=hS.talk tk.res
     rw[gd]at eb
     subst eb
     refine⟨rfl,S',?_,?_⟩
     ·rw[show 15+7 * (k+1)=15+7*k+7 by omega]
      exact st
     ·exact (q.drop (fun j=>by unfold ev;omega) (((ix L).put _) 1 (Nat.le_refl _)).2).drop (fun j=>by unfold ev;omega) (ix L 0 (Nat.le_refl _)).2
    clear p6 p7 hp hS hxl H HI hF hx x0 x1 x2
    go_wp2_with fail
    refine hT.mono ?_
    rintro r w8 ⟨rfl,HT⟩
    clear hT
    go_wp2_with fail
    refine⟨⟨k+1,by omega,by omega,by omega,by simp,HT⟩,?_⟩
    have e1:j7 (.int .i64 ((k:Nat):Int))=k:=by simp[j7]
    have e2:j7 (.int .i64 (((k:Nat):Int)+1))=k+1:=by simp[j7]
    rw[e1,e2]
    omega
  ·have hU:Calls prog 10 #[ac X 0,.int .i64 0] wr fun r w'=>r=.returned (.bool true)∧Below wr.heap.size wr w':=by
    obtain⟨S,hS,hp⟩:=HI.out
    have:=wC hp (c:=0) (by rw[hS.n];decide)
    rw[HX.out,iV hS.pj hS.l1 hS.l2]at this
    exact this
   have HBw:Hid (Below w.heap.size w wr):=HB3.out.trans (HBr.out.mono HB3.out.size)
   clear HI kr
   by_cases h1:k<len
   ·have g1:((k:Nat):Int) < ((len:Nat):Int):=by omega
    by_cases h2:k<20
    ·have g2:((k:Nat):Int)<20:=by omega
     have g3:¬ ((k:Nat):Int)+1 < ((P.n:Nat):Int):=by omega
     go_wp2_with fail
     refine hU.mono ?_
     rintro r w9 ⟨rfl,b9⟩
     clear hU
     have HB9:Hid (Below w.heap.size w w9):=HBw.out.trans (b9.mono HBw.out.size)
     clear b9
     go_wp2_with fail
     go_ret
     exact⟨rfl,HB9.out⟩
    ·have g2:¬ ((k:Nat):Int)<20:=by omega
     go_wp2_with fail
     refine hU.mono ?_
     rintro r w9 ⟨rfl,b9⟩
     clear hU
     have HB9:Hid (Below w.heap.size w w9):=HBw.out.trans (b9.mono HBw.out.size)
     clear b9
     go_wp2_with fail
     go_ret
     exact⟨rfl,HB9.out⟩
   ·have g1:¬ ((k:Nat):Int) < ((len:Nat):Int):=by omega
    go_wp2_with fail
    refine hU.mono ?_
    rintro r w9 ⟨rfl,b9⟩
    clear hU
    have HB9:Hid (Below w.heap.size w w9):=HBw.out.trans (b9.mono HBw.out.size)
    clear b9
    go_wp2_with fail
    go_ret
    exact⟨rfl,HB9.out⟩
theorem topUp_walk (a0_0 a0_1 a0_2 a0_3 a0_4:Int) (a1:Option Addr) (len1 cap1:Nat) (w:World) (w0_0:(Lit.int .u32 a0_0).wf=true) (w0_1:(Lit.int .i64 a0_1).wf=true) (w0_2:(Lit.int .i64 a0_2).wf=true) (w0_3:(Lit.int .i64 a0_3).wf=true) (w0_4:(Lit.int .u32 a0_4).wf=true) (w1:OpbRow w a1 len1) :
  Calls prog 4 #[.agg #[.int .u32 a0_0,.int .i64 a0_1,.int .i64 a0_2,.int .i64 a0_3,.int .u32 a0_4],.slice a1 len1 cap1] w fun e w'=>e=.returned (.bool true)∧Below w.heap.size w w':=by
 obtain⟨c,rfl,hc⟩:=tL w0_0
 obtain⟨n,rfl,hn⟩:=tL w0_4
 by_cases hok:kf c a0_1 a0_2 a0_3 n
 ·obtain⟨h1,h2,h3,h4,h5⟩:=hok
  obtain⟨o,rfl⟩:∃ y:Nat,a0_1=(y:Int):=⟨a0_1.toNat,by omega⟩
  obtain⟨i,rfl⟩:∃ y:Nat,a0_2=(y:Int):=⟨a0_2.toNat,by omega⟩
  obtain⟨t,rfl⟩:∃ y:Nat,a0_3=(y:Int):=⟨a0_3.toNat,by omega⟩
  exact ud ⟨c,o,i,t,n⟩ ⟨⟨h1,h2,h3,h4,h5⟩,hc,hn⟩ a1 len1 cap1 w w1
 ·exact tp c a0_1 a0_2 a0_3 n a1 len1 cap1 w hok
end Go.Proofs.YtfgnmadnmjdbiaaGreat
