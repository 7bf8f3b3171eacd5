/- Part 48: contracts that the proof rests on. -/
import Derived.Deep.DeepCutAuto
import Derived.Deep.CutBlock
import Derived.Deep.RegionWith
import Derived.Test.YtenilkloffnjlaaGreatPkH46
set_option maxHeartbeats 64000000
set_option maxRecDepth 100000
namespace Go.Proofs.YtenilkloffnjlaaGreat
open Tryz
open Go.RowKit Go.Maps
set_option linter.unusedVariables false
theorem yG (S:Ws) (l:List Fa):(S.note l).bg=S.bg:=rfl
theorem yH (S:Ws) (l:List Fa):(S.note l).mv=S.mv:=rfl
theorem fA {P:Program} {ops:Array Oper} {rest:List Oper} {op:Oper} {a:Act} {w:World} {Q:Exit→Act→World→Prop} (hw:Region.wanted op (yielded ops a.tmps)=true) (ty:TypeId) (x:Operand) (ho:op.op=.load ty x)
  (b o:Nat) (hx:a.eval x=ac b o) (A:Array Value) (d:TypeDesc) (hc:w.rangeAt b o A.toList)
  (hu:P.underlying ty=some d) (hd:d.isRow=true) (hi:(P.info? ty).map (·.size)=some A.size)
  (h:wpList P ops Q rest (a.put op.dst (.agg A)) w):wpList P ops Q (op :: rest) a w:=
 jG hw ty x ho b o hx A.toList d hc hu hd (by simpa using hi) (by simpa using h)
theorem wF {w:World} {q:Nat} (h:w.heap[q]?=some (.cells bC 83 (0,0))):PqRow w (af q 0) 1 (fun _=>P0.q):=fun i hi=>by
 obtain rfl:i=0:=by omega
 refine⟨q,0,rfl,fun j u hu=>?_⟩
 rw[show 0+0*5+j=j by omega,ae w q j _ _ _ h]
 have e:(P0.q).cs.toArray=bC:=by rfl
 rw[← e]
 simpa using hu
theorem ab1:ckE 1 1 50 (fun _=>P0.q) (fun _=>P0.q)=0:=by decide
theorem aa6 (q0 q1:Nat) (w:World) (h0:w.heap[q0]?=some (.cells bC 83 (0,0))) (h1:w.heap[q1]?=some (.cells bC 83 (0,0))):Calls prog 7 #[.agg #[.slice (af q0 0) 1 1,.slice (af q1 0) 1 1,.int .u32 50]] w fun r w'=>∃ L:Pw,r=.returned (.tuple #[ac L.x 0,.int .i64 0])∧Hid (PW ev w w' (gw L) L∧L.S=s0 P0 P0 50):=
 aai (fun _=>P0) (fun _=>P0) q0 0 1 q1 0 1 1 50 (fun _ _=>oJ) (fun _ _=>oJ) (by decide) (by decide) (by decide) (by decide) (by decide) (by decide) w (wF h0) (wF h1) ab1
theorem lu (w:World) {A:Array Value} (hs:A.size=29) (ho:A.all (·.oneCell')=true):∃ wz,(storeCells ⟨w.heap.size,0,none⟩ A.toList).run prog (w.alloc (.cells dw 45))=.ok () wz∧wz.rangeAt w.heap.size 0 A.toList∧Below w.heap.size w wz:=by
 have kr:=aB w (.cells dw 45)
 have hth:(w.alloc (.cells dw 45)).there w.heap.size 0 A.size:=bI kr (by rw[hs];rfl)
 exact⟨_,iD hth ho,World.rangeAt_setCells_same _ w.heap.size 0 A.toList (by simpa using hth),(cE _ w.heap.size 0 A.toList).below (aF (Below.refl _ _) _) (by simp) (by rw[io];omega)⟩
theorem uI (w:World):Calls prog 9 #[] w fun r w'=>r=.returned (.bool true)∧Below w.heap.size w w':=by
 have hLo:=ab7 w
 go_enter func9,ntmps9
 go_wp2_with fail
 refine hLo.mono ?_
 rintro r w1 ⟨q0,q1,rfl,H1⟩
 clear hLo
 have hN:Calls prog 7 #[.agg #[.slice (af q0 0) 1 1,.slice (af q1 0) 1 1,.int .u32 50]] w1 fun r w'=>∃ L:Pw,r=.returned (.tuple #[ac L.x 0,.int .i64 0])∧Hid (PW ev w1 w' (gw L) L∧L.S=s0 P0 P0 50):=aa6 q0 q1 w1 H1.out.1 H1.out.2.1
 go_wp2_with fail
 refine hN.mono ?_
 rintro r w2 ⟨L,rfl,H2⟩
 clear hN
 have hP1:=aw1 H2.out.1 (jY L) H2.out.2
 obtain⟨X,hX⟩:∃ y,L.x=y:=⟨_,rfl⟩
 rw[hX]at hP1 ⊢
 have HX:Hid (L.x=X):=hX
 clear hX
 go_wp2_with fail
 refine hP1.mono ?_
 rintro r w3 ⟨A,rfl,hsA,hoA,hA10,H3⟩
 clear hP1
 obtain⟨wz,hst1,hrg1,hbl1⟩:=lu w3 hsA hoA
 have cb:wz.cell? ⟨w3.heap.size,10,none⟩=some (.int .i64 0):=hrg1 10 _ hA10
 have lb:=World.block_lt_of_cell? wz _ cb
 obtain⟨ob,hob⟩:∃ ob,wz.heap[w3.heap.size]?=some ob:=⟨_,Array.getElem?_eq_getElem lb⟩
 have F0:=jY L
 have hp2:=H3.out.layL hbl1 (i:=2*0+1) (F0 0 (Nat.le_refl _)).1 (l:=[(w3.heap.size,ob)]) (fun p hp=>by
  simp only[List.mem_cons,List.not_mem_nil,or_false]at hp
  subst hp
  exact hob) (fun p hp=>by
  simp only[List.mem_cons,List.not_mem_nil,or_false]at hp
  subst hp
  exact Nat.le_refl _)
 have F1:Fre ev (aJ (gw L) (2*0+1) (fC [(w3.heap.size,ob)])) 1:=F0.put _
 have hP2:=aw2 (T:=aS1) a1.2.2 hp2 F1
 rw[HX.out]at hP2
 have HB:Hid (_):=And.intro cb (And.intro hob (And.intro hbl1 F0))
 clear hrg1 hbl1 cb lb hob hp2 F1 F0
 go_wp2_with fail
 refine hP2.mono ?_
 rintro r w4 ⟨A2,rfl,hsA2,hoA2,hB10,hB20,H4⟩
 clear hP2 hst1
 obtain⟨wy,hst2,hrg2,hbl2⟩:=lu w4 hsA2 hoA2
 have c1:wy.cell? ⟨w4.heap.size,10,none⟩=some (.int .i64 1):=hrg2 10 _ hB10
 have c2:wy.cell? ⟨w4.heap.size,20,none⟩=some (.int .i64 2):=hrg2 20 _ hB20
 obtain⟨cb,hob,hbl1,F0⟩:=HB.out
 have hb4:=H4.out.box (q:=2*0+1) (F0 0 (Nat.le_refl _)).1 (al _ _ _) _ (List.mem_cons_self ..)
 have hb5:=(hbl2.block w3.heap.size (Array.getElem?_eq_some_iff.1 hb4).1).trans hb4
 have c0:wy.cell? ⟨w3.heap.size,10,none⟩=some (.int .i64 0):=(World.cell?_of_block (w:=wz) (a:=⟨w3.heap.size,10,none⟩) (hb5.trans hob.symm)).trans cb
 have hp5:=H4.out.below hbl2
 have hFr:=yS hp5
 have hMo:=aa5 hp5
 obtain⟨_,_,e1,e2,_⟩:=a3 (T:=aS1) a1.2.2
 rw[HX.out,yG,e1]at hFr
 rw[HX.out,yH,e2]at hMo
 have hbw:Below w1.heap.size w1 wy:=by
  obtain⟨t9,L9,h9,_⟩:=hp5
  exact h9.1.bel
 have HE:Hid (Below w.heap.size w wy):=H1.out.2.2.trans (hbw.mono H1.out.2.2.size)
 clear hrg2 hbl2 cb hob hbl1 F0 hb4 hb5 hp5 e1 e2 hbw HB H4 H3 H2 HX
 go_wp2_with fail
 refine hFr.mono ?_
 rintro r w6 ⟨rfl,rfl⟩
 go_wp2_with fail
 refine hMo.mono ?_
 rintro r w6 ⟨rfl,rfl⟩
 go_wp2_with fail
 go_ret
 exact⟨rfl,HE.out⟩
def cQ:Value→Nat
 | .int _ i=>i.toNat
 | _=>0
theorem aa7 {w0 w:World} {t:Nat→Thing} {L:Pw} {S:Ws} {i:Nat} (m:Mv) (d:Option Addr) (c:Nat) (h:PWn ev w0 t L w S) (F:Fre ev t i) (I:S.In) (ok:m.Ok) (hn:0<S.n) (R:Row8 w d m.l c m.b) (hd:∀ y,d=some y→0<m.l→y.block≠L.x) (hl:m.l≤140737488351232):Calls prog 11 #[ac L.x 0,.agg (aj m m.c d c)] w fun r w'=>∃ (A:Array Value) (E:Int),r=.returned (.tuple #[.agg A,.int .i64 E])∧A.size=29∧A.all (·.oneCell')=true∧Hid (E=S.bad m∧PWn ev w0 t L w' (S.play m).S∧(S.bad m=0→A.toList[9]?=some (.int .i64 (S.play m).e)∧A.toList[10]?=some (.int .i64 (S.play m).i)∧∃ (hV dV:Array Value) (ah:Option Addr) (ch:Nat) (ad:Option Addr) (cd:Nat),hV=#[Value.int .i64 (((S.play m).S.hs m.c.toNat).st:Nat),Value.int .u32 (((S.play m).S.hs m.c.toNat).ss:Nat),Value.int .u32 (((S.play m).S.hs m.c.toNat).nm:Nat),Value.int .u32 (((S.play m).S.hs m.c.toNat).sn:Nat),Value.int .i64 (((S.play m).S.hs m.c.toNat).dc:Nat),Value.int .i64 ((S.play m).S.hs m.c.toNat).v.lat,Value.bool (au ((S.play m).S.hs m.c.toNat).v),Value.bool (aE ((S.play m).S.hs m.c.toNat).v),Value.slice ah ((S.play m).S.PH m.c.toNat).i ch]∧dV=#[Value.int .i64 (((S.play m).S.ds m.c.toNat).st:Nat),Value.int .u32 (((S.play m).S.ds m.c.toNat).ss:Nat),Value.int .u32 (((S.play m).S.ds m.c.toNat).nm:Nat),Value.int .u32 (((S.play m).S.ds m.c.toNat).sn:Nat),Value.int .i64 (((S.play m).S.ds m.c.toNat).dc:Nat),Value.int .i64 ((S.play m).S.ds m.c.toNat).v.lat,Value.bool (au ((S.play m).S.ds m.c.toNat).v),Value.bool (aE ((S.play m).S.ds m.c.toNat).v),Value.slice ad ((S.play m).S.PD m.c.toNat).o cd]∧(∀ j v,hV.toList[j]?=some v→A.toList[11+j]?=some v)∧(∀ j v,dV.toList[j]?=some v→A.toList[20+j]?=some v)∧Row8 w' ah ((S.play m).S.PH m.c.toNat).i ch (co ((S.play m).S.hs m.c.toNat).v)∧Row8 w' ad ((S.play m).S.PD m.c.toNat).o cd (co ((S.play m).S.ds m.c.toNat).v))):=by
 obtain⟨t1,L1,h1,hs,hx,he⟩:=h
 subst hs
 have F1:=F.els he
 have hP:=yY ev w0 w t1 L1 i m d c h1 F1 I ok hn R (fun y hy h0=>by rw[hx.x];exact hd y hy h0) hl
 rw[hx.x]at hP
 refine hP.mono ?_
 rintro r w' (⟨hb,rfl,H⟩ | ⟨hb,a',c',ah,ch,ad,cd,rfl,H⟩)
 ·refine⟨_,_,rfl,rfl,by kernel_rfl,rfl,?_,fun q=>absurd q hb⟩
  have hp:(L1.S.play m).S=L1.S:=by
   unfold Ws.play
   rw[if_pos hb]
  rw[hp]
  exact PWn.bind hx he H.out.1.n
 ·have r1:=H.out.rowq (q:=2 * (i+2)+1) (fun j=>by unfold ev;omega) (by unfold zh;rw[an _ _ (by omega)];exact al _ _ _)
  have r2:=H.out.rowq (q:=2 * (i+3)+1) (fun j=>by unfold ev;omega) (by unfold zh;exact al _ _ _)
  exact⟨_,_,rfl,rfl,by kernel_rfl,hb.symm,PWn.bind hx he (H.out.dropR F1),fun _=>⟨rfl,rfl,_,_,ah,ch,ad,cd,rfl,rfl,at9 (n:=11) rfl rfl rfl rfl rfl rfl rfl rfl rfl,at9 (n:=20) rfl rfl rfl rfl rfl rfl rfl rfl rfl,r1,r2⟩⟩
end Go.Proofs.YtenilkloffnjlaaGreat
