/- Part 27: contracts that the proof rests on. -/
import Derived.Deep.DeepCutAuto
import Derived.Deep.CutBlock
import Derived.Deep.RegionWith
import Derived.Maps.AppendAt
import Derived.Deep.RegionHeld3
import Derived.Deep.Upon
import Derived.Deep.MidRow
import Derived.Test.YtenilkloffnjlaaGreatPkM25
set_option maxHeartbeats 64000000
set_option maxRecDepth 100000
namespace Go.Proofs.YtenilkloffnjlaaGreat
open Tryz
open Go.RowKit Go.Maps
set_option linter.unusedVariables false
theorem dC {w:World} {x:Nat} (h:w.there x 0 9) {A:Array Value} (hs:A.size=9) (ho:A.all (·.oneCell')=true):∃ wz,(storeCells ⟨x,0,none⟩ A.toList).run prog w=.ok () wz∧wz.rangeAt x 0 A.toList∧Off [x] w wz:=by
 have hth:w.there x 0 A.size:=by rw[hs];exact h
 exact⟨_,j5 hth ho,World.rangeAt_setCells_same _ x 0 A.toList (by simpa using hth),dn _ x 0 A.toList⟩
theorem li (w:World) (o:Array Value) (wx:World) (hb:Below (w.alloc (.cells o 39)).heap.size (w.alloc (.cells o 39)) wx) (i:Nat):wx.cell? ⟨w.heap.size,i,none⟩=o[i]?:=by
 rw[hb.cell (p:=⟨w.heap.size,i,none⟩) (by simp)]
 exact ae _ _ _ _ _ _ (aA _ _)
theorem jO (w:World) (o:Array Value) (i:Nat) (wx:World) (hb:Below (w.alloc (.cells o 39)).heap.size (w.alloc (.cells o 39)) wx):wx.frozen? ⟨w.heap.size,i,none⟩=false:=by
 rw[hb.frozen (p:=⟨w.heap.size,i,none⟩) (by simp)]
 simp
theorem za (m:Mv) (d:Option Addr) (e:Nat) (w:World) (hr:Row8 w d m.l e m.b) (hlen:m.l≤140737488351232):Calls prog 10 #[.agg (ak m m.c d e)] w fun r w'=>∃ a' c',r=.returned (.agg (ak m m.c a' c'))∧Hid (Row8 w' a' m.l c' m.b∧Below w.heap.size w w'∧∀ y,a'=some y→0<m.l→w.heap.size≤y.block):=by
 obtain⟨i0,hi,hz0,hz1,hz2⟩:=info_parts bV
 have hbd:=vU
 have hX:=fun wx hb=>li w (ak m m.c d e) wx hb
 have hXf:=fun i wx hb=>jO w (ak m m.c d e) i wx hb
 obtain⟨wa,hwa⟩:∃ x,x=w.alloc (.cells (ak m m.c d e) 39):=⟨_,rfl⟩
 rw[← hwa]at hX hXf
 have hA:Below w.heap.size w wa:=by rw[hwa];exact (Below.refl _ _).alloc (Nat.le_refl _) _
 have hAs:wa.heap.size=w.heap.size+1:=by rw[hwa];simp
 have hY:=fun wx hb=>li wa #[.int .i64 0,.int .i64 0,.int .i64 0,.int .i64 0,.int .i64 0,.int .u32 0,.int .i64 0,.bool false,.slice none 0 0] wx hb
 have hYf:=fun i wx hb=>jO wa #[.int .i64 0,.int .i64 0,.int .i64 0,.int .i64 0,.int .i64 0,.int .u32 0,.int .i64 0,.bool false,.slice none 0 0] i wx hb
 obtain⟨wb,hwb⟩:∃ x,x=wa.alloc (.cells #[.int .i64 0,.int .i64 0,.int .i64 0,.int .i64 0,.int .i64 0,.int .u32 0,.int .i64 0,.bool false,.slice none 0 0] 39):=⟨_,rfl⟩
 rw[← hwb]at hY hYf
 have hB:Below wa.heap.size wa wb:=by rw[hwb];exact (Below.refl _ _).alloc (Nat.le_refl _) _
 have hBs:wb.heap.size=w.heap.size+1+1:=by rw[hwb,hwa];simp
 have hC:Below wb.heap.size wb (wb.alloc (.cells #[] 5)):=(Below.refl _ _).alloc (Nat.le_refl _) _
 have O0:(wb.alloc (.cells #[] 5)).ownsRow wb.heap.size 5 1 (.slice (af wb.heap.size 0) 0 0) 0 (CB m.b 0):=World.ownsRow_made wb #[] 0 (Nat.le_refl _) (Nat.zero_le _) rfl
 have hszC:=hC.size
 have R0:=((hr.below hA).below hB).below hC
 rw[hAs]at hY hYf
 go_enter func10,ntmps10
 go_upto_region 1 with fail
 try rw[← hwa]
 try rw[← hwb]
 have H0:Hid (_):=And.intro hwa (And.intro hwb (And.intro hAs hBs))
 clear hwa hwb
 have x8:(wb.alloc (.cells #[] 5)).cell? ⟨w.heap.size,8,none⟩=some (.slice d m.l e):=hX (wb.alloc (.cells #[] 5)) (hB.trans (hC.mono (by omega))) 8
 clear hAs hBs
 go_wp2_with (at_builtin;refine a9 rfl (.tmp 3) (.tmp 5) 37 rfl wb.heap.size 5 i0 (.int .u8 0) underlying37 hi hz0 hz1 hz2 rfl _ 0 _ rfl O0 d m.l e m.b rfl R0 (by unfold maxLen;omega) (by omega) hszC ?_)
 intro v2 w2 hown2 hgrow2
 have hbel2:Below wb.heap.size wb w2:=hC.grown hgrow2 hszC (fun j hj=>(O0.lt j hj).1)
 rw[show CB m.b 0=[] from rfl,List.nil_append]at hown2
 have hlt:w.heap.size<wb.heap.size∧w.heap.size+1<wb.heap.size:=by have:=H0.out;omega
 have hbelA:Below wa.heap.size wa w2:=hB.trans (hbel2.mono (by have:=H0.out;omega))
 have x0:w2.cell? ⟨w.heap.size,0,none⟩=some ((.int .i64 m.k)):=hX w2 hbelA 0
 have x1:w2.cell? ⟨w.heap.size,1,none⟩=some ((.int .i64 m.c)):=hX w2 hbelA 1
 have x2:w2.cell? ⟨w.heap.size,2,none⟩=some ((.int .i64 m.s)):=hX w2 hbelA 2
 have x3:w2.cell? ⟨w.heap.size,3,none⟩=some ((.int .i64 m.f)):=hX w2 hbelA 3
 have x4:w2.cell? ⟨w.heap.size,4,none⟩=some ((.int .i64 m.a)):=hX w2 hbelA 4
 have x5:w2.cell? ⟨w.heap.size,5,none⟩=some ((.int .u32 (m.w:Nat))):=hX w2 hbelA 5
 have x6:w2.cell? ⟨w.heap.size,6,none⟩=some ((.int .i64 m.n)):=hX w2 hbelA 6
 have x7:w2.cell? ⟨w.heap.size,7,none⟩=some ((.bool m.h)):=hX w2 hbelA 7
 have x8:w2.cell? ⟨w.heap.size,8,none⟩=some ((.slice d m.l e)):=hX w2 hbelA 8
 have y0:w2.cell? ⟨w.heap.size+1,0,none⟩=some (.int .i64 0):=hY w2 hbel2 0
 have y1:w2.cell? ⟨w.heap.size+1,1,none⟩=some (.int .i64 0):=hY w2 hbel2 1
 have y2:w2.cell? ⟨w.heap.size+1,2,none⟩=some (.int .i64 0):=hY w2 hbel2 2
 have y3:w2.cell? ⟨w.heap.size+1,3,none⟩=some (.int .i64 0):=hY w2 hbel2 3
 have y4:w2.cell? ⟨w.heap.size+1,4,none⟩=some (.int .i64 0):=hY w2 hbel2 4
 have y5:w2.cell? ⟨w.heap.size+1,5,none⟩=some (.int .u32 0):=hY w2 hbel2 5
 have y6:w2.cell? ⟨w.heap.size+1,6,none⟩=some (.int .i64 0):=hY w2 hbel2 6
 have y7:w2.cell? ⟨w.heap.size+1,7,none⟩=some (.bool false):=hY w2 hbel2 7
 have y8:w2.cell? ⟨w.heap.size+1,8,none⟩=some (.slice none 0 0):=hY w2 hbel2 8
 have xf:=fun i=>hXf i w2 hbelA
 have yf:=fun i=>hYf i w2 hbel2
 obtain⟨a2,c2,rfl,R2⟩:=aY hown2 hr.byte
 have HR:Hid (w2.ownsRow wb.heap.size 5 1 (.slice a2 m.l c2) m.l (CB m.b m.l)∧Below wb.heap.size wb w2):=⟨hown2,hbel2⟩
 clear hgrow2 O0 R0 hC hszC hX hY hXf hYf hown2 R2 hbel2 hbelA hbd
 go_wp2_with fail
 refine bodyPost_ret (v:=.agg (ak m m.c a2 c2)) (by simp[results,results10,go_sem,y0,y1,y2,y3,y4,y5,y6,y7,y8]) rfl ⟨a2,c2,rfl,?_,?_,?_⟩
 ·obtain⟨a3,c3,e,R3⟩:=aY (ownsRow_setCell_below (ownsRow_setCell_below (ownsRow_setCell_below (ownsRow_setCell_below (ownsRow_setCell_below (ownsRow_setCell_below (ownsRow_setCell_below (ownsRow_setCell_below (ownsRow_setCell_below (ownsRow_setCell_below HR.out.1 (a:=⟨w.heap.size,8,none⟩) hlt.1 _) (a:=⟨w.heap.size+1,0,none⟩) hlt.2 _) (a:=⟨w.heap.size+1,1,none⟩) hlt.2 _) (a:=⟨w.heap.size+1,2,none⟩) hlt.2 _) (a:=⟨w.heap.size+1,3,none⟩) hlt.2 _) (a:=⟨w.heap.size+1,4,none⟩) hlt.2 _) (a:=⟨w.heap.size+1,5,none⟩) hlt.2 _) (a:=⟨w.heap.size+1,6,none⟩) hlt.2 _) (a:=⟨w.heap.size+1,7,none⟩) hlt.2 _) (a:=⟨w.heap.size+1,8,none⟩) hlt.2 _) hr.byte
  simp only[Value.slice.injEq,true_and]at e
  obtain⟨rfl,rfl⟩:=e
  exact R3
 ·have hb:Below w.heap.size w w2:=(hA.trans (hB.mono (by have:=H0.out;omega))).trans (HR.out.2.mono (by omega))
  exact ((((((((((hb.setCell (p:=⟨w.heap.size,8,none⟩) (Nat.le_refl _) _).setCell (p:=⟨w.heap.size+1,0,none⟩) (Nat.le_succ _) _).setCell (p:=⟨w.heap.size+1,1,none⟩) (Nat.le_succ _) _).setCell (p:=⟨w.heap.size+1,2,none⟩) (Nat.le_succ _) _).setCell (p:=⟨w.heap.size+1,3,none⟩) (Nat.le_succ _) _).setCell (p:=⟨w.heap.size+1,4,none⟩) (Nat.le_succ _) _).setCell (p:=⟨w.heap.size+1,5,none⟩) (Nat.le_succ _) _).setCell (p:=⟨w.heap.size+1,6,none⟩) (Nat.le_succ _) _).setCell (p:=⟨w.heap.size+1,7,none⟩) (Nat.le_succ _) _).setCell (p:=⟨w.heap.size+1,8,none⟩) (Nat.le_succ _) _)
 ·intro y hy hn
  rcases HR.out.1.2 with ⟨e,_⟩ | ⟨g,cap,cur,e,hg,_⟩
  ·simp only[Value.slice.injEq]at e
   rw[e.1]at hy
   cases hy
  ·simp only[Value.slice.injEq]at e
   rw[e.1]at hy
   cases hy
   have:=hlt.1
   show w.heap.size≤g
   omega
theorem wL (S:Ws) (l:List Fa):(S.note l).bg=S.bg:=rfl
theorem wM (S:Ws) (l:List Fa):(S.note l).mv=S.mv:=rfl
theorem aJ {P:Program} {ops:Array Oper} {rest:List Oper} {op:Oper} {a:Act} {w:World} {Q:Exit→Act→World→Prop} (hw:Region.wanted op (yielded ops a.tmps)=true) (ty:TypeId) (x:Operand) (ho:op.op=.load ty x)
  (b o:Nat) (hx:a.eval x=ac b o) (A:Array Value) (d:TypeDesc) (hc:w.rangeAt b o A.toList)
  (hu:P.underlying ty=some d) (hd:d.isRow=true) (hi:(P.info? ty).map (·.size)=some A.size)
  (h:wpList P ops Q rest (a.put op.dst (.agg A)) w):wpList P ops Q (op :: rest) a w:=
 iS hw ty x ho b o hx A.toList d hc hu hd (by simpa using hi) (by simpa using h)
theorem uy {w:World} {q:Nat} (h:w.heap[q]?=some (.cells aZ 83 (0,0))):PqRow w (af q 0) 1 (fun _=>P0.q):=fun i hi=>by
 obtain rfl:i=0:=by omega
 refine⟨q,0,rfl,fun j u hu=>?_⟩
 rw[show 0+0*5+j=j by omega,ae w q j _ _ _ h]
 have e:(P0.q).cs.toArray=aZ:=by rfl
 rw[← e]
 simpa using hu
theorem aaf:zO 1 1 50 (fun _=>P0.q) (fun _=>P0.q)=0:=by decide
theorem ze (q0 q1:Nat) (w:World) (h0:w.heap[q0]?=some (.cells aZ 83 (0,0))) (h1:w.heap[q1]?=some (.cells aZ 83 (0,0))):Calls prog 7 #[.agg #[.slice (af q0 0) 1 1,.slice (af q1 0) 1 1,.int .u32 50]] w fun r w'=>∃ L:Pw,r=.returned (.tuple #[ac L.x 0,.int .i64 0])∧Hid (PW ev w w' (mR L) L∧L.S=s0 P0 P0 50):=
 vD (fun _=>P0) (fun _=>P0) q0 0 1 q1 0 1 1 50 (fun _ _=>mW) (fun _ _=>mW) (by decide) (by decide) (by decide) (by decide) (by decide) (by decide) w (uy h0) (uy h1) aaf
theorem fU (w:World) {A:Array Value} (hs:A.size=29) (ho:A.all (·.oneCell')=true):∃ wz,(storeCells ⟨w.heap.size,0,none⟩ A.toList).run prog (w.alloc (.cells cP 45))=.ok () wz∧wz.rangeAt w.heap.size 0 A.toList∧Below w.heap.size w wz:=by
 have kr:=aA w (.cells cP 45)
 have hth:(w.alloc (.cells cP 45)).there w.heap.size 0 A.size:=aV kr (by rw[hs];rfl)
 exact⟨_,j5 hth ho,World.rangeAt_setCells_same _ w.heap.size 0 A.toList (by simpa using hth),(dn _ w.heap.size 0 A.toList).below (aC (Below.refl _ _) _) (by simp) (by rw[iQ];omega)⟩
theorem tn (w:World):Calls prog 9 #[] w fun r w'=>r=.returned (.bool true)∧Below w.heap.size w w':=by
 have hLo:=aak w
 go_enter func9,ntmps9
 go_wp2_with fail
 refine hLo.mono ?_
 rintro r w1 ⟨q0,q1,rfl,H1⟩
 clear hLo
 have hN:Calls prog 7 #[.agg #[.slice (af q0 0) 1 1,.slice (af q1 0) 1 1,.int .u32 50]] w1 fun r w'=>∃ L:Pw,r=.returned (.tuple #[ac L.x 0,.int .i64 0])∧Hid (PW ev w1 w' (mR L) L∧L.S=s0 P0 P0 50):=ze q0 q1 w1 H1.out.1 H1.out.2.1
 go_wp2_with fail
 refine hN.mono ?_
 rintro r w2 ⟨L,rfl,H2⟩
 clear hN
 have hP1:=aw1 H2.out.1 (qN L) H2.out.2
 obtain⟨X,hX⟩:∃ y,L.x=y:=⟨_,rfl⟩
 rw[hX]at hP1 ⊢
 have HX:Hid (L.x=X):=hX
 clear hX
 go_wp2_with fail
 refine hP1.mono ?_
 rintro r w3 ⟨A,rfl,hsA,hoA,hA10,H3⟩
 clear hP1
 obtain⟨wz,hst1,hrg1,hbl1⟩:=fU w3 hsA hoA
 have cb:wz.cell? ⟨w3.heap.size,10,none⟩=some (.int .i64 0):=hrg1 10 _ hA10
 have lb:=World.block_lt_of_cell? wz _ cb
 obtain⟨ob,hob⟩:∃ ob,wz.heap[w3.heap.size]?=some ob:=⟨_,Array.getElem?_eq_getElem lb⟩
 have F0:=qN L
 have hp2:=H3.out.layL hbl1 (i:=2*0+1) (F0 0 (Nat.le_refl _)).1 (l:=[(w3.heap.size,ob)]) (fun p hp=>by
  simp only[List.mem_cons,List.not_mem_nil,or_false]at hp
  subst hp
  exact hob) (fun p hp=>by
  simp only[List.mem_cons,List.not_mem_nil,or_false]at hp
  subst hp
  exact Nat.le_refl _)
 have F1:Fre ev (aF (mR L) (2*0+1) (cS [(w3.heap.size,ob)])) 1:=F0.put _
 have hP2:=aw2 (T:=zL) a1.2.2 hp2 F1
 rw[HX.out]at hP2
 have HB:Hid (_):=And.intro cb (And.intro hob (And.intro hbl1 F0))
 clear hrg1 hbl1 cb lb hob hp2 F1 F0
 go_wp2_with fail
 refine hP2.mono ?_
 rintro r w4 ⟨A2,rfl,hsA2,hoA2,hB10,hB20,H4⟩
 clear hP2 hst1
 obtain⟨wy,hst2,hrg2,hbl2⟩:=fU w4 hsA2 hoA2
 have c1:wy.cell? ⟨w4.heap.size,10,none⟩=some (.int .i64 1):=hrg2 10 _ hB10
 have c2:wy.cell? ⟨w4.heap.size,20,none⟩=some (.int .i64 2):=hrg2 20 _ hB20
 obtain⟨cb,hob,hbl1,F0⟩:=HB.out
 have hb4:=H4.out.box (q:=2*0+1) (F0 0 (Nat.le_refl _)).1 (al _ _ _) _ (List.mem_cons_self ..)
 have hb5:=(hbl2.block w3.heap.size (Array.getElem?_eq_some_iff.1 hb4).1).trans hb4
 have c0:wy.cell? ⟨w3.heap.size,10,none⟩=some (.int .i64 0):=(World.cell?_of_block (w:=wz) (a:=⟨w3.heap.size,10,none⟩) (hb5.trans hob.symm)).trans cb
 have hp5:=H4.out.below hbl2
 have hFr:=wY hp5
 have hMo:=zc hp5
 obtain⟨_,_,e1,e2,_⟩:=a3 (T:=zL) a1.2.2
 rw[HX.out,wL,e1]at hFr
 rw[HX.out,wM,e2]at hMo
 have hbw:Below w1.heap.size w1 wy:=by
  obtain⟨t9,L9,h9,_⟩:=hp5
  exact h9.1.bel
 have HE:Hid (Below w.heap.size w wy):=H1.out.2.2.trans (hbw.mono H1.out.2.2.size)
 clear hrg2 hbl2 cb hob hbl1 F0 hb4 hb5 hp5 e1 e2 hbw HB H4 H3 H2 HX
 go_wp2_with fail
 refine hFr.mono ?_
 rintro r w6 ⟨rfl,rfl⟩
 go_wp2_with fail
 refine hMo.mono ?_
 rintro r w6 ⟨rfl,rfl⟩
 go_wp2_with fail
 go_ret
 exact⟨rfl,HE.out⟩
open Go.ChangeShapes Go.WideShapes Go.ChangeAt Go.RowKit Go.Joins Go.Deep
section
variable {H:Type} {enc:TypeId × Value→H} {w:World} {base:Nat} {spare:TypeId→Bool} {held:Bool}
end
end Go.Proofs.YtenilkloffnjlaaGreat
namespace Go.Proofs.YtenilkloffnjlaaGreat
open Tryz
open Go.RowKit Go.Maps
set_option linter.unusedVariables false
def eG:Value→Nat
 | .int _ i=>i.toNat
 | _=>0
theorem vi (x:Int):0≤IntKind.u64.wrap x:=by
 have e:IntKind.u64.wrap x=x % 18446744073709551616:=by simp[IntKind.wrap,IntKind.signed,IntKind.bits]
 rw[e]
 omega
theorem ve {n:Nat} (h:n≤300):IntKind.u64.wrap ((n:Nat):Int)=((n:Nat):Int):=by
 have e:IntKind.u64.wrap ((n:Nat):Int)=((n:Nat):Int) % 18446744073709551616:=by simp[IntKind.wrap,IntKind.signed,IntKind.bits]
 rw[e]
 omega
theorem mM (x:Int) {n:Nat} (h0:0<n) (h:n≤300):0≤IntKind.i64.wrap ((IntKind.u64.wrap x).tmod ((n:Nat):Int))∧IntKind.i64.wrap ((IntKind.u64.wrap x).tmod ((n:Nat):Int)) < ((n:Nat):Int):=by
 have hu:=vi x
 generalize IntKind.u64.wrap x=u at *
 rw[Int.tmod_eq_emod_of_nonneg hu]
 have h1:=Int.emod_nonneg u (b:=((n:Nat):Int)) (by omega)
 have h2:=Int.emod_lt_of_pos u (b:=((n:Nat):Int)) (by omega)
 generalize u % ((n:Nat):Int)=v at *
 have e:IntKind.i64.wrap v=v:=by
  have q:v % 18446744073709551616=v:=by omega
  simp[IntKind.wrap,IntKind.signed,IntKind.bits,q]
  omega
 rw[e]
 exact⟨h1,h2⟩
open Go.RowKit
structure Ue where
 k:Int
 c:Nat
 s:Nat
 n:Nat
 f:Int
 a:Option Addr
 l:Nat
 p:Nat
 b:Nat→Nat
structure Mg where
 s:Nat
 l:Nat
 v:Nat→Value
 e:Nat→List Ue
 z:Nat→Ue
 V:List Nat
theorem wR {w:World} {v:Value} {B t size n q:Nat} {xs:List Value} (h:w.ownsRow B t size v n xs) (hq:v.ownBlock=some q):q<w.heap.size:=by
 rcases h.2 with ⟨hn,_⟩ | ⟨g,cap,cur,rfl,hg,hgg,rest⟩
 ·rw[hn]at hq
  cases hq
 ·have:g=q:=by simpa [Value.ownBlock] using hq
  subst this
  exact (Array.getElem?_eq_some_iff.1 hgg).1
section
variable {M:Mg} {w w':World}
end
end Go.Proofs.YtenilkloffnjlaaGreat
namespace Go.Proofs.YtenilkloffnjlaaGreat
open Tryz
open Go.RowKit Go.Maps
set_option linter.unusedVariables false
theorem gr {P:Program} {md:Region.Mode} {ops:Array Oper} {Q:Exit→Act→World→Prop} {S:World→Prop} {fuel:Nat} {l:Array Bool} {a:Act} {w:World} {i:Nat} (hr:Region.ready md ops l=[i]) (hi:wpOp P ops Q i (fun a' w'=>S w'∧wpAnyH P md ops Q S fuel (l.setIfInBounds i true) a' w') a w):wpAnyH P md ops Q S (fuel+1) l a w:=
 wpAnyH_all hr (by simp) (fun k hk=>by
  obtain rfl:=List.mem_singleton.1 hk
  exact hi)
theorem pN {P:Program} {md:Region.Mode} {ops:Array Oper} {Q:Exit→Act→World→Prop} {S:World→Prop} {fuel:Nat} {l:Array Bool} {a:Act} {w:World} {i j:Nat} (hr:Region.ready md ops l=[i,j]) (hi:wpOp P ops Q i (fun a' w'=>S w'∧wpAnyH P md ops Q S fuel (l.setIfInBounds i true) a' w') a w) (hj:wpOp P ops Q j (fun a' w'=>S w'∧wpAnyH P md ops Q S fuel (l.setIfInBounds j true) a' w') a w):wpAnyH P md ops Q S (fuel+1) l a w:=
 wpAnyH_all hr (by simp) (fun k hk=>by
  rcases List.mem_cons.1 hk with rfl | hk
  ·exact hi
  ·obtain rfl:=List.mem_singleton.1 hk
   exact hj)
theorem oe {w:World} {B e size n:Nat} {v:Value} {xs:List Value} (h:w.ownsRow B e size v (n+1) xs):∃ g cap,v=.slice (af g 0) (n+1) cap:=by
 rcases h.2 with ⟨_,hn⟩ | ⟨g,cap,cur,rfl,hg,hgg,rest⟩
 ·omega
 ·exact⟨g,cap,rfl⟩
def Ws.outF (S:Ws) (m:Mv):Fm:=if m.k=2 then aP (S.PH m.c.toNat) (S.hs m.c.toNat) else if m.k=3∨m.k=4 then (if m.s=1 then cG else (az (S.PD m.c.toNat) S.mx 16 (S.ds m.c.toNat) (S.fr m).1 (S.fr m).2).f) else cG
theorem fQ (S:Ws) {m:Mv} (hb:S.bad m=0):((S.outF m).1=0∧(S.play m).i = -1∧(S.play m).S.bg=S.bg)∨((S.outF m).1≠0∧(S.play m).i=((S.bg.length:Nat):Int)∧(S.play m).S.bg=S.bg ++ [S.outF m]):=by
 have hp:S.play m=⟨(S.up.act m).e,(S.up.act m).i,(S.up.act m).S.note [oH (S.up.act m).S m.c.toNat,oD (S.up.act m).S m.c.toNat]⟩:=by
  unfold Ws.play
  rw[if_neg (fun q=>q hb)]
  rfl
 have hput:∀ (T:Ws) (k s:Nat) (F:Fm),T.bg=S.bg→((F.1=0∧T.putI F = -1∧(T.put k s F).bg=S.bg)∨(F.1≠0∧T.putI F=((S.bg.length:Nat):Int)∧(T.put k s F).bg=S.bg ++ [F])):=by
  intro T k s F e
  unfold Ws.putI Ws.put
  by_cases z:F.1=0
  ·rw[if_pos z,if_pos z]
   exact .inl ⟨z,rfl,e⟩
  ·rw[if_neg z,if_neg z]
   exact .inr ⟨z,by rw[e],by show T.bg ++ [F]=_;rw[e]⟩
 rw[hp]
 show ((S.outF m).1=0∧(S.up.act m).i = -1∧(S.up.act m).S.bg=S.bg)∨((S.outF m).1≠0∧(S.up.act m).i=((S.bg.length:Nat):Int)∧(S.up.act m).S.bg=S.bg ++ [S.outF m])
 unfold Ws.act Ws.outF
 dsimp only
 by_cases h1:m.k=1
 ·rw[if_pos h1,if_neg (by omega),if_neg (by omega)]
  split <;> exact .inl ⟨rfl,rfl,rfl⟩
 rw[if_neg h1]
 by_cases h2:m.k=2
 ·rw[if_pos h2,if_pos h2]
  unfold Ws.snd
  dsimp only
  exact hput (S.up.setH m.c.toNat (cF (S.up.PH m.c.toNat) (S.up.hs m.c.toNat))) m.c.toNat 1 (aP (S.up.PH m.c.toNat) (S.up.hs m.c.toNat)) rfl
 rw[if_neg h2,if_neg h2]
 by_cases h3:m.k=3∨m.k=4
 ·rw[if_pos h3,if_pos h3]
  by_cases hs:m.s=1
  ·rw[if_pos hs,if_pos hs]
   unfold Ws.toH
   dsimp only
   split <;> exact .inl ⟨rfl,rfl,rfl⟩
  ·rw[if_neg hs,if_neg hs]
   unfold Ws.toD
   dsimp only
   exact hput (S.up.toD2 m.c.toNat (S.up.fr m)) m.c.toNat 2 (az (S.up.PD m.c.toNat) S.up.mx 16 (S.up.ds m.c.toNat) (S.up.fr m).1 (S.up.fr m).2).f (xC _ _ _)
 rw[if_neg h3,if_neg h3]
 by_cases h5:m.k=5
 ·rw[if_pos h5]
  split <;> exact .inl ⟨rfl,rfl,rfl⟩
 rw[if_neg h5]
 by_cases h6:m.k=6
 ·rw[if_pos h6]
  split <;> exact .inl ⟨rfl,rfl,rfl⟩
 rw[if_neg h6]
 by_cases h7:m.k=7
 ·rw[if_pos h7]
  split <;> exact .inl ⟨rfl,rfl,rfl⟩
 rw[if_neg h7]
 exact .inl ⟨rfl,rfl,rfl⟩
def Mv.fat (m:Mv) (k:Nat) (f:Int):Mv:={ m with c:=(k:Int),f:=f }
structure Tmc (A B:Ws) (c:Nat):Prop where
 ph:A.PH=B.PH
 pd:A.PD=B.PD
 mx:A.mx=B.mx
 n:A.n=B.n
 hs:A.hs c=B.hs c
 ds:A.ds c=B.ds c
section
variable {A B:Ws} {c:Nat} {m:Mv} {x y:Int}
def tf (A B:Ws) (m:Mv) (x y:Int):Prop:=m.k=3∨m.k=4→(0≤x∧x < ((A.bg.length:Nat):Int))∧(0≤y∧y < ((B.bg.length:Nat):Int))∧A.bg.getD x.toNat cG=B.bg.getD y.toNat cG
theorem mL (f:tf A B m x y) (h:m.k=3∨m.k=4):A.fr (m.fat c x)=B.fr (m.fat c y):=by
 have e:=(f h).2.2
 show (if m.k=4 then rS (A.bg.getD x.toNat cG) m.a.toNat m.w else A.bg.getD x.toNat cG)=(if m.k=4 then rS (B.bg.getD y.toNat cG) m.a.toNat m.w else B.bg.getD y.toNat cG)
 rw[e]
theorem mK (h:Tmc A B c) (f:tf A B m x y) (hA:A.mv<4096) (hB:B.mv<4096):A.bad (m.fat c x)=B.bad (m.fat c y):=by
 unfold Ws.bad
 rw[if_neg (show ¬ 4096≤A.mv by omega),if_neg (show ¬ 4096≤B.mv by omega),h.n]
 by_cases h3:m.k=3
 ·obtain⟨f1,f2,f3⟩:=f (.inl h3)
  have e1:(m.fat c x).k=3:=h3
  have e2:(m.fat c y).k=3:=h3
  rw[if_pos e1,if_pos e2,if_neg (show ¬ ((m.fat c x).f<0∨((A.bg.length:Nat):Int) ≤ (m.fat c x).f) by show ¬ (x<0∨_≤x);omega),if_neg (show ¬ ((m.fat c y).f<0∨((B.bg.length:Nat):Int) ≤ (m.fat c y).f) by show ¬ (y<0∨_≤y);omega)]
  rfl
 ·by_cases h4:m.k=4
  ·obtain⟨f1,f2,f3⟩:=f (.inr h4)
   have e1:(m.fat c x).k=4:=h4
   have e2:(m.fat c y).k=4:=h4
   have e3:¬ (m.fat c x).k=3:=h3
   have e4:¬ (m.fat c y).k=3:=h3
   rw[if_neg e3,if_neg e4,if_pos e1,if_pos e2,if_neg (show ¬ ((m.fat c x).f<0∨((A.bg.length:Nat):Int) ≤ (m.fat c x).f) by show ¬ (x<0∨_≤x);omega),if_neg (show ¬ ((m.fat c y).f<0∨((B.bg.length:Nat):Int) ≤ (m.fat c y).f) by show ¬ (y<0∨_≤y);omega),show A.bg.getD (m.fat c x).f.toNat cG=B.bg.getD (m.fat c y).f.toNat cG from f3]
   rfl
  ·have e1:¬ (m.fat c x).k=4:=h4
   have e2:¬ (m.fat c y).k=4:=h4
   have e3:¬ (m.fat c x).k=3:=h3
   have e4:¬ (m.fat c y).k=3:=h3
   rw[if_neg e3,if_neg e4,if_neg e1,if_neg e2]
   rfl
theorem aas (h:Tmc A B c) (f:tf A B m x y):A.actDF (m.fat c x)=B.actDF (m.fat c y):=by
 have e:∀ z:Int,(m.fat c z).c.toNat=c:=fun z=>Int.toNat_natCast c
 unfold Ws.actDF
 rw[e,e,h.pd,h.ds,h.mx]
 by_cases q:m.k=3∨m.k=4
 ·rw[mL f q]
  rfl
 ·have q1:¬ ((m.fat c x).k=3∨(m.fat c x).k=4):=q
  have q2:¬ ((m.fat c y).k=3∨(m.fat c y).k=4):=q
  rw[if_neg q1,if_neg q2]
  rfl
theorem aau (h:Tmc A B c) (f:tf A B m x y):A.actHF (m.fat c x)=B.actHF (m.fat c y):=by
 have e:∀ z:Int,(m.fat c z).c.toNat=c:=fun z=>Int.toNat_natCast c
 unfold Ws.actHF
 rw[e,e,h.ph,h.hs]
 by_cases q:m.k=3∨m.k=4
 ·rw[mL f q]
  rfl
 ·have q1:¬ ((m.fat c x).k=3∨(m.fat c x).k=4):=q
  have q2:¬ ((m.fat c y).k=3∨(m.fat c y).k=4):=q
  rw[if_neg q1,if_neg q2]
  rfl
theorem aat (h:Tmc A B c) (f:tf A B m x y):A.actEF (m.fat c x)=B.actEF (m.fat c y):=by
 have e:∀ z:Int,(m.fat c z).c.toNat=c:=fun z=>Int.toNat_natCast c
 unfold Ws.actEF
 rw[e,e,h.ph,h.hs,h.pd,h.ds,h.mx]
 by_cases q:m.k=3∨m.k=4
 ·rw[mL f q]
  rfl
 ·have q1:¬ ((m.fat c x).k=3∨(m.fat c x).k=4):=q
  have q2:¬ ((m.fat c y).k=3∨(m.fat c y).k=4):=q
  rw[if_neg q1,if_neg q2]
  rfl
theorem xE (h:Tmc A B c) (f:tf A B m x y):A.outF (m.fat c x)=B.outF (m.fat c y):=by
 have e:∀ z:Int,(m.fat c z).c.toNat=c:=fun z=>Int.toNat_natCast c
 unfold Ws.outF
 rw[e,e,h.ph,h.hs,h.pd,h.ds,h.mx]
 by_cases q:m.k=3∨m.k=4
 ·rw[mL f q]
  rfl
 ·have q1:¬ ((m.fat c x).k=3∨(m.fat c x).k=4):=q
  have q2:¬ ((m.fat c y).k=3∨(m.fat c y).k=4):=q
  rw[if_neg q1,if_neg q2]
  rfl
theorem vd (h:Tmc A B c) (f:tf A B m x y) (IA:A.In) (KA:A.Kn) (IB:B.In) (KB:B.Kn) (hA:A.bad (m.fat c x)=0) (hB:B.bad (m.fat c y)=0):Tmc (A.play (m.fat c x)).S (B.play (m.fat c y)).S c∧(A.play (m.fat c x)).e=(B.play (m.fat c y)).e:=by
 have e:∀ z:Int,(m.fat c z).c.toNat=c:=fun z=>Int.toNat_natCast c
 obtain⟨a1,a2,a3⟩:=lu A hA
 obtain⟨b1,b2,b3⟩:=lu B hB
 obtain⟨a4,a5,a6⟩:=jT IA KA (m.fat c x)
 obtain⟨b4,b5,b6⟩:=jT IB KB (m.fat c y)
 rw[e]at a1 a2 b1 b2
 exact⟨⟨a4.trans (h.ph.trans b4.symm),a5.trans (h.pd.trans b5.symm),a6.trans (h.mx.trans b6.symm),(jU _ _).trans (h.n.trans (jU _ _).symm),a2.trans ((aau h f).trans b2.symm),a1.trans ((aas h f).trans b1.symm)⟩,a3.trans ((aat h f).trans b3.symm)⟩
end
theorem qe {S:Ws} (I:S.In) (K:S.Kn) (m:Mv):(S.play m).S.mv≤S.mv+1:=by
 by_cases hb:S.bad m=0
 ·have l:=Ws.Law.of hb
  have K':S.up.Kn:=⟨K.ph,K.pd,K.ha,K.da,K.mo,K.fb⟩
  have q:=(j7 K' (I.ih _ l.kn) (I.iv _ l.kn) l).mv
  have hp:(S.play m).S.mv=(S.up.act m).S.mv:=by
   unfold Ws.play
   rw[if_neg (fun q=>q hb)]
   rfl
  rw[hp,q]
  exact Nat.le_refl _
 ·have hp:(S.play m).S=S:=by
   unfold Ws.play
   rw[if_pos hb]
  rw[hp]
  exact Nat.le_succ _
theorem jn (S:Ws) (m:Mv) {x:Nat} (hx:x<S.bg.length):x < (S.play m).S.bg.length∧(S.play m).S.bg.getD x cG=S.bg.getD x cG:=by
 by_cases hb:S.bad m=0
 ·rcases fQ S hb with ⟨_,_,e⟩ | ⟨_,_,e⟩
  ·rw[e]
   exact⟨hx,rfl⟩
  ·rw[e,List.length_append,List.getD_eq_getElem?_getD,List.getD_eq_getElem?_getD,List.getElem?_append_left hx]
   exact⟨by omega,rfl⟩
 ·have hp:(S.play m).S=S:=by
   unfold Ws.play
   rw[if_pos hb]
  rw[hp]
  exact⟨hx,rfl⟩
structure Tmy (A B:Ws) (c:Nat) (L:Nat→List Nat) (l:List Nat) (n:Nat):Prop where
 IA:A.In
 IB:B.In
 n3:A.n=3
 mA:A.mv≤n
 mB:B.mv≤n
 t:Tmc A B c
 ln:(L c).length=l.length
 fr:∀ (i x y:Nat),(L c)[i]?=some x→l[i]?=some y→x<A.bg.length∧y<B.bg.length∧A.bg.getD x cG=B.bg.getD y cG
 lk:∀ k,(L k).length≤n∧∀ x,x ∈ L k→x<A.bg.length
 ll:∀ x,x ∈ l→x<B.bg.length
section
variable {A B:Ws} {c n:Nat} {L:Nat→List Nat} {l:List Nat}
theorem Tmy.more (h:Tmy A B c L l n):Tmy A B c L l (n+1):=⟨h.IA,h.IB,h.n3,Nat.le_succ_of_le h.mA,Nat.le_succ_of_le h.mB,h.t,h.ln,h.fr,fun k=>⟨Nat.le_succ_of_le (h.lk k).1,(h.lk k).2⟩,h.ll⟩
def bR (L:Nat→List Nat) (k:Nat) (i:Int):Nat→List Nat:=if i<0 then L else bf L k (L k ++ [i.toNat])
theorem Tmy.other (h:Tmy A B c L l n) (KA:A.Kn) {m:Mv} (hm:A.bad m=0) (hc:m.c.toNat≠c):Tmy (A.play m).S B c (bR L m.c.toNat (A.play m).i) l (n+1):=by
 obtain⟨p1,p2⟩:=sC h.IA KA hm (Ne.symm hc)
 obtain⟨q1,q2,q3⟩:=jT h.IA KA m
 have hl:bR L m.c.toNat (A.play m).i c=L c:=by
  unfold bR
  split
  ·rfl
  ·exact bY _ _ (Ne.symm hc)
 have mv:=qe h.IA KA m
 refine⟨h.IA.play KA,h.IB,(jU _ _).trans h.n3,by have:=h.mA;omega,Nat.le_succ_of_le h.mB,⟨q1.trans h.t.ph,q2.trans h.t.pd,q3.trans h.t.mx,(jU _ _).trans h.t.n,p2.trans h.t.hs,p1.trans h.t.ds⟩,by rw[hl];exact h.ln,fun i x y hx hy=>?_,fun k=>?_,h.ll⟩
 ·rw[hl]at hx
  obtain⟨a,b,d⟩:=h.fr i x y hx hy
  obtain⟨a1,a2⟩:=jn A m a
  exact⟨a1,b,a2.trans d⟩
 ·have hk:=h.lk k
  have old:(L k).length≤n+1∧∀ x,x ∈ L k→x < (A.play m).S.bg.length:=⟨by omega,fun x hx=>(jn A m (hk.2 x hx)).1⟩
  unfold bR
  split
  ·exact old
  ·next hi=>
   unfold bf
   split
   ·next e=>
    subst e
    rw[List.length_append]
    refine⟨Nat.succ_le_succ hk.1,fun x hx=>?_⟩
    rcases List.mem_append.1 hx with y | y
    ·exact old.2 x y
    ·rw[List.mem_singleton]at y
     rcases fQ A hm with ⟨_,z,_⟩ | ⟨_,z,e⟩
     ·omega
     ·rw[y,z,e,List.length_append]
      simp
   ·exact old
theorem Tmy.own (h:Tmy A B c L l n) (KA:A.Kn) (KB:B.Kn) {m:Mv} {x y:Int} (f:tf A B m x y) (hn:n<4096):A.bad (m.fat c x)=B.bad (m.fat c y)∧(A.bad (m.fat c x)=0→(A.play (m.fat c x)).e=(B.play (m.fat c y)).e∧((A.play (m.fat c x)).i<0 ↔ (B.play (m.fat c y)).i<0)∧Tmc (A.play (m.fat c x)).S (B.play (m.fat c y)).S c∧Tmy (A.play (m.fat c x)).S (B.play (m.fat c y)).S c (bR L c (A.play (m.fat c x)).i) (bR (fun _=>l) c (B.play (m.fat c y)).i c) (n+1)):=by
 have hb:=mK h.t f (Nat.lt_of_le_of_lt h.mA hn) (Nat.lt_of_le_of_lt h.mB hn)
 refine⟨hb,fun hA=>?_⟩
 have hB:=hb.symm.trans hA
 obtain⟨t1,t2⟩:=vd h.t f h.IA KA h.IB KB hA hB
 have ho:=xE (c:=c) h.t f
 have vA:=qe h.IA KA (m.fat c x)
 have vB:=qe h.IB KB (m.fat c y)
 have oA:=fQ A hA
 have oB:=fQ B hB
 rw[← ho]at oB
 have gA:∀ z,z<A.bg.length→z < (A.play (m.fat c x)).S.bg.length∧(A.play (m.fat c x)).S.bg.getD z cG=A.bg.getD z cG:=fun z hz=>jn A _ hz
 have gB:∀ z,z<B.bg.length→z < (B.play (m.fat c y)).S.bg.length∧(B.play (m.fat c y)).S.bg.getD z cG=B.bg.getD z cG:=fun z hz=>jn B _ hz
 have IA':=h.IA.play KA (m:=m.fat c x)
 have IB':=h.IB.play KB (m:=m.fat c y)
 have n3:=(jU A (m.fat c x)).trans h.n3
 generalize A.play (m.fat c x)=Xa1 at *
 generalize B.play (m.fat c y)=Xb1 at *
 have mA:=h.mA
 have mB:=h.mB
 refine⟨t2,?_,t1,?_⟩
 ·rcases oA with ⟨z,a,_⟩ | ⟨z,a,_⟩
  ·rcases oB with ⟨_,b,_⟩ | ⟨z',b,_⟩
   ·rw[a,b]
   ·exact absurd z z'
  ·rcases oB with ⟨z',b,_⟩ | ⟨_,b,_⟩
   ·exact absurd z' z
   ·rw[a,b]
    constructor <;> intro q <;> omega
 ·rcases oA with ⟨z,a,ea⟩ | ⟨z,a,ea⟩
  ·rcases oB with ⟨_,b,eb⟩ | ⟨z',b,eb⟩
   ·have e1:bR L c Xa1.i=L:=by unfold bR;rw[if_pos (by omega)]
    have e2:bR (fun _=>l) c Xb1.i c=l:=by unfold bR;rw[if_pos (by omega)]
    rw[e1,e2]
    exact⟨IA',IB',n3,by omega,by omega,t1,h.ln,fun i u v hu hv=>by
     obtain⟨p,q,r⟩:=h.fr i u v hu hv
     exact⟨(gA u p).1,(gB v q).1,(gA u p).2.trans (r.trans (gB v q).2.symm)⟩,fun k=>⟨Nat.le_succ_of_le (h.lk k).1,fun u hu=>(gA u ((h.lk k).2 u hu)).1⟩,fun u hu=>(gB u (h.ll u hu)).1⟩
   ·exact absurd z z'
  ·rcases oB with ⟨z',b,eb⟩ | ⟨_,b,eb⟩
   ·exact absurd z' z
   ·have e1:bR L c Xa1.i=bf L c (L c ++ [A.bg.length]):=by unfold bR;rw[if_neg (by omega),a,Int.toNat_natCast]
    have e2:bR (fun _=>l) c Xb1.i c=l ++ [B.bg.length]:=by
     unfold bR
     rw[if_neg (by omega),b,Int.toNat_natCast]
     exact aj _ _ _
    rw[e1,e2]
    refine⟨IA',IB',n3,by omega,by omega,t1,?_,fun i u v hu hv=>?_,fun k=>?_,fun u hu=>?_⟩
    ·rw[aj,List.length_append,List.length_append,h.ln]
     rfl
    ·rw[aj]at hu
     by_cases hi:i<l.length
     ·rw[List.getElem?_append_left (by rw[h.ln];exact hi)]at hu
      rw[List.getElem?_append_left hi]at hv
      obtain⟨p,q,r⟩:=h.fr i u v hu hv
      exact⟨(gA u p).1,(gB v q).1,(gA u p).2.trans (r.trans (gB v q).2.symm)⟩
     ·rw[List.getElem?_append_right (by omega)]at hv
      rw[List.getElem?_append_right (by rw[h.ln];omega),h.ln]at hu
      have hi0:i-l.length=0:=by
       by_cases w0:i-l.length=0
       ·exact w0
       ·rw[List.getElem?_eq_none (by simp;omega)]at hv
        cases hv
      rw[hi0]at hu hv
      simp only[List.getElem?_cons_zero,Option.some.injEq]at hu hv
      subst hu hv
      rw[ea,eb,List.length_append,List.length_append,List.getD_eq_getElem?_getD,List.getD_eq_getElem?_getD,List.getElem?_append_right (Nat.le_refl _),List.getElem?_append_right (Nat.le_refl _)]
      simp
    ·have old:(L k).length≤n+1∧∀ u,u ∈ L k→u<Xa1.S.bg.length:=⟨Nat.le_succ_of_le (h.lk k).1,fun u hu=>(gA u ((h.lk k).2 u hu)).1⟩
     unfold bf
     split
     ·next e=>
      subst e
      rw[List.length_append]
      refine⟨Nat.succ_le_succ (h.lk k).1,fun u hu=>?_⟩
      rcases List.mem_append.1 hu with q | q
      ·exact old.2 u q
      ·rw[List.mem_singleton]at q
       rw[q,ea,List.length_append]
       simp
     ·exact old
    ·rcases List.mem_append.1 hu with q | q
     ·exact (gB u (h.ll u q)).1
     ·rw[List.mem_singleton]at q
      rw[q,eb,List.length_append]
      simp
end
end Go.Proofs.YtenilkloffnjlaaGreat
namespace Go.Proofs.YtenilkloffnjlaaGreat
open Tryz
open Go.RowKit Go.Maps
set_option linter.unusedVariables false
def vK (f:Int) (n:Nat):Int:=IntKind.i64.wrap ((IntKind.u64.wrap f).tmod ((n:Nat):Int))
def lp (m:Mv) (xs:List Nat):Int:=if m.k=3∨m.k=4 then (if xs.length=0 then m.f else ((xs.getD (vK m.f xs.length).toNat 0:Nat):Int)) else m.f
def su (m:Mv) (xs:List Nat):Bool:=if m.k=3∨m.k=4 then (if xs.length=0 then false else true) else true
theorem mr {m:Mv} {xs:List Nat} (ok:m.Ok) (h:∀ x,x ∈ xs→x≤1000000) : -9223372036854775808≤lp m xs∧lp m xs≤9223372036854775807:=by
 unfold lp
 split
 ·split
  ·exact ok.f
  ·have h2:xs.getD (vK m.f xs.length).toNat 0≤1000000:=by
    rw[List.getD_eq_getElem?_getD]
    cases hq:xs[(vK m.f xs.length).toNat]? with
    | none=>show (0:Nat)≤1000000;omega
    | some y=>exact h y (List.mem_of_getElem? hq)
   omega
 ·exact ok.f
theorem pI {m:Mv} (ok:m.Ok) {k:Nat} (hk:k<3) {f:Int} (hf : -9223372036854775808≤f∧f≤9223372036854775807):(m.fat k f).Ok:=⟨ok.k,⟨by show (-9223372036854775808:Int) ≤ (k:Int);omega,by show ((k:Nat):Int)≤9223372036854775807;omega⟩,ok.s,hf,ok.a,ok.w,ok.n⟩
theorem Tmy.frs {A B:Ws} {c n:Nat} {L:Nat→List Nat} {l:List Nat} (h:Tmy A B c L l n) (hn:n≤300) {m:Mv} (ho:su m (L c)=true):su m l=true∧tf A B m (lp m (L c)) (lp m l):=by
 unfold su at ho ⊢
 rw[← h.ln]
 refine⟨ho,fun hk=>?_⟩
 unfold lp
 rw[if_pos hk,if_pos hk,← h.ln]
 rw[if_pos hk]at ho
 by_cases hz:(L c).length=0
 ·rw[if_pos hz]at ho
  cases ho
 ·rw[if_neg hz,if_neg hz]
  have hN:0 < (L c).length:=by omega
  obtain⟨a1,a2⟩:=mM m.f hN (Nat.le_trans (h.lk c).1 hn)
  have hi:(vK m.f (L c).length).toNat < (L c).length:=by
   have a1:0≤vK m.f (L c).length:=a1
   have a2:vK m.f (L c).length < (((L c).length:Nat):Int):=a2
   omega
  generalize (vK m.f (L c).length).toNat=i at *
  have hx:(L c)[i]?=some (L c)[i]:=List.getElem?_eq_getElem hi
  have hy:l[i]?=some (l[i]'(by rw[← h.ln];exact hi)):=List.getElem?_eq_getElem (by rw[← h.ln];exact hi)
  have ex:(L c).getD i 0=(L c)[i]:=by rw[List.getD_eq_getElem?_getD,hx];rfl
  have ey:l.getD i 0=l[i]'(by rw[← h.ln];exact hi):=by rw[List.getD_eq_getElem?_getD,hy];rfl
  obtain⟨b1,b2,b3⟩:=h.fr i _ _ hx hy
  rw[ex,ey,Int.toNat_natCast,Int.toNat_natCast]
  exact⟨⟨by omega,by omega⟩,⟨by omega,by omega⟩,b3⟩
theorem Tmy.start (c:Nat):Tmy (sN 3 50 oj oj) (sN 3 50 oj oj) c (fun _=>[]) [] 0:=⟨ya _ _ _ _,ya _ _ _ _,rfl,Nat.le_refl _,Nat.le_refl _,⟨rfl,rfl,rfl,rfl,rfl,rfl⟩,rfl,fun i x y hx=>by simp at hx,fun k=>⟨Nat.le_refl _,fun x hx=>by cases hx⟩,fun x hx=>by cases hx⟩
theorem ro (x:Int):∃ y:Nat,wrap64 ((IntKind.u64.wrap x).tmod 3)=((y:Nat):Int)∧y<3:=by
 have h:=vi x
 generalize IntKind.u64.wrap x=u at *
 rw[Int.tmod_eq_emod_of_nonneg h]
 exact⟨(u % 3).toNat,by unfold wrap64;omega,by omega⟩
theorem zf (pc:Int) (m:Mv) (d:Option Addr) (e k:Nat) (a:Option Addr) (c:Nat) (xs:List Nat) (w:World) (hr:Row8 w d m.l e m.b) (hlen:m.l≤140737488351232) (hn:xs.length≤300) (hx:0<xs.length→∃ g,a=af g 0∧∀ (i y:Nat),xs[i]?=some y→w.cell? ⟨g,i,none⟩=some (.int .i64 (y:Nat))) :
  Calls prog 15 #[.agg #[.int .i64 pc,.int .i64 m.k,.int .i64 m.c,.int .i64 m.s,.int .i64 m.f,.int .i64 m.a,.int .u32 (m.w:Nat),.int .i64 m.n,.bool m.h,.slice d m.l e],.int .i64 (k:Nat),.slice a xs.length c] w fun r w'=>∃ a' c',r=.returned (.tuple #[.agg (eQ m.k ((k:Nat):Int) m.s (lp m xs) m.a m.w m.n m.h a' m.l c'),.bool (su m xs)])∧Hid (Row8 w' a' m.l c' m.b∧Below w.heap.size w w'∧∀ y,a'=some y→0<m.l→w.heap.size≤y.block):=by
 obtain⟨W,hW⟩:∃ y,(w.alloc (.cells #[.int .i64 pc,.int .i64 m.k,.int .i64 m.c,.int .i64 m.s,.int .i64 m.f,.int .i64 m.a,.int .u32 (m.w:Nat),.int .i64 m.n,.bool m.h,.slice d m.l e] 62)).alloc (.cells #[.int .i64 0,.int .i64 0,.int .i64 0,.int .i64 0,.int .i64 0,.int .u32 0,.int .i64 0,.bool false,.slice none 0 0] 39)=y:=⟨_,rfl⟩
 obtain⟨x,hx0⟩:∃ y,w.heap.size=y:=⟨_,rfl⟩
 have s1:=iQ w (.cells #[.int .i64 pc,.int .i64 m.k,.int .i64 m.c,.int .i64 m.s,.int .i64 m.f,.int .i64 m.a,.int .u32 (m.w:Nat),.int .i64 m.n,.bool m.h,.slice d m.l e] 62)
 have s2:=zo w (.cells #[.int .i64 pc,.int .i64 m.k,.int .i64 m.c,.int .i64 m.s,.int .i64 m.f,.int .i64 m.a,.int .u32 (m.w:Nat),.int .i64 m.n,.bool m.h,.slice d m.l e] 62) (.cells #[.int .i64 0,.int .i64 0,.int .i64 0,.int .i64 0,.int .i64 0,.int .u32 0,.int .i64 0,.bool false,.slice none 0 0] 39)
 have bW:Below w.heap.size w W:=by rw[← hW];exact aC (aC (Below.refl _ w) _) _
 have k0:W.heap[w.heap.size]?=some (.cells #[.int .i64 pc,.int .i64 m.k,.int .i64 m.c,.int .i64 m.s,.int .i64 m.f,.int .i64 m.a,.int .u32 (m.w:Nat),.int .i64 m.n,.bool m.h,.slice d m.l e] 62 (0,0)):=by rw[← hW];exact (Below.heap_alloc _ _ _ (by omega)).trans (aA w _)
 have k1:W.heap[w.heap.size+1]?=some (.cells #[.int .i64 0,.int .i64 0,.int .i64 0,.int .i64 0,.int .i64 0,.int .u32 0,.int .i64 0,.bool false,.slice none 0 0] 39 (0,0)):=by rw[← hW];have:=aA (w.alloc (.cells #[.int .i64 pc,.int .i64 m.k,.int .i64 m.c,.int .i64 m.s,.int .i64 m.f,.int .i64 m.a,.int .u32 (m.w:Nat),.int .i64 m.n,.bool m.h,.slice d m.l e] 62)) (.cells #[.int .i64 0,.int .i64 0,.int .i64 0,.int .i64 0,.int .i64 0,.int .u32 0,.int .i64 0,.bool false,.slice none 0 0] 39);rw[s1]at this;exact this
 rw[hW]at s2
 rw[hx0]at k0 k1 s2
 have p0:W.cell? ⟨x,1,none⟩=some (.int .i64 m.k):=ae W x 1 _ _ _ k0
 have p1:W.cell? ⟨x,2,none⟩=some (.int .i64 m.c):=ae W x 2 _ _ _ k0
 have p2:W.cell? ⟨x,3,none⟩=some (.int .i64 m.s):=ae W x 3 _ _ _ k0
 have p3:W.cell? ⟨x,4,none⟩=some (.int .i64 m.f):=ae W x 4 _ _ _ k0
 have p4:W.cell? ⟨x,5,none⟩=some (.int .i64 m.a):=ae W x 5 _ _ _ k0
 have p5:W.cell? ⟨x,6,none⟩=some (.int .u32 (m.w:Nat)):=ae W x 6 _ _ _ k0
 have p6:W.cell? ⟨x,7,none⟩=some (.int .i64 m.n):=ae W x 7 _ _ _ k0
 have p7:W.cell? ⟨x,8,none⟩=some (.bool m.h):=ae W x 8 _ _ _ k0
 have p8:W.cell? ⟨x,9,none⟩=some (.slice d m.l e):=ae W x 9 _ _ _ k0
 have hCo:=za m d e W (hr.below bW) hlen
 have HB:Hid (Below w.heap.size w W∧W.heap.size=x+1+1∧w.heap.size=x):=⟨bW,s2,hx0⟩
 have HE:Hid (_=W):=hW
 have HX:Hid (w.heap.size=x):=hx0
 have HL:Hid (_):=hx
 have HK:Hid (_):=k1
 obtain⟨N,hN⟩:∃ y,xs.length=y:=⟨_,rfl⟩
 rw[hN]
 have HN:Hid (xs.length=N∧N≤300):=⟨hN,by omega⟩
 clear k0 k1 s1 s2 bW hW hx0 hx hN hn
 go_enter func15,ntmps15
 go_upto_region 1 with fail
 rw[HE.out,HX.out]
 go_wp2_with fail
 refine hCo.mono ?_
 rintro r w1 ⟨d6,c6,rfl,H6⟩
 clear hCo p0 p1 p2 p3 p4 p5 p6 p7 p8
 have kM:=aA w1 (.cells (ak m m.c d6 c6) 39)
 have bM:=aC (Below.refl _ w1) (.cells (ak m m.c d6 c6) 39)
 obtain⟨w7,hw7⟩:∃ y,w1.alloc (.cells (ak m m.c d6 c6) 39)=y:=⟨_,rfl⟩
 rw[hw7]at kM bM
 obtain⟨pm,hpm⟩:∃ y,w1.heap.size=y:=⟨_,rfl⟩
 have hpx:x+1+1≤pm:=by have:=HB.out.2.1;have:=H6.out.2.1.size;omega
 rw[hpm]at kM
 have c1:w7.cell? ⟨pm,1,none⟩=some (.int .i64 m.c):=ae w7 pm 1 _ _ _ kM
 have fz1:=frozen_of_row w7 pm 1 _ _ kM
 have k8:(w7.setCell ⟨pm,1,none⟩ (.int .i64 (k:Nat))).heap[pm]?=some (.cells (eQ m.k ((k:Nat):Int) m.s m.f m.a m.w m.n m.h d6 m.l c6) 39 (0,0)):=heap_setCell_same _ _ _ _ _ _ kM
 have o8:Off [pm] w7 (w7.setCell ⟨pm,1,none⟩ (.int .i64 (k:Nat))):=Off.setCell _ _ _ _
 obtain⟨w8,hw8⟩:∃ y,w7.setCell ⟨pm,1,none⟩ (.int .i64 (k:Nat))=y:=⟨_,rfl⟩
 rw[hw8]at k8 o8
 have q0:w8.cell? ⟨pm,0,none⟩=some (.int .i64 m.k):=ae w8 pm 0 _ _ _ k8
 have q1:w8.cell? ⟨pm,1,none⟩=some (.int .i64 ((k:Nat):Int)):=ae w8 pm 1 _ _ _ k8
 have q2:w8.cell? ⟨pm,2,none⟩=some (.int .i64 m.s):=ae w8 pm 2 _ _ _ k8
 have q3:w8.cell? ⟨pm,3,none⟩=some (.int .i64 m.f):=ae w8 pm 3 _ _ _ k8
 have q4:w8.cell? ⟨pm,4,none⟩=some (.int .i64 m.a):=ae w8 pm 4 _ _ _ k8
 have q5:w8.cell? ⟨pm,5,none⟩=some (.int .u32 (m.w:Nat)):=ae w8 pm 5 _ _ _ k8
 have q6:w8.cell? ⟨pm,6,none⟩=some (.int .i64 m.n):=ae w8 pm 6 _ _ _ k8
 have q7:w8.cell? ⟨pm,7,none⟩=some (.bool m.h):=ae w8 pm 7 _ _ _ k8
 have q8:w8.cell? ⟨pm,8,none⟩=some (.slice d6 m.l c6):=ae w8 pm 8 _ _ _ k8
 have fz3:=frozen_of_row w8 pm 3 _ _ k8
 have b7:Below w1.heap.size w1 w8:=o8.below bM (fun z hz=>by rw[List.mem_singleton.1 hz,hpm];exact Nat.le_refl _) bM.size
 have kx:∀ w':World,Below w1.heap.size w1 w'→w'.heap[x+1]?=some (.cells #[.int .i64 0,.int .i64 0,.int .i64 0,.int .i64 0,.int .i64 0,.int .u32 0,.int .i64 0,.bool false,.slice none 0 0] 39 (0,0)):=fun w' b=>by
  have l1:x+1<W.heap.size:=by have:=HB.out.2.1;omega
  exact (b.block _ (Nat.lt_of_lt_of_le l1 H6.out.2.1.size)).trans ((H6.out.2.1.block _ l1).trans HK.out)
 have HEnd:Hid (∀ w' wz:World,Below w1.heap.size w1 w'→Off [x+1] w' wz→Row8 wz d6 m.l c6 m.b∧Below w.heap.size w wz∧∀ y,d6=some y→0<m.l→w.heap.size≤y.block):=fun w' wz b o=>by
  obtain⟨e1,e2,e3⟩:=HB.out
  obtain⟨R,bb,nw⟩:=H6.out
  refine⟨(R.below b).offY o (fun y hy h0=>?_),o.below (e1.trans ((bb.trans (b.mono bb.size)).mono (by omega))) (fun z hz=>by rw[List.mem_singleton.1 hz];omega) (by have:=e1.size;have:=bb.size;have:=b.size;omega),fun y hy h0=>by have:=nw y hy h0;omega⟩
  have:=nw y hy h0
  simp
  omega
 have HBw:Hid (Below w1.heap.size w1 w8):=b7
 clear kM bM o8 b7 H6
 by_cases hk:m.k=3∨m.k=4
 ·have hf:∀ N',xs.length=N'→(N'=0→lp m xs=m.f∧su m xs=false)∧(0<N'→lp m xs=((xs.getD (vK m.f N').toNat 0:Nat):Int)∧su m xs=true):=fun N' e=>by
   subst e
   unfold lp su
   rw[if_pos hk,if_pos hk]
   exact⟨fun z=>by rw[if_pos z,if_pos z];exact⟨rfl,rfl⟩,fun z=>by rw[if_neg (by omega),if_neg (by omega)];exact⟨rfl,rfl⟩⟩
  have HF:Hid (_):=hf N HN.out.1
  have HKK:Hid (m.k=3∨m.k=4):=hk
  clear hf hk
  rcases HKK.out with h | h
  ·have g3:(m.k != 3)=false:=by rw[h];rfl
   clear h
   by_cases hz:0<N
   ·have hz1:¬ ((N:Nat):Int)=0:=by omega
    have hz2:(((N:Nat):Int) == 0)=false:=by simpa using hz1
    obtain⟨g,rfl,hxs⟩:=HL.out (by rw[HN.out.1];exact hz)
    have hid:IntKind.u64.wrap ((N:Nat):Int)=((N:Nat):Int):=ve HN.out.2
    obtain⟨f1,hf1,hf2⟩:∃ y:Nat,IntKind.i64.wrap ((IntKind.u64.wrap m.f).tmod ((N:Nat):Int))=((y:Nat):Int)∧y<N:=by
     obtain⟨a1,a2⟩:=mM m.f hz HN.out.2
     exact⟨(IntKind.i64.wrap ((IntKind.u64.wrap m.f).tmod ((N:Nat):Int))).toNat,by omega,by omega⟩
    obtain⟨v,hv⟩:∃ y,xs[f1]?=some y:=⟨_,List.getElem?_eq_getElem (by rw[HN.out.1];exact hf2)⟩
    have HV:Hid (lp m xs=((v:Nat):Int)∧su m xs=true):=by
     obtain⟨a1,a2⟩:=HF.out.2 hz
     refine⟨a1.trans ?_,a2⟩
     unfold vK
     rw[hf1,Int.toNat_natCast,List.getD_eq_getElem?_getD,hv]
     rfl
    have hgl:g<w.heap.size:=World.block_lt_of_cell? w _ (hxs f1 v hv)
    have cg:w8.cell? ⟨g,f1,none⟩=some (.int .i64 (v:Nat)):=(hxs f1 v hv |> fun q=>ai q (HEnd.out w8 w8 HBw.out (Off.refl _ _)).2.1)
    have k9:(w8.setCell ⟨pm,3,none⟩ (.int .i64 (v:Nat))).heap[pm]?=some (.cells (eQ m.k ((k:Nat):Int) m.s ((v:Nat):Int) m.a m.w m.n m.h d6 m.l c6) 39 (0,0)):=heap_setCell_same _ _ _ _ _ _ k8
    have o9:Off [pm] w8 (w8.setCell ⟨pm,3,none⟩ (.int .i64 (v:Nat))):=Off.setCell _ _ _ _
    obtain⟨w9,hw9⟩:∃ y,w8.setCell ⟨pm,3,none⟩ (.int .i64 (v:Nat))=y:=⟨_,rfl⟩
    rw[hw9]at k9 o9
    have b9:Below w1.heap.size w1 w9:=o9.below HBw.out (fun z hz=>by rw[List.mem_singleton.1 hz,hpm];exact Nat.le_refl _) HBw.out.size
    have HB9:Hid (Below w1.heap.size w1 w9):=b9
    have kk:=k9
    clear hv hxs hgl o9 b9 k9
    obtain⟨A,hA⟩:∃ y,((eQ m.k ((k:Nat):Int) m.s ((v:Nat):Int) m.a m.w m.n m.h d6 m.l c6):Array Value)=y:=⟨_,rfl⟩
    have hsA:A.size=9:=by rw[← hA];rfl
    have hoA:A.all (·.oneCell')=true:=by rw[← hA];kernel_rfl
    have HR:Hid (w9.rangeAt pm 0 A.toList):=fun j v hv=>by
     rw[Nat.zero_add,ae w9 pm j _ _ _ kk,← Array.getElem?_toList]
     rw[← hA]at hv
     exact hv
    obtain⟨wz,hst,hrz,oz⟩:=dC (w:=w9) (x:=x+1) (aV (kx w9 HB9.out) rfl) hsA hoA
    have hrz':=hrz
    rw[← hA]at hrz'
    have z0:wz.cell? ⟨x+1,0,none⟩=some (.int .i64 m.k):=by have:=hrz' 0 _ rfl;rw[Nat.zero_add]at this;exact this
    have z1:wz.cell? ⟨x+1,1,none⟩=some (.int .i64 ((k:Nat):Int)):=by have:=hrz' 1 _ rfl;rw[Nat.zero_add]at this;exact this
    have z2:wz.cell? ⟨x+1,2,none⟩=some (.int .i64 m.s):=by have:=hrz' 2 _ rfl;rw[Nat.zero_add]at this;exact this
    have z3:wz.cell? ⟨x+1,3,none⟩=some (.int .i64 ((v:Nat):Int)):=by have:=hrz' 3 _ rfl;rw[Nat.zero_add]at this;exact this
    have z4:wz.cell? ⟨x+1,4,none⟩=some (.int .i64 m.a):=by have:=hrz' 4 _ rfl;rw[Nat.zero_add]at this;exact this
    have z5:wz.cell? ⟨x+1,5,none⟩=some (.int .u32 (m.w:Nat)):=by have:=hrz' 5 _ rfl;rw[Nat.zero_add]at this;exact this
    have z6:wz.cell? ⟨x+1,6,none⟩=some (.int .i64 m.n):=by have:=hrz' 6 _ rfl;rw[Nat.zero_add]at this;exact this
    have z7:wz.cell? ⟨x+1,7,none⟩=some (.bool m.h):=by have:=hrz' 7 _ rfl;rw[Nat.zero_add]at this;exact this
    have z8:wz.cell? ⟨x+1,8,none⟩=some (.slice d6 m.l c6):=by have:=hrz' 8 _ rfl;rw[Nat.zero_add]at this;exact this
    have HO2:Hid (Off [x+1] w9 wz):=oz
    have hi:(prog.info? 39).map (·.size)=some A.size:=by rw[hsA];kernel_rfl
    clear hrz hrz' oz kk hA
    go_upto_region 8 with fail
    try rw[hw9]
    go_wp2_with (refine aJ (by kernel_rfl) 39 (.tmp 8) rfl pm 0 rfl A _ HR.out underlying39 rfl hi ?_)
    refine bodyPost_ret (v:=.tuple #[.agg (eQ m.k ((k:Nat):Int) m.s ((v:Nat):Int) m.a m.w m.n m.h d6 m.l c6),.bool true]) (by simp[results,results15,go_sem,z0,z1,z2,z3,z4,z5,z6,z7,z8]) rfl ⟨d6,c6,by rw[HV.out.1,HV.out.2],HEnd.out w9 wz HB9.out HO2.out⟩
   ·obtain rfl:N=0:=by omega
    have kk:=k8
    obtain⟨A,hA⟩:∃ y,((eQ m.k ((k:Nat):Int) m.s m.f m.a m.w m.n m.h d6 m.l c6):Array Value)=y:=⟨_,rfl⟩
    have hsA:A.size=9:=by rw[← hA];rfl
    have hoA:A.all (·.oneCell')=true:=by rw[← hA];kernel_rfl
    have HR:Hid (w8.rangeAt pm 0 A.toList):=fun j v hv=>by
     rw[Nat.zero_add,ae w8 pm j _ _ _ kk,← Array.getElem?_toList]
     rw[← hA]at hv
     exact hv
    obtain⟨wz,hst,hrz,oz⟩:=dC (w:=w8) (x:=x+1) (aV (kx w8 HBw.out) rfl) hsA hoA
    have hrz':=hrz
    rw[← hA]at hrz'
    have z0:wz.cell? ⟨x+1,0,none⟩=some (.int .i64 m.k):=by have:=hrz' 0 _ rfl;rw[Nat.zero_add]at this;exact this
    have z1:wz.cell? ⟨x+1,1,none⟩=some (.int .i64 ((k:Nat):Int)):=by have:=hrz' 1 _ rfl;rw[Nat.zero_add]at this;exact this
    have z2:wz.cell? ⟨x+1,2,none⟩=some (.int .i64 m.s):=by have:=hrz' 2 _ rfl;rw[Nat.zero_add]at this;exact this
    have z3:wz.cell? ⟨x+1,3,none⟩=some (.int .i64 m.f):=by have:=hrz' 3 _ rfl;rw[Nat.zero_add]at this;exact this
    have z4:wz.cell? ⟨x+1,4,none⟩=some (.int .i64 m.a):=by have:=hrz' 4 _ rfl;rw[Nat.zero_add]at this;exact this
    have z5:wz.cell? ⟨x+1,5,none⟩=some (.int .u32 (m.w:Nat)):=by have:=hrz' 5 _ rfl;rw[Nat.zero_add]at this;exact this
    have z6:wz.cell? ⟨x+1,6,none⟩=some (.int .i64 m.n):=by have:=hrz' 6 _ rfl;rw[Nat.zero_add]at this;exact this
    have z7:wz.cell? ⟨x+1,7,none⟩=some (.bool m.h):=by have:=hrz' 7 _ rfl;rw[Nat.zero_add]at this;exact this
    have z8:wz.cell? ⟨x+1,8,none⟩=some (.slice d6 m.l c6):=by have:=hrz' 8 _ rfl;rw[Nat.zero_add]at this;exact this
    have HO2:Hid (Off [x+1] w8 wz):=oz
    have hi:(prog.info? 39).map (·.size)=some A.size:=by rw[hsA];kernel_rfl
    clear hrz hrz' oz kk hA
    go_upto_region 6 with fail
    go_wp2_with (refine aJ (by kernel_rfl) 39 (.tmp 8) rfl pm 0 rfl A _ HR.out underlying39 rfl hi ?_)
    refine bodyPost_ret (v:=.tuple #[.agg (eQ m.k ((k:Nat):Int) m.s m.f m.a m.w m.n m.h d6 m.l c6),.bool false]) (by simp[results,results15,go_sem,z0,z1,z2,z3,z4,z5,z6,z7,z8]) rfl ⟨d6,c6,by rw[(HF.out.1 (by trivial)).1,(HF.out.1 (by trivial)).2],HEnd.out w8 wz HBw.out HO2.out⟩
  ·have g3:(m.k != 3)=true:=by rw[h];rfl
   have g4:(m.k != 4)=false:=by rw[h];rfl
   clear h
   by_cases hz:0<N
   ·have hz1:¬ ((N:Nat):Int)=0:=by omega
    have hz2:(((N:Nat):Int) == 0)=false:=by simpa using hz1
    obtain⟨g,rfl,hxs⟩:=HL.out (by rw[HN.out.1];exact hz)
    have hid:IntKind.u64.wrap ((N:Nat):Int)=((N:Nat):Int):=ve HN.out.2
    obtain⟨f1,hf1,hf2⟩:∃ y:Nat,IntKind.i64.wrap ((IntKind.u64.wrap m.f).tmod ((N:Nat):Int))=((y:Nat):Int)∧y<N:=by
     obtain⟨a1,a2⟩:=mM m.f hz HN.out.2
     exact⟨(IntKind.i64.wrap ((IntKind.u64.wrap m.f).tmod ((N:Nat):Int))).toNat,by omega,by omega⟩
    obtain⟨v,hv⟩:∃ y,xs[f1]?=some y:=⟨_,List.getElem?_eq_getElem (by rw[HN.out.1];exact hf2)⟩
    have HV:Hid (lp m xs=((v:Nat):Int)∧su m xs=true):=by
     obtain⟨a1,a2⟩:=HF.out.2 hz
     refine⟨a1.trans ?_,a2⟩
     unfold vK
     rw[hf1,Int.toNat_natCast,List.getD_eq_getElem?_getD,hv]
     rfl
    have hgl:g<w.heap.size:=World.block_lt_of_cell? w _ (hxs f1 v hv)
    have cg:w8.cell? ⟨g,f1,none⟩=some (.int .i64 (v:Nat)):=(hxs f1 v hv |> fun q=>ai q (HEnd.out w8 w8 HBw.out (Off.refl _ _)).2.1)
    have k9:(w8.setCell ⟨pm,3,none⟩ (.int .i64 (v:Nat))).heap[pm]?=some (.cells (eQ m.k ((k:Nat):Int) m.s ((v:Nat):Int) m.a m.w m.n m.h d6 m.l c6) 39 (0,0)):=heap_setCell_same _ _ _ _ _ _ k8
    have o9:Off [pm] w8 (w8.setCell ⟨pm,3,none⟩ (.int .i64 (v:Nat))):=Off.setCell _ _ _ _
    obtain⟨w9,hw9⟩:∃ y,w8.setCell ⟨pm,3,none⟩ (.int .i64 (v:Nat))=y:=⟨_,rfl⟩
    rw[hw9]at k9 o9
    have b9:Below w1.heap.size w1 w9:=o9.below HBw.out (fun z hz=>by rw[List.mem_singleton.1 hz,hpm];exact Nat.le_refl _) HBw.out.size
    have HB9:Hid (Below w1.heap.size w1 w9):=b9
    have kk:=k9
    clear hv hxs hgl o9 b9 k9
    obtain⟨A,hA⟩:∃ y,((eQ m.k ((k:Nat):Int) m.s ((v:Nat):Int) m.a m.w m.n m.h d6 m.l c6):Array Value)=y:=⟨_,rfl⟩
    have hsA:A.size=9:=by rw[← hA];rfl
    have hoA:A.all (·.oneCell')=true:=by rw[← hA];kernel_rfl
    have HR:Hid (w9.rangeAt pm 0 A.toList):=fun j v hv=>by
     rw[Nat.zero_add,ae w9 pm j _ _ _ kk,← Array.getElem?_toList]
     rw[← hA]at hv
     exact hv
    obtain⟨wz,hst,hrz,oz⟩:=dC (w:=w9) (x:=x+1) (aV (kx w9 HB9.out) rfl) hsA hoA
    have hrz':=hrz
    rw[← hA]at hrz'
    have z0:wz.cell? ⟨x+1,0,none⟩=some (.int .i64 m.k):=by have:=hrz' 0 _ rfl;rw[Nat.zero_add]at this;exact this
    have z1:wz.cell? ⟨x+1,1,none⟩=some (.int .i64 ((k:Nat):Int)):=by have:=hrz' 1 _ rfl;rw[Nat.zero_add]at this;exact this
    have z2:wz.cell? ⟨x+1,2,none⟩=some (.int .i64 m.s):=by have:=hrz' 2 _ rfl;rw[Nat.zero_add]at this;exact this
    have z3:wz.cell? ⟨x+1,3,none⟩=some (.int .i64 ((v:Nat):Int)):=by have:=hrz' 3 _ rfl;rw[Nat.zero_add]at this;exact this
    have z4:wz.cell? ⟨x+1,4,none⟩=some (.int .i64 m.a):=by have:=hrz' 4 _ rfl;rw[Nat.zero_add]at this;exact this
    have z5:wz.cell? ⟨x+1,5,none⟩=some (.int .u32 (m.w:Nat)):=by have:=hrz' 5 _ rfl;rw[Nat.zero_add]at this;exact this
    have z6:wz.cell? ⟨x+1,6,none⟩=some (.int .i64 m.n):=by have:=hrz' 6 _ rfl;rw[Nat.zero_add]at this;exact this
    have z7:wz.cell? ⟨x+1,7,none⟩=some (.bool m.h):=by have:=hrz' 7 _ rfl;rw[Nat.zero_add]at this;exact this
    have z8:wz.cell? ⟨x+1,8,none⟩=some (.slice d6 m.l c6):=by have:=hrz' 8 _ rfl;rw[Nat.zero_add]at this;exact this
    have HO2:Hid (Off [x+1] w9 wz):=oz
    have hi:(prog.info? 39).map (·.size)=some A.size:=by rw[hsA];kernel_rfl
    clear hrz hrz' oz kk hA
    go_upto_region 8 with fail
    try rw[hw9]
    go_wp2_with (refine aJ (by kernel_rfl) 39 (.tmp 8) rfl pm 0 rfl A _ HR.out underlying39 rfl hi ?_)
    refine bodyPost_ret (v:=.tuple #[.agg (eQ m.k ((k:Nat):Int) m.s ((v:Nat):Int) m.a m.w m.n m.h d6 m.l c6),.bool true]) (by simp[results,results15,go_sem,z0,z1,z2,z3,z4,z5,z6,z7,z8]) rfl ⟨d6,c6,by rw[HV.out.1,HV.out.2],HEnd.out w9 wz HB9.out HO2.out⟩
   ·obtain rfl:N=0:=by omega
    have kk:=k8
    obtain⟨A,hA⟩:∃ y,((eQ m.k ((k:Nat):Int) m.s m.f m.a m.w m.n m.h d6 m.l c6):Array Value)=y:=⟨_,rfl⟩
    have hsA:A.size=9:=by rw[← hA];rfl
    have hoA:A.all (·.oneCell')=true:=by rw[← hA];kernel_rfl
    have HR:Hid (w8.rangeAt pm 0 A.toList):=fun j v hv=>by
     rw[Nat.zero_add,ae w8 pm j _ _ _ kk,← Array.getElem?_toList]
     rw[← hA]at hv
     exact hv
    obtain⟨wz,hst,hrz,oz⟩:=dC (w:=w8) (x:=x+1) (aV (kx w8 HBw.out) rfl) hsA hoA
    have hrz':=hrz
    rw[← hA]at hrz'
    have z0:wz.cell? ⟨x+1,0,none⟩=some (.int .i64 m.k):=by have:=hrz' 0 _ rfl;rw[Nat.zero_add]at this;exact this
    have z1:wz.cell? ⟨x+1,1,none⟩=some (.int .i64 ((k:Nat):Int)):=by have:=hrz' 1 _ rfl;rw[Nat.zero_add]at this;exact this
    have z2:wz.cell? ⟨x+1,2,none⟩=some (.int .i64 m.s):=by have:=hrz' 2 _ rfl;rw[Nat.zero_add]at this;exact this
    have z3:wz.cell? ⟨x+1,3,none⟩=some (.int .i64 m.f):=by have:=hrz' 3 _ rfl;rw[Nat.zero_add]at this;exact this
    have z4:wz.cell? ⟨x+1,4,none⟩=some (.int .i64 m.a):=by have:=hrz' 4 _ rfl;rw[Nat.zero_add]at this;exact this
    have z5:wz.cell? ⟨x+1,5,none⟩=some (.int .u32 (m.w:Nat)):=by have:=hrz' 5 _ rfl;rw[Nat.zero_add]at this;exact this
    have z6:wz.cell? ⟨x+1,6,none⟩=some (.int .i64 m.n):=by have:=hrz' 6 _ rfl;rw[Nat.zero_add]at this;exact this
    have z7:wz.cell? ⟨x+1,7,none⟩=some (.bool m.h):=by have:=hrz' 7 _ rfl;rw[Nat.zero_add]at this;exact this
    have z8:wz.cell? ⟨x+1,8,none⟩=some (.slice d6 m.l c6):=by have:=hrz' 8 _ rfl;rw[Nat.zero_add]at this;exact this
    have HO2:Hid (Off [x+1] w8 wz):=oz
    have hi:(prog.info? 39).map (·.size)=some A.size:=by rw[hsA];kernel_rfl
    clear hrz hrz' oz kk hA
    go_upto_region 6 with fail
    go_wp2_with (refine aJ (by kernel_rfl) 39 (.tmp 8) rfl pm 0 rfl A _ HR.out underlying39 rfl hi ?_)
    refine bodyPost_ret (v:=.tuple #[.agg (eQ m.k ((k:Nat):Int) m.s m.f m.a m.w m.n m.h d6 m.l c6),.bool false]) (by simp[results,results15,go_sem,z0,z1,z2,z3,z4,z5,z6,z7,z8]) rfl ⟨d6,c6,by rw[(HF.out.1 (by trivial)).1,(HF.out.1 (by trivial)).2],HEnd.out w8 wz HBw.out HO2.out⟩
 ·have HF:Hid (lp m xs=m.f∧su m xs=true):=by
   unfold lp su
   rw[if_neg hk,if_neg hk]
   exact⟨rfl,rfl⟩
  have g3:(m.k != 3)=true:=by simp;omega
  have g4:(m.k != 4)=true:=by simp;omega
  have kk:=k8
  clear hk
  obtain⟨A,hA⟩:∃ y,((eQ m.k ((k:Nat):Int) m.s m.f m.a m.w m.n m.h d6 m.l c6):Array Value)=y:=⟨_,rfl⟩
  have hsA:A.size=9:=by rw[← hA];rfl
  have hoA:A.all (·.oneCell')=true:=by rw[← hA];kernel_rfl
  have HR:Hid (w8.rangeAt pm 0 A.toList):=fun j v hv=>by
   rw[Nat.zero_add,ae w8 pm j _ _ _ kk,← Array.getElem?_toList]
   rw[← hA]at hv
   exact hv
  obtain⟨wz,hst,hrz,oz⟩:=dC (w:=w8) (x:=x+1) (aV (kx w8 HBw.out) rfl) hsA hoA
  have hrz':=hrz
  rw[← hA]at hrz'
  have z0:wz.cell? ⟨x+1,0,none⟩=some (.int .i64 m.k):=by have:=hrz' 0 _ rfl;rw[Nat.zero_add]at this;exact this
  have z1:wz.cell? ⟨x+1,1,none⟩=some (.int .i64 ((k:Nat):Int)):=by have:=hrz' 1 _ rfl;rw[Nat.zero_add]at this;exact this
  have z2:wz.cell? ⟨x+1,2,none⟩=some (.int .i64 m.s):=by have:=hrz' 2 _ rfl;rw[Nat.zero_add]at this;exact this
  have z3:wz.cell? ⟨x+1,3,none⟩=some (.int .i64 m.f):=by have:=hrz' 3 _ rfl;rw[Nat.zero_add]at this;exact this
  have z4:wz.cell? ⟨x+1,4,none⟩=some (.int .i64 m.a):=by have:=hrz' 4 _ rfl;rw[Nat.zero_add]at this;exact this
  have z5:wz.cell? ⟨x+1,5,none⟩=some (.int .u32 (m.w:Nat)):=by have:=hrz' 5 _ rfl;rw[Nat.zero_add]at this;exact this
  have z6:wz.cell? ⟨x+1,6,none⟩=some (.int .i64 m.n):=by have:=hrz' 6 _ rfl;rw[Nat.zero_add]at this;exact this
  have z7:wz.cell? ⟨x+1,7,none⟩=some (.bool m.h):=by have:=hrz' 7 _ rfl;rw[Nat.zero_add]at this;exact this
  have z8:wz.cell? ⟨x+1,8,none⟩=some (.slice d6 m.l c6):=by have:=hrz' 8 _ rfl;rw[Nat.zero_add]at this;exact this
  have HO2:Hid (Off [x+1] w8 wz):=oz
  have hi:(prog.info? 39).map (·.size)=some A.size:=by rw[hsA];kernel_rfl
  clear hrz hrz' oz kk hA
  go_upto_region 4 with fail
  go_wp2_with (refine aJ (by kernel_rfl) 39 (.tmp 8) rfl pm 0 rfl A _ HR.out underlying39 rfl hi ?_)
  refine bodyPost_ret (v:=.tuple #[.agg (eQ m.k ((k:Nat):Int) m.s m.f m.a m.w m.n m.h d6 m.l c6),.bool true]) (by simp[results,results15,go_sem,z0,z1,z2,z3,z4,z5,z6,z7,z8]) rfl ⟨d6,c6,by rw[HF.out.1,HF.out.2],HEnd.out w8 wz HBw.out HO2.out⟩
theorem sk:(prog.info? 3).map (fun i=>(i.zero,i.size,i.bytes))=some (some (.int .i64 0),1,8):=by kernel_rfl
theorem wF (xs:List Nat) (y:Nat):kD (xs ++ [y])=kD xs ++ [.int .i64 (y:Nat)]:=by unfold kD;rw[List.map_append];rfl
theorem oJ (w:World) (v:Value) (xs:List Nat) (y g:Nat) (h1:w.ownsRow 0 3 1 v xs.length (kD xs)) (hgc:w.heap[g]?=some (.cells #[.int .i64 (y:Nat)] 3 (0,0))) (hn:xs.length≤100000):∃ v' w',(Builtin.append_ #[60,60] 60 #[v,.slice (af g 0) 1 1]).run prog w=.ok v' w'∧Hid (w'.ownsRow 0 3 1 v' (xs ++ [y]).length (kD (xs ++ [y]))∧w.grownBy w' v.ownBlock∧(v'.ownBlock=v.ownBlock∨v'.ownBlock=some w.heap.size)):=by
 obtain⟨i0,hI,hz0,hz1,hz2⟩:=info_parts sk
 obtain⟨v',w',hr,k1,k2,_,k4⟩:=run_append_own_at (P:=prog) w 0 60 60 3 i0 (.int .i64 0) 1 8 underlying60 hI hz0 hz1 hz2 rfl (by decide) v xs.length (kD xs) h1 ⟨g,0,none⟩ 1 1 [.int .i64 (y:Nat)] rfl (by
  intro j x hu
  have e:(Addr.add ⟨g,0,none⟩ j)=⟨g,j,none⟩:=by unfold Addr.add;simp;omega
  rw[e,ae w g j _ _ _ hgc]
  simpa using hu) (fun x hx=>by rw[List.mem_singleton.1 hx];rfl) (by unfold maxLen;omega) (by omega) (Nat.zero_le _)
 refine⟨v',w',hr,?_,k2,k4⟩
 rw[List.length_append,wF]
 exact k1
theorem lE {ops:Array Oper} {o:Oper} {a:Act} {w:World} {K:Act→World→Prop} {Q:Exit→Act→World→Prop} {E:Prop}
  (hg:o.guard=none) (s x:Operand) (hop:o.op=Op.call { callee:=Callee.builtin Builtin.append,args:=#[s,x],argTypes:=#[60,60] }) (hty:o.type=60)
  (g:Nat) (xs:List Nat) (y:Nat) (v:Value) (hs:a.eval s=v) (hx:a.eval x=.slice (af g 0) 1 1) (h1:w.ownsRow 0 3 1 v xs.length (kD xs)) (hgc:w.heap[g]?=some (.cells #[.int .i64 (y:Nat)] 3 (0,0))) (hn:xs.length≤100000)
  (hK:∀ v' w',Hid (w'.ownsRow 0 3 1 v' (xs ++ [y]).length (kD (xs ++ [y]))∧w.grownBy w' v.ownBlock∧(v'.ownBlock=v.ownBlock∨v'.ownBlock=some w.heap.size))→K (a.put o.dst v') w') :
  if Region.wanted o (yielded ops a.tmps)=true then Oper.wp prog o a w K Q else E:=by
 have hw:Region.wanted o (yielded ops a.tmps)=true:=by simp[Region.wanted,hg]
 rw[if_pos hw]
 obtain⟨v',w',hr,hh⟩:=oJ w v xs y g h1 hgc hn
 unfold Oper.wp execOp
 simp only[hop,hty,resolve,invoke,builtin,Sem.run_bind,Sem.run_pure,Result.andThen_ok,List.map_toArray,List.map_cons,List.map_nil,hs,hx,hr]
 exact hK v' w' hh
theorem pa {ops:Array Oper} {rest:List Oper} {op:Oper} {a:Act} {w:World} {Q:Exit→Act→World→Prop} (hgd:op.guard=none) (s x:Operand) (hop:op.op=Op.call { callee:=Callee.builtin Builtin.append,args:=#[s,x],argTypes:=#[60,60] }) (hty:op.type=60)
  (g:Nat) (xs:List Nat) (y:Nat) (v:Value) (hs:a.eval s=v) (hx:a.eval x=.slice (af g 0) 1 1) (h1:w.ownsRow 0 3 1 v xs.length (kD xs)) (hgc:w.heap[g]?=some (.cells #[.int .i64 (y:Nat)] 3 (0,0))) (hn:xs.length≤100000)
  (hK:∀ v' w',Hid (w'.ownsRow 0 3 1 v' (xs ++ [y]).length (kD (xs ++ [y]))∧w.grownBy w' v.ownBlock∧(v'.ownBlock=v.ownBlock∨v'.ownBlock=some w.heap.size))→wpList prog ops Q rest (a.put op.dst v') w'):wpList prog ops Q (op :: rest) a w:=
 wpList_plain hgd fun _ hk=>by
  obtain⟨v',w',hr,hh⟩:=oJ w v xs y g h1 hgc hn
  unfold Oper.wp execOp
  simp only[hop,hty,resolve,invoke,builtin,Sem.run_bind,Sem.run_pure,Result.andThen_ok,List.map_toArray,List.map_cons,List.map_nil,hs,hx,hr]
  exact hk _ _ (hK v' w' hh)
theorem jK {w:World} {v:Value} {xs:List Nat} (h:(qQ v xs).T w):∃ a c,v=.slice a xs.length c∧(0<xs.length→∃ g,a=af g 0∧∀ (i y:Nat),xs[i]?=some y→w.cell? ⟨g,i,none⟩=some (.int .i64 (y:Nat))):=by
 have h:w.ownsRow 0 3 1 v xs.length (kD xs):=h
 rcases h.2 with ⟨e,hn⟩ | ⟨g,cap,cur,e,_,hg,hn,hcap,hcs,ht⟩
 ·exact⟨none,0,by rw[e,hn],fun h=>by omega⟩
 ·refine⟨_,_,e,fun _=>⟨g,rfl,fun i y hy=>?_⟩⟩
  rw[ae w g _ _ _ _ hg]
  have hl:(kD xs)[i]?=some (.int .i64 (y:Nat)):=by unfold kD;rw[List.getElem?_map,hy];rfl
  rw[← ht,List.getElem?_take]at hl
  split at hl
  ·rw[← hl,Array.getElem?_toList]
  ·cases hl
def zX (sB:Nat) (v:Nat→Value) (L:Nat→List Nat) (u:Value) (l:List Nat) (z:Nat→Thing):Nat→Thing:=fun q=>if q=0 then cS [(sB,.cells #[v 0,v 1,v 2] 60 (0,0))] else if q=1 then qQ (v 0) (L 0) else if q=2 then qQ (v 1) (L 1) else if q=3 then qQ (v 2) (L 2) else if q=4 then qQ u l else z q
section
variable {sB:Nat} {v:Nat→Value} {L:Nat→List Nat} {u:Value} {l:List Nat} {z:Nat→Thing}
theorem dh {q:Nat} (h:5≤q):zX sB v L u l z q=z q:=by
 unfold zX
 rw[if_neg (by omega),if_neg (by omega),if_neg (by omega),if_neg (by omega),if_neg (by omega)]
theorem aaL {k:Nat} (h:k<3):zX sB v L u l z (k+1)=qQ (v k) (L k):=by
 rcases (by omega:k=0∨k=1∨k=2) with rfl | rfl | rfl <;> rfl
theorem ko {q:Nat} (h:5≤q) (x:Thing):aF (zX sB v L u l z) q x=zX sB v L u l (aF z q x):=by
 funext j
 by_cases e:j=q
 ·subst e
  rw[al,dh h,al]
 ·rw[ag _ _ e]
  by_cases h5:5≤j
  ·rw[dh h5,dh h5,ag _ _ e]
  ·rcases (by omega:j=0∨j=1∨j=2∨j=3∨j=4) with rfl | rfl | rfl | rfl | rfl <;> rfl
theorem yj {i:Nat} (h:4≤i) (m:Mv) (S:Ws) (k:Nat) (a:Option Addr) (c:Nat) (ah:Option Addr) (ch:Nat) (ad:Option Addr) (cd:Nat):ri (zX sB v L u l z) i m S k a c ah ch ad cd=zX sB v L u l (ri z i m S k a c ah ch ad cd):=by
 unfold ri
 rw[ko (by omega),ko (by omega),ko (by omega)]
end
section
variable {w1 w w':World} {xa xb sB:Nat} {SA SB:Ws} {v:Nat→Value} {L:Nat→List Nat} {u:Value} {l:List Nat} {z:Nat→Thing}
theorem D2.app {z:Nat→Thing} (h:D2 w1 xa xb w SA SB z) {q:Nat} {v v':Value} {xs ys:List Nat} (hq:z q=qQ v xs) (O:w'.ownsRow 0 3 1 v' ys.length (kD ys)) (G:w.grownBy w' v.ownBlock) (E:v'.ownBlock=v.ownBlock∨v'.ownBlock=some w.heap.size):D2 w1 xa xb w' SA SB (aF z q (qQ v' ys)):=
 h.step q (qQ v' ys) (U:=v.ownBlock.toList) (by rw[hq];rfl) ⟨⟨G.os,G.tape,G.output,G.size,fun x hx hn=>G.block x hx (fun e=>hn (by rw[← e];simp))⟩,fun k hk=>by
  have hk:k ∈ v'.ownBlock.toList:=hk
  rcases E with e | e
  ·rw[e]at hk
   exact .inl hk
  ·rw[e]at hk
   simp at hk
   exact .inr (by omega)⟩ O (fun k hk=>by
  have hk:k ∈ v'.ownBlock.toList:=hk
  exact wR O (by simpa using hk))
theorem D2.addA (h:D2 w1 xa xb w SA SB (zX sB v L u l z)) {k:Nat} (hk:k<3) {v':Value} {ys:List Nat} (O:w'.ownsRow 0 3 1 v' ys.length (kD ys)) (G:w.grownBy w' (v k).ownBlock) (E:v'.ownBlock=(v k).ownBlock∨v'.ownBlock=some w.heap.size):w'.heap[sB]?=some (.cells #[v 0,v 1,v 2] 60 (0,0))∧(∃ z',(∀ q,5≤q→z' q=z q)∧D2 w1 xa xb w' SA SB z')∧D2 w1 xa xb (w'.setCell ⟨sB,k,none⟩ v') SA SB (zX sB (bf v k v') (bf L k ys) u l z):=by
 have h1:=h.app (q:=k+1) (aaL hk) O G E
 have kb:w'.heap[sB]?=some (.cells #[v 0,v 1,v 2] 60 (0,0)):=(h1.get (q:=0) (x:=cS [(sB,.cells #[v 0,v 1,v 2] 60 (0,0))]) (by rw[ag _ _ (by omega)];rfl)) _ (List.mem_cons_self ..)
 have h2:=h1.step 0 (cS [(sB,.cells #[bf v k v' 0,bf v k v' 1,bf v k v' 2] 60 (0,0))]) (w':=w'.setCell ⟨sB,k,none⟩ v') (U:=[sB]) (by rw[ag _ _ (by omega)];rfl) ⟨Off.setCell _ _ _ _,fun k hk=>.inl hk⟩ (fun p hp=>by
  rw[List.mem_singleton.1 hp]
  have:=Joins.block_setCell (i:=k) kb v'
  rcases (by omega:k=0∨k=1∨k=2) with rfl | rfl | rfl
  ·exact this
  ·exact this
  ·exact this) (fun q hq=>by
  have hq:q ∈ [sB]:=hq
  rw[List.mem_singleton.1 hq]
  have:=(Array.getElem?_eq_some_iff.1 kb).1
  have:=(Off.setCell sB k w' v').size
  omega)
 refine⟨kb,⟨_,fun q hq=>by rw[ag _ _ (by omega),dh hq],h1⟩,h2.same fun q=>?_⟩
 rcases (by omega:k=0∨k=1∨k=2) with rfl | rfl | rfl
 ·rcases (by omega:q=0∨q=1∨q=2∨q=3∨q=4∨5≤q) with rfl | rfl | rfl | rfl | rfl | h5
  ·rfl
  ·rfl
  ·rfl
  ·rfl
  ·rfl
  ·rw[ag _ _ (by omega),ag _ _ (by omega),dh h5,dh h5]
 ·rcases (by omega:q=0∨q=1∨q=2∨q=3∨q=4∨5≤q) with rfl | rfl | rfl | rfl | rfl | h5
  ·rfl
  ·rfl
  ·rfl
  ·rfl
  ·rfl
  ·rw[ag _ _ (by omega),ag _ _ (by omega),dh h5,dh h5]
 ·rcases (by omega:q=0∨q=1∨q=2∨q=3∨q=4∨5≤q) with rfl | rfl | rfl | rfl | rfl | h5
  ·rfl
  ·rfl
  ·rfl
  ·rfl
  ·rfl
  ·rw[ag _ _ (by omega),ag _ _ (by omega),dh h5,dh h5]
theorem D2.addB (h:D2 w1 xa xb w SA SB (zX sB v L u l z)) {v':Value} {ys:List Nat} (O:w'.ownsRow 0 3 1 v' ys.length (kD ys)) (G:w.grownBy w' u.ownBlock) (E:v'.ownBlock=u.ownBlock∨v'.ownBlock=some w.heap.size):D2 w1 xa xb w' SA SB (zX sB v L v' ys z):=by
 refine (h.app (q:=4) rfl O G E).same fun q=>?_
 rcases (by omega:q=0∨q=1∨q=2∨q=3∨q=4∨5≤q) with rfl | rfl | rfl | rfl | rfl | h5
 ·rfl
 ·rfl
 ·rfl
 ·rfl
 ·rfl
 ·rw[ag _ _ (by omega),dh h5,dh h5]
theorem D2.rdA (h:D2 w1 xa xb w SA SB (zX sB v L u l z)) {k:Nat} (hk:k<3):w.cell? ⟨sB,k,none⟩=some (v k)∧w.ownsRow 0 3 1 (v k) (L k).length (kD (L k)):=by
 refine⟨?_,h.get (q:=k+1) (aaL hk)⟩
 have kb:w.heap[sB]?=some (.cells #[v 0,v 1,v 2] 60 (0,0)):=(h.get (q:=0) (x:=cS [(sB,.cells #[v 0,v 1,v 2] 60 (0,0))]) rfl) _ (List.mem_cons_self ..)
 rw[ae w sB k _ _ _ kb]
 rcases (by omega:k=0∨k=1∨k=2) with rfl | rfl | rfl <;> rfl
theorem D2.rdB (h:D2 w1 xa xb w SA SB (zX sB v L u l z)):w.ownsRow 0 3 1 u l.length (kD l):=h.get (q:=4) rfl
theorem D2.back (h:D2 w1 xa xb w SA SB (zX sB v L u l z)):D2 w1 xa xb w SA SB (zX sB v L u l (fun _=>di)):=
 (h.upto 5).same fun q=>by
   rcases (by omega:q=0∨q=1∨q=2∨q=3∨q=4∨5≤q) with rfl | rfl | rfl | rfl | rfl | h5
   ·rfl
   ·rfl
   ·rfl
   ·rfl
   ·rfl
   ·rw[if_neg (by omega),dh h5]
end
end Go.Proofs.YtenilkloffnjlaaGreat
