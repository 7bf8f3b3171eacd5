/- Part 21: contracts that the proof rests on. -/
import Derived.Deep.MidRow
import Derived.Deep.Upon
import Derived.Test.YtenilkloffnjlaaGreatPkM19
set_option maxHeartbeats 64000000
set_option maxRecDepth 100000
namespace Go.Proofs.YtenilkloffnjlaaGreat
open Tryz
open Go.RowKit Go.Maps
set_option linter.unusedVariables false
theorem vw (X:Nat) (m:Mv) (d:Option Addr) (c fl:Nat) (E I:Int) (w:World) (Q1:Nat→World→Prop) (Q2:Nat→Option Addr→Nat→World→Prop) (Z:World→Prop)
  (hLay:∀ wa,wa=w.alloc (.cells (ak m m.c d c) 39)→Q1 w.heap.size wa)
  (hC:∀ x wa,Q1 x wa→Calls prog 78 #[ac X 0,.agg (ak m m.c d c)] wa fun r w'=>∃ a cap,r=.returned (.tuple #[.slice a fl cap,.int .i64 0])∧Hid (Q2 x a cap w'))
  (hX:∀ x a cap w2,Hid (Q2 x a cap w2)→w2.heap[x]?=some (.cells (ak m m.c d c) 39 (0,0)))
  (hI:m.s=1→I = -1)
  (hH:m.s=1→∀ x a cap w2,Hid (Q2 x a cap w2)→Calls prog 82 #[ac X 0,.int .i64 m.c,.slice a fl cap] w2 fun r w'=>r=.returned (.int .i64 E)∧Hid (Z w'))
  (hD:m.s≠1→∀ x a cap w2,Hid (Q2 x a cap w2)→Calls prog 83 #[ac X 0,.int .i64 m.c,.slice a fl cap] w2 fun r w'=>r=.returned (.tuple #[.int .i64 E,.int .i64 I])∧Hid (Z w')) :
  Calls prog 54 #[ac X 0,.agg (ak m m.c d c)] w fun r w'=>r=.returned (.tuple #[.int .i64 E,.int .i64 I])∧Hid (Z w'):=by
 have kA:=aA w (.cells (ak m m.c d c) 39)
 have hq:=hLay _ rfl
 obtain⟨wa,hwa⟩:∃ y,w.alloc (.cells (ak m m.c d c) 39)=y:=⟨_,rfl⟩
 rw[hwa]at kA hq
 obtain⟨x,hx⟩:∃ y,w.heap.size=y:=⟨_,rfl⟩
 rw[hx]at hq
 have kB:wa.heap[x]?=some (.cells (ak m m.c d c) 39 (0,0)):=by
  rw[← hx]
  exact kA
 have hCc:=hC x wa hq
 have q0:wa.cell? ⟨x,0,none⟩=some (.int .i64 m.k):=ae wa x 0 _ _ _ kB
 have q1:wa.cell? ⟨x,1,none⟩=some (.int .i64 m.c):=ae wa x 1 _ _ _ kB
 have q2:wa.cell? ⟨x,2,none⟩=some (.int .i64 m.s):=ae wa x 2 _ _ _ kB
 have q3:wa.cell? ⟨x,3,none⟩=some (.int .i64 m.f):=ae wa x 3 _ _ _ kB
 have q4:wa.cell? ⟨x,4,none⟩=some (.int .i64 m.a):=ae wa x 4 _ _ _ kB
 have q5:wa.cell? ⟨x,5,none⟩=some (.int .u32 (m.w:Nat)):=ae wa x 5 _ _ _ kB
 have q6:wa.cell? ⟨x,6,none⟩=some (.int .i64 m.n):=ae wa x 6 _ _ _ kB
 have q7:wa.cell? ⟨x,7,none⟩=some (.bool m.h):=ae wa x 7 _ _ _ kB
 have q8:wa.cell? ⟨x,8,none⟩=some (.slice d m.l c):=ae wa x 8 _ _ _ kB
 have HX:Hid (_):=hX
 have HE:Hid (_=wa):=hwa
 have HS:Hid (_=x):=hx
 clear kA kB hwa hx hX hC hLay hq
 by_cases hs:m.s=1
 ·have hI:=hI hs
  subst hI
  have hH:=hH hs
  have HH:Hid (_):=hH
  have q:(m.s == 1)=true:=by simpa using hs
  clear hD hs hH
  go_enter func54,ntmps54
  go_upto_region 1 with fail
  rw[HE.out,HS.out]
  go_wp2_with fail
  refine hCc.mono ?_
  rintro r w2 ⟨a,cap,rfl,H2⟩
  have kC:=HX.out x a cap w2 H2
  have d1:w2.cell? ⟨x,1,none⟩=some (.int .i64 m.c):=ae w2 x 1 _ _ _ kC
  have d2:w2.cell? ⟨x,2,none⟩=some (.int .i64 m.s):=ae w2 x 2 _ _ _ kC
  have hZ:=HH.out x a cap w2 H2
  clear kC hCc
  go_wp2_with fail
  refine hZ.mono ?_
  rintro r w3 ⟨rfl,H3⟩
  go_wp2_with fail
  go_ret2
  exact⟨rfl,H3⟩
 ·have hD:=hD hs
  have HD:Hid (_):=hD
  have q:(m.s == 1)=false:=by simpa using hs
  clear hH hs hD hI
  go_enter func54,ntmps54
  go_upto_region 1 with fail
  rw[HE.out,HS.out]
  go_wp2_with fail
  refine hCc.mono ?_
  rintro r w2 ⟨a,cap,rfl,H2⟩
  have kC:=HX.out x a cap w2 H2
  have d1:w2.cell? ⟨x,1,none⟩=some (.int .i64 m.c):=ae w2 x 1 _ _ _ kC
  have d2:w2.cell? ⟨x,2,none⟩=some (.int .i64 m.s):=ae w2 x 2 _ _ _ kC
  have hZ:=HD.out x a cap w2 H2
  clear kC hCc
  go_wp2_with fail
  refine hZ.mono ?_
  rintro r w3 ⟨rfl,H3⟩
  go_wp2_with fail
  go_ret2
  exact⟨rfl,H3⟩
def Ws.dlv (S:Ws) (m:Mv) (k:Nat):Wr:=if m.s=1 then S.toH k (S.fr m) else S.toD k (S.fr m)
theorem us (e:Nat→Nat) (w0 w:World) (t:Nat→Thing) (L:Pw) (i k:Nat) (m:Mv) (d:Option Addr) (c:Nat) (h:PW e w0 w t L) (F:Fre e t i) (hc:m.c=((k:Nat):Int)) (hk:k<L.S.n) (hF:L.S.fs.length≤80000) (hB:L.S.bg.length<4096) (h0:0≤m.f) (h1:m.f < ((L.S.bg.length:Nat):Int)) (hw:m.w<4294967296) (h4:m.k=4→cq (((L.S.bg.getD m.f.toNat cG).1:Nat):Int) m.a m.w=0)
  (hHL:(L.S.hs k).L.length<800000) (hsn:(L.S.ds k).st=4→(L.S.ds k).sn+1<4294967296) (ho:(L.S.ds k).od<4) (hL:(L.S.ds k).L.length<800000) (htm:(L.S.ds k).ms.t<9223372036854774000) (hb:∀ j,j < (az (L.S.PD k) L.S.mx 16 (L.S.ds k) (L.S.fr m).1 (L.S.fr m).2).f.1→(az (L.S.PD k) L.S.mx 16 (L.S.ds k) (L.S.fr m).1 (L.S.fr m).2).f.2 j<256) (hf:(az (L.S.PD k) L.S.mx 16 (L.S.ds k) (L.S.fr m).1 (L.S.fr m).2).f.1≤27) :
  Calls prog 54 #[ac L.x 0,.agg (ak m m.c d c)] w fun r w'=>r=.returned (.tuple #[.int .i64 (L.S.dlv m k).e,.int .i64 (L.S.dlv m k).i])∧Hid (PWn e w0 t L w' (L.S.dlv m k).S):=by
 have f0:=F i (Nat.le_refl _)
 have Fa:∀ x,Fre e (aF t (2*i+1) (cS [(x,.cells (ak m m.c d c) 39 (0,0))])) (i+1):=fun x=>F.put _
 have Fb:∀ x a cap,Fre e (aF (aF t (2*i+1) (cS [(x,.cells (ak m m.c d c) 39 (0,0))])) (2 * (i+1)+1) (dF a (L.S.fr m).1 cap (L.S.fr m).2)) (i+1+1):=fun x a cap=>(Fa x).put _
 have hdrop:∀ x a cap w' S,PWn e w0 (aF (aF t (2*i+1) (cS [(x,.cells (ak m m.c d c) 39 (0,0))])) (2 * (i+1)+1) (dF a (L.S.fr m).1 cap (L.S.fr m).2)) L w' S→PWn e w0 t L w' S:=fun x a cap w' S q=>(q.drop (Fa x (i+1) (Nat.le_refl _)).1 (Fa x (i+1) (Nat.le_refl _)).2).drop f0.1 f0.2
 refine vw L.x m d c (L.S.fr m).1 (L.S.dlv m k).e (L.S.dlv m k).i w (fun x wa=>PW e w0 wa (aF t (2*i+1) (cS [(x,.cells (ak m m.c d c) 39 (0,0))])) L) (fun x a cap w2=>PW e w0 w2 (aF (aF t (2*i+1) (cS [(x,.cells (ak m m.c d c) 39 (0,0))])) (2 * (i+1)+1) (dF a (L.S.fr m).1 cap (L.S.fr m).2)) L) (fun w'=>PWn e w0 t L w' (L.S.dlv m k).S) (fun wa ew=>?_) (fun x wa hq=>?_) (fun x a cap w2 H=>?_) (fun hs=>?_) (fun hs x a cap w2 H=>?_) (fun hs x a cap w2 H=>?_)
 ·subst ew
  refine h.layL (aC (Below.refl _ w) _) f0.1 (fun p hp=>?_) (fun p hp=>?_)
  ·simp only[List.mem_cons,List.not_mem_nil,or_false]at hp
   subst hp
   exact aA w _
  ·simp only[List.mem_cons,List.not_mem_nil,or_false]at hp
   subst hp
   exact Nat.le_refl _
 ·exact uo e w0 wa _ L (i+1) m d c hq (Fa x) h0 h1 hw h4
 ·have h9:=H.out
  refine h9.1.get (i:=2*i+1) (x:=cS [(x,.cells (ak m m.c d c) 39 (0,0))]) ?_ (x,_) (by simp)
  rw[ag _ _ (by omega),al]
 ·unfold Ws.dlv
  rw[if_pos hs]
  rfl
 ·have e1:L.S.dlv m k=L.S.toH k (L.S.fr m):=if_pos hs
  rw[e1,hc]
  refine (xi e w0 w2 _ L k (L.S.fr m) a cap (2 * (i+1)+1) H.out hk (by omega) (Fa x (i+1) (Nat.le_refl _)).1 (al _ _ _) hHL).mono ?_
  rintro r w' ⟨rfl,H3⟩
  exact⟨rfl,hdrop x a cap w' _ H3.out⟩
 ·have e1:L.S.dlv m k=L.S.toD k (L.S.fr m):=if_neg hs
  rw[e1,hc]
  refine (zh e w0 w2 _ L k (L.S.fr m) a cap (i+1+1) (2 * (i+1)+1) H.out (Fb x a cap) hk hF hB (Fa x (i+1) (Nat.le_refl _)).1 (by omega) (al _ _ _) hsn ho hL htm hb hf).mono ?_
  rintro r w' ⟨rfl,H3⟩
  exact⟨rfl,hdrop x a cap w' _ H3.out⟩
theorem vG (h d mm:Nat) (m:Mv) (da:Option Addr) (c:Nat) (E:Int) (w:World) (Z:World→Prop)
  (hH:m.s=1→∀ wx,Below w.heap.size w wx→Calls prog 84 #[ac h 0] wx fun r w'=>r=.returned (.int .i64 E)∧Hid (Z w'))
  (hD:m.s≠1→∀ wx,Below w.heap.size w wx→Calls prog 85 #[ac d 0,.int .i64 m.n] wx fun r w'=>r=.returned (.int .i64 E)∧Hid (Z w')) :
  Calls prog 58 #[.agg (ay h d mm),.agg (ak m m.c da c)] w fun r w'=>r=.returned (.int .i64 E)∧Hid (Z w'):=by
 have kA:=aA w (.cells (ay h d mm) 80)
 have bA:=aC (Below.refl _ w) (.cells (ay h d mm) 80)
 have zA:(w.alloc (.cells (ay h d mm) 80)).heap.size=w.heap.size+1:=Array.size_push ..
 obtain⟨wa,hwa⟩:∃ y,w.alloc (.cells (ay h d mm) 80)=y:=⟨_,rfl⟩
 rw[hwa]at kA bA zA
 have kB:=aA wa (.cells (ak m m.c da c) 39)
 have bB:=aC (Below.refl _ wa) (.cells (ak m m.c da c) 39)
 obtain⟨wb,hwb⟩:∃ y,wa.alloc (.cells (ak m m.c da c) 39)=y:=⟨_,rfl⟩
 rw[hwb]at kB bB
 obtain⟨x,hx⟩:∃ y,w.heap.size=y:=⟨_,rfl⟩
 obtain⟨y,hy⟩:∃ y,wa.heap.size=y:=⟨_,rfl⟩
 have kA2:wb.heap[x]?=some (.cells (ay h d mm) 80 (0,0)):=by
  rw[← hx]
  exact (bB.block _ (by omega)).trans kA
 have kB2:wb.heap[y]?=some (.cells (ak m m.c da c) 39 (0,0)):=by
  rw[← hy]
  exact kB
 have bW:Below w.heap.size w wb:=bA.trans (bB.mono bA.size)
 have q0:wb.cell? ⟨x,0,none⟩=some (ac h 0):=ae wb x 0 _ _ _ kA2
 have q1:wb.cell? ⟨x,1,none⟩=some (ac d 0):=ae wb x 1 _ _ _ kA2
 have r2:wb.cell? ⟨y,2,none⟩=some (.int .i64 m.s):=ae wb y 2 _ _ _ kB2
 have r6:wb.cell? ⟨y,6,none⟩=some (.int .i64 m.n):=ae wb y 6 _ _ _ kB2
 have HE:Hid (_=wa):=hwa
 have HE2:Hid (_=wb):=hwb
 have HS:Hid (w.heap.size=x):=hx
 have HS2:Hid (w.heap.size+1=y):=zA.symm.trans hy
 by_cases hs:m.s=1
 ·have hH:=hH hs wb bW
  have q:(m.s == 1)=true:=by simpa using hs
  clear hD hs kA kB bA bB bW zA kA2 kB2 hwa hwb hx hy
  go_enter func58,ntmps58
  go_upto_region 1 with fail
  rw[HE.out,HE2.out,HS2.out,HS.out]
  go_wp2_with fail
  refine hH.mono ?_
  rintro r w3 ⟨rfl,H3⟩
  go_wp2_with fail
  go_ret
  exact⟨rfl,H3⟩
 ·have hD:=hD hs wb bW
  have q:(m.s == 1)=false:=by simpa using hs
  clear hH hs kA kB bA bB bW zA kA2 kB2 hwa hwb hx hy
  go_enter func58,ntmps58
  go_upto_region 1 with fail
  rw[HE.out,HE2.out,HS2.out,HS.out]
  go_wp2_with fail
  refine hD.mono ?_
  rintro r w3 ⟨rfl,H3⟩
  go_wp2_with fail
  go_ret
  exact⟨rfl,H3⟩
theorem au {a b:Int} (h:a≠b):(a == b)=false:=by simpa using h
theorem bG {a b:Int} (h:a=b):(a == b)=true:=by simpa using h
theorem xc (s:Int) (w:World):Calls prog 51 #[.int .i64 s] w fun r w'=>r=.returned (.bool ((s == 1) || (s == 2)))∧w'=w:=by
 by_cases h1:s=1
 ·have q1:=bG h1
  rw[q1]
  clear h1
  go_enter func51,ntmps51
  go_wp2_with fail
  go_ret
  exact⟨rfl,rfl⟩
 ·have q1:=au h1
  obtain⟨B,q2⟩:∃ y,(s == 2)=y:=⟨_,rfl⟩
  rw[q1,q2]
  clear h1
  go_enter func51,ntmps51
  go_wp2_with fail
  go_ret
  exact⟨rfl,rfl⟩
theorem sE (k:Int) (w:World):Calls prog 50 #[.int .i64 k] w fun r w'=>r=.returned (.bool (d8 k))∧w'=w:=by
 unfold d8
 by_cases h1:k=2
 ·have q1:(k != 2)=false:=congrArg not (bG h1)
  rw[q1]
  clear h1
  go_enter func50,ntmps50
  go_wp2_with fail
  go_ret
  exact⟨rfl,rfl⟩
 ·have q1:(k != 2)=true:=congrArg not (au h1)
  obtain⟨B,q2⟩:∃ y,(k != 8)=y:=⟨_,rfl⟩
  rw[q1,q2]
  clear h1
  go_enter func50,ntmps50
  go_wp2_with fail
  go_ret
  exact⟨rfl,rfl⟩
theorem aa2 (X:Nat) (a:Option Addr) (n c:Nat) (k:Int) (w:World) (cv:w.cell? ⟨X,3,none⟩=some (.slice a n c)):Calls prog 49 #[ac X 0,.int .i64 k] w fun r w'=>r=.returned (.bool (decide (0≤k∧k < ((n:Nat):Int))))∧w'=w:=by
 obtain⟨R,hR⟩:∃ y,decide (0≤k∧k < ((n:Nat):Int))=y:=⟨_,rfl⟩
 rw[hR]
 by_cases h1:0≤k
 ·by_cases h2:k < ((n:Nat):Int)
  ·rw[decide_eq_true ⟨h1,h2⟩]at hR
   subst hR
   go_enter func49,ntmps49
   go_wp2_with fail
   go_ret
   exact⟨rfl,rfl⟩
  ·rw[decide_eq_false (fun q=>h2 q.2)]at hR
   subst hR
   go_enter func49,ntmps49
   go_wp2_with fail
   go_ret
   exact⟨rfl,rfl⟩
 ·rw[decide_eq_false (fun q=>h1 q.1)]at hR
  subst hR
  go_enter func49,ntmps49
  go_wp2_with fail
  go_ret
  exact⟨rfl,rfl⟩
def vJ (m:Mv):Int:=if m.k=5 then 1048576 else if m.k=7∧m.s=1 then 0 else 9223372036854775807
theorem iK (m:Mv) (d:Option Addr) (c:Nat) (w:World):Calls prog 79 #[.agg (ak m m.c d c)] w fun r w'=>r=.returned (.int .i64 (vJ m))∧Below w.heap.size w w':=by
 have kA:=aA w (.cells (ak m m.c d c) 39)
 have bA:=aC (Below.refl _ w) (.cells (ak m m.c d c) 39)
 obtain⟨wa,hwa⟩:∃ y,w.alloc (.cells (ak m m.c d c) 39)=y:=⟨_,rfl⟩
 rw[hwa]at kA bA
 have HB:Hid (_):=bA
 obtain⟨x,hx⟩:∃ y,w.heap.size=y:=⟨_,rfl⟩
 have HS:Hid (w.heap.size=x):=hx
 rw[hx]at kA
 have q0:wa.cell? ⟨x,0,none⟩=some (.int .i64 m.k):=ae wa x 0 _ _ _ kA
 have q2:wa.cell? ⟨x,2,none⟩=some (.int .i64 m.s):=ae wa x 2 _ _ _ kA
 have HE:Hid (_=wa):=hwa
 clear kA bA hwa hx
 unfold vJ
 by_cases h5:m.k=5
 ·rw[if_pos h5]
  have u:=bG h5
  clear h5
  go_enter func79,ntmps79
  go_upto_region 1 with fail
  rw[HE.out,HS.out]
  go_wp2_with fail
  go_ret
  exact⟨rfl,HB.out⟩
 ·rw[if_neg h5]
  have u:=au h5
  by_cases h7:m.k=7
  ·have u2:=bG h7
   by_cases h1:m.s=1
   ·rw[if_pos ⟨h7,h1⟩]
    have u3:=bG h1
    clear h5 h7 h1
    go_enter func79,ntmps79
    go_upto_region 1 with fail
    rw[HE.out,HS.out]
    go_wp2_with fail
    go_ret
    exact⟨rfl,HB.out⟩
   ·rw[if_neg (fun q=>h1 q.2)]
    have u3:=au h1
    clear h5 h7 h1
    go_enter func79,ntmps79
    go_upto_region 1 with fail
    rw[HE.out,HS.out]
    go_wp2_with fail
    go_ret
    exact⟨rfl,HB.out⟩
  ·rw[if_neg (fun q=>h7 q.1)]
   have u2:=au h7
   clear h5 h7
   go_enter func79,ntmps79
   go_upto_region 1 with fail
   rw[HE.out,HS.out]
   go_wp2_with fail
   go_ret
   exact⟨rfl,HB.out⟩
open Go.RowKit
theorem iQ (w:World) (a:Obj):(w.alloc a).heap.size=w.heap.size+1:=by rw[World.size_alloc]
theorem zo (w:World) (a b:Obj):((w.alloc a).alloc b).heap.size=w.heap.size+2:=by rw[iQ,iQ]
theorem sz3 (w:World) (a b c:Obj):(((w.alloc a).alloc b).alloc c).heap.size=w.heap.size+3:=by rw[iQ,zo]
theorem lW {w:World} {y hd dd dm:Nat} (h:w.heap[y]?=some (.cells aK 80 (0,0))):(((w.setCell ⟨y,0,none⟩ (ac hd 0)).setCell ⟨y,1,none⟩ (ac dd 0)).setCell ⟨y,2,none⟩ (ac dm 0)).heap[y]?=some (.cells (ay hd dd dm) 80 (0,0)):=Joins.block_setCell (Joins.block_setCell (Joins.block_setCell h _) _) _
theorem bP {P:Program} {md:Region.Mode} {ops:Array Oper} {Q:Exit→Act→World→Prop} {S:World→Prop} {fuel:Nat} {l:Array Bool} {a:Act} {w:World} {i:Nat} {o:Oper} (v:Value) (w':World) (hr:Region.ready md ops l=[i]) (ho:ops[i]?=some o)
  (hw:Region.wanted o (yielded ops a.tmps)=true) (hrun:(execOp a.eval o).run P w=.ok (.value v) w') (hS:S w')
  (h:wpAnyH P md ops Q S fuel (l.setIfInBounds i true) (a.put o.dst v) w'):wpAnyH P md ops Q S (fuel+1) l a w:=
 wpAnyH_all hr (by simp) (fun j hj=>by
  obtain rfl:=List.mem_singleton.1 hj
  exact dP v w' ho hw hrun ⟨hS,h⟩)
theorem aV {w:World} {b n:Nat} {cs:Array Value} {T:TypeId} (h:w.heap[b]?=some (.cells cs T (0,0))) (hn:n=cs.size):w.there b 0 n:=fun j hj=>by
 rw[Nat.zero_add]
 refine⟨?_,frozen_of_row _ _ j _ _ h⟩
 rw[ae _ _ j _ _ _ h,Array.getElem?_eq_getElem (by omega)]
 rfl
theorem bE {P:Program} {md:Region.Mode} {ops:Array Oper} {Q:Exit→Act→World→Prop} {S:World→Prop} {fuel:Nat} {l:Array Bool} {a:Act} {w:World} {i:Nat} {o:Oper} (hr:Region.ready md ops l=[i]) (ho:ops[i]?=some o)
  (hw:Region.wanted o (yielded ops a.tmps)=true) (ty:TypeId) (x y:Operand) (hop:o.op=.store ty x y) (b f:Nat) (A:Array Value) (hx:a.eval x=ac b f) (hy:a.eval y=.agg A)
  (ht:w.there b f A.size) (hi:(P.info? ty).map (·.size)=some A.size) (h1:A.all (·.oneCell')=true) (hS:S (w.setCells b f A.toList))
  (h:wpAnyH P md ops Q S fuel (l.setIfInBounds i true) (a.put o.dst undef) (w.setCells b f A.toList)):wpAnyH P md ops Q S (fuel+1) l a w:=
 wpAnyH_all hr (by simp) (fun j hj=>by
  obtain rfl:=List.mem_singleton.1 hj
  unfold wpOp
  simp only[ho,hw,if_true]
  refine .inl ?_
  exact wp_store_mid ty x y hop b f A hx hy ht hi h1 ⟨hS,h⟩)
theorem aax (X g cc n k hd dd dm:Nat) (m:Mv) (d:Option Addr) (c:Nat) (E I:Int) (w:World) (Z:World→Prop) (cv:w.cell? ⟨X,3,none⟩=some (.slice (af g 0) n cc)) (c0:w.cell? ⟨g,k*3,none⟩=some (ac hd 0)) (c1:w.cell? ⟨g,k*3+1,none⟩=some (ac dd 0)) (c2:w.cell? ⟨g,k*3+2,none⟩=some (ac dm 0)) (hlt:((k:Nat):Int) < ((n:Nat):Int)) (h2:(m.k == 2)=true)
  (hC:∀ w1,Below w.heap.size w w1→Calls prog 53 #[ac X 0,.int .i64 (k:Nat)] w1 fun r w'=>r=.returned (.tuple #[.int .i64 E,.int .i64 I])∧Hid (Z w')) :
  Calls prog 28 #[ac X 0,.agg (ak m (k:Nat) d c)] w fun r w'=>r=.returned (.tuple #[.int .i64 E,.int .i64 I])∧Hid (Z w'):=by
 have kA:=aA w (.cells (ak m (k:Nat) d c) 39)
 have bA:=aC (Below.refl _ w) (.cells (ak m (k:Nat) d c) 39)
 have sA:(w.alloc (.cells (ak m (k:Nat) d c) 39)).heap.size=w.heap.size+1:=iQ _ _
 obtain⟨wa,hwa⟩:∃ y,w.alloc (.cells (ak m (k:Nat) d c) 39)=y:=⟨_,rfl⟩
 rw[hwa]at kA bA sA
 obtain⟨x,hx⟩:∃ y,w.heap.size=y:=⟨_,rfl⟩
 have HB:Hid (Below w.heap.size w wa):=bA
 have HSz:Hid (w.heap.size=x):=hx
 rw[hx]at kA sA
 have hS:∀ w',Below wa.heap.size wa w'→w'.cell? ⟨X,3,none⟩=some (Value.slice (af g 0) n cc)∧w'.cell? ⟨x,1,none⟩=some (Value.int .i64 (k:Nat))∧w'.cell? ⟨g,k*3,none⟩=some (ac hd 0)∧w'.cell? ⟨g,k*3+1,none⟩=some (ac dd 0)∧w'.cell? ⟨g,k*3+2,none⟩=some (ac dm 0):=fun w' b=>⟨ai (ai cv bA) b,ai (ae wa x 1 _ _ _ kA) b,ai (ai c0 bA) b,ai (ai c1 bA) b,ai (ai c2 bA) b⟩
 have HS0:=hS wa.drew (Below.drew (Below.refl _ _))
 have HSS:Hid (_):=hS
 have HE:Hid (_=wa):=hwa
 have HX:Hid (wa.heap.size=x+1):=sA
 have HK:Hid (wa.heap[x]?=some (.cells (ak m (k:Nat) d c) 39 (0,0))):=kA
 clear kA bA hwa hx hS sA cv c0 c1 c2
 have HC:Hid (_):=hC
 clear hC
 go_enter func28,ntmps28
 go_upto_region 1 with fail
 rw[HE.out,HSz.out]
 refine wp_region_held_drew (S:=fun w'=>w'.cell? ⟨X,3,none⟩=some (Value.slice (af g 0) n cc)∧w'.cell? ⟨x,1,none⟩=some (Value.int .i64 (k:Nat))∧w'.cell? ⟨g,k*3,none⟩=some (ac hd 0)∧w'.cell? ⟨g,k*3+1,none⟩=some (ac dd 0)∧w'.cell? ⟨g,k*3+2,none⟩=some (ac dm 0)) (by kernel_rfl) HS0 (fun _=>?_)
 refine an (i:=0) (v:=ac X 0) ?_
 refine an (i:=1) (v:=ac X 0) ?_
 refine an (i:=2) (v:=ac X 3) ?_
 refine an (i:=3) (v:=Value.slice (af g 0) n cc) ?_
 refine an (i:=4) (v:=ac x 1) ?_
 refine an (i:=5) (v:=Value.int .i64 (k:Nat)) ?_
 refine an (i:=6) (v:=ac g (k*3)) ?_
 refine an (i:=7) (v:=Value.agg (ay hd dd dm)) ?_
 have b8:Below wa.heap.size wa (wa.drew.alloc (.cells aK 80)):=(Below.drew (Below.refl _ _)).alloc (Nat.le_refl _) _
 refine bP (i:=8) (ac (x+1) 0) (wa.drew.alloc (.cells aK 80)) (by kernel_rfl) rfl (by kernel_rfl) (by rw[← HX.out];go_simp) (HSS.out _ b8) ?_
 have s8:(wa.drew.alloc (.cells aK 80)).heap[x+1]?=some (.cells aK 80 (0,0)):=by rw[← HX.out];exact aA wa.drew _
 have b9:Below wa.heap.size wa ((((wa.drew.alloc (.cells aK 80)).setCell ⟨x+1,0,none⟩ (ac hd 0)).setCell ⟨x+1,1,none⟩ (ac dd 0)).setCell ⟨x+1,2,none⟩ (ac dm 0)):=((b8.setCell (by rw[HX.out];exact Nat.le_refl _) _).setCell (by rw[HX.out];exact Nat.le_refl _) _).setCell (by rw[HX.out];exact Nat.le_refl _) _
 have s9:=lW (hd:=hd) (dd:=dd) (dm:=dm) s8
 obtain⟨wb,hwb⟩:∃ y,((((wa.drew.alloc (.cells aK 80)).setCell ⟨x+1,0,none⟩ (ac hd 0)).setCell ⟨x+1,1,none⟩ (ac dd 0)).setCell ⟨x+1,2,none⟩ (ac dm 0))=y:=⟨_,rfl⟩
 rw[hwb]at b9 s9
 have hth:(wa.drew.alloc (.cells aK 80)).there (x+1) 0 3:=aV s8 rfl
 have hwb2:(wa.drew.alloc (.cells aK 80)).setCells (x+1) 0 (ay hd dd dm).toList=wb:=hwb
 refine bE (i:=9) (by kernel_rfl) rfl (by kernel_rfl) 80 (.tmp 6) (.tmp 16) rfl (x+1) 0 (ay hd dd dm) (by kernel_rfl) (by kernel_rfl) hth (by kernel_rfl) (by kernel_rfl) (by rw[hwb2];exact HSS.out _ b9) ?_
 rw[hwb2]
 refine wpAnyH_done (by kernel_rfl) ?_ _
 have K:=(b9.block x (by rw[HX.out];omega)).trans HK.out
 have bW:Below w.heap.size w wb:=HB.out.trans (b9.mono (by rw[HX.out,HSz.out];omega))
 have q0:wb.cell? ⟨x,0,none⟩=some (.int .i64 m.k):=ae wb x 0 _ _ _ K
 have q1:wb.cell? ⟨x,1,none⟩=some (.int .i64 (k:Nat)):=ae wb x 1 _ _ _ K
 have q2:wb.cell? ⟨x,2,none⟩=some (.int .i64 m.s):=ae wb x 2 _ _ _ K
 have q3:wb.cell? ⟨x,3,none⟩=some (.int .i64 m.f):=ae wb x 3 _ _ _ K
 have q4:wb.cell? ⟨x,4,none⟩=some (.int .i64 m.a):=ae wb x 4 _ _ _ K
 have q5:wb.cell? ⟨x,5,none⟩=some (.int .u32 (m.w:Nat)):=ae wb x 5 _ _ _ K
 have q6:wb.cell? ⟨x,6,none⟩=some (.int .i64 m.n):=ae wb x 6 _ _ _ K
 have q7:wb.cell? ⟨x,7,none⟩=some (.bool m.h):=ae wb x 7 _ _ _ K
 have q8:wb.cell? ⟨x,8,none⟩=some (.slice d m.l c):=ae wb x 8 _ _ _ K
 have p0:wb.cell? ⟨x+1,0,none⟩=some (ac hd 0):=ae wb (x+1) 0 _ _ _ s9
 have p1:wb.cell? ⟨x+1,1,none⟩=some (ac dd 0):=ae wb (x+1) 1 _ _ _ s9
 have p2:wb.cell? ⟨x+1,2,none⟩=some (ac dm 0):=ae wb (x+1) 2 _ _ _ s9
 have HWb:Hid (Below w.heap.size w wb):=bW
 have HKb:Hid (_):=K
 have HCb:Hid (_):=s9
 clear hwb hwb2 hth b9 s9 b8 s8 K bW HE HK HSS HB HS0
 have hCc:=HC.out wb HWb.out
 go_wp2_with fail
 refine hCc.mono ?_
 rintro r w2 ⟨rfl,H2⟩
 go_wp2_with fail
 go_ret2
 exact⟨rfl,H2⟩
theorem aay (X g cc n k hd dd dm:Nat) (m:Mv) (d:Option Addr) (c:Nat) (E I:Int) (w:World) (Z:World→Prop) (cv:w.cell? ⟨X,3,none⟩=some (.slice (af g 0) n cc)) (c0:w.cell? ⟨g,k*3,none⟩=some (ac hd 0)) (c1:w.cell? ⟨g,k*3+1,none⟩=some (ac dd 0)) (c2:w.cell? ⟨g,k*3+2,none⟩=some (ac dm 0)) (hlt:((k:Nat):Int) < ((n:Nat):Int)) (h2:(m.k == 2)=false) (h3:(m.k == 3)=true)
  (hC:∀ w1,Below w.heap.size w w1→Calls prog 54 #[ac X 0,.agg (ak m (k:Nat) d c)] w1 fun r w'=>r=.returned (.tuple #[.int .i64 E,.int .i64 I])∧Hid (Z w')) :
  Calls prog 28 #[ac X 0,.agg (ak m (k:Nat) d c)] w fun r w'=>r=.returned (.tuple #[.int .i64 E,.int .i64 I])∧Hid (Z w'):=by
 have kA:=aA w (.cells (ak m (k:Nat) d c) 39)
 have bA:=aC (Below.refl _ w) (.cells (ak m (k:Nat) d c) 39)
 have sA:(w.alloc (.cells (ak m (k:Nat) d c) 39)).heap.size=w.heap.size+1:=iQ _ _
 obtain⟨wa,hwa⟩:∃ y,w.alloc (.cells (ak m (k:Nat) d c) 39)=y:=⟨_,rfl⟩
 rw[hwa]at kA bA sA
 obtain⟨x,hx⟩:∃ y,w.heap.size=y:=⟨_,rfl⟩
 have HB:Hid (Below w.heap.size w wa):=bA
 have HSz:Hid (w.heap.size=x):=hx
 rw[hx]at kA sA
 have hS:∀ w',Below wa.heap.size wa w'→w'.cell? ⟨X,3,none⟩=some (Value.slice (af g 0) n cc)∧w'.cell? ⟨x,1,none⟩=some (Value.int .i64 (k:Nat))∧w'.cell? ⟨g,k*3,none⟩=some (ac hd 0)∧w'.cell? ⟨g,k*3+1,none⟩=some (ac dd 0)∧w'.cell? ⟨g,k*3+2,none⟩=some (ac dm 0):=fun w' b=>⟨ai (ai cv bA) b,ai (ae wa x 1 _ _ _ kA) b,ai (ai c0 bA) b,ai (ai c1 bA) b,ai (ai c2 bA) b⟩
 have HS0:=hS wa.drew (Below.drew (Below.refl _ _))
 have HSS:Hid (_):=hS
 have HE:Hid (_=wa):=hwa
 have HX:Hid (wa.heap.size=x+1):=sA
 have HK:Hid (wa.heap[x]?=some (.cells (ak m (k:Nat) d c) 39 (0,0))):=kA
 clear kA bA hwa hx hS sA cv c0 c1 c2
 have HC:Hid (_):=hC
 clear hC
 go_enter func28,ntmps28
 go_upto_region 1 with fail
 rw[HE.out,HSz.out]
 refine wp_region_held_drew (S:=fun w'=>w'.cell? ⟨X,3,none⟩=some (Value.slice (af g 0) n cc)∧w'.cell? ⟨x,1,none⟩=some (Value.int .i64 (k:Nat))∧w'.cell? ⟨g,k*3,none⟩=some (ac hd 0)∧w'.cell? ⟨g,k*3+1,none⟩=some (ac dd 0)∧w'.cell? ⟨g,k*3+2,none⟩=some (ac dm 0)) (by kernel_rfl) HS0 (fun _=>?_)
 refine an (i:=0) (v:=ac X 0) ?_
 refine an (i:=1) (v:=ac X 0) ?_
 refine an (i:=2) (v:=ac X 3) ?_
 refine an (i:=3) (v:=Value.slice (af g 0) n cc) ?_
 refine an (i:=4) (v:=ac x 1) ?_
 refine an (i:=5) (v:=Value.int .i64 (k:Nat)) ?_
 refine an (i:=6) (v:=ac g (k*3)) ?_
 refine an (i:=7) (v:=Value.agg (ay hd dd dm)) ?_
 have b8:Below wa.heap.size wa (wa.drew.alloc (.cells aK 80)):=(Below.drew (Below.refl _ _)).alloc (Nat.le_refl _) _
 refine bP (i:=8) (ac (x+1) 0) (wa.drew.alloc (.cells aK 80)) (by kernel_rfl) rfl (by kernel_rfl) (by rw[← HX.out];go_simp) (HSS.out _ b8) ?_
 have s8:(wa.drew.alloc (.cells aK 80)).heap[x+1]?=some (.cells aK 80 (0,0)):=by rw[← HX.out];exact aA wa.drew _
 have b9:Below wa.heap.size wa ((((wa.drew.alloc (.cells aK 80)).setCell ⟨x+1,0,none⟩ (ac hd 0)).setCell ⟨x+1,1,none⟩ (ac dd 0)).setCell ⟨x+1,2,none⟩ (ac dm 0)):=((b8.setCell (by rw[HX.out];exact Nat.le_refl _) _).setCell (by rw[HX.out];exact Nat.le_refl _) _).setCell (by rw[HX.out];exact Nat.le_refl _) _
 have s9:=lW (hd:=hd) (dd:=dd) (dm:=dm) s8
 obtain⟨wb,hwb⟩:∃ y,((((wa.drew.alloc (.cells aK 80)).setCell ⟨x+1,0,none⟩ (ac hd 0)).setCell ⟨x+1,1,none⟩ (ac dd 0)).setCell ⟨x+1,2,none⟩ (ac dm 0))=y:=⟨_,rfl⟩
 rw[hwb]at b9 s9
 have hth:(wa.drew.alloc (.cells aK 80)).there (x+1) 0 3:=aV s8 rfl
 have hwb2:(wa.drew.alloc (.cells aK 80)).setCells (x+1) 0 (ay hd dd dm).toList=wb:=hwb
 refine bE (i:=9) (by kernel_rfl) rfl (by kernel_rfl) 80 (.tmp 6) (.tmp 16) rfl (x+1) 0 (ay hd dd dm) (by kernel_rfl) (by kernel_rfl) hth (by kernel_rfl) (by kernel_rfl) (by rw[hwb2];exact HSS.out _ b9) ?_
 rw[hwb2]
 refine wpAnyH_done (by kernel_rfl) ?_ _
 have K:=(b9.block x (by rw[HX.out];omega)).trans HK.out
 have bW:Below w.heap.size w wb:=HB.out.trans (b9.mono (by rw[HX.out,HSz.out];omega))
 have q0:wb.cell? ⟨x,0,none⟩=some (.int .i64 m.k):=ae wb x 0 _ _ _ K
 have q1:wb.cell? ⟨x,1,none⟩=some (.int .i64 (k:Nat)):=ae wb x 1 _ _ _ K
 have q2:wb.cell? ⟨x,2,none⟩=some (.int .i64 m.s):=ae wb x 2 _ _ _ K
 have q3:wb.cell? ⟨x,3,none⟩=some (.int .i64 m.f):=ae wb x 3 _ _ _ K
 have q4:wb.cell? ⟨x,4,none⟩=some (.int .i64 m.a):=ae wb x 4 _ _ _ K
 have q5:wb.cell? ⟨x,5,none⟩=some (.int .u32 (m.w:Nat)):=ae wb x 5 _ _ _ K
 have q6:wb.cell? ⟨x,6,none⟩=some (.int .i64 m.n):=ae wb x 6 _ _ _ K
 have q7:wb.cell? ⟨x,7,none⟩=some (.bool m.h):=ae wb x 7 _ _ _ K
 have q8:wb.cell? ⟨x,8,none⟩=some (.slice d m.l c):=ae wb x 8 _ _ _ K
 have p0:wb.cell? ⟨x+1,0,none⟩=some (ac hd 0):=ae wb (x+1) 0 _ _ _ s9
 have p1:wb.cell? ⟨x+1,1,none⟩=some (ac dd 0):=ae wb (x+1) 1 _ _ _ s9
 have p2:wb.cell? ⟨x+1,2,none⟩=some (ac dm 0):=ae wb (x+1) 2 _ _ _ s9
 have HWb:Hid (Below w.heap.size w wb):=bW
 have HKb:Hid (_):=K
 have HCb:Hid (_):=s9
 clear hwb hwb2 hth b9 s9 b8 s8 K bW HE HK HSS HB HS0
 have hCc:=HC.out wb HWb.out
 go_wp2_with fail
 refine hCc.mono ?_
 rintro r w2 ⟨rfl,H2⟩
 go_wp2_with fail
 go_ret2
 exact⟨rfl,H2⟩
theorem aaz (X g cc n k hd dd dm:Nat) (m:Mv) (d:Option Addr) (c:Nat) (E I:Int) (w:World) (Z:World→Prop) (cv:w.cell? ⟨X,3,none⟩=some (.slice (af g 0) n cc)) (c0:w.cell? ⟨g,k*3,none⟩=some (ac hd 0)) (c1:w.cell? ⟨g,k*3+1,none⟩=some (ac dd 0)) (c2:w.cell? ⟨g,k*3+2,none⟩=some (ac dm 0)) (hlt:((k:Nat):Int) < ((n:Nat):Int)) (h2:(m.k == 2)=false) (h3:(m.k == 3)=false) (h4:(m.k == 4)=true)
  (hC:∀ w1,Below w.heap.size w w1→Calls prog 54 #[ac X 0,.agg (ak m (k:Nat) d c)] w1 fun r w'=>r=.returned (.tuple #[.int .i64 E,.int .i64 I])∧Hid (Z w')) :
  Calls prog 28 #[ac X 0,.agg (ak m (k:Nat) d c)] w fun r w'=>r=.returned (.tuple #[.int .i64 E,.int .i64 I])∧Hid (Z w'):=by
 have kA:=aA w (.cells (ak m (k:Nat) d c) 39)
 have bA:=aC (Below.refl _ w) (.cells (ak m (k:Nat) d c) 39)
 have sA:(w.alloc (.cells (ak m (k:Nat) d c) 39)).heap.size=w.heap.size+1:=iQ _ _
 obtain⟨wa,hwa⟩:∃ y,w.alloc (.cells (ak m (k:Nat) d c) 39)=y:=⟨_,rfl⟩
 rw[hwa]at kA bA sA
 obtain⟨x,hx⟩:∃ y,w.heap.size=y:=⟨_,rfl⟩
 have HB:Hid (Below w.heap.size w wa):=bA
 have HSz:Hid (w.heap.size=x):=hx
 rw[hx]at kA sA
 have hS:∀ w',Below wa.heap.size wa w'→w'.cell? ⟨X,3,none⟩=some (Value.slice (af g 0) n cc)∧w'.cell? ⟨x,1,none⟩=some (Value.int .i64 (k:Nat))∧w'.cell? ⟨g,k*3,none⟩=some (ac hd 0)∧w'.cell? ⟨g,k*3+1,none⟩=some (ac dd 0)∧w'.cell? ⟨g,k*3+2,none⟩=some (ac dm 0):=fun w' b=>⟨ai (ai cv bA) b,ai (ae wa x 1 _ _ _ kA) b,ai (ai c0 bA) b,ai (ai c1 bA) b,ai (ai c2 bA) b⟩
 have HS0:=hS wa.drew (Below.drew (Below.refl _ _))
 have HSS:Hid (_):=hS
 have HE:Hid (_=wa):=hwa
 have HX:Hid (wa.heap.size=x+1):=sA
 have HK:Hid (wa.heap[x]?=some (.cells (ak m (k:Nat) d c) 39 (0,0))):=kA
 clear kA bA hwa hx hS sA cv c0 c1 c2
 have HC:Hid (_):=hC
 clear hC
 go_enter func28,ntmps28
 go_upto_region 1 with fail
 rw[HE.out,HSz.out]
 refine wp_region_held_drew (S:=fun w'=>w'.cell? ⟨X,3,none⟩=some (Value.slice (af g 0) n cc)∧w'.cell? ⟨x,1,none⟩=some (Value.int .i64 (k:Nat))∧w'.cell? ⟨g,k*3,none⟩=some (ac hd 0)∧w'.cell? ⟨g,k*3+1,none⟩=some (ac dd 0)∧w'.cell? ⟨g,k*3+2,none⟩=some (ac dm 0)) (by kernel_rfl) HS0 (fun _=>?_)
 refine an (i:=0) (v:=ac X 0) ?_
 refine an (i:=1) (v:=ac X 0) ?_
 refine an (i:=2) (v:=ac X 3) ?_
 refine an (i:=3) (v:=Value.slice (af g 0) n cc) ?_
 refine an (i:=4) (v:=ac x 1) ?_
 refine an (i:=5) (v:=Value.int .i64 (k:Nat)) ?_
 refine an (i:=6) (v:=ac g (k*3)) ?_
 refine an (i:=7) (v:=Value.agg (ay hd dd dm)) ?_
 have b8:Below wa.heap.size wa (wa.drew.alloc (.cells aK 80)):=(Below.drew (Below.refl _ _)).alloc (Nat.le_refl _) _
 refine bP (i:=8) (ac (x+1) 0) (wa.drew.alloc (.cells aK 80)) (by kernel_rfl) rfl (by kernel_rfl) (by rw[← HX.out];go_simp) (HSS.out _ b8) ?_
 have s8:(wa.drew.alloc (.cells aK 80)).heap[x+1]?=some (.cells aK 80 (0,0)):=by rw[← HX.out];exact aA wa.drew _
 have b9:Below wa.heap.size wa ((((wa.drew.alloc (.cells aK 80)).setCell ⟨x+1,0,none⟩ (ac hd 0)).setCell ⟨x+1,1,none⟩ (ac dd 0)).setCell ⟨x+1,2,none⟩ (ac dm 0)):=((b8.setCell (by rw[HX.out];exact Nat.le_refl _) _).setCell (by rw[HX.out];exact Nat.le_refl _) _).setCell (by rw[HX.out];exact Nat.le_refl _) _
 have s9:=lW (hd:=hd) (dd:=dd) (dm:=dm) s8
 obtain⟨wb,hwb⟩:∃ y,((((wa.drew.alloc (.cells aK 80)).setCell ⟨x+1,0,none⟩ (ac hd 0)).setCell ⟨x+1,1,none⟩ (ac dd 0)).setCell ⟨x+1,2,none⟩ (ac dm 0))=y:=⟨_,rfl⟩
 rw[hwb]at b9 s9
 have hth:(wa.drew.alloc (.cells aK 80)).there (x+1) 0 3:=aV s8 rfl
 have hwb2:(wa.drew.alloc (.cells aK 80)).setCells (x+1) 0 (ay hd dd dm).toList=wb:=hwb
 refine bE (i:=9) (by kernel_rfl) rfl (by kernel_rfl) 80 (.tmp 6) (.tmp 16) rfl (x+1) 0 (ay hd dd dm) (by kernel_rfl) (by kernel_rfl) hth (by kernel_rfl) (by kernel_rfl) (by rw[hwb2];exact HSS.out _ b9) ?_
 rw[hwb2]
 refine wpAnyH_done (by kernel_rfl) ?_ _
 have K:=(b9.block x (by rw[HX.out];omega)).trans HK.out
 have bW:Below w.heap.size w wb:=HB.out.trans (b9.mono (by rw[HX.out,HSz.out];omega))
 have q0:wb.cell? ⟨x,0,none⟩=some (.int .i64 m.k):=ae wb x 0 _ _ _ K
 have q1:wb.cell? ⟨x,1,none⟩=some (.int .i64 (k:Nat)):=ae wb x 1 _ _ _ K
 have q2:wb.cell? ⟨x,2,none⟩=some (.int .i64 m.s):=ae wb x 2 _ _ _ K
 have q3:wb.cell? ⟨x,3,none⟩=some (.int .i64 m.f):=ae wb x 3 _ _ _ K
 have q4:wb.cell? ⟨x,4,none⟩=some (.int .i64 m.a):=ae wb x 4 _ _ _ K
 have q5:wb.cell? ⟨x,5,none⟩=some (.int .u32 (m.w:Nat)):=ae wb x 5 _ _ _ K
 have q6:wb.cell? ⟨x,6,none⟩=some (.int .i64 m.n):=ae wb x 6 _ _ _ K
 have q7:wb.cell? ⟨x,7,none⟩=some (.bool m.h):=ae wb x 7 _ _ _ K
 have q8:wb.cell? ⟨x,8,none⟩=some (.slice d m.l c):=ae wb x 8 _ _ _ K
 have p0:wb.cell? ⟨x+1,0,none⟩=some (ac hd 0):=ae wb (x+1) 0 _ _ _ s9
 have p1:wb.cell? ⟨x+1,1,none⟩=some (ac dd 0):=ae wb (x+1) 1 _ _ _ s9
 have p2:wb.cell? ⟨x+1,2,none⟩=some (ac dm 0):=ae wb (x+1) 2 _ _ _ s9
 have HWb:Hid (Below w.heap.size w wb):=bW
 have HKb:Hid (_):=K
 have HCb:Hid (_):=s9
 clear hwb hwb2 hth b9 s9 b8 s8 K bW HE HK HSS HB HS0
 have hCc:=HC.out wb HWb.out
 go_wp2_with fail
 refine hCc.mono ?_
 rintro r w2 ⟨rfl,H2⟩
 go_wp2_with fail
 go_ret2
 exact⟨rfl,H2⟩
theorem ut (X b:Nat) (w:World) (cb:w.cell? ⟨X,4,none⟩=some (ac b 0)):Calls prog 47 #[ac X 0] w fun r w'=>r=.returned (.bool false)∧w'=w:=by
 go_enter func47,ntmps47
 go_wp2_with fail
 go_ret
 exact⟨rfl,rfl⟩
theorem aaF (X:Nat) (m:Mv) (d:Option Addr) (c:Nat) (w:World) (h3:(m.k == 3)=false) (h4:(m.k == 4)=false) (h5:(m.k == 5)=false) (h7:(m.k == 7)=false) (h8:(m.k == 8)=false):Calls prog 52 #[ac X 0,.agg (ak m m.c d c)] w fun r w'=>r=.returned (.int .i64 0)∧Hid (Below w.heap.size w w'):=by
 have kA:=aA w (.cells (ak m m.c d c) 39)
 have bA:=aC (Below.refl _ w) (.cells (ak m m.c d c) 39)
 obtain⟨wa,hwa⟩:∃ y,w.alloc (.cells (ak m m.c d c) 39)=y:=⟨_,rfl⟩
 rw[hwa]at kA bA
 obtain⟨x,hx⟩:∃ y,w.heap.size=y:=⟨_,rfl⟩
 have HB:Hid (Below w.heap.size w wa):=bA
 have HS:Hid (w.heap.size=x):=hx
 rw[hx]at kA
 have q0:wa.cell? ⟨x,0,none⟩=some (.int .i64 m.k):=ae wa x 0 _ _ _ kA
 have q1:wa.cell? ⟨x,1,none⟩=some (.int .i64 m.c):=ae wa x 1 _ _ _ kA
 have q2:wa.cell? ⟨x,2,none⟩=some (.int .i64 m.s):=ae wa x 2 _ _ _ kA
 have q3:wa.cell? ⟨x,3,none⟩=some (.int .i64 m.f):=ae wa x 3 _ _ _ kA
 have q4:wa.cell? ⟨x,4,none⟩=some (.int .i64 m.a):=ae wa x 4 _ _ _ kA
 have q5:wa.cell? ⟨x,5,none⟩=some (.int .u32 (m.w:Nat)):=ae wa x 5 _ _ _ kA
 have q6:wa.cell? ⟨x,6,none⟩=some (.int .i64 m.n):=ae wa x 6 _ _ _ kA
 have q7:wa.cell? ⟨x,7,none⟩=some (.bool m.h):=ae wa x 7 _ _ _ kA
 have q8:wa.cell? ⟨x,8,none⟩=some (.slice d m.l c):=ae wa x 8 _ _ _ kA
 have HE:Hid (_=wa):=hwa
 clear kA hwa hx
 clear bA
 go_enter func52,ntmps52
 go_upto_region 1 with fail
 rw[HE.out,HS.out]
 go_wp2_with fail
 go_ret
 exact⟨rfl,HB⟩
theorem aaG (X:Nat) (m:Mv) (d:Option Addr) (c:Nat) (w:World) (h3:(m.k == 3)=true) (K:Int) (hC:∀ w1,Below w.heap.size w w1→Calls prog 78 #[ac X 0,.agg (ak m m.c d c)] w1 fun r w'=>∃ a n cap,r=.returned (.tuple #[.slice a n cap,.int .i64 K])∧Hid (Below w1.heap.size w1 w')):Calls prog 52 #[ac X 0,.agg (ak m m.c d c)] w fun r w'=>r=.returned (.int .i64 K)∧Hid (Below w.heap.size w w'):=by
 have kA:=aA w (.cells (ak m m.c d c) 39)
 have bA:=aC (Below.refl _ w) (.cells (ak m m.c d c) 39)
 obtain⟨wa,hwa⟩:∃ y,w.alloc (.cells (ak m m.c d c) 39)=y:=⟨_,rfl⟩
 rw[hwa]at kA bA
 obtain⟨x,hx⟩:∃ y,w.heap.size=y:=⟨_,rfl⟩
 have HB:Hid (Below w.heap.size w wa):=bA
 have HS:Hid (w.heap.size=x):=hx
 rw[hx]at kA
 have q0:wa.cell? ⟨x,0,none⟩=some (.int .i64 m.k):=ae wa x 0 _ _ _ kA
 have q1:wa.cell? ⟨x,1,none⟩=some (.int .i64 m.c):=ae wa x 1 _ _ _ kA
 have q2:wa.cell? ⟨x,2,none⟩=some (.int .i64 m.s):=ae wa x 2 _ _ _ kA
 have q3:wa.cell? ⟨x,3,none⟩=some (.int .i64 m.f):=ae wa x 3 _ _ _ kA
 have q4:wa.cell? ⟨x,4,none⟩=some (.int .i64 m.a):=ae wa x 4 _ _ _ kA
 have q5:wa.cell? ⟨x,5,none⟩=some (.int .u32 (m.w:Nat)):=ae wa x 5 _ _ _ kA
 have q6:wa.cell? ⟨x,6,none⟩=some (.int .i64 m.n):=ae wa x 6 _ _ _ kA
 have q7:wa.cell? ⟨x,7,none⟩=some (.bool m.h):=ae wa x 7 _ _ _ kA
 have q8:wa.cell? ⟨x,8,none⟩=some (.slice d m.l c):=ae wa x 8 _ _ _ kA
 have HE:Hid (_=wa):=hwa
 clear kA hwa hx
 have hCc:=hC wa HB.out
 clear hC
 clear bA
 go_enter func52,ntmps52
 go_upto_region 1 with fail
 rw[HE.out,HS.out]
 go_wp2_with fail
 refine hCc.mono ?_
 rintro r w2 ⟨a,n,cap,rfl,H2⟩
 go_wp2_with fail
 go_ret
 exact⟨rfl,HB.out.trans (H2.out.mono HB.out.size)⟩
theorem aaH (X:Nat) (m:Mv) (d:Option Addr) (c:Nat) (w:World) (h3:(m.k == 3)=false) (h4:(m.k == 4)=true) (K:Int) (hC:∀ w1,Below w.heap.size w w1→Calls prog 78 #[ac X 0,.agg (ak m m.c d c)] w1 fun r w'=>∃ a n cap,r=.returned (.tuple #[.slice a n cap,.int .i64 K])∧Hid (Below w1.heap.size w1 w')):Calls prog 52 #[ac X 0,.agg (ak m m.c d c)] w fun r w'=>r=.returned (.int .i64 K)∧Hid (Below w.heap.size w w'):=by
 have kA:=aA w (.cells (ak m m.c d c) 39)
 have bA:=aC (Below.refl _ w) (.cells (ak m m.c d c) 39)
 obtain⟨wa,hwa⟩:∃ y,w.alloc (.cells (ak m m.c d c) 39)=y:=⟨_,rfl⟩
 rw[hwa]at kA bA
 obtain⟨x,hx⟩:∃ y,w.heap.size=y:=⟨_,rfl⟩
 have HB:Hid (Below w.heap.size w wa):=bA
 have HS:Hid (w.heap.size=x):=hx
 rw[hx]at kA
 have q0:wa.cell? ⟨x,0,none⟩=some (.int .i64 m.k):=ae wa x 0 _ _ _ kA
 have q1:wa.cell? ⟨x,1,none⟩=some (.int .i64 m.c):=ae wa x 1 _ _ _ kA
 have q2:wa.cell? ⟨x,2,none⟩=some (.int .i64 m.s):=ae wa x 2 _ _ _ kA
 have q3:wa.cell? ⟨x,3,none⟩=some (.int .i64 m.f):=ae wa x 3 _ _ _ kA
 have q4:wa.cell? ⟨x,4,none⟩=some (.int .i64 m.a):=ae wa x 4 _ _ _ kA
 have q5:wa.cell? ⟨x,5,none⟩=some (.int .u32 (m.w:Nat)):=ae wa x 5 _ _ _ kA
 have q6:wa.cell? ⟨x,6,none⟩=some (.int .i64 m.n):=ae wa x 6 _ _ _ kA
 have q7:wa.cell? ⟨x,7,none⟩=some (.bool m.h):=ae wa x 7 _ _ _ kA
 have q8:wa.cell? ⟨x,8,none⟩=some (.slice d m.l c):=ae wa x 8 _ _ _ kA
 have HE:Hid (_=wa):=hwa
 clear kA hwa hx
 have hCc:=hC wa HB.out
 clear hC
 clear bA
 go_enter func52,ntmps52
 go_upto_region 1 with fail
 rw[HE.out,HS.out]
 go_wp2_with fail
 refine hCc.mono ?_
 rintro r w2 ⟨a,n,cap,rfl,H2⟩
 go_wp2_with fail
 go_ret
 exact⟨rfl,HB.out.trans (H2.out.mono HB.out.size)⟩
def zF (v n:Nat) (m:Mv) (K:Int):Int:=if 4096≤v then 150 else if m.k<1∨8<m.k then 170 else if m.c<0∨((n:Nat):Int)≤m.c then 171 else if d8 m.k=true∧m.s≠1∧m.s≠2 then 172 else K
theorem pi (X b n cc v:Nat) (g:Option Addr) (m:Mv) (d:Option Addr) (c:Nat) (w:World) (K:Int) (cb:w.cell? ⟨X,4,none⟩=some (ac b 0)) (cm:w.cell? ⟨X,5,none⟩=some (.int .i64 (v:Nat))) (cv:w.cell? ⟨X,3,none⟩=some (.slice g n cc))
  (hK:v<4096→1≤m.k→m.k≤8→0≤m.c→m.c < ((n:Nat):Int)→(d8 m.k=true→m.s=1∨m.s=2)→∀ w1,Below w.heap.size w w1→Calls prog 52 #[ac X 0,.agg (ak m m.c d c)] w1 fun r w'=>r=.returned (.int .i64 K)∧Hid (Below w1.heap.size w1 w')) :
  Calls prog 26 #[ac X 0,.agg (ak m m.c d c)] w fun r w'=>r=.returned (.int .i64 (zF v n m K))∧Hid (Below w.heap.size w w'):=by
 have kA:=aA w (.cells (ak m m.c d c) 39)
 have bA:=aC (Below.refl _ w) (.cells (ak m m.c d c) 39)
 obtain⟨wa,hwa⟩:∃ y,w.alloc (.cells (ak m m.c d c) 39)=y:=⟨_,rfl⟩
 rw[hwa]at kA bA
 obtain⟨x,hx⟩:∃ y,w.heap.size=y:=⟨_,rfl⟩
 have HB:Hid (Below w.heap.size w wa):=bA
 have HS:Hid (w.heap.size=x):=hx
 rw[hx]at kA
 have q0:wa.cell? ⟨x,0,none⟩=some (.int .i64 m.k):=ae wa x 0 _ _ _ kA
 have q1:wa.cell? ⟨x,1,none⟩=some (.int .i64 m.c):=ae wa x 1 _ _ _ kA
 have q2:wa.cell? ⟨x,2,none⟩=some (.int .i64 m.s):=ae wa x 2 _ _ _ kA
 have q3:wa.cell? ⟨x,3,none⟩=some (.int .i64 m.f):=ae wa x 3 _ _ _ kA
 have q4:wa.cell? ⟨x,4,none⟩=some (.int .i64 m.a):=ae wa x 4 _ _ _ kA
 have q5:wa.cell? ⟨x,5,none⟩=some (.int .u32 (m.w:Nat)):=ae wa x 5 _ _ _ kA
 have q6:wa.cell? ⟨x,6,none⟩=some (.int .i64 m.n):=ae wa x 6 _ _ _ kA
 have q7:wa.cell? ⟨x,7,none⟩=some (.bool m.h):=ae wa x 7 _ _ _ kA
 have q8:wa.cell? ⟨x,8,none⟩=some (.slice d m.l c):=ae wa x 8 _ _ _ kA
 have cb':=ai cb bA
 have cm':=ai cm bA
 have cv':=ai cv bA
 have HKK:Hid (_):=hK
 have hN:=ut X b wa cb'
 have hH:=aa2 X g n cc m.c wa cv'
 have hU:=sE m.k wa
 have hI:=xc m.s wa
 have HE:Hid (_=wa):=hwa
 clear kA hwa hx
 clear bA cb cm cv hK cb' cv'
 unfold zF
 by_cases h1:4096≤v
 ·rw[if_pos h1]
  have h1':((v:Nat):Int) ≥ 4096:=by omega
  clear hH hU hI
  go_enter func26,ntmps26
  go_upto_region 1 with fail
  rw[HE.out,HS.out]
  go_wp2_with fail
  refine hN.mono ?_
  rintro r w2 ⟨rfl,rfl⟩
  go_wp2_with fail
  go_ret
  exact⟨rfl,HB⟩
 rw[if_neg h1]
 have h1':((v:Nat):Int)<4096:=by omega
 by_cases h2:m.k<1
 ·rw[if_pos (.inl h2)]
  clear hH hU hI
  go_enter func26,ntmps26
  go_upto_region 1 with fail
  rw[HE.out,HS.out]
  go_wp2_with fail
  refine hN.mono ?_
  rintro r w2 ⟨rfl,rfl⟩
  go_wp2_with fail
  go_ret
  exact⟨rfl,HB⟩
 by_cases h3:8<m.k
 ·rw[if_pos (.inr h3)]
  clear hH hU hI
  go_enter func26,ntmps26
  go_upto_region 1 with fail
  rw[HE.out,HS.out]
  go_wp2_with fail
  refine hN.mono ?_
  rintro r w2 ⟨rfl,rfl⟩
  go_wp2_with fail
  go_ret
  exact⟨rfl,HB⟩
 rw[if_neg (fun q=>q.elim h2 h3)]
 by_cases h4:m.c<0∨((n:Nat):Int)≤m.c
 ·rw[if_pos h4]
  rw[decide_eq_false (by omega)]at hH
  clear h4 hU hI
  go_enter func26,ntmps26
  go_upto_region 1 with fail
  rw[HE.out,HS.out]
  go_wp2_with fail
  refine hN.mono ?_
  rintro r w2 ⟨rfl,rfl⟩
  go_wp2_with fail
  refine hH.mono ?_
  rintro r w2 ⟨rfl,rfl⟩
  go_wp2_with fail
  go_ret
  exact⟨rfl,HB⟩
 rw[if_neg h4]
 rw[decide_eq_true (by omega)]at hH
 by_cases h5:d8 m.k=true
 ·rw[h5]at hU
  by_cases h6:m.s=1∨m.s=2
  ·rw[if_neg (fun q=>h6.elim q.2.1 q.2.2)]
   rw[show ((m.s == 1) || (m.s == 2))=true by simpa using h6]at hI
   have hKc:=HKK.out (by omega) (by omega) (by omega) (by omega) (by omega) (fun _=>h6) wa HB.out
   clear h4 h5 h6
   go_enter func26,ntmps26
   go_upto_region 1 with fail
   rw[HE.out,HS.out]
   go_wp2_with fail
   refine hN.mono ?_
   rintro r w2 ⟨rfl,rfl⟩
   go_wp2_with fail
   refine hH.mono ?_
   rintro r w2 ⟨rfl,rfl⟩
   go_wp2_with fail
   refine hU.mono ?_
   rintro r w2 ⟨rfl,rfl⟩
   go_wp2_with fail
   refine hI.mono ?_
   rintro r w2 ⟨rfl,rfl⟩
   go_wp2_with fail
   refine hKc.mono ?_
   rintro r w2 ⟨rfl,H2⟩
   go_wp2_with fail
   go_ret
   exact⟨rfl,HB.out.trans (H2.out.mono HB.out.size)⟩
  ·rw[if_pos ⟨h5,fun q=>h6 (.inl q),fun q=>h6 (.inr q)⟩]
   rw[show ((m.s == 1) || (m.s == 2))=false by simpa using h6]at hI
   clear h4 h5 h6
   go_enter func26,ntmps26
   go_upto_region 1 with fail
   rw[HE.out,HS.out]
   go_wp2_with fail
   refine hN.mono ?_
   rintro r w2 ⟨rfl,rfl⟩
   go_wp2_with fail
   refine hH.mono ?_
   rintro r w2 ⟨rfl,rfl⟩
   go_wp2_with fail
   refine hU.mono ?_
   rintro r w2 ⟨rfl,rfl⟩
   go_wp2_with fail
   refine hI.mono ?_
   rintro r w2 ⟨rfl,rfl⟩
   go_wp2_with fail
   go_ret
   exact⟨rfl,HB⟩
 ·rw[if_neg (fun q=>h5 q.1)]
  rw[show d8 m.k=false by simpa using h5]at hU
  have hKc:=HKK.out (by omega) (by omega) (by omega) (by omega) (by omega) (fun q=>absurd q h5) wa HB.out
  clear h4 h5 hI
  go_enter func26,ntmps26
  go_upto_region 1 with fail
  rw[HE.out,HS.out]
  go_wp2_with fail
  refine hN.mono ?_
  rintro r w2 ⟨rfl,rfl⟩
  go_wp2_with fail
  refine hH.mono ?_
  rintro r w2 ⟨rfl,rfl⟩
  go_wp2_with fail
  refine hU.mono ?_
  rintro r w2 ⟨rfl,rfl⟩
  go_wp2_with fail
  refine hKc.mono ?_
  rintro r w2 ⟨rfl,H2⟩
  go_wp2_with fail
  go_ret
  exact⟨rfl,HB.out.trans (H2.out.mono HB.out.size)⟩
end Go.Proofs.YtenilkloffnjlaaGreat
