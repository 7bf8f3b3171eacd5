/- Part 39: contracts that the proof rests on. -/
import Derived.Test.YtenilkloffnjlaaGreatProg
import Derived.WalkKit
import Derived.ProofKit
import Derived.Lib.SmallJoins
import Derived.SizedLaws
import Derived.Deep.Slices
import Derived.OpenShut
import Derived.Test.YtenilkloffnjlaaGreatPkH37
set_option maxHeartbeats 64000000
set_option maxRecDepth 100000
namespace Go.Proofs.YtenilkloffnjlaaGreat
open Tryz
open Go.RowKit Go.Maps
set_option linter.unusedVariables false
abbrev eI (m:Mv) (c:Int) (d:Option Addr) (e:Nat) (E I:Int) (h:Sh) (g0 h0:Bool) (i0:Option Addr) (j0 k0:Nat) (x:Sd) (g1 h1:Bool) (i1:Option Addr) (j1 k1:Nat):Array Value:=#[.int .i64 m.k,.int .i64 c,.int .i64 m.s,.int .i64 m.f,.int .i64 m.a,.int .u32 (m.w:Nat),.int .i64 m.n,.bool m.h,.slice d m.l e,.int .i64 E,.int .i64 I,.int .i64 (h.st:Nat),.int .u32 (h.ss:Nat),.int .u32 (h.nm:Nat),.int .u32 (h.sn:Nat),.int .i64 (h.dc:Nat),.int .i64 h.v.lat,.bool g0,.bool h0,.slice i0 j0 k0,.int .i64 (x.st:Nat),.int .u32 (x.ss:Nat),.int .u32 (x.nm:Nat),.int .u32 (x.sn:Nat),.int .i64 (x.dc:Nat),.int .i64 x.v.lat,.bool g1,.bool h1,.slice i1 j1 k1]
theorem oM {w w1:World} (b:Below w.heap.size w w1) (X i:Nat) (u:Value):Below w.heap.size (w.setCell ⟨X,i,none⟩ u) (w1.setCell ⟨X,i,none⟩ u):=by
 refine⟨b.os,b.tape,b.output,?_,fun k hk=>?_⟩
 ·show ((w.setCell ⟨X,i,none⟩ u).heap.size) ≤ (w1.setCell ⟨X,i,none⟩ u).heap.size
  simp only[World.setCell,Array.size_modify]
  exact b.size
 ·have h:=b.block k hk
  simp only[World.setCell,Array.getElem?_modify]
  rw[h]
theorem fJ {fn:Func} {t u:Tmp} {ty:TypeId} {b o:Nat} {v:Value} (h:fn.results=#[.cell t ty,.tmp u]) (tmps:Array Value) (P:Program) (w:World) (ht:tmps.getD t undef=ac b o) (hl:(loadVar ty ⟨b,o,none⟩).run P w=.ok v w):(results fn tmps).run P w=.ok (.tuple #[v,tmps.getD u undef]) w:=by
 rw[Array.getD_eq_getD_getElem?]at ht
 simp[results,h,ht,asAddr,hl]
theorem nT (b:Nat):∀ (vs:List Value) (o:Nat) (w:World),(w.setCells b o vs).tape=w.tape∧(w.setCells b o vs).heap.size=w.heap.size
 | [],_,_=>⟨rfl,rfl⟩
 | v :: vs,o,w=>by
  have h:=nT b vs (o+1) (w.setCell ⟨b,o,none⟩ v)
  have e:(w.setCell ⟨b,o,none⟩ v).heap.size=w.heap.size:=by simp[World.setCell]
  rw[e]at h
  exact h
theorem cE (w:World) (g o:Nat) (vs:List Value):Off [g] w (w.setCells g o vs):=⟨World.os_setCells _ _ _ _,(nT _ _ _ _).1,World.output_setCells _ _ _ _,by rw[(nT g vs o w).2];exact Nat.le_refl _,fun k hk hb=>World.heap_setCells_other _ _ _ _ hk (by simpa using hb)⟩
theorem acr (X g cc n k hd dd dm v:Nat) (m:Mv) (d:Option Addr) (c:Nat) (E I:Int) (hs:Sh) (ds:Sd) (oh od:Nat) (w:World) (Q1 Q2 Q3:Option Addr→Nat→World→Prop) (Q4:Option Addr→Nat→Option Addr→Nat→World→Prop) (Q5 Z:Option Addr→Nat→Option Addr→Nat→Option Addr→Nat→World→Prop)
  (hv:v<4096) (cm:w.cell? ⟨X,5,none⟩=some (.int .i64 (v:Nat))) {xs:Array Value} {xT:TypeId} (hXb:w.heap[X]?=some (.cells xs xT (0,0)))
  (hX35:∀ a' c' w1,Hid (Q3 a' c' w1)→w.heap.size+1<w1.heap.size)
  (hRf:∀ w1,Below w.heap.size w w1→Calls prog 26 #[ac X 0,.agg (aj m (k:Nat) d c)] w1 fun r w'=>r=.returned (.int .i64 0)∧Hid (Below w1.heap.size w1 w'))
  (hCl:∀ w1,Below w.heap.size (w.setCell ⟨X,5,none⟩ (.int .i64 ((v:Nat)+1))) w1→Calls prog 27 #[.slice d m.l c] w1 fun r w'=>∃ a' c',r=.returned (.slice a' m.l c')∧Hid (Below w1.heap.size w1 w'∧Row8 w' a' m.l c' m.b∧∀ y,a'=some y→0<m.l→w1.heap.size≤y.block))
  (hLay:∀ w1 a' c',Below w.heap.size (w.setCell ⟨X,5,none⟩ (.int .i64 ((v:Nat)+1))) w1→w1.heap[w.heap.size]?=some (.cells (aj m (k:Nat) a' c') 39 (0,0))→w1.heap[w.heap.size+1]?=some (.cells dw 45 (0,0))→Row8 w1 a' m.l c' m.b→(∀ y,a'=some y→0<m.l→w.heap.size+2≤y.block)→Q1 a' c' w1)
  (hAct:∀ a' c' w1,Q1 a' c' w1→Calls prog 28 #[ac X 0,.agg (aj m (k:Nat) a' c')] w1 fun r w'=>r=.returned (.tuple #[.int .i64 E,.int .i64 I])∧Hid (Q2 a' c' w'))
  (hX2:∀ a' c' w1,Hid (Q2 a' c' w1)→w1.heap[w.heap.size]?=some (.cells (aj m (k:Nat) a' c') 39 (0,0)))
  (hNo:∀ a' c' w1,Hid (Q2 a' c' w1)→Calls prog 29 #[ac X 0,.int .i64 (k:Nat)] w1 fun r w'=>r=.returned (.tuple #[])∧Hid (Q3 a' c' w'))
  (hX3:∀ a' c' w1,Hid (Q3 a' c' w1)→w1.heap[w.heap.size]?=some (.cells (aj m (k:Nat) a' c') 39 (0,0))∧w1.cell? ⟨X,3,none⟩=some (Value.slice (af g 0) n cc)∧w1.cell? ⟨g,k*3,none⟩=some (ac hd 0)∧w1.cell? ⟨g,k*3+1,none⟩=some (ac dd 0)∧w1.cell? ⟨g,k*3+2,none⟩=some (ac dm 0))
  (hlt:((k:Nat):Int) < ((n:Nat):Int))
  (hSH:∀ a' c' w1 w2,Hid (Q3 a' c' w1)→Below w1.heap.size w1 w2→Calls prog 30 #[ac hd 0] w2 fun r w'=>∃ ah ch,r=.returned (.agg (bO hs.st hs.ss hs.nm hs.sn hs.dc hs.v.lat (au hs.v) (aE hs.v) ah oh ch))∧Hid (Below w2.heap.size w2 w'∧Q4 a' c' ah ch w'))
  (hSD:∀ a' c' ah ch w1,Q4 a' c' ah ch w1→Calls prog 31 #[ac dd 0] w1 fun r w'=>∃ ad cd,r=.returned (.agg (bO ds.st ds.ss ds.nm ds.sn ds.dc ds.v.lat (au ds.v) (aE ds.v) ad od cd))∧Hid (Below w1.heap.size w1 w'∧Q5 a' c' ah ch ad cd w'))
  (hX5:∀ a' c' ah ch ad cd w1,Q5 a' c' ah ch ad cd w1→w1.heap[w.heap.size+1]?=some (.cells dw 45 (0,0)))
  (hZ:∀ a' c' ah ch ad cd w1,Q5 a' c' ah ch ad cd w1→Z a' c' ah ch ad cd (w1.setCells (w.heap.size+1) 0 (eI m (k:Nat) a' c' E I hs (au hs.v) (aE hs.v) ah oh ch ds (au ds.v) (aE ds.v) ad od cd).toList)) :
  Calls prog 11 #[ac X 0,.agg (aj m (k:Nat) d c)] w fun r w'=>∃ a' c' ah ch ad cd,r=.returned (.tuple #[.agg (eI m (k:Nat) a' c' E I hs (au hs.v) (aE hs.v) ah oh ch ds (au ds.v) (aE ds.v) ad od cd),.int .i64 0])∧Hid (Z a' c' ah ch ad cd w'):=by
 have kA:=aB w (.cells (aj m (k:Nat) d c) 39)
 have bA:=aF (Below.refl _ w) (.cells (aj m (k:Nat) d c) 39)
 have sA:(w.alloc (.cells (aj m (k:Nat) d c) 39)).heap.size=w.heap.size+1:=io _ _
 have kB:=aB (w.alloc (.cells (aj m (k:Nat) d c) 39)) (.cells dw 45)
 have bB:=aF bA (.cells dw 45)
 have kA2:((w.alloc (.cells (aj m (k:Nat) d c) 39)).alloc (.cells dw 45)).heap[w.heap.size]?=some (.cells (aj m (k:Nat) d c) 39 (0,0)):=(Below.heap_alloc _ _ _ (by omega)).trans kA
 rw[sA]at kB
 have sB:((w.alloc (.cells (aj m (k:Nat) d c) 39)).alloc (.cells dw 45)).heap.size=w.heap.size+2:=sz2 _ _ _
 obtain⟨wa,hwa⟩:∃ z,(w.alloc (.cells (aj m (k:Nat) d c) 39)).alloc (.cells dw 45)=z:=⟨_,rfl⟩
 rw[hwa]at kB bB kA2 sB
 obtain⟨x,hx⟩:∃ z,w.heap.size=z:=⟨_,rfl⟩
 have HBa:Hid (Below w.heap.size w wa):=bB
 have HKa:Hid (_):=kA2
 have HKb:Hid (_):=kB
 have Hsz:Hid (_):=sB
 have hRc:=hRf wa bB
 have HCl:Hid (_):=hCl
 have HLay:Hid (_):=hLay
 have HAct:Hid (_):=hAct
 have HX2:Hid (_):=hX2
 have HNo:Hid (_):=hNo
 have HX3:Hid (_):=hX3
 have HSH:Hid (_):=hSH
 have HSD:Hid (_):=hSD
 have HX5:Hid (_):=hX5
 have HZ:Hid (_):=hZ
 have HCm:Hid (_):=cm
 have HXb:Hid (_):=hXb
 have HX35:Hid (_):=hX35
 have hXl:=World.block_lt_of_cell? w _ cm
 have HXl:Hid (X<w.heap.size):=hXl
 have q0:wa.cell? ⟨x,0,none⟩=some (.int .i64 m.k):=ae wa x 0 _ _ _ (hx ▸ kA2)
 have q1:wa.cell? ⟨x,1,none⟩=some (.int .i64 (k:Nat)):=ae wa x 1 _ _ _ (hx ▸ kA2)
 have q2:wa.cell? ⟨x,2,none⟩=some (.int .i64 m.s):=ae wa x 2 _ _ _ (hx ▸ kA2)
 have q3:wa.cell? ⟨x,3,none⟩=some (.int .i64 m.f):=ae wa x 3 _ _ _ (hx ▸ kA2)
 have q4:wa.cell? ⟨x,4,none⟩=some (.int .i64 m.a):=ae wa x 4 _ _ _ (hx ▸ kA2)
 have q5:wa.cell? ⟨x,5,none⟩=some (.int .u32 (m.w:Nat)):=ae wa x 5 _ _ _ (hx ▸ kA2)
 have q6:wa.cell? ⟨x,6,none⟩=some (.int .i64 m.n):=ae wa x 6 _ _ _ (hx ▸ kA2)
 have q7:wa.cell? ⟨x,7,none⟩=some (.bool m.h):=ae wa x 7 _ _ _ (hx ▸ kA2)
 have q8:wa.cell? ⟨x,8,none⟩=some (.slice d m.l c):=ae wa x 8 _ _ _ (hx ▸ kA2)
 have HE:Hid (_=wa):=hwa
 have HS:Hid (w.heap.size=x):=hx
 have hv':((v:Nat):Int)<4096:=by omega
 clear kA bA sA kB bB kA2 sB hwa hx hRf hCl hLay hAct hX2 hNo hX3 hSH hSD hX5 hZ cm hXl hv hXb hX35
 go_enter func11,ntmps11
 go_upto_region 1 with fail
 rw[HE.out,HS.out]
 go_wp2_with fail
 refine hRc.mono ?_
 rintro r w1 ⟨rfl,H1⟩
 clear hRc q0 q1 q2 q3 q4 q5 q6 q7 q8
 have b01:Below w.heap.size w w1:=HBa.out.trans (H1.out.mono HBa.out.size)
 have cm1:=ag HCm.out b01
 have fz1:w1.frozen? ⟨X,5,none⟩=false:=frozen_of_row w1 X 5 _ _ ((b01.block X HXl.out).trans HXb.out)
 have HB01:Hid (_):=b01
 clear b01
 go_upto_region 5 with fail
 have bS:=oM HB01.out X 5 (.int .i64 ((v:Nat)+1))
 have hxX:x≠X:=by have:=HXl.out;have:=HS.out;omega
 have hxX':x+1≠X:=by have:=HXl.out;have:=HS.out;omega
 have k1:(w1.setCell ⟨X,5,none⟩ (.int .i64 ((v:Nat)+1))).heap[x]?=some (.cells (aj m (k:Nat) d c) 39 (0,0)):=(heap_setCell_other w1 _ x _ hxX).trans ((H1.out.block x (by have:=Hsz.out;have:=HS.out;omega)).trans (HS.out ▸ HKa.out))
 have k2:(w1.setCell ⟨X,5,none⟩ (.int .i64 ((v:Nat)+1))).heap[x+1]?=some (.cells dw 45 (0,0)):=(heap_setCell_other w1 _ (x+1) _ hxX').trans ((H1.out.block (x+1) (by have:=Hsz.out;have:=HS.out;omega)).trans (HS.out ▸ HKb.out))
 have sS:w.heap.size+2 ≤ (w1.setCell ⟨X,5,none⟩ (.int .i64 ((v:Nat)+1))).heap.size:=by
  have:=H1.out.size
  have:=Hsz.out
  simp only[World.setCell,Array.size_modify]
  omega
 obtain⟨ws,hws⟩:∃ z,w1.setCell ⟨X,5,none⟩ (.int .i64 ((v:Nat)+1))=z:=⟨_,rfl⟩
 rw[hws]at bS k1 k2 sS
 rw[hws]
 have q8:ws.cell? ⟨x,8,none⟩=some (.slice d m.l c):=ae ws x 8 _ _ _ k1
 have hCc:=HCl.out ws bS
 have HK1:Hid (_):=And.intro bS (And.intro k1 (And.intro k2 sS))
 clear bS k1 k2 sS hws cm1 fz1 hxX hxX'
 go_wp2_with fail
 refine hCc.mono ?_
 rintro r w3 ⟨a',c',rfl,H3⟩
 clear hCc q8
 obtain⟨bS,k1,k2,sS⟩:=HK1.out
 have k3:=(H3.out.1.block x (Array.getElem?_eq_some_iff.1 k1).1).trans k1
 have k4:=(H3.out.1.block (x+1) (Array.getElem?_eq_some_iff.1 k2).1).trans k2
 have q8:w3.cell? ⟨x,8,none⟩=some (.slice d m.l c):=ae w3 x 8 _ _ _ k3
 have z8:=frozen_of_row w3 x 8 _ _ k3
 have HK3:Hid (_):=And.intro k3 k4
 clear bS k1 k2 sS k3 k4
 go_upto_region 6 with fail
 obtain⟨bS,k1,k2,sS⟩:=HK1.out
 have kq:(w3.setCell ⟨x,8,none⟩ (.slice a' m.l c')).heap[x]?=some (.cells (aj m (k:Nat) a' c') 39 (0,0)):=Joins.block_setCell HK3.out.1 _
 have kr:(w3.setCell ⟨x,8,none⟩ (.slice a' m.l c')).heap[x+1]?=some (.cells dw 45 (0,0)):=(heap_setCell_other w3 _ (x+1) _ (by show x+1≠x;omega)).trans HK3.out.2
 have bq:Below w.heap.size (w.setCell ⟨X,5,none⟩ (.int .i64 ((v:Nat)+1))) (w3.setCell ⟨x,8,none⟩ (.slice a' m.l c')):=(bS.trans (H3.out.1.mono (by omega))).setCell (by show w.heap.size≤x;rw[HS.out];exact Nat.le_refl _) _
 have nq:∀ z,a'=some z→0<m.l→w.heap.size+2≤z.block:=fun z hz hl=>Nat.le_trans sS (H3.out.2.2 z hz hl)
 have rq:Row8 (w3.setCell ⟨x,8,none⟩ (.slice a' m.l c')) a' m.l c' m.b:=Row8.offY H3.out.2.1 (Off.setCell x 8 w3 _) (fun z hz hl hm=>by have:=nq z hz hl;have:=HS.out;simp at hm;omega)
 obtain⟨wq,hwq⟩:∃ z,w3.setCell ⟨x,8,none⟩ (.slice a' m.l c')=z:=⟨_,rfl⟩
 rw[hwq]at kq kr bq rq
 rw[hwq]
 have hq1:=HLay.out wq a' c' bq (by rw[HS.out];exact kq) (by rw[HS.out];exact kr) rq nq
 have hAc:=HAct.out a' c' wq hq1
 have q0:wq.cell? ⟨x,0,none⟩=some (.int .i64 m.k):=ae wq x 0 _ _ _ kq
 have q1:wq.cell? ⟨x,1,none⟩=some (.int .i64 (k:Nat)):=ae wq x 1 _ _ _ kq
 have q2:wq.cell? ⟨x,2,none⟩=some (.int .i64 m.s):=ae wq x 2 _ _ _ kq
 have q3:wq.cell? ⟨x,3,none⟩=some (.int .i64 m.f):=ae wq x 3 _ _ _ kq
 have q4:wq.cell? ⟨x,4,none⟩=some (.int .i64 m.a):=ae wq x 4 _ _ _ kq
 have q5:wq.cell? ⟨x,5,none⟩=some (.int .u32 (m.w:Nat)):=ae wq x 5 _ _ _ kq
 have q6:wq.cell? ⟨x,6,none⟩=some (.int .i64 m.n):=ae wq x 6 _ _ _ kq
 have q7:wq.cell? ⟨x,7,none⟩=some (.bool m.h):=ae wq x 7 _ _ _ kq
 have q8:wq.cell? ⟨x,8,none⟩=some (.slice a' m.l c'):=ae wq x 8 _ _ _ kq
 clear bS k1 k2 sS kq kr bq nq rq hwq hq1 z8
 go_wp2_with fail
 refine hAc.mono ?_
 rintro r w4 ⟨rfl,H4⟩
 clear hAc q0 q1 q2 q3 q4 q5 q6 q7 q8
 have k4:=HX2.out a' c' w4 H4
 rw[HS.out]at k4
 have q1:w4.cell? ⟨x,1,none⟩=some (.int .i64 (k:Nat)):=ae w4 x 1 _ _ _ k4
 have hNc:=HNo.out a' c' w4 H4
 clear k4
 go_wp2_with fail
 refine hNc.mono ?_
 rintro r w5 ⟨rfl,H5⟩
 clear hNc q1
 obtain⟨k5,cv,c0,c1,c2⟩:=HX3.out a' c' w5 H5
 rw[HS.out]at k5
 have hS:∀ w',Below w5.heap.size w5 w'→w'.cell? ⟨X,3,none⟩=some (Value.slice (af g 0) n cc)∧w'.cell? ⟨x,1,none⟩=some (Value.int .i64 (k:Nat))∧w'.cell? ⟨g,k*3,none⟩=some (ac hd 0)∧w'.cell? ⟨g,k*3+1,none⟩=some (ac dd 0)∧w'.cell? ⟨g,k*3+2,none⟩=some (ac dm 0):=fun w' b=>⟨ag cv b,ag (ae w5 x 1 _ _ _ k5) b,ag c0 b,ag c1 b,ag c2 b⟩
 have HS0:=hS w5.drew (Below.drew (Below.refl _ _))
 have HSS:Hid (_):=hS
 obtain⟨y,hy⟩:∃ z,w5.heap.size=z:=⟨_,rfl⟩
 have HY:Hid (w5.heap.size=y):=hy
 have HK5:Hid (_):=k5
 have HX6:Hid (x+1<y):=by
  have:=HX35.out a' c' w5 H5
  rw[HS.out,hy]at this
  exact this
 clear k5 cv c0 c1 c2 hS hy
 go_upto_region 8 with fail
 refine wp_region_held_drew (S:=fun w'=>w'.cell? ⟨X,3,none⟩=some (Value.slice (af g 0) n cc)∧w'.cell? ⟨x,1,none⟩=some (Value.int .i64 (k:Nat))∧w'.cell? ⟨g,k*3,none⟩=some (ac hd 0)∧w'.cell? ⟨g,k*3+1,none⟩=some (ac dd 0)∧w'.cell? ⟨g,k*3+2,none⟩=some (ac dm 0)) (by kernel_rfl) HS0 (fun _=>?_)
 refine aq (i:=0) (v:=ac X 0) ?_
 refine aq (i:=1) (v:=ac X 0) ?_
 refine aq (i:=2) (v:=ac X 3) ?_
 refine aq (i:=3) (v:=Value.slice (af g 0) n cc) ?_
 refine aq (i:=4) (v:=ac x 1) ?_
 refine aq (i:=5) (v:=Value.int .i64 (k:Nat)) ?_
 refine aq (i:=6) (v:=ac g (k*3)) ?_
 refine aq (i:=7) (v:=Value.agg (aA hd dd dm)) ?_
 have b8:Below w5.heap.size w5 (w5.drew.alloc (.cells aQ 80)):=(Below.drew (Below.refl _ _)).alloc (Nat.le_refl _) _
 refine cC (i:=8) (ac y 0) (w5.drew.alloc (.cells aQ 80)) (by kernel_rfl) rfl (by kernel_rfl) (by rw[← HY.out];go_simp) (HSS.out _ b8) ?_
 have s8:(w5.drew.alloc (.cells aQ 80)).heap[y]?=some (.cells aQ 80 (0,0)):=by rw[← HY.out];exact aB w5.drew _
 have b9:Below w5.heap.size w5 ((((w5.drew.alloc (.cells aQ 80)).setCell ⟨y,0,none⟩ (ac hd 0)).setCell ⟨y,1,none⟩ (ac dd 0)).setCell ⟨y,2,none⟩ (ac dm 0)):=((b8.setCell (by rw[HY.out];exact Nat.le_refl _) _).setCell (by rw[HY.out];exact Nat.le_refl _) _).setCell (by rw[HY.out];exact Nat.le_refl _) _
 have s9:=nr (hd:=hd) (dd:=dd) (dm:=dm) s8
 obtain⟨wb,hwb⟩:∃ z,((((w5.drew.alloc (.cells aQ 80)).setCell ⟨y,0,none⟩ (ac hd 0)).setCell ⟨y,1,none⟩ (ac dd 0)).setCell ⟨y,2,none⟩ (ac dm 0))=z:=⟨_,rfl⟩
 rw[hwb]at b9 s9
 have hth:(w5.drew.alloc (.cells aQ 80)).there y 0 3:=bI s8 rfl
 have hwb2:(w5.drew.alloc (.cells aQ 80)).setCells y 0 (aA hd dd dm).toList=wb:=hwb
 refine bJ (i:=9) (by kernel_rfl) rfl (by kernel_rfl) 80 (.tmp 9) (.tmp 45) rfl y 0 (aA hd dd dm) (by kernel_rfl) (by kernel_rfl) hth (by kernel_rfl) (by kernel_rfl) (by rw[hwb2];exact HSS.out _ b9) ?_
 rw[hwb2]
 refine wpAnyH_done (by kernel_rfl) ?_ _
 have HB9:Hid (_):=b9
 have HS9:Hid (_):=s9
 clear hwb hwb2 hth b9 s9 b8 s8 HSS HS0
 have Kb:=(HB9.out.block x (Array.getElem?_eq_some_iff.1 HK5.out).1).trans HK5.out
 have HLX:Hid (x<wb.heap.size):=(Array.getElem?_eq_some_iff.1 Kb).1
 have HYX:Hid (y≠x+1):=by have:=HX6.out;show y≠x+1;omega
 have hS9:∀ w',Below wb.heap.size wb w'→w'.cell? ⟨x,0,none⟩=some (Value.int .i64 m.k)∧w'.cell? ⟨x,1,none⟩=some (Value.int .i64 (k:Nat))∧w'.cell? ⟨x,2,none⟩=some (Value.int .i64 m.s)∧w'.cell? ⟨x,3,none⟩=some (Value.int .i64 m.f)∧w'.cell? ⟨x,4,none⟩=some (Value.int .i64 m.a)∧w'.cell? ⟨x,5,none⟩=some (Value.int .u32 (m.w:Nat))∧w'.cell? ⟨x,6,none⟩=some (Value.int .i64 m.n)∧w'.cell? ⟨x,7,none⟩=some (Value.bool m.h)∧w'.cell? ⟨x,8,none⟩=some (Value.slice a' m.l c')∧w'.cell? ⟨y,0,none⟩=some (ac hd 0)∧w'.cell? ⟨y,1,none⟩=some (ac dd 0):=fun w' b=>⟨ag (ae wb x 0 _ _ _ Kb) b,ag (ae wb x 1 _ _ _ Kb) b,ag (ae wb x 2 _ _ _ Kb) b,ag (ae wb x 3 _ _ _ Kb) b,ag (ae wb x 4 _ _ _ Kb) b,ag (ae wb x 5 _ _ _ Kb) b,ag (ae wb x 6 _ _ _ Kb) b,ag (ae wb x 7 _ _ _ Kb) b,ag (ae wb x 8 _ _ _ Kb) b,ag (ae wb y 0 _ _ _ HS9.out) b,ag (ae wb y 1 _ _ _ HS9.out) b⟩
 have HT0:=hS9 wb.drew (Below.drew (Below.refl _ _))
 have HSS9:Hid (_):=hS9
 clear hS9 Kb
 go_wp2_with fail
 refine wp_region_held_drew (S:=fun w'=>w'.cell? ⟨x,0,none⟩=some (Value.int .i64 m.k)∧w'.cell? ⟨x,1,none⟩=some (Value.int .i64 (k:Nat))∧w'.cell? ⟨x,2,none⟩=some (Value.int .i64 m.s)∧w'.cell? ⟨x,3,none⟩=some (Value.int .i64 m.f)∧w'.cell? ⟨x,4,none⟩=some (Value.int .i64 m.a)∧w'.cell? ⟨x,5,none⟩=some (Value.int .u32 (m.w:Nat))∧w'.cell? ⟨x,6,none⟩=some (Value.int .i64 m.n)∧w'.cell? ⟨x,7,none⟩=some (Value.bool m.h)∧w'.cell? ⟨x,8,none⟩=some (Value.slice a' m.l c')∧w'.cell? ⟨y,0,none⟩=some (ac hd 0)∧w'.cell? ⟨y,1,none⟩=some (ac dd 0)) (by kernel_rfl) HT0 (fun _=>?_)
 refine aq (i:=0) (v:=Value.agg (aj m (k:Nat) a' c')) ?_
 refine aq (i:=1) (v:=Value.int .i64 E) ?_
 refine aq (i:=2) (v:=Value.int .i64 I) ?_
 refine aq (i:=3) (v:=ac y 0) ?_
 refine aq (i:=4) (v:=ac hd 0) ?_
 refine aq (i:=6) (v:=ac y 1) ?_
 refine aq (i:=7) (v:=ac dd 0) ?_
 refine aI (i:=5) 30 #[ac hd 0] (by kernel_rfl) rfl (by kernel_rfl) (by go_simp) ?_
 refine (HSH.out a' c' w5 wb.drew H5 (HB9.out.trans (Below.drew (Below.refl _ _)))).mono ?_
 rintro r w6 ⟨ah,ch,rfl,H6⟩
 have b6:Below wb.heap.size wb w6:=(Below.drew (Below.refl _ _)).trans H6.out.1
 refine⟨_,rfl,HSS9.out w6 b6,?_⟩
 refine aI (i:=8) 31 #[ac dd 0] (by kernel_rfl) rfl (by kernel_rfl) (by go_simp) ?_
 refine (HSD.out a' c' ah ch w6 H6.out.2).mono ?_
 rintro r w7 ⟨ad,cd,rfl,H7⟩
 have b7:Below wb.heap.size wb w7:=b6.trans (H7.out.1.mono b6.size)
 have HT7:=HSS9.out w7 b7
 refine⟨_,rfl,HT7,?_⟩
 refine aq (i:=9) (v:=Value.agg (eI m (k:Nat) a' c' E I hs (au hs.v) (aE hs.v) ah oh ch ds (au ds.v) (aE ds.v) ad od cd)) ?_
 have hth:w7.there (x+1) 0 (eI m (k:Nat) a' c' E I hs (au hs.v) (aE hs.v) ah oh ch ds (au ds.v) (aE ds.v) ad od cd).size:=bI (by have:=HX5.out a' c' ah ch ad cd w7 H7.out.2;rw[HS.out]at this;exact this) (by kernel_rfl)
 have hrg:=World.rangeAt_setCells_same w7 (x+1) 0 (eI m (k:Nat) a' c' E I hs (au hs.v) (aE hs.v) ah oh ch ds (au ds.v) (aE ds.v) ad od cd).toList hth
 have hzz:=HZ.out a' c' ah ch ad cd w7 H7.out.2
 rw[HS.out]at hzz
 have o9:=cE w7 (x+1) 0 (eI m (k:Nat) a' c' E I hs (au hs.v) (aE hs.v) ah oh ch ds (au ds.v) (aE ds.v) ad od cd).toList
 have hS10:(w7.setCells (x+1) 0 (eI m (k:Nat) a' c' E I hs (au hs.v) (aE hs.v) ah oh ch ds (au ds.v) (aE ds.v) ad od cd).toList).cell? ⟨x,0,none⟩=some (Value.int .i64 m.k)∧(w7.setCells (x+1) 0 (eI m (k:Nat) a' c' E I hs (au hs.v) (aE hs.v) ah oh ch ds (au ds.v) (aE ds.v) ad od cd).toList).cell? ⟨x,1,none⟩=some (Value.int .i64 (k:Nat))∧(w7.setCells (x+1) 0 (eI m (k:Nat) a' c' E I hs (au hs.v) (aE hs.v) ah oh ch ds (au ds.v) (aE ds.v) ad od cd).toList).cell? ⟨x,2,none⟩=some (Value.int .i64 m.s)∧(w7.setCells (x+1) 0 (eI m (k:Nat) a' c' E I hs (au hs.v) (aE hs.v) ah oh ch ds (au ds.v) (aE ds.v) ad od cd).toList).cell? ⟨x,3,none⟩=some (Value.int .i64 m.f)∧(w7.setCells (x+1) 0 (eI m (k:Nat) a' c' E I hs (au hs.v) (aE hs.v) ah oh ch ds (au ds.v) (aE ds.v) ad od cd).toList).cell? ⟨x,4,none⟩=some (Value.int .i64 m.a)∧(w7.setCells (x+1) 0 (eI m (k:Nat) a' c' E I hs (au hs.v) (aE hs.v) ah oh ch ds (au ds.v) (aE ds.v) ad od cd).toList).cell? ⟨x,5,none⟩=some (Value.int .u32 (m.w:Nat))∧(w7.setCells (x+1) 0 (eI m (k:Nat) a' c' E I hs (au hs.v) (aE hs.v) ah oh ch ds (au ds.v) (aE ds.v) ad od cd).toList).cell? ⟨x,6,none⟩=some (Value.int .i64 m.n)∧(w7.setCells (x+1) 0 (eI m (k:Nat) a' c' E I hs (au hs.v) (aE hs.v) ah oh ch ds (au ds.v) (aE ds.v) ad od cd).toList).cell? ⟨x,7,none⟩=some (Value.bool m.h)∧(w7.setCells (x+1) 0 (eI m (k:Nat) a' c' E I hs (au hs.v) (aE hs.v) ah oh ch ds (au ds.v) (aE ds.v) ad od cd).toList).cell? ⟨x,8,none⟩=some (Value.slice a' m.l c')∧(w7.setCells (x+1) 0 (eI m (k:Nat) a' c' E I hs (au hs.v) (aE hs.v) ah oh ch ds (au ds.v) (aE ds.v) ad od cd).toList).cell? ⟨y,0,none⟩=some (ac hd 0)∧(w7.setCells (x+1) 0 (eI m (k:Nat) a' c' E I hs (au hs.v) (aE hs.v) ah oh ch ds (au ds.v) (aE ds.v) ad od cd).toList).cell? ⟨y,1,none⟩=some (ac dd 0):=by
  obtain⟨u0,u1,u2,u3,u4,u5,u6,u7,u8,u9,u10⟩:=HT7
  have lx:x<w7.heap.size:=Nat.lt_of_lt_of_le HLX.out b7.size
  have ly:y<w7.heap.size:=World.block_lt_of_cell? w7 ⟨y,0,none⟩ u9
  have nx:x ∉ [x+1]:=by simp
  have ny:y ∉ [x+1]:=by have:=HYX.out;simp;omega
  have fx:∀ i v,w7.cell? ⟨x,i,none⟩=some v→(w7.setCells (x+1) 0 (eI m (k:Nat) a' c' E I hs (au hs.v) (aE hs.v) ah oh ch ds (au ds.v) (aE ds.v) ad od cd).toList).cell? ⟨x,i,none⟩=some v:=fun i v h=>(World.cell?_of_block (w:=w7) (a:=⟨x,i,none⟩) (o9.block x lx nx)).trans h
  have fy:∀ i v,w7.cell? ⟨y,i,none⟩=some v→(w7.setCells (x+1) 0 (eI m (k:Nat) a' c' E I hs (au hs.v) (aE hs.v) ah oh ch ds (au ds.v) (aE ds.v) ad od cd).toList).cell? ⟨y,i,none⟩=some v:=fun i v h=>(World.cell?_of_block (w:=w7) (a:=⟨y,i,none⟩) (o9.block y ly ny)).trans h
  exact⟨fx _ _ u0,fx _ _ u1,fx _ _ u2,fx _ _ u3,fx _ _ u4,fx _ _ u5,fx _ _ u6,fx _ _ u7,fx _ _ u8,fy _ _ u9,fy _ _ u10⟩
 obtain⟨wz,hwz⟩:∃ z,w7.setCells (x+1) 0 (eI m (k:Nat) a' c' E I hs (au hs.v) (aE hs.v) ah oh ch ds (au ds.v) (aE ds.v) ad od cd).toList=z:=⟨_,rfl⟩
 rw[hwz]at hrg hzz hS10
 refine bJ (i:=10) (by kernel_rfl) rfl (by kernel_rfl) 45 (.tmp 4) (.tmp 55) rfl (x+1) 0 (eI m (k:Nat) a' c' E I hs (au hs.v) (aE hs.v) ah oh ch ds (au ds.v) (aE ds.v) ad od cd) (by kernel_rfl) (by kernel_rfl) hth (by kernel_rfl) (by kernel_rfl) (by rw[hwz];exact hS10) ?_
 rw[hwz]
 refine aq (i:=11) (v:=Value.int .i64 0) ?_
 refine wpAnyH_done (by kernel_rfl) ?_ _
 have hl:(loadVar 45 ⟨x+1,0,none⟩).run prog wz=.ok (.agg (eI m (k:Nat) a' c' E I hs (au hs.v) (aE hs.v) ah oh ch ds (au ds.v) (aE ds.v) ad od cd)) wz:=run_loadVar_mid wz (x+1) 0 45 (eI m (k:Nat) a' c' E I hs (au hs.v) (aE hs.v) ah oh ch ds (au ds.v) (aE ds.v) ad od cd).toList _ hrg underlying45 rfl (by kernel_rfl)
 have HF:Hid (_):=hzz
 clear hth hrg hzz o9 hS10 hwz HT7 b7 b6 HT0
 go_wp2_with fail
 refine bodyPost_ret (v:=.tuple #[.agg (eI m (k:Nat) a' c' E I hs (au hs.v) (aE hs.v) ah oh ch ds (au ds.v) (aE ds.v) ad od cd),.int .i64 0]) ((fJ (t:=4) (u:=5) (ty:=45) rfl _ prog wz (by kernel_rfl) hl).trans (by kernel_rfl)) rfl ?_
 exact⟨a',c',ah,ch,ad,cd,rfl,HF.out⟩
def Ws.up (S:Ws):Ws:={ S with mv:=S.mv+1 }
def Pw.toM (L:Pw):Pw:={ L with S:=L.S.up }
theorem Pw.toM_t (L:Pw):∀ i,i≠0→L.toM.t i=L.t i:=fun i hi=>by
 unfold Pw.t
 rw[if_neg hi,if_neg hi]
 rfl
theorem j4 {w:World} {B T size n x:Nat} {v:Value} {xs:List Value} {cs:Array Value} {T':TypeId} (h:w.ownsRow B T size v n xs) (hx:w.heap[x]?=some (.cells cs T' (0,0))) (hT:T≠T'):∀ k,v.ownBlock=some k→k ∉ [x]:=fun k hk hm=>by
 simp at hm
 subst hm
 obtain⟨c,hc⟩:=aT h hk
 rw[hx]at hc
 injection hc with hc
 injection hc with _ h2 _
 exact hT h2.symm
theorem WB.up {L:Pw} {w:World} (h:WB L.core w):WB L.toM.core (w.setCell ⟨L.x,5,none⟩ (.int .i64 ((L.S.mv:Nat)+1))):=by
 have o:=Off.setCell L.x 5 w (.int .i64 ((L.S.mv:Nat)+1))
 have hb:=h.blk
 refine⟨?_,bG h.r0 o (j4 h.r0 hb (by decide)),bG h.r1 o (j4 h.r1 hb (by decide)),bG h.rc o (j4 h.rc hb (by decide)),bG h.rf o (j4 h.rf hb (by decide)),h.dl,fun i f d hf hd=>?_,fun k hk=>?_⟩
 ·exact Joins.block_setCell (w:=w) (g:=L.x) (i:=5) hb (.int .i64 ((L.S.mv:Nat)+1))
 ·obtain⟨R,hV⟩:=h.dr i f d hf hd
  exact⟨R.offY o (fun y hy hn hm=>by simp at hm;exact (h.vl _ (hV y hy hn)).2.1 hm),hV⟩
 ·exact⟨Nat.lt_of_lt_of_le (h.vl k hk).1 o.size,(h.vl k hk).2⟩
theorem PW.stepM {e:Nat→Nat} {w0 w:World} {t:Nat→Thing} {L:Pw} (h:PW e w0 w t L):PWn e w0 t L (w.setCell ⟨L.x,5,none⟩ (.int .i64 ((L.S.mv:Nat)+1))) L.S.up:=by
 have hw:=(h.2.wb h.1).up
 refine⟨_,L.toM,⟨?_,h.2.put 0 (L.toM_t)⟩,rfl,⟨rfl,rfl,rfl,rfl,rfl,rfl⟩,Els.put _ _ _ _⟩
 refine h.1.step (e 0) (wT L.toM.core) (U:=L.core.U) (by rw[h.2.2];rfl) ⟨(Off.setCell L.x 5 w _).more (fun k hk=>?_),fun k hk=>.inl hk⟩ hw (fun k hk=>hw.lt k hk)
 simp at hk
 subst hk
 simp[Wc.U,Pw.core]
theorem PW.layD {e:Nat→Nat} {w0 w:World} {t:Nat→Thing} {L:Pw} (h:PW e w0 w t L) {i:Nat} (hi:∀ j,i≠e j) {a:Option Addr} {len cap:Nat} {bs:Nat→Nat} (R:Row8 w a len cap bs) (hge:∀ y,a=some y→0<len→w0.heap.size≤y.block) (hd:∀ y,a=some y→0<len→∀ j,j≠i→y.block ∉ (t j).U):PW e w0 w (aJ t i (fi a len cap bs)) L:=by
 have hu:∀ k,k ∈ (fi a len cap bs).U→∃ y,a=some y∧0<len∧y.block=k:=fun k hk=>by
  have hk:k ∈ (if 0<len then a.toList.map (·.block) else []):=hk
  split at hk
  ·next hl=>
   simp only[List.mem_map,Option.mem_toList]at hk
   obtain⟨y,hy,e⟩:=hk
   exact⟨y,hy,hl,e⟩
  ·cases hk
 refine⟨h.1.turn i _ (Off.refl _ _) R (fun k hk=>?_) (fun k hk j hj hm=>?_),h.2.1,fun j=>?_⟩
 ·obtain⟨y,hy,hl,rfl⟩:=hu k hk
  have c0:=R.src y hy 0 hl
  have hb:(y.add 0).block=y.block:=by unfold Addr.add;split <;> rfl
  have hlt:=World.block_lt_of_cell? w _ c0
  rw[hb]at hlt
  exact⟨hge y hy hl,hlt⟩
 ·obtain⟨y,hy,hl,rfl⟩:=hu k hk
  exact hd y hy hl j hj hm
 ·rw[an _ _ (fun q=>hi j q.symm)]
  exact h.2.2 j
theorem Els.putB {e:Nat→Nat} {t t':Nat→Thing} (l:Els e t t') (i:Nat) (x:Thing):Els e (aJ t i x) (aJ t' i x):=fun q hq=>by
 by_cases z:q=i
 ·subst z
  rw[al,al]
 ·rw[an _ _ z,an _ _ z]
  exact l q hq
theorem PWn.lay {e:Nat→Nat} {w0 w:World} {t:Nat→Thing} {L:Pw} {S:Ws} {w1:World} (h:PWn e w0 t L w1 S) (b:Below w1.heap.size w1 w) {i:Nat} (hi:∀ j,i≠e j) {a:Option Addr} {len cap:Nat} {bs:Nat→Nat} (R:Row8 w a len cap bs) (bV:∀ y,a=some y→0<len→w1.heap.size≤y.block):PWn e w0 (aJ t i (fi a len cap bs)) L w S:=by
 obtain⟨t1,L1,h1,hs,hx,he⟩:=h
 exact⟨_,L1,h1.lay b hi R bV,hs,hx,he.putB _ _⟩
theorem ue {e:Nat→Nat} {w0 w:World} {t:Nat→Thing} {L:Pw} {S:Ws} (k:Nat) (h:PWn e w0 t L w S) (hk:k<S.n) (hF:S.fs.length≤90000):Calls prog 29 #[ac L.x 0,.int .i64 (k:Nat)] w fun r w'=>r=.returned (.tuple #[])∧Hid (PWn e w0 t L w' (S.note [oH S k,oD S k])):=by
 obtain⟨t1,L1,h1,hs,hx,he⟩:=h
 subst hs
 have:=wC e w0 w t1 L1 k h1 hk hF
 rw[hx.x]at this
 refine this.mono ?_
 rintro r w' ⟨rfl,H⟩
 exact⟨rfl,PWn.bind hx he H.out⟩
theorem PWn.conn {e:Nat→Nat} {w0 w:World} {t:Nat→Thing} {L:Pw} {S:Ws} (h:PWn e w0 t L w S) {k:Nat} (hk:k<S.n):w.cell? ⟨L.x,3,none⟩=some (.slice (af (fd L.vc) 0) S.n (ik L.vc))∧w.cell? ⟨fd L.vc,k*3,none⟩=some (ac (L.hd k) 0)∧w.cell? ⟨fd L.vc,k*3+1,none⟩=some (ac (L.dd k) 0)∧w.cell? ⟨fd L.vc,k*3+2,none⟩=some (ac (L.dm k) 0):=by
 obtain⟨t1,L1,h1,hs,hx,he⟩:=h
 subst hs
 obtain⟨e1,c0,c1,c2⟩:=(h1.2.wb h1.1).conn (k:=k) hk
 have cv:w.cell? ⟨L1.x,3,none⟩=some (.slice (af (fd L1.vc) 0) L1.S.n (ik L1.vc)):=(ae w L1.x 3 _ _ _ (h1.2.wb h1.1).blk).trans (congrArg some e1)
 rw[hx.x,hx.vc]at cv
 refine⟨cv,?_,?_,?_⟩
 ·rw[← hx.vc,← hx.hd];exact c0
 ·rw[← hx.vc,← hx.dd];exact c1
 ·rw[← hx.vc,← hx.dm];exact c2
theorem PWn.hv {e:Nat→Nat} {w0 w:World} {t:Nat→Thing} {L:Pw} {S:Ws} (h:PWn e w0 t L w S) {k:Nat} (hk:k<S.n):∃ U,HV w (L.hd k) (S.PH k) U (S.hs k):=by
 obtain⟨t1,L1,h1,hs,hx,he⟩:=h
 subst hs
 have:=h1.2.hv h1.1 hk
 rw[hx.hd]at this
 exact⟨_,this⟩
theorem PWn.dv {e:Nat→Nat} {w0 w:World} {t:Nat→Thing} {L:Pw} {S:Ws} (h:PWn e w0 t L w S) {k:Nat} (hk:k<S.n):∃ g U,DV w (L.dd k) (L.dm k) g 16 S.mx (S.PD k) U (S.ds k):=by
 obtain⟨t1,L1,h1,hs,hx,he⟩:=h
 subst hs
 have:=h1.2.dv h1.1 hk
 rw[hx.dd,hx.dm]at this
 exact⟨_,_,this⟩
theorem PWn.free {e:Nat→Nat} {w0 w:World} {t:Nat→Thing} {L:Pw} {S:Ws} {w':World} (h:PWn e w0 t L w S) {i:Nat} (hi:∀ j,i≠e j) {l:List Nat} (ht:∀ k,k ∈ l→k ∈ (t i).U) (o:Off l w w'):PWn e w0 (aJ t i pQ) L w' S:=by
 obtain⟨t1,L1,h1,hs,hx,he⟩:=h
 refine⟨aJ t1 i pQ,L1,⟨h1.1.turn i pQ (by rw[he i hi];exact o.more ht) trivial (fun k hk=>by simp[pQ]at hk) (fun k hk=>by simp[pQ]at hk),h1.2.1,fun j=>?_⟩,hs,hx,he.putB _ _⟩
 rw[an _ _ (fun z=>hi j z.symm)]
 exact h1.2.2 j
def zh (t:Nat→Thing) (i:Nat) (m:Mv) (S:Ws) (k:Nat) (a:Option Addr) (c:Nat) (ah:Option Addr) (ch:Nat) (ad:Option Addr) (cd:Nat):Nat→Thing:=aJ (aJ (aJ t (2 * (i+1)+1) (fi a m.l c m.b)) (2 * (i+2)+1) (fi ah (S.PH k).i ch (co (S.hs k).v))) (2 * (i+3)+1) (fi ad (S.PD k).o cd (co (S.ds k).v))
theorem wD (e:Nat→Nat) (w0 w:World) (t:Nat→Thing) (L:Pw) (i k:Nat) (m:Mv) (d:Option Addr) (c:Nat) (E I:Int) (S':Ws) (h:PW e w0 w t L) (F:Fre e t i) (hk:k<L.S.n) (hv:L.S.mv<4096) (R:Row8 w d m.l c m.b) (hdx:∀ y,d=some y→0<m.l→y.block≠L.x) (hl:m.l≤140737488351232) (hn:S'.n=L.S.n) (hF:S'.fs.length≤90000)
  (hRf:∀ w1,Below w.heap.size w w1→Calls prog 26 #[ac L.x 0,.agg (aj m (k:Nat) d c)] w1 fun r w'=>r=.returned (.int .i64 0)∧Hid (Below w1.heap.size w1 w'))
  (hAct:∀ a' c' w1 t1,PWn e w0 t1 L w1 L.S.up→Fre e t1 (i+2)→t1 (2 * (i+1)+1)=fi a' m.l c' m.b→Calls prog 28 #[ac L.x 0,.agg (aj m (k:Nat) a' c')] w1 fun r w'=>r=.returned (.tuple #[.int .i64 E,.int .i64 I])∧Hid (PWn e w0 t1 L w' S')) :
  Calls prog 11 #[ac L.x 0,.agg (aj m (k:Nat) d c)] w fun r w'=>∃ a' c' ah ch ad cd,r=.returned (.tuple #[.agg #[Value.int .i64 m.k,Value.int .i64 (k:Nat),Value.int .i64 m.s,Value.int .i64 m.f,Value.int .i64 m.a,Value.int .u32 (m.w:Nat),Value.int .i64 m.n,Value.bool m.h,Value.slice a' m.l c',Value.int .i64 E,Value.int .i64 I,Value.int .i64 ((S'.hs k).st:Nat),Value.int .u32 ((S'.hs k).ss:Nat),Value.int .u32 ((S'.hs k).nm:Nat),Value.int .u32 ((S'.hs k).sn:Nat),Value.int .i64 ((S'.hs k).dc:Nat),Value.int .i64 (S'.hs k).v.lat,Value.bool (au (S'.hs k).v),Value.bool (aE (S'.hs k).v),Value.slice ah (S'.PH k).i ch,Value.int .i64 ((S'.ds k).st:Nat),Value.int .u32 ((S'.ds k).ss:Nat),Value.int .u32 ((S'.ds k).nm:Nat),Value.int .u32 ((S'.ds k).sn:Nat),Value.int .i64 ((S'.ds k).dc:Nat),Value.int .i64 (S'.ds k).v.lat,Value.bool (au (S'.ds k).v),Value.bool (aE (S'.ds k).v),Value.slice ad (S'.PD k).o cd],.int .i64 0])∧Hid (PWn e w0 (zh t i m S' k a' c' ah ch ad cd) L w' (S'.note [oH S' k,oD S' k])):=by
 have i0:=(F i (Nat.le_refl _))
 have i1:=(F (i+1) (by omega)).1
 have i2:=(F (i+2) (by omega)).1
 have i3:=(F (i+3) (by omega)).1
 obtain⟨T1,hT1⟩:∃ y:Option Addr→Nat→Nat→Thing,y=fun a' c'=>aJ (aJ t (2*i+1) (fC [(w.heap.size,.cells (aj m (k:Nat) a' c') 39 (0,0)),(w.heap.size+1,.cells dw 45 (0,0))])) (2 * (i+1)+1) (fi a' m.l c' m.b):=⟨_,rfl⟩
 have F1:∀ a' c',Fre e (T1 a' c') (i+2):=fun a' c'=>by rw[hT1];exact (F.put _).put _
 have b1:∀ a' c',T1 a' c' (2*i+1)=(fC [(w.heap.size,.cells (aj m (k:Nat) a' c') 39 (0,0)),(w.heap.size+1,.cells dw 45 (0,0))]):=fun a' c'=>by
  rw[hT1]
  dsimp only
  rw[an _ _ (by omega),al]
 have r1:∀ a' c',T1 a' c' (2 * (i+1)+1)=fi a' m.l c' m.b:=fun a' c'=>by
  rw[hT1]
  dsimp only
  rw[al]
 have hwb:=h.2.wb h.1
 have hsz:(w.setCell ⟨L.x,5,none⟩ (.int .i64 ((L.S.mv:Nat)+1))).heap.size=w.heap.size:=by simp[World.setCell]
 refine acr L.x (fd L.vc) (ik L.vc) L.S.n k (L.hd k) (L.dd k) (L.dm k) L.S.mv m d c E I (S'.hs k) (S'.ds k) (S'.PH k).i (S'.PD k).o w (fun a' c' w1=>PWn e w0 (T1 a' c') L w1 L.S.up) (fun a' c' w1=>PWn e w0 (T1 a' c') L w1 S') (fun a' c' w1=>PWn e w0 (T1 a' c') L w1 (S'.note [oH S' k,oD S' k]))
  (fun a' c' ah ch w1=>PWn e w0 (aJ (T1 a' c') (2 * (i+2)+1) (fi ah (S'.PH k).i ch (co (S'.hs k).v))) L w1 (S'.note [oH S' k,oD S' k]))
  (fun a' c' ah ch ad cd w1=>PWn e w0 (aJ (aJ (T1 a' c') (2 * (i+2)+1) (fi ah (S'.PH k).i ch (co (S'.hs k).v))) (2 * (i+3)+1) (fi ad (S'.PD k).o cd (co (S'.ds k).v))) L w1 (S'.note [oH S' k,oD S' k]))
  (fun a' c' ah ch ad cd w1=>PWn e w0 (zh t i m S' k a' c' ah ch ad cd) L w1 (S'.note [oH S' k,oD S' k]))
  hv (ae w L.x 5 _ _ _ hwb.blk) hwb.blk ?_ hRf ?_ ?_ ?_ ?_ ?_ ?_ (by omega) ?_ ?_ ?_ ?_
 ·intro a' c' w1 H
  have:=H.out.box i0.1 (b1 a' c') _ (List.mem_cons_of_mem _ (List.mem_cons_self ..))
  exact (Array.getElem?_eq_some_iff.1 this).1
 ·intro w1 hb
  have o:Off [L.x] w w1:=(Off.setCell L.x 5 w _).trans (Off.of_below (l:=[L.x]) (by rw[hsz];exact hb))
  refine (jj d m.l c m.b w1 (R.offY o (fun y hy hn hm=>hdx y hy hn (by simpa using hm))) hl).mono ?_
  rintro r w' ⟨a',c',rfl,H⟩
  obtain⟨a2,c2,e2,R2⟩:=Fr.row (f:=(m.l,m.b)) H.out.2 (fun j hj=>R.byte j hj)
  injection e2 with e3 _ e4
  subst e3 e4
  exact⟨a',c',rfl,H.out.1,R2,Fr.newY (n:=m.l) (bs:=m.b) H.out.2⟩
 ·intro w1 a' c' hb kx ky R1 hn1
  obtain⟨t2,L2,h2,hs2,hx2,he2⟩:=h.stepM
  have hb':Below (w.setCell ⟨L.x,5,none⟩ (.int .i64 ((L.S.mv:Nat)+1))).heap.size (w.setCell ⟨L.x,5,none⟩ (.int .i64 ((L.S.mv:Nat)+1))) w1:=by rw[hsz];exact hb
  have h3:=h2.layL hb' (i:=2*i+1) i0.1 (l:=[(w.heap.size,.cells (aj m (k:Nat) a' c') 39 (0,0)),(w.heap.size+1,.cells dw 45 (0,0))]) (fun p hp=>by
   simp only[List.mem_cons,List.not_mem_nil,or_false]at hp
   rcases hp with rfl | rfl
   ·exact kx
   ·exact ky) (fun p hp=>by
   rw[hsz]
   simp only[List.mem_cons,List.not_mem_nil,or_false]at hp
   rcases hp with rfl | rfl
   ·exact Nat.le_refl _
   ·exact Nat.le_succ _)
  have hw0:=h.1.size
  have h4:=h3.layD (i:=2 * (i+1)+1) i1 R1 (fun y hy hl=>by have:=hn1 y hy hl;omega) (fun y hy hl j hj hm=>by
   have q1:=hn1 y hy hl
   by_cases z:j=2*i+1
   ·subst z
    rw[al]at hm
    have hm:y.block ∈ [w.heap.size,w.heap.size+1]:=hm
    simp at hm
    omega
   ·rw[an _ _ z]at hm
    have:=(h2.1.lt j _ hm).2
    rw[hsz]at this
    omega)
  refine⟨_,L2,h4,hs2,hx2,?_⟩
  rw[hT1]
  exact (he2.putB _ _).putB _ _
 ·intro a' c' w1 q
  exact hAct a' c' w1 _ q (F1 a' c') (r1 a' c')
 ·intro a' c' w1 H
  exact H.out.box i0.1 (b1 a' c') _ (List.mem_cons_self ..)
 ·intro a' c' w1 H
  exact ue k H.out (by omega) hF
 ·intro a' c' w1 H
  refine⟨H.out.box i0.1 (b1 a' c') _ (List.mem_cons_self ..),?_⟩
  have:=H.out.conn (k:=k) (by show k<S'.n;omega)
  have e1:(S'.note [oH S' k,oD S' k]).n=L.S.n:=hn
  rw[e1]at this
  exact this
 ·intro a' c' w1 w2 H b
  have H2:=H.out.below b
  obtain⟨U,hv⟩:=H2.hv (k:=k) (by show k<S'.n;omega)
  refine (jp (L.hd k) (S'.PH k) U (S'.hs k) w2 hv).mono ?_
  rintro r w' ⟨ah,ch,rfl,H3⟩
  exact⟨ah,ch,rfl,H3.out.2.2,H2.lay H3.out.2.2 i2 H3.out.2.1 H3.out.1.newY⟩
 ·intro a' c' ah ch w1 H
  obtain⟨g,U,dv⟩:=H.dv (k:=k) (by show k<S'.n;omega)
  refine (i6 (L.dd k) (L.dm k) g 16 S'.mx (S'.PD k) U (S'.ds k) w1 dv).mono ?_
  rintro r w' ⟨ad,cd,rfl,H3⟩
  exact⟨ad,cd,rfl,H3.out.2.2,H.lay H3.out.2.2 i3 H3.out.2.1 H3.out.1.newY⟩
 ·intro a' c' ah ch ad cd w1 H
  exact H.box i0.1 (by rw[an _ _ (by omega),an _ _ (by omega)];exact b1 a' c') _ (List.mem_cons_of_mem _ (List.mem_cons_self ..))
 ·intro a' c' ah ch ad cd w1 H
  have H2:=H.free (i:=2*i+1) i0.1 (l:=[w.heap.size+1]) (fun q hq=>by
   rw[an _ _ (by omega),an _ _ (by omega),b1]
   have hq:q=w.heap.size+1:=by simpa using hq
   subst hq
   show w.heap.size+1 ∈ [w.heap.size,w.heap.size+1]
   simp) (cE w1 (w.heap.size+1) 0 #[Value.int .i64 m.k,Value.int .i64 (k:Nat),Value.int .i64 m.s,Value.int .i64 m.f,Value.int .i64 m.a,Value.int .u32 (m.w:Nat),Value.int .i64 m.n,Value.bool m.h,Value.slice a' m.l c',Value.int .i64 E,Value.int .i64 I,Value.int .i64 ((S'.hs k).st:Nat),Value.int .u32 ((S'.hs k).ss:Nat),Value.int .u32 ((S'.hs k).nm:Nat),Value.int .u32 ((S'.hs k).sn:Nat),Value.int .i64 ((S'.hs k).dc:Nat),Value.int .i64 (S'.hs k).v.lat,Value.bool (au (S'.hs k).v),Value.bool (aE (S'.hs k).v),Value.slice ah (S'.PH k).i ch,Value.int .i64 ((S'.ds k).st:Nat),Value.int .u32 ((S'.ds k).ss:Nat),Value.int .u32 ((S'.ds k).nm:Nat),Value.int .u32 ((S'.ds k).sn:Nat),Value.int .i64 ((S'.ds k).dc:Nat),Value.int .i64 (S'.ds k).v.lat,Value.bool (au (S'.ds k).v),Value.bool (aE (S'.ds k).v),Value.slice ad (S'.PD k).o cd].toList)
  obtain⟨t5,L5,h5,hs5,hx5,he5⟩:=H2
  refine⟨t5,L5,h5,hs5,hx5,fun q hq=>?_⟩
  rw[he5 q hq,hT1]
  unfold zh
  dsimp only
  by_cases z3:q=2 * (i+3)+1
  ·subst z3
   rw[an _ _ (by omega),al,al]
  by_cases z2:q=2 * (i+2)+1
  ·subst z2
   rw[an _ _ (by omega),an _ _ z3,al,an _ _ z3,al]
  by_cases z1:q=2 * (i+1)+1
  ·subst z1
   rw[an _ _ (by omega),an _ _ z3,an _ _ z2,al,an _ _ z3,an _ _ z2,al]
  rw[an _ _ z3,an _ _ z2,an _ _ z1]
  by_cases z0:q=2*i+1
  ·subst z0
   rw[al]
   exact i0.2.symm
  ·rw[an _ _ z0,an _ _ z3,an _ _ z2,an _ _ z1,an _ _ z0]
structure Ws.Ok (S:Ws) (m:Mv):Prop where
 mv:S.mv<4096
 k1:1≤m.k
 k8:m.k≤8
 c0:0≤m.c
 cn:m.c < ((S.n:Nat):Int)
 sd:eZ m.k=true→m.s=1∨m.s=2
 fr:m.k=3∨m.k=4→0≤m.f∧m.f < ((S.bg.length:Nat):Int)
 gb:m.k=4→cF ((S.bg.getD m.f.toNat cZ).1:Nat) m.a m.w=0
theorem Ws.Ok.of {S:Ws} {m:Mv} (h:S.bad m=0):S.Ok m:=by
 unfold Ws.bad at h
 by_cases q1:4096≤S.mv
 ·rw[if_pos q1]at h;omega
 rw[if_neg q1]at h
 by_cases q2:m.k<1∨8<m.k
 ·rw[if_pos q2]at h;omega
 rw[if_neg q2]at h
 by_cases q3:m.c<0∨((S.n:Nat):Int)≤m.c
 ·rw[if_pos q3]at h;omega
 rw[if_neg q3]at h
 by_cases q4:eZ m.k=true∧m.s≠1∧m.s≠2
 ·rw[if_pos q4]at h;omega
 rw[if_neg q4]at h
 refine⟨by omega,by omega,by omega,by omega,by omega,fun q=>?_,fun q=>?_,fun q=>?_⟩
 ·by_cases z1:m.s=1
  ·exact .inl z1
  ·by_cases z2:m.s=2
   ·exact .inr z2
   ·exact absurd ⟨q,z1,z2⟩ q4
 ·by_cases z:m.f<0∨((S.bg.length:Nat):Int)≤m.f
  ·rcases q with q | q
   ·rw[if_pos q,if_pos z]at h;omega
   ·rw[if_neg (by omega),if_pos q,if_pos z]at h;omega
  ·omega
 ·rw[if_neg (by omega),if_pos q]at h
  by_cases z:m.f<0∨((S.bg.length:Nat):Int)≤m.f
  ·rw[if_pos z]at h;omega
  ·rw[if_neg z]at h;exact h
theorem abh {S:Ws} {m:Mv} (h:S.Ok m):rfE S.mv S.n m 0=0:=by
 have:=h.mv
 have:=h.k1
 have:=h.k8
 have:=h.c0
 have:=h.cn
 unfold rfE
 rw[if_neg (by omega),if_neg (by omega),if_neg (by omega),if_neg]
 rintro ⟨q,q1,q2⟩
 exact (h.sd q).elim q1 q2
theorem wu (e:Nat→Nat) (w0 w:World) (t:Nat→Thing) (L:Pw) (m:Mv) (d:Option Addr) (c:Nat) (h:PW e w0 w t L) (h0:0≤m.f) (h1:m.f < ((L.S.bg.length:Nat):Int)) (hw:m.w<4294967296) (h4:m.k=4→cF (((L.S.bg.getD m.f.toNat cZ).1:Nat):Int) m.a m.w=0) :
  Calls prog 78 #[ac L.x 0,.agg (aj m m.c d c)] w fun r w'=>∃ a n cap,r=.returned (.tuple #[.slice a n cap,.int .i64 0])∧Hid (Below w.heap.size w w'):=by
 have hlt:m.f.toNat<L.S.bg.length:=by omega
 have hI:((m.f.toNat:Nat):Int)=m.f:=by omega
 obtain⟨f,hf⟩:∃ y,L.S.bg.getD m.f.toNat cZ=y:=⟨_,rfl⟩
 have hg:L.S.bg[m.f.toNat]?=some f:=by
  rw[← hf,List.getD_eq_getElem?_getD,List.getElem?_eq_getElem hlt]
  rfl
 rw[hf]at h4
 refine (qC L.x L.b m d c (L.S.fr m) w (fun a cap w'=>Below w.heap.size w w') (ae w L.x 4 _ _ _ (h.2.wb h.1).blk) (fun wx hk bx=>?_) (fun wx hk bx=>?_)).mono ?_
 ·have hp:=h.below bx
  have e1:L.S.fr m=qZ f m.a.toNat m.w:=by
   unfold Ws.fr
   rw[if_pos hk,hf]
  have hm:=h4 hk
  have hm2:¬ (m.w=0∨m.a<0∨8 * ((f.1:Nat):Int)<m.a + ((PM.bl m.w:Nat):Int)):=fun q=>by
   unfold cF at hm
   rw[if_neg (by omega),if_pos q]at hm
   omega
  have hA:((m.a.toNat:Nat):Int)=m.a:=by omega
  have:=kj 0 L.b L.m L.bv L.bs L.bp L.S.bg m.f.toNat f m.a.toNat m.w wx (hp.2.bg hp.1).1 hg hw (fun q=>hm2 (.inl q)) (by omega)
  rw[hI,hA]at this
  refine this.mono ?_
  rintro r w' ⟨g,cap,rfl,H⟩
  rw[e1]
  exact⟨af g 0,cap,rfl,bx.trans (H.out.1.mono bx.size),H.out.1⟩
 ·have hp:=h.below bx
  have e1:L.S.fr m=f:=by
   unfold Ws.fr
   rw[if_neg hk,hf]
  have:=gp 0 L.b L.m L.bv L.bs L.bp L.S.bg m.f.toNat f wx (hp.2.bg hp.1).1 hg
  rw[hI]at this
  refine this.mono ?_
  rintro r w' ⟨a,cap,rfl,H⟩
  rw[e1]
  exact⟨a,cap,rfl,bx.trans (H.out.1.mono bx.size),H.out.1⟩
 ·rintro r w' ⟨a,cap,rfl,H⟩
  exact⟨a,_,cap,rfl,H⟩
theorem wG (e:Nat→Nat) (w0 w:World) (t:Nat→Thing) (L:Pw) (m:Mv) (d:Option Addr) (c:Nat) (h:PW e w0 w t L) (hk:L.S.Ok m) (hw:m.w<4294967296) (h5:m.k≠5) (h7:m.k≠7) (h8:m.k≠8):∀ w1,Below w.heap.size w w1→Calls prog 26 #[ac L.x 0,.agg (aj m m.c d c)] w1 fun r w'=>r=.returned (.int .i64 0)∧Hid (Below w1.heap.size w1 w'):=fun w1 b1=>by
 have hp:=h.below b1
 have hb:=(hp.2.wb hp.1).blk
 obtain⟨e1,_⟩:=(hp.2.wb hp.1).conn (k:=m.c.toNat) (by have:=hk.cn;have:=hk.c0;show m.c.toNat<L.S.n;omega)
 have cv:w1.cell? ⟨L.x,3,none⟩=some (.slice (af (fd L.vc) 0) L.S.n (ik L.vc)):=(ae w1 L.x 3 _ _ _ hb).trans (congrArg some e1)
 have:=qG L.x L.b L.S.n (ik L.vc) L.S.mv (af (fd L.vc) 0) m d c w1 0 (ae w1 L.x 4 _ _ _ hb) (ae w1 L.x 5 _ _ _ hb) cv (fun _ _ _ _ _ _ w2 b2=>by
  have hp2:=hp.below b2
  by_cases q3:m.k=3
  ·exact acw L.x m d c w2 (ck q3) 0 (fun w3 b3=>wu e w0 w3 t L m d c (hp2.below b3) (hk.fr (.inl q3)).1 (hk.fr (.inl q3)).2 hw hk.gb)
  ·by_cases q4:m.k=4
   ·exact acx L.x m d c w2 (ax q3) (ck q4) 0 (fun w3 b3=>wu e w0 w3 t L m d c (hp2.below b3) (hk.fr (.inr q4)).1 (hk.fr (.inr q4)).2 hw hk.gb)
   ·exact acv L.x m d c w2 (ax q3) (ax q4) (ax h5) (ax h7) (ax h8))
 rw[abh hk]at this
 exact this
theorem aba {e:Nat→Nat} {w0 w:World} {t:Nat→Thing} {L:Pw} {S:Ws} (k i:Nat) (h:PWn e w0 t L w S) (F:Fre e t i) (hk:k<S.n) (hF:S.fs.length≤90000) (hB:S.bg.length<4096) (ho:(S.hs k).ms<4) (h5:1 ≤ (S.hs k).st∧(S.hs k).st≤5) (hsn:(S.hs k).st=4→(S.hs k).sn+1<4294967296) (hL:(S.hs k).L.length<700000) (hb:∀ j,j < (aL (S.PH k) (S.hs k)).1→(aL (S.PH k) (S.hs k)).2 j<256) (hf:(aL (S.PH k) (S.hs k)).1≤27):Calls prog 53 #[ac L.x 0,.int .i64 (k:Nat)] w fun r w'=>r=.returned (.tuple #[.int .i64 (S.snd k).e,.int .i64 (S.snd k).i])∧Hid (PWn e w0 t L w' (S.snd k).S):=by
 obtain⟨t1,L1,h1,hs,hx,he⟩:=h
 subst hs
 have:=aca e w0 w t1 L1 k i h1 (F.els he) hk hF hB ho h5 hsn hL hb hf
 rw[hx.x]at this
 refine this.mono ?_
 rintro r w' ⟨rfl,H⟩
 exact⟨rfl,PWn.bind hx he H.out⟩
theorem t8 {e:Nat→Nat} {w0 w:World} {t:Nat→Thing} {L:Pw} {S:Ws} (i k:Nat) (m:Mv) (d:Option Addr) (c:Nat) (h:PWn e w0 t L w S) (F:Fre e t i) (hc:m.c=((k:Nat):Int)) (hk:k<S.n) (hF:S.fs.length≤80000) (hB:S.bg.length<4096) (h0:0≤m.f) (h1:m.f < ((S.bg.length:Nat):Int)) (hw:m.w<4294967296) (h4:m.k=4→cF (((S.bg.getD m.f.toNat cZ).1:Nat):Int) m.a m.w=0)
  (hHL:(S.hs k).L.length<800000) (hsn:(S.ds k).st=4→(S.ds k).sn+1<4294967296) (ho:(S.ds k).od<4) (hL:(S.ds k).L.length<800000) (htm:(S.ds k).ms.t<9223372036854774000) (hb:∀ j,j < (ay (S.PD k) S.mx 16 (S.ds k) (S.fr m).1 (S.fr m).2).f.1→(ay (S.PD k) S.mx 16 (S.ds k) (S.fr m).1 (S.fr m).2).f.2 j<256) (hf:(ay (S.PD k) S.mx 16 (S.ds k) (S.fr m).1 (S.fr m).2).f.1≤27) :
  Calls prog 54 #[ac L.x 0,.agg (aj m m.c d c)] w fun r w'=>r=.returned (.tuple #[.int .i64 (S.dlv m k).e,.int .i64 (S.dlv m k).i])∧Hid (PWn e w0 t L w' (S.dlv m k).S):=by
 obtain⟨t1,L1,h9,hs,hx,he⟩:=h
 subst hs
 have:=wB e w0 w t1 L1 i k m d c h9 (F.els he) hc hk hF hB h0 h1 hw h4 hHL hsn ho hL htm hb hf
 rw[hx.x]at this
 refine this.mono ?_
 rintro r w' ⟨rfl,H⟩
 exact⟨rfl,PWn.bind hx he H.out⟩
theorem zV {e:Nat→Nat} {w0 w:World} {t:Nat→Thing} {L:Pw} {S:Ws} (k i:Nat) (m:Mv) (d:Option Addr) (c:Nat) (h:PWn e w0 t L w S) (F:Fre e t i) (h2:m.k=2) (hk:k<S.n) (hF:S.fs.length≤90000) (hB:S.bg.length<4096) (ho:(S.hs k).ms<4) (h5:1 ≤ (S.hs k).st∧(S.hs k).st≤5) (hsn:(S.hs k).st=4→(S.hs k).sn+1<4294967296) (hL:(S.hs k).L.length<700000) (hb:∀ j,j < (aL (S.PH k) (S.hs k)).1→(aL (S.PH k) (S.hs k)).2 j<256) (hf:(aL (S.PH k) (S.hs k)).1≤27):Calls prog 28 #[ac L.x 0,.agg (aj m (k:Nat) d c)] w fun r w'=>r=.returned (.tuple #[.int .i64 (S.snd k).e,.int .i64 (S.snd k).i])∧Hid (PWn e w0 t L w' (S.snd k).S):=by
 obtain⟨cv,c0,c1,c2⟩:=h.conn hk
 exact acl L.x (fd L.vc) (ik L.vc) S.n k (L.hd k) (L.dd k) (L.dm k) m d c _ _ w _ cv c0 c1 c2 (by omega) (ck h2) (fun w1 b1=>aba k i (h.below b1) F hk hF hB ho h5 hsn hL hb hf)
theorem zX {e:Nat→Nat} {w0 w:World} {t:Nat→Thing} {L:Pw} {S:Ws} (k i:Nat) (m:Mv) (d:Option Addr) (c:Nat) (h:PWn e w0 t L w S) (F:Fre e t i) (h3:m.k=3∨m.k=4) (hc:m.c=((k:Nat):Int)) (hk:k<S.n) (hF:S.fs.length≤80000) (hB:S.bg.length<4096) (h0:0≤m.f) (h1:m.f < ((S.bg.length:Nat):Int)) (hw:m.w<4294967296) (h4:m.k=4→cF (((S.bg.getD m.f.toNat cZ).1:Nat):Int) m.a m.w=0)
  (hHL:(S.hs k).L.length<800000) (hsn:(S.ds k).st=4→(S.ds k).sn+1<4294967296) (ho:(S.ds k).od<4) (hL:(S.ds k).L.length<800000) (htm:(S.ds k).ms.t<9223372036854774000) (hb:∀ j,j < (ay (S.PD k) S.mx 16 (S.ds k) (S.fr m).1 (S.fr m).2).f.1→(ay (S.PD k) S.mx 16 (S.ds k) (S.fr m).1 (S.fr m).2).f.2 j<256) (hf:(ay (S.PD k) S.mx 16 (S.ds k) (S.fr m).1 (S.fr m).2).f.1≤27):Calls prog 28 #[ac L.x 0,.agg (aj m (k:Nat) d c)] w fun r w'=>r=.returned (.tuple #[.int .i64 (S.dlv m k).e,.int .i64 (S.dlv m k).i])∧Hid (PWn e w0 t L w' (S.dlv m k).S):=by
 obtain⟨cv,c0,c1,c2⟩:=h.conn hk
 have hD:∀ w1,Below w.heap.size w w1→Calls prog 54 #[ac L.x 0,.agg (aj m (k:Nat) d c)] w1 fun r w'=>r=.returned (.tuple #[.int .i64 (S.dlv m k).e,.int .i64 (S.dlv m k).i])∧Hid (PWn e w0 t L w' (S.dlv m k).S):=fun w1 b1=>by
  have:=t8 i k m d c (h.below b1) F hc hk hF hB h0 h1 hw h4 hHL hsn ho hL htm hb hf
  rw[hc]at this
  exact this
 rcases h3 with h3 | h3
 ·exact acm L.x (fd L.vc) (ik L.vc) S.n k (L.hd k) (L.dd k) (L.dm k) m d c _ _ w _ cv c0 c1 c2 (by omega) (ax (by omega)) (ck h3) hD
 ·exact acn L.x (fd L.vc) (ik L.vc) S.n k (L.hd k) (L.dd k) (L.dm k) m d c _ _ w _ cv c0 c1 c2 (by omega) (ax (by omega)) (ax (by omega)) (ck h3) hD
open Go.ChangeShapes Go.WideShapes Go.ChangeAt Go.RowKit Go.Joins Go.Deep
structure Md where
 a:Option Addr
 c:Nat
def Mv.ls (m:Mv) (d:Md):List Value:=(m.cs d.a d.c).toList
section
variable {H:Type} {enc:TypeId × Value→H} {P:Program} {w:World} {base:Nat} {spare:TypeId→Bool} {held:Bool}
end
theorem abQ {α:Type} {l:List α} (h:l.length=9):∃ a0 a1 a2 a3 a4 a5 a6 a7 a8,l=[a0,a1,a2,a3,a4,a5,a6,a7,a8]:=by
 match l,h with
 | [a0,a1,a2,a3,a4,a5,a6,a7,a8],_=>exact⟨a0,a1,a2,a3,a4,a5,a6,a7,a8,rfl⟩
section
variable {H:Type} {enc:TypeId × Value→H} {P:Program} {w:World} {base:Nat} {spare:TypeId→Bool} {held:Bool}
theorem xk {t:TypeId} {f0 f1 f2 f3 f4 f5 f6 f7 f8:Field} {fuel:Nat} {cs:List Value} {x:DataW H × List MemPlace} (ht:P.underlying t=some (.struct #[f0,f1,f2,f3,f4,f5,f6,f7,f8])) (h:DataW.trod enc P w base spare held fuel t cs=some x) :
  ∃ y0 y1 y2 y3 y4 y5 y6 y7 y8 n,x.1=.agg [y0.1,y1.1,y2.1,y3.1,y4.1,y5.1,y6.1,y7.1,y8.1]∧cs.length=P.cellsOf t∧DataW.trod enc P w base spare held n f0.type ((cs.drop f0.offset).take (P.cellsOf f0.type))=some y0∧DataW.trod enc P w base spare held n f1.type ((cs.drop f1.offset).take (P.cellsOf f1.type))=some y1∧DataW.trod enc P w base spare held n f2.type ((cs.drop f2.offset).take (P.cellsOf f2.type))=some y2∧DataW.trod enc P w base spare held n f3.type ((cs.drop f3.offset).take (P.cellsOf f3.type))=some y3∧DataW.trod enc P w base spare held n f4.type ((cs.drop f4.offset).take (P.cellsOf f4.type))=some y4∧DataW.trod enc P w base spare held n f5.type ((cs.drop f5.offset).take (P.cellsOf f5.type))=some y5∧DataW.trod enc P w base spare held n f6.type ((cs.drop f6.offset).take (P.cellsOf f6.type))=some y6∧DataW.trod enc P w base spare held n f7.type ((cs.drop f7.offset).take (P.cellsOf f7.type))=some y7∧DataW.trod enc P w base spare held n f8.type ((cs.drop f8.offset).take (P.cellsOf f8.type))=some y8:=by
 obtain⟨xs,n,_,rfl,hl,hlen,hf⟩:=DataW.trod_struct ht h
 obtain⟨y0,y1,y2,y3,y4,y5,y6,y7,y8,rfl⟩:=abQ (l:=xs) (by simpa using hlen)
 exact⟨y0,y1,y2,y3,y4,y5,y6,y7,y8,n,by simp,hl,by simpa using hf 0 f0 rfl,by simpa using hf 1 f1 rfl,by simpa using hf 2 f2 rfl,by simpa using hf 3 f3 rfl,by simpa using hf 4 f4 rfl,by simpa using hf 5 f5 rfl,by simpa using hf 6 f6 rfl,by simpa using hf 7 f7 rfl,by simpa using hf 8 f8 rfl⟩
end
theorem iR {H:Type} {P:Program} {e:TypeId} {n:Nat} {d:DataW H} (hn:n ∈ d.weights P e):∀ {l:List (DataW H)},d ∈ l→n ∈ DataW.weightsAll P e l
 | [],h=>by cases h
 | x :: r,h=>by
  simp only[DataW.weightsAll,List.mem_append]
  rcases List.mem_cons.1 h with rfl | h
  ·exact .inl hn
  ·exact .inr (iR hn h)
theorem abo {x:Int} (h:(Lit.int .u32 x).wf=true):∃ z:Nat,x=(z:Int)∧z<4294967296:=by
 have e1:IntKind.u32.min=0:=by decide
 have e2:IntKind.u32.max=4294967295:=by decide
 simp[Lit.wf,e1,e2]at h
 exact⟨x.toNat,by omega,by omega⟩
theorem jr {x:Int} (h:(Lit.int .i64 x).wf=true) : -9223372036854775808≤x∧x≤9223372036854775807:=by
 have e1:IntKind.i64.min = -9223372036854775808:=by decide
 have e2:IntKind.i64.max=9223372036854775807:=by decide
 simp[Lit.wf,e1,e2]at h
 exact h
section
variable {H:Type} {enc:TypeId × Value→H} {w:World} {base:Nat} {spare:TypeId→Bool} {held:Bool}
theorem qw {fuel:Nat} {v:Value} {x:DataW H × List MemPlace} (h:DataW.trod enc prog w base spare held fuel 37 [v]=some x) :
  ∃ (a:Option Addr) (l c:Nat) (bs:Nat→Nat),v=.slice a l c∧Row8 w a l c bs∧((∀ n ∈ x.1.weights prog 37,n≤reachBytes)→l≤140737488351232):=by
 rcases open_ints underlying37 underlying5 (by kernel_rfl) h with ⟨hcs,_⟩ | ⟨y,l,c,zs,hcs,_,hl,hm,hz,hx,hcell,hwz⟩
 ·simp at hcs
  exact⟨none,0,0,_,hcs,BRow.row8 (zs:=[]) (.inl ⟨rfl,rfl,rfl,rfl⟩),fun _=>by omega⟩
 ·simp at hcs
  have hll:l≤zs.length:=by rw[hz];split <;> omega
  refine⟨some y,l,c,_,hcs,(⟨fun i hi=>?_,(fun hx=>by cases hx),fun x hx i hi=>?_,hl⟩:Row8 w (some y) l c (fun i=>(zs.getD i 0).toNat)),fun hs=>?_⟩
  ·have:=bounds_u8 (hwz (zs.getD i 0) (by rw[List.getD_eq_getElem?_getD,List.getElem?_eq_getElem (by omega)];exact List.getElem_mem _))
   omega
  ·cases hx
   have:=bounds_u8 (hwz (zs.getD i 0) (by rw[List.getD_eq_getElem?_getD,List.getElem?_eq_getElem (by omega)];exact List.getElem_mem _))
   rw[hcell i (by omega),Int.toNat_of_nonneg this.1]
  ·rw[hx]at hs
   have h1:=hs (((lits (H:=H) .u8 (zs.take l)).length + (lits (H:=H) .u8 (zs.drop l)).length)*prog.bytesOf 5) (by simp only[DataW.weights,underlying37];exact List.mem_cons_self)
   rw[show prog.bytesOf 5=1 by kernel_rfl]at h1
   simp[lits]at h1
   unfold reachBytes at h1
   omega
end
section
variable {H:Type} {enc:TypeId × Value→H} {w:World} {base:Nat} {spare:TypeId→Bool} {held:Bool}
theorem xj {fuel:Nat} {cs:List Value} {x0:DataW H × List MemPlace} (h:DataW.trod enc prog w base spare held fuel 39 cs=some x0) :
  ∃ (m:Mv) (d:Md),cs=m.ls d∧m.Ok∧Row8 w d.a m.l d.c m.b∧((∀ n ∈ x0.1.weights prog 39,n≤reachBytes)→m.l≤140737488351232):=by
 obtain⟨y0,y1,y2,y3,y4,y5,y6,y7,y8,n,hx,hl,g0,g1,g2,g3,g4,g5,g6,g7,g8⟩:=xk (underlying39) h
 obtain⟨c0,c1,c2,c3,c4,c5,c6,c7,c8,rfl⟩:=abQ (hl.trans (by kernel_rfl))
 have z0:prog.cellsOf 3=1:=by kernel_rfl
 have z1:prog.cellsOf 28=1:=by kernel_rfl
 have z2:prog.cellsOf 4=1:=by kernel_rfl
 have z3:prog.cellsOf 37=1:=by kernel_rfl
 have z4:prog.cellsOf 36=1:=by kernel_rfl
 have z6:prog.cellsOf 35=1:=by kernel_rfl
 simp[z0,z1,z2,z3,z4,z6]at g0 g1 g2 g3 g4 g5 g6 g7 g8
 obtain⟨v0,e0,_,w0⟩:=DataW.trod_int underlying35 g0
 obtain⟨v1,e1,_,w1⟩:=DataW.trod_int underlying3 g1
 obtain⟨v2,e2,_,w2⟩:=DataW.trod_int underlying36 g2
 obtain⟨v3,e3,_,w3⟩:=DataW.trod_int underlying3 g3
 obtain⟨v4,e4,_,w4⟩:=DataW.trod_int underlying3 g4
 obtain⟨v5,e5,_,w5⟩:=DataW.trod_int underlying28 g5
 obtain⟨v6,e6,_,w6⟩:=DataW.trod_int underlying3 g6
 obtain⟨v7,e7,_⟩:=DataW.trod_bool underlying4 g7
 obtain⟨a,l,c,bs,e8,R,hs⟩:=qw g8
 obtain⟨u5,rfl,h5⟩:=abo w5
 simp at e0 e1 e2 e3 e4 e5 e6 e7
 refine⟨⟨v0,v1,v2,v3,v4,u5,v6,v7,l,bs⟩,⟨a,c⟩,by rw[e0,e1,e2,e3,e4,e5,e6,e7,e8];rfl,⟨jr w0,jr w1,jr w2,jr w3,jr w4,h5,jr w6⟩,R,fun hn=>hs fun m hm=>hn m ?_⟩
 rw[hx]
 have hu:DataW.weights (H:=H) prog 39 (.agg [y0.1,y1.1,y2.1,y3.1,y4.1,y5.1,y6.1,y7.1,y8.1])=y0.1.weights prog 35 ++ (y1.1.weights prog 3 ++ (y2.1.weights prog 36 ++ (y3.1.weights prog 3 ++ (y4.1.weights prog 3 ++ (y5.1.weights prog 28 ++ (y6.1.weights prog 3 ++ (y7.1.weights prog 4 ++ (y8.1.weights prog 37 ++ [])))))))):=by
  simp[DataW.weights,underlying39,DataW.weightsEach]
 rw[hu]
 simp[hm]
end
end Go.Proofs.YtenilkloffnjlaaGreat
namespace Go.Proofs.YtenilkloffnjlaaGreat
open Tryz
open Go.ChangeShapes Go.WideShapes Go.ChangeAt Go.RowKit Go.Joins Go.Deep
def OpRow (w:World) (a:Option Addr) (len:Nat):Prop:=len≤9223372036854775807∧(0<len→∃ b off,a=af b off∧b<w.heap.size∧∀ i,i<len→∃ (m:Mv) (d:Md),m.Ok∧Row8 w d.a m.l d.c m.b∧m.l≤140737488351232∧∀ j u,(m.ls d)[j]?=some u→w.cell? ⟨b,off+i*9+j,none⟩=some u)
section
variable {H:Type} {enc:TypeId × Value→H} {w:World} {base:Nat} {spare:TypeId→Bool} {held:Bool}
theorem ops_sized {a:Option Addr} {len cap j:Nat} {d:DataW H} {p:List MemPlace} {ts:List TypeId} {ds:List (DataW H)} (h:DataW.Trod enc prog w base spare held 22 (.slice a len cap) d p)
  (hz:(DataW.weightsEach prog ts ds).all (· ≤ reachBytes)=true) (ht:ts[j]?=some 22) (hd:ds[j]?=some d):OpRow w a len:=by
 obtain⟨fuel,hf⟩:=h
 have hw:∀ n ∈ d.weights prog 22,n≤reachBytes:=fun n hn=>by
  have:=List.all_eq_true.1 hz _ (DataW.weights_mem_each ht hd n hn)
  simpa using this
 rcases open_slice underlying22 hf with ⟨hcs,_⟩ | ⟨y,l,cp,m,n,D,Pl,hcs,_,hl,hm,hmm,hxx,hx⟩
 ·simp[Value.cells]at hcs
  obtain⟨_,rfl,_⟩:=hcs
  exact⟨by omega,fun h=>by omega⟩
 ·simp[Value.cells]at hcs
  obtain⟨rfl,rfl,rfl⟩:=hcs
  simp only[Prod.mk.injEq]at hxx
  rw[hxx.1]at hw
  refine⟨by unfold maxLen at hm;omega,fun hp=>?_⟩
  have hlm:len≤m:=by rw[hmm];split <;> omega
  have ce:prog.cellsOf 39=9:=by kernel_rfl
  rw[ce]at hx
  have each:∀ i,i<len→∃ (m:Mv) (d:Md),m.Ok∧Row8 w d.a m.l d.c m.b∧m.l≤140737488351232∧∀ j u,(m.ls d)[j]?=some u→w.cell? ((y.add (i*9)).add j)=some u:=by
   intro i hi
   obtain⟨cs,h1,h2⟩:=hx i (by omega)
   obtain⟨m',d',rfl,ok,R,hs⟩:=xj h2
   obtain⟨_,_,hcell⟩:=World.cells?_some h1
   refine⟨m',d',ok,R,hs fun q hq=>hw q ?_,fun j u hu=>?_⟩
   ·simp only[DataW.weights,underlying22,List.mem_cons,List.mem_append]
    exact .inr (.inl (iR hq (List.mem_map.2 ⟨i,List.mem_range.2 hi,rfl⟩)))
   ·have hj:j<9:=(List.getElem?_eq_some_iff.1 hu).1
    rw[hcell j hj]
    simpa using hu
  obtain⟨b,off,spot⟩:=y
  obtain⟨_,_,_,_,_,h0⟩:=each 0 hp
  have hc0:=h0 0 _ rfl
  have hspot:spot=none:=by simpa [Addr.add] using World.cell?_spot hc0
  subst hspot
  refine⟨b,off,rfl,?_,fun i hi=>?_⟩
  ·rw[Go.WideShapes.add_plain,Go.WideShapes.add_plain]at hc0
   exact World.block_lt_of_cell? w _ hc0
  ·obtain⟨m',d',ok,R,hs,hh⟩:=each i hi
   refine⟨m',d',ok,R,hs,fun j u hu=>?_⟩
   have:=hh j u hu
   rw[Go.WideShapes.add_plain,Go.WideShapes.add_plain]at this
   exact this
end
end Go.Proofs.YtenilkloffnjlaaGreat
namespace Go.Proofs.YtenilkloffnjlaaGreat
open Tryz
open Go.RowKit
theorem wg {mx n:Nat} {s:Ms} (hn:10≤n) (ho:s.off=false) (hl:0≤s.l) (hmx:mx<4294967296) :
  ((nx mx n s.bs false s).e=0→(nx mx n s.bs false s).v=vz s.bs+1∧vz (nx mx n s.bs false s).s.bs=vz s.bs+1∧vz s.bs<mx)∧((nx mx n s.bs false s).e≠0→vz (nx mx n s.bs false s).s.bs=vz s.bs):=by
 unfold nx
 rw[if_neg (by simp[ho])]
 by_cases hm:mx≤vz s.bs
 ·rw[if_pos hm]
  exact⟨fun e=>(by cases e),fun _=>rfl⟩
 ·rw[if_neg hm]
  rcases gd n (cY (tg s.bs) (vz s.bs+1)) s (fun x hx=>(fw _ _ n (lC _) hn x hx).1) ho hl with ⟨h1,h2,_⟩ | ⟨h1,h2,_,h4⟩
  ·rw[if_pos h1]
   refine⟨fun _=>⟨rfl,?_,by omega⟩,fun e=>absurd rfl e⟩
   show vz (gi n (cY (tg s.bs) (vz s.bs+1)) s).bs=_
   rw[h2]
   exact zH _ _ (by omega) (by omega)
  ·rw[if_neg (by omega)]
   refine⟨fun e=>(by cases e),fun _=>?_⟩
   show vz (gi n (cY (tg s.bs) (vz s.bs+1)) s).bs=_
   rw[h2]
   refine abp _ _ _ ?_
   have:(cY (tg s.bs) (vz s.bs+1)).length=6:=rfl
   omega
theorem aaQ {mx n:Nat} {s:Ms} (hl:0≤s.l) (hz:Bz s.bs):vz (j3 mx n s).bs=vz s.bs:=by
 unfold j3
 by_cases h1:mx=0∨n<10
 ·rw[if_pos h1]
 ·rw[if_neg h1]
  by_cases h2:s.off=true
  ·rw[if_pos h2]
  ·rw[if_neg h2]
   rcases gd n (dj s.bs) s (fun x hx=>(iS s.bs n (by omega) x hx).1) (by simpa using h2) hl with ⟨_,e,_⟩ | ⟨_,e,_⟩
   ·rw[e]
    have:=oq s.bs (dj s.bs).length hz
    rwa [List.take_length]at this
   ·rw[e]
    exact oq s.bs _ hz
theorem wM {mx n:Nat} (s:Sd) (k:Int) (hz:Bz s.ms.bs) (hl:0≤s.ms.l):vz (cL mx n s k).ms.bs=vz s.ms.bs∧(cL mx n s k).ms.t≤s.ms.t+6∧(cL mx n s k).L=s.L:=by
 unfold cL
 by_cases hk:k<0
 ·rw[if_pos hk];exact⟨rfl,by omega,rfl⟩
 ·rw[if_neg hk]
  have hb:(sQ s.ms k).bs=s.ms.bs∧(sQ s.ms k).t=s.ms.t∧0 ≤ (sQ s.ms k).l:=by
   unfold sQ lK
   split
   ·split
    ·exact⟨rfl,rfl,hl⟩
    ·exact⟨rfl,rfl,by show 0≤k-1;omega⟩
   ·exact⟨rfl,rfl,hl⟩
  refine⟨?_,?_,rfl⟩
  ·show vz (j3 mx n (sQ s.ms k)).bs=_
   rw[aaQ hb.2.2 (by rw[hb.1];exact hz),hb.1]
  ·have:=abZ mx n (sQ s.ms k) hb.2.2
   show (j3 mx n (sQ s.ms k)).t≤_
   omega
theorem DV.facts {w:World} {d m g n mx:Nat} {P:Pm} {U:List Nat} {s:Sd} (h:DV w d m g n mx P U s):Bz s.ms.bs∧0≤s.ms.l∧10≤n∧mx≠0∧mx<4294967296∧(s.st≠6→s.ms.off=false):=by
 obtain⟨B,x⟩:=h
 exact⟨fun i hi=>x.mem.byte i (by have:=x.n10;omega),x.mem.l0,x.n10,x.mx0,x.mxl,fun hs=>(x.cel hs).2.2⟩
theorem tA (d m g n mx:Nat) (P:Pm) (U:List Nat) (s:Sd) (p:Int) (w:World) (h:DV w d m g n mx P U s) (hp:p≤9223372036854775807) :
  Calls prog 59 #[ac m 0,.int .i64 p] w fun e w'=>e=.returned (.int .i64 (arE p))∧Hid (∃ U',Gr U w U' w'∧DV w' d m g n mx P U' { s with ms:=lK s.ms p }):=by
 obtain⟨B,x⟩:=h
 refine (sj m g n s.ms p w x.mem hp).mono ?_
 rintro e w' ⟨rfl,o,m'⟩
 refine⟨rfl,U,Gr.same (o.more (m:=[m,g,B.c]) (by simp)) x.memU,B,x.memd (o.more (by simp)) m' (A':=s.st≠6) (fun hs=>?_)⟩
 obtain⟨c1,c2,c3⟩:=x.cel hs
 have hne:B.c ∉ [m]:=fun hm=>by simp at hm;have:=x.kc.1;rw[hm,x.km.1]at this;omega
 have e1:(lK s.ms p).bs=s.ms.bs:=by unfold lK;split <;> rfl
 have e2:(lK s.ms p).off=s.ms.off:=by unfold lK;split <;> rfl
 rw[e1,e2]
 exact⟨c1,c2.off o hne,c3⟩
structure Vok (s:Vs):Prop where
 fr:s.lat=0→s.fr=false
 sm:s.sm=true→s.lat=0
theorem Vok.new:Vok om:=⟨fun _=>rfl,fun h=>by cases h⟩
theorem Vok.trip {s:Vs} (h:Vok s) (x:Int):Vok (du s x):=by
 unfold du
 split
 ·exact h
 ·exact⟨fun _=>rfl,fun h=>by cases h⟩
theorem Vok.run {s:Vs} (h:Vok s) (o:Bool):Vok (dS s o):=by
 unfold dS
 split
 ·exact h
 ·exact⟨h.fr,fun h=>by cases h⟩
theorem Vok.hold {s:Vs} (h:Vok s) (o:Bool):Vok (fL s o):=⟨h.fr,h.sm⟩
theorem Vok.fresh {s:Vs} (h:Vok s):Vok (dF s):=⟨fun e=>by show (s.lat != 0)=false;rw[show s.lat=0 from e];rfl,h.sm⟩
theorem Vok.take {s:Vs} (h:Vok s) (bs:Nat→Nat):Vok (dY s bs):=by
 unfold dY
 split
 ·rename_i k
  exact⟨h.fr,fun _=>k.2⟩
 ·exact h
theorem Vok.ack {s:Vs} (h:Vok s):Vok (ja s):=by
 unfold ja
 split
 ·exact⟨fun _=>rfl,fun _=>rfl⟩
 ·exact h
structure Bk2 where
 c:Nat
 M:List Nat
 cp:Value
 lv:Value
 vv:Value
 av:Value
 col:Nat→Nat
section
variable {w w':World} {d m g n mx:Nat} {P:Pm} {U:List Nat} {s s':Sd} {B:Bk2} {A A':Prop}
end
end Go.Proofs.YtenilkloffnjlaaGreat
namespace Go.Proofs.YtenilkloffnjlaaGreat
open Tryz
open Go.RowKit
structure Iv (P:Pm) (s:Sd):Prop where
 st1:1≤s.st
 st6:s.st≤6
 ss:s.ss<4294967296
 nm:s.nm<4294967296
 sn:s.sn<4294967296
 hs:s.st=2∨s.st=3→s.sn=0∧s.nm=0∧s.ss≠0
 run:s.st=4→s.sn≤s.nm∧s.nm<P.n∧s.ss≠0
 od:s.od<4
 vr:s.v.run=decide (s.st=4)
 vok:Vok s.v
 s0:s.ss=0→s.nm=0
 z:s.ss=0∨s.ss=vz s.ms.bs
 d6:s.st=6→s.ap=(fun _=>0)∧s.hd=false
structure Mo (mx n:Nat) (s:Sd):Prop where
 n10:10≤n
 mx0:mx≠0
 mxl:mx<4294967296
 l0:0≤s.ms.l
 bz:Bz s.ms.bs
 off:s.st≠6→s.ms.off=false
theorem Mo.of {w:World} {d m g n mx:Nat} {P:Pm} {U:List Nat} {s:Sd} (h:DV w d m g n mx P U s):Mo mx n s:=by
 obtain⟨a,b,c,e,f,g⟩:=h.facts
 exact⟨c,e,f,b,a,g⟩
section
variable {P:Pm} {mx n:Nat} {s:Sd}
theorem ie (v:Vs) (x:Int):(du v x).run=v.run:=by unfold du;split <;> rfl
theorem eE (v:Vs) (o:Bool):(dS v o).run=o:=by
 unfold dS
 split
 ·assumption
 ·rfl
theorem mT (v:Vs) (bs:Nat→Nat):(dY v bs).run=v.run:=by unfold dY;split <;> rfl
theorem qy (v:Vs):(ja v).run=v.run:=by unfold ja;split <;> rfl
theorem kH (s:Sd) (x:Int):(aN s x).v=du s.v x:=by unfold aN gv;split <;> rfl
theorem gu (s:Sd) (x:Int):(aN s x).st=s.st∧(aN s x).ss=s.ss∧(aN s x).nm=s.nm∧(aN s x).sn=s.sn∧(aN s x).od=s.od∧(aN s x).ms=s.ms∧(aN s x).ap=s.ap∧(aN s x).hd=s.hd:=by unfold aN gv;split <;> exact⟨rfl,rfl,rfl,rfl,rfl,rfl,rfl,rfl⟩
theorem Iv.latch (h:Iv P s) (x:Int):Iv P (aN s x):=by
 unfold aN gv
 split
 ·exact⟨h.st1,h.st6,h.ss,h.nm,h.sn,h.hs,h.run,h.od,(ie _ _).trans h.vr,h.vok.trip x,h.s0,h.z,h.d6⟩
 ·exact⟨h.st1,h.st6,h.ss,h.nm,h.sn,h.hs,h.run,h.od,(ie _ _).trans h.vr,h.vok.trip x,h.s0,h.z,h.d6⟩
theorem Iv.note (h:Iv P s) (x:Int):Iv P (gv s x):=⟨h.st1,h.st6,h.ss,h.nm,h.sn,h.hs,h.run,h.od,h.vr,h.vok,h.s0,h.z,h.d6⟩
theorem Iv.leave (hv:Vok s.v) {k:Nat} (h1:1≤k) (h5:k≤5) (h4:k≠4) (h2:k≠2) (h3:k≠3):Iv P (d9 s k):=
 ⟨h1,Nat.le_succ_of_le h5,by show (0:Nat)<_;omega,by show (0:Nat)<_;omega,by show (0:Nat)<_;omega,fun e=>by have e:k=2∨k=3:=e;omega,fun e=>absurd e h4,by show (0:Nat)<4;omega,by
  show (dS s.v false).run=decide (k=4)
  rw[eE,decide_eq_false h4],hv.run false,fun _=>rfl,.inl rfl,fun e=>by have e:k=6:=e;omega⟩
theorem Iv.life {k:Nat} (h1:1≤k) (h6:k≤6) (h4:k≠4) (h2:k≠2) (h3:k≠3):Iv P (jI s k):=
 ⟨h1,h6,by show (0:Nat)<_;omega,by show (0:Nat)<_;omega,by show (0:Nat)<_;omega,fun e=>by have e:k=2∨k=3:=e;omega,fun e=>absurd e h4,by show (0:Nat)<4;omega,(decide_eq_false h4).symm,Vok.new,fun _=>rfl,.inl rfl,fun _=>⟨rfl,rfl⟩⟩
theorem Iv.odd (h:Iv P s):Iv P (bT s):=by
 unfold bT
 split
 ·split
  ·rename_i h4
   exact⟨h.st1,h.st6,h.ss,h.nm,h.sn,h.hs,h.run,h4,h.vr,h.vok,h.s0,h.z,h.d6⟩
  ·refine Iv.leave ?_ (by omega) (by omega) (by omega) (by omega) (by omega)
   split
   ·rw[kH];exact h.vok.trip _
   ·exact h.vok
 ·exact h
theorem Iv.begin_ (h:Iv P s) (M:Mo mx n s) (hu:s.st≠6):Iv P (bL P mx n s).s:=by
 have hv:=wg (mx:=mx) (n:=n) (s:=s.ms) M.n10 (M.off hu) M.l0 M.mxl
 unfold bL
 generalize nx mx n s.ms.bs false s.ms=X at *
 have hm:=M.mxl
 split
 ·refine Iv.leave ?_ (by omega) (by omega) (by omega) (by omega) (by omega)
  rw[kH];exact h.vok.trip _
 ·split
  ·exact Iv.life (by omega) (by omega) (by omega) (by omega) (by omega)
  ·rename_i e0
   have e0:X.e=0:=by simpa using e0
   obtain⟨v1,v2,v3⟩:=hv.1 e0
   refine⟨by show 1≤2;omega,by show 2≤6;omega,by show X.v<_;omega,by show (0:Nat)<_;omega,by show (0:Nat)<_;omega,fun _=>⟨rfl,rfl,by show X.v≠0;omega⟩,fun e=>by have e:(2:Nat)=4:=e;omega,by show (0:Nat)<4;omega,?_,h.vok.run false,fun _=>rfl,.inr ?_,fun e=>by have e:(2:Nat)=6:=e;omega⟩
   ·show (dS s.v false).run=decide ((2:Nat)=4)
    rw[eE];rfl
   ·show X.v=vz X.s.bs
    omega
theorem Mo.odd (M:Mo mx n s):Mo mx n (bT s):=by
 refine⟨M.n10,M.mx0,M.mxl,by rw[gR];exact M.l0,by rw[gR];exact M.bz,fun _=>?_⟩
 rw[gR]
 by_cases h6:s.st=6
 ·exfalso
  have:bT s=s:=by unfold bT sx;rw[h6];rfl
  rename_i hh
  rw[this]at hh
  exact hh h6
 ·exact M.off h6
theorem Iv.wish (h:Iv P s) (M:Mo mx n s) (hu:s.st≠6):Iv P (cj P mx n s).s:=by
 unfold cj
 split
 ·exact h.odd
 ·split
  ·exact h.odd
  ·exact h.odd.begin_ M.odd (jX hu)
theorem Iv.echo (h:Iv P s):Iv P (bN s):=by
 unfold bN
 split
 ·rename_i h2
  have hq:=h.hs (.inl h2)
  refine⟨by show 1≤3;omega,by show 3≤6;omega,h.ss,h.nm,h.sn,fun _=>hq,fun e=>by have e:(3:Nat)=4:=e;omega,by show (0:Nat)<4;omega,?_,h.vok.fresh,h.s0,h.z,fun e=>by have e:(3:Nat)=6:=e;omega⟩
  show s.v.run=decide ((3:Nat)=4)
  rw[h.vr,h2];rfl
 ·exact h
theorem Iv.start (h:Iv P s) (hP:Pok P):Iv P (cN s):=by
 unfold cN
 split
 ·rename_i h3
  have hq:=h.hs (.inr h3)
  have:=hP.n2
  refine⟨by show 1≤4;omega,by show 4≤6;omega,h.ss,h.nm,h.sn,fun e=>by have e:(4:Nat)=2∨(4:Nat)=3:=e;omega,fun _=>⟨by show s.sn≤s.nm;omega,by show s.nm<_;omega,hq.2.2⟩,by show (0:Nat)<4;omega,?_,(h.vok.run true).fresh,h.s0,h.z,fun e=>by have e:(4:Nat)=6:=e;omega⟩
  show (dS s.v true).run=decide ((4:Nat)=4)
  rw[eE];rfl
 ·exact h
theorem Iv.data (h:Iv P s) (hP:Pok P) {num fl:Nat} {bs:Nat→Nat} (h4:s.st=4) (hn:s.nm<num) (hc:num<P.n):Iv P (cV s num fl bs):=by
 have hq:=h.run h4
 have hp:=hP.n
 refine⟨h.st1,h.st6,h.ss,by show num<_;omega,by show s.sn+1<_;omega,fun e=>by have e:s.st=2∨s.st=3:=e;omega,fun _=>⟨by show s.sn+1≤num;omega,hc,hq.2.2⟩,by show (0:Nat)<4;omega,?_,(h.vok.fresh.hold _).take _,fun e=>absurd e hq.2.2,h.z,fun e=>by have e:s.st=6:=e;omega⟩
 show (dY (fL (dF s.v) (decide (8≤fl))) bs).run=decide (s.st=4)
 rw[mT];exact h.vr
theorem Iv.last (h:Iv P s) (hP:Pok P) (h4:s.st=4):Iv P (kG (eG P s)):=by
 have hq:=h.run h4
 have hp:=hP.n
 obtain⟨l1,l2,l3,l4,l5,l6,l7,l8⟩:=gu (jJ { s with nm:=P.n }) 80
 refine⟨by show 1≤5;omega,by show 5≤6;omega,?_,?_,hp,fun e=>by have e:(5:Nat)=2∨(5:Nat)=3:=e;omega,fun e=>by have e:(5:Nat)=4:=e;omega,?_,?_,?_,?_,?_,fun e=>by have e:(5:Nat)=6:=e;omega⟩
 ·show (aN (jJ { s with nm:=P.n }) 80).ss<_
  rw[l2];exact h.ss
 ·show (aN (jJ { s with nm:=P.n }) 80).nm<_
  rw[l3];exact hp
 ·show (aN (jJ { s with nm:=P.n }) 80).od<4
  rw[l5];show (0:Nat)<4;omega
 ·show (dS (aN (jJ { s with nm:=P.n }) 80).v false).run=decide ((5:Nat)=4)
  rw[eE];rfl
 ·show Vok (dS (aN (jJ { s with nm:=P.n }) 80).v false)
  rw[kH]
  exact (h.vok.fresh.trip _).run _
 ·intro e
  have e:(aN (jJ { s with nm:=P.n }) 80).ss=0:=e
  rw[l2]at e
  exact absurd e hq.2.2
 ·show (aN (jJ { s with nm:=P.n }) 80).ss=0∨(aN (jJ { s with nm:=P.n }) 80).ss=vz (aN (jJ { s with nm:=P.n }) 80).ms.bs
  rw[l2,l6];exact h.z
theorem Iv.take (h:Iv P s) (hP:Pok P) (M:Mo mx n s) (hu:s.st≠6) (k ss num fl len:Nat) (bs:Nat→Nat):Iv P (bc P mx n s k ss num fl len bs).s:=by
 unfold bc
 split
 ·split
  ·exact h.wish M hu
  ·exact h.odd
 ·split
  ·split
   ·exact h.echo
   ·exact h.odd
  ·split
   ·exact h.start hP
   ·split
    ·rename_i hh
     exact h.data hP hh.2.1.2.1 hh.2.1.2.2 hh.2.2.1
    ·split
     ·rename_i hh
      exact h.last hP hh.2.1.2.1
     ·exact h.odd
theorem Iv.hear (h:Iv P s) (hP:Pok P) (M:Mo mx n s) (hu:s.st≠6) (len:Nat) (bs:Nat→Nat):Iv P (bR P mx n s len bs).s:=by
 unfold bR
 split
 ·exact h
 ·split
  ·exact h
  ·split
   ·exact h
   ·exact h.take hP M hu _ _ _ _ _ _
theorem Iv.recv (h:Iv P s) (hP:Pok P) (M:Mo mx n s) (len:Nat) (bs:Nat→Nat):Iv P (ay P mx n s len bs).s:=by
 unfold ay
 split
 ·exact h
 ·rename_i hu
  split
  ·exact (h.hear hP M hu len bs).note _
  ·exact h.hear hP M hu len bs
theorem Iv.write (h:Iv P s) (len:Nat) (bs:Nat→Nat) (o:Bool):Iv P (em P s len bs o):=by
 unfold em
 split
 ·exact h
 ·rename_i h6
  split
  ·exact⟨h.st1,h.st6,h.ss,h.nm,h.sn,h.hs,h.run,h.od,h.vr,h.vok,h.s0,h.z,fun e=>absurd e h6⟩
  ·exact h
theorem Iv.tick (h:Iv P s) (k:Int):Iv P (eV P s k):=by
 unfold eV
 split
 ·exact h
 ·split
  ·exact h
  ·have h':Iv P { s with dc:=tk P.t s.dc k.toNat }:=⟨h.st1,h.st6,h.ss,h.nm,h.sn,h.hs,h.run,h.od,h.vr,h.vok,h.s0,h.z,h.d6⟩
   split
   ·exact h'.latch _
   ·exact h'
theorem Iv.ack (h:Iv P s):Iv P (gt s):=by
 unfold gt
 split
 ·exact h
 ·exact⟨h.st1,h.st6,h.ss,h.nm,h.sn,h.hs,h.run,h.od,(qy _).trans h.vr,h.vok.ack,h.s0,h.z,h.d6⟩
theorem Iv.reset (h:Iv P s) (k:Int):Iv P (cL mx n s k):=by
 unfold cL
 split
 ·exact h
 ·split
  ·exact Iv.life (by omega) (by omega) (by omega) (by omega) (by omega)
  ·exact Iv.life (by omega) (by omega) (by omega) (by omega) (by omega)
theorem Iv.arm (h:Iv P s) (p:Int):Iv P { s with ms:=lK s.ms p }:=
 ⟨h.st1,h.st6,h.ss,h.nm,h.sn,h.hs,h.run,h.od,h.vr,h.vok,h.s0,by
  have:(lK s.ms p).bs=s.ms.bs:=by unfold lK;split <;> rfl
  show s.ss=0∨s.ss=vz (lK s.ms p).bs
  rw[this];exact h.z,h.d6⟩
theorem Iv.new_ (ms:Ms):Iv P (dD ms):=
 ⟨by show 1≤1;omega,by show 1≤6;omega,by show (0:Nat)<_;omega,by show (0:Nat)<_;omega,by show (0:Nat)<_;omega,fun e=>by have e:(1:Nat)=2∨(1:Nat)=3:=e;omega,fun e=>by have e:(1:Nat)=4:=e;omega,by show (0:Nat)<4;omega,rfl,Vok.new,fun _=>rfl,.inl rfl,fun e=>by have e:(1:Nat)=6:=e;omega⟩
theorem Iv.sent (h:Iv P s) (hP:Pok P):s.st=4→s.sn+1<4294967296:=fun e=>by
 have:=h.run e
 have:=hP.n
 omega
def Gw (a b:Sd):Prop:=b.L.length≤a.L.length+3∧b.ms.t≤a.ms.t+6
theorem uX (M:Mo mx n s):(bL P mx n s).s.ms.t≤s.ms.t+6:=by
 have ht:=acM mx n s.ms.bs false s.ms M.n10 M.l0
 unfold bL
 generalize nx mx n s.ms.bs false s.ms=X at *
 split
 ·show (aN { s with ms:=X.s } 80).ms.t≤_
  rw[gQ];exact ht
 ·split
  ·exact ht
  ·exact ht
theorem ym (M:Mo mx n s):(cj P mx n s).s.ms.t≤s.ms.t+6:=by
 have e:=gR s
 unfold cj
 split
 ·show (bT s).ms.t≤_;rw[e];omega
 ·split
  ·show (bT s).ms.t≤_;rw[e];omega
  ·have:=uX (P:=P) M.odd
   rw[e]at this;exact this
theorem yk (M:Mo mx n s) (k ss num fl len:Nat) (bs:Nat→Nat):(bc P mx n s k ss num fl len bs).s.ms.t≤s.ms.t+6:=by
 have e:=gR s
 have r:∀ x:Int,(aW P s x).s.ms.t≤s.ms.t+6:=fun x=>by show (bT s).ms.t≤_;rw[e];omega
 unfold bc
 split
 ·split
  ·exact ym M
  ·exact r _
 ·split
  ·split
   ·show (bN s).ms.t≤_;unfold bN;split <;> (show s.ms.t≤_;omega)
   ·exact r _
  ·split
   ·show (cN s).ms.t≤_;unfold cN;split <;> (show s.ms.t≤_;omega)
   ·split
    ·show s.ms.t≤_;omega
    ·split
     ·show (aN (jJ { s with nm:=P.n }) 80).ms.t≤_
      rw[gQ];show s.ms.t≤_;omega
     ·exact r _
theorem yv (M:Mo mx n s) (len:Nat) (bs:Nat→Nat):Gw s (ay P mx n s len bs).s:=by
 have h1:=mc P mx n s len bs
 have h2:(bR P mx n s len bs).s.ms.t≤s.ms.t+6:=by
  unfold bR
  split
  ·show s.ms.t≤_;omega
  ·split
   ·show s.ms.t≤_;omega
   ·split
    ·show s.ms.t≤_;omega
    ·exact yk M _ _ _ _ _ _
 unfold ay
 split
 ·exact⟨by show s.L.length≤_;omega,by show s.ms.t≤_;omega⟩
 ·split
  ·exact⟨by show ((bR P mx n s len bs).s.L ++ [_]).length≤_;simp;omega,h2⟩
  ·exact⟨by omega,h2⟩
theorem yw (k:Int):Gw s (eV P s k):=by
 unfold eV
 split
 ·exact⟨by omega,by omega⟩
 ·split
  ·exact⟨by omega,by omega⟩
  ·split
   ·refine⟨?_,?_⟩
    ·have:=fR { s with dc:=tk P.t s.dc k.toNat } 100
     have e:({ s with dc:=tk P.t s.dc k.toNat }:Sd).L.length=s.L.length:=rfl
     omega
    ·rw[gQ];show s.ms.t≤_;omega
   ·exact⟨by show s.L.length≤_;omega,by show s.ms.t≤_;omega⟩
theorem aaF:Gw s (gt s):=by
 unfold gt
 split <;> exact⟨by show s.L.length≤_;omega,by show s.ms.t≤_;omega⟩
theorem vu (len:Nat) (bs:Nat→Nat) (o:Bool):Gw s (em P s len bs o):=by
 unfold em
 split
 ·exact⟨by omega,by omega⟩
 ·split <;> exact⟨by show s.L.length≤_;omega,by show s.ms.t≤_;omega⟩
theorem vt (M:Mo mx n s) (k:Int):Gw s (cL mx n s k):=by
 obtain⟨_,h2,h3⟩:=wM (mx:=mx) (n:=n) s k M.bz M.l0
 exact⟨by rw[h3];omega,h2⟩
theorem aaG (p:Int):Gw s { s with ms:=lK s.ms p }:=⟨by show s.L.length≤_;omega,by
 have:(lK s.ms p).t=s.ms.t:=by unfold lK;split <;> rfl
 show (lK s.ms p).t≤_;omega⟩
end
end Go.Proofs.YtenilkloffnjlaaGreat
namespace Go.Proofs.YtenilkloffnjlaaGreat
open Tryz
open Go.RowKit
def Ak (v v':Vs):Prop:=aE v'=true→aE v=true∧v'.bs=v.bs
theorem Ak.refl (v:Vs):Ak v v:=fun h=>⟨h,rfl⟩
theorem Ak.trans {a b c:Vs} (h:Ak a b) (k:Ak b c):Ak a c:=fun e=>⟨(h (k e).1).1,(k e).2.trans (h (k e).1).2⟩
theorem Ak.off {a b:Vs} (h:aE b=false):Ak a b:=fun e=>by rw[h]at e;cases e
theorem xS (v:Vs) (x:Int):Ak v (du v x):=by
 unfold du
 split
 ·exact Ak.refl v
 ·exact Ak.off (by unfold aE;simp)
theorem aaw (v:Vs) (o:Bool):Ak v (dS v o):=by
 unfold dS
 split
 ·exact Ak.refl v
 ·exact Ak.off (by unfold aE;simp)
theorem kh (v:Vs):Ak v (dF v):=fun e=>⟨e,rfl⟩
theorem aav (v:Vs):Ak v (ja v):=by
 unfold ja
 split
 ·exact fun e=>⟨e,rfl⟩
 ·exact Ak.refl v
theorem zF {v:Vs} (h:aE v=true):v.run=true∧v.sm=true:=by
 unfold aE at h
 revert h
 cases v.run <;> cases v.held <;> cases v.sm <;> decide
theorem lE (v:Vs):aE (dS v false)=false:=by unfold aE;rw[eE];rfl
theorem s7:aE om=false:=rfl
end Go.Proofs.YtenilkloffnjlaaGreat
