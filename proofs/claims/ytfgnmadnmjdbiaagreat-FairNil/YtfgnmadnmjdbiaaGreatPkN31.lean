/- Part 32: contracts that the proof rests on. -/
import Derived.Test.YtfgnmadnmjdbiaaGreatPkN29
import Derived.Test.YtfgnmadnmjdbiaaGreatPkN30
set_option maxHeartbeats 64000000
set_option maxRecDepth 100000
namespace Go.Proofs.YtfgnmadnmjdbiaaGreat
open Tryz
open Go.RowKit Go.Maps
set_option linter.unusedVariables false
abbrev em (m:Mv) (c:Int) (d:Option Addr) (e:Nat) (E I:Int) (h:Sh) (g0 h0:Bool) (i0:Option Addr) (j0 k0:Nat) (x:Sd) (g1 h1:Bool) (i1:Option Addr) (j1 k1:Nat):Array Value:=#[.int .i64 m.k,.int .i64 c,.int .i64 m.s,.int .i64 m.f,.int .i64 m.a,.int .u32 (m.w:Nat),.int .i64 m.n,.bool m.h,.slice d m.l e,.int .i64 E,.int .i64 I,.int .i64 (h.st:Nat),.int .u32 (h.ss:Nat),.int .u32 (h.nm:Nat),.int .u32 (h.sn:Nat),.int .i64 (h.dc:Nat),.int .i64 h.v.lat,.bool g0,.bool h0,.slice i0 j0 k0,.int .i64 (x.st:Nat),.int .u32 (x.ss:Nat),.int .u32 (x.nm:Nat),.int .u32 (x.sn:Nat),.int .i64 (x.dc:Nat),.int .i64 x.v.lat,.bool g1,.bool h1,.slice i1 j1 k1]
theorem oc {w w1:World} (b:Below w.heap.size w w1) (X i:Nat) (u:Value):Below w.heap.size (w.setCell ⟨X,i,none⟩ u) (w1.setCell ⟨X,i,none⟩ u):=by
 refine⟨b.os,b.tape,b.output,?_,fun k hk=>?_⟩
 ·show ((w.setCell ⟨X,i,none⟩ u).heap.size) ≤ (w1.setCell ⟨X,i,none⟩ u).heap.size
  simp only[World.setCell,Array.size_modify]
  exact b.size
 ·have h:=b.block k hk
  simp only[World.setCell,Array.getElem?_modify]
  rw[h]
theorem cU {fn:Func} {t u:Tmp} {ty:TypeId} {b o:Nat} {v:Value} (h:fn.results=#[.cell t ty,.tmp u]) (tmps:Array Value) (P:Program) (w:World) (ht:tmps.getD t undef=.pointer (some ⟨b,o,none⟩)) (hl:(loadVar ty ⟨b,o,none⟩).run P w=.ok v w):(results fn tmps).run P w=.ok (.tuple #[v,tmps.getD u undef]) w:=by
 rw[Array.getD_eq_getD_getElem?]at ht
 simp[results,h,ht,asAddr,hl]
theorem lY (b:Nat):∀ (vs:List Value) (o:Nat) (w:World),(w.setCells b o vs).tape=w.tape∧(w.setCells b o vs).heap.size=w.heap.size
 | [],_,_=>⟨rfl,rfl⟩
 | v :: vs,o,w=>by
  have h:=lY b vs (o+1) (w.setCell ⟨b,o,none⟩ v)
  have e:(w.setCell ⟨b,o,none⟩ v).heap.size=w.heap.size:=by simp[World.setCell]
  rw[e]at h
  exact h
theorem bu (w:World) (g o:Nat) (vs:List Value):Off [g] w (w.setCells g o vs):=⟨World.os_setCells _ _ _ _,(lY _ _ _ _).1,World.output_setCells _ _ _ _,by rw[(lY g vs o w).2];exact Nat.le_refl _,fun k hk hb=>World.heap_setCells_other _ _ _ _ hk (by simpa using hb)⟩
theorem zi (X g cc n k hd dd dm v:Nat) (m:Mv) (d:Option Addr) (c:Nat) (E I:Int) (hs:Sh) (ds:Sd) (oh od:Nat) (w:World) (Q1 Q2 Q3:Option Addr→Nat→World→Prop) (Q4:Option Addr→Nat→Option Addr→Nat→World→Prop) (Q5 Z:Option Addr→Nat→Option Addr→Nat→Option Addr→Nat→World→Prop)
  (hv:v<4096) (cm:w.cell? ⟨X,5,none⟩=some (.int .i64 (v:Nat))) {xs:Array Value} {xT:TypeId} (hXb:w.heap[X]?=some (.cells xs xT (0,0)))
  (hX35:∀ a' c' w1,Hid (Q3 a' c' w1)→w.heap.size+1<w1.heap.size)
  (hRf:∀ w1,Below w.heap.size w w1→Calls prog 30 #[.pointer (some ⟨X,0,none⟩),.agg #[.int .i64 m.k,.int .i64 (k:Nat),.int .i64 m.s,.int .i64 m.f,.int .i64 m.a,.int .u32 (m.w:Nat),.int .i64 m.n,.bool m.h,.slice d m.l c]] w1 fun r w'=>r=.returned (.int .i64 0)∧Hid (Below w1.heap.size w1 w'))
  (hCl:∀ w1,Below w.heap.size (w.setCell ⟨X,5,none⟩ (.int .i64 ((v:Nat)+1))) w1→Calls prog 31 #[.slice d m.l c] w1 fun r w'=>∃ a' c',r=.returned (.slice a' m.l c')∧Hid (Below w1.heap.size w1 w'∧Row8 w' a' m.l c' m.b∧∀ y,a'=some y→0<m.l→w1.heap.size≤y.block))
  (hLay:∀ w1 a' c',Below w.heap.size (w.setCell ⟨X,5,none⟩ (.int .i64 ((v:Nat)+1))) w1→w1.heap[w.heap.size]?=some (.cells #[.int .i64 m.k,.int .i64 (k:Nat),.int .i64 m.s,.int .i64 m.f,.int .i64 m.a,.int .u32 (m.w:Nat),.int .i64 m.n,.bool m.h,.slice a' m.l c'] 51 (0,0))→w1.heap[w.heap.size+1]?=some (.cells #[.int .i64 0,.int .i64 0,.int .i64 0,.int .i64 0,.int .i64 0,.int .u32 0,.int .i64 0,.bool false,.slice none 0 0,.int .i64 0,.int .i64 0,.int .i64 0,.int .u32 0,.int .u32 0,.int .u32 0,.int .i64 0,.int .i64 0,.bool false,.bool false,.slice none 0 0,.int .i64 0,.int .u32 0,.int .u32 0,.int .u32 0,.int .i64 0,.int .i64 0,.bool false,.bool false,.slice none 0 0] 56 (0,0))→Row8 w1 a' m.l c' m.b→(∀ y,a'=some y→0<m.l→w.heap.size+2≤y.block)→Q1 a' c' w1)
  (hAct:∀ a' c' w1,Q1 a' c' w1→Calls prog 32 #[.pointer (some ⟨X,0,none⟩),.agg #[.int .i64 m.k,.int .i64 (k:Nat),.int .i64 m.s,.int .i64 m.f,.int .i64 m.a,.int .u32 (m.w:Nat),.int .i64 m.n,.bool m.h,.slice a' m.l c']] w1 fun r w'=>r=.returned (.tuple #[.int .i64 E,.int .i64 I])∧Hid (Q2 a' c' w'))
  (hX2:∀ a' c' w1,Hid (Q2 a' c' w1)→w1.heap[w.heap.size]?=some (.cells #[.int .i64 m.k,.int .i64 (k:Nat),.int .i64 m.s,.int .i64 m.f,.int .i64 m.a,.int .u32 (m.w:Nat),.int .i64 m.n,.bool m.h,.slice a' m.l c'] 51 (0,0)))
  (hNo:∀ a' c' w1,Hid (Q2 a' c' w1)→Calls prog 33 #[.pointer (some ⟨X,0,none⟩),.int .i64 (k:Nat)] w1 fun r w'=>r=.returned (.tuple #[])∧Hid (Q3 a' c' w'))
  (hX3:∀ a' c' w1,Hid (Q3 a' c' w1)→w1.heap[w.heap.size]?=some (.cells #[.int .i64 m.k,.int .i64 (k:Nat),.int .i64 m.s,.int .i64 m.f,.int .i64 m.a,.int .u32 (m.w:Nat),.int .i64 m.n,.bool m.h,.slice a' m.l c'] 51 (0,0))∧w1.cell? ⟨X,3,none⟩=some (Value.slice (some ⟨g,0,none⟩) n cc)∧w1.cell? ⟨g,k*3,none⟩=some (Value.pointer (some ⟨hd,0,none⟩))∧w1.cell? ⟨g,k*3+1,none⟩=some (Value.pointer (some ⟨dd,0,none⟩))∧w1.cell? ⟨g,k*3+2,none⟩=some (Value.pointer (some ⟨dm,0,none⟩)))
  (hlt:((k:Nat):Int) < ((n:Nat):Int))
  (hSH:∀ a' c' w1 w2,Hid (Q3 a' c' w1)→Below w1.heap.size w1 w2→Calls prog 34 #[.pointer (some ⟨hd,0,none⟩)] w2 fun r w'=>∃ ah ch,r=.returned (.agg #[.int .i64 (hs.st:Nat),.int .u32 (hs.ss:Nat),.int .u32 (hs.nm:Nat),.int .u32 (hs.sn:Nat),.int .i64 (hs.dc:Nat),.int .i64 hs.v.lat,.bool (aq hs.v),.bool (aB hs.v),.slice ah oh ch])∧Hid (Below w2.heap.size w2 w'∧Q4 a' c' ah ch w'))
  (hSD:∀ a' c' ah ch w1,Q4 a' c' ah ch w1→Calls prog 35 #[.pointer (some ⟨dd,0,none⟩)] w1 fun r w'=>∃ ad cd,r=.returned (.agg #[.int .i64 (ds.st:Nat),.int .u32 (ds.ss:Nat),.int .u32 (ds.nm:Nat),.int .u32 (ds.sn:Nat),.int .i64 (ds.dc:Nat),.int .i64 ds.v.lat,.bool (aq ds.v),.bool (aB ds.v),.slice ad od cd])∧Hid (Below w1.heap.size w1 w'∧Q5 a' c' ah ch ad cd w'))
  (hX5:∀ a' c' ah ch ad cd w1,Q5 a' c' ah ch ad cd w1→w1.heap[w.heap.size+1]?=some (.cells #[.int .i64 0,.int .i64 0,.int .i64 0,.int .i64 0,.int .i64 0,.int .u32 0,.int .i64 0,.bool false,.slice none 0 0,.int .i64 0,.int .i64 0,.int .i64 0,.int .u32 0,.int .u32 0,.int .u32 0,.int .i64 0,.int .i64 0,.bool false,.bool false,.slice none 0 0,.int .i64 0,.int .u32 0,.int .u32 0,.int .u32 0,.int .i64 0,.int .i64 0,.bool false,.bool false,.slice none 0 0] 56 (0,0)))
  (hZ:∀ a' c' ah ch ad cd w1,Q5 a' c' ah ch ad cd w1→Z a' c' ah ch ad cd (w1.setCells (w.heap.size+1) 0 #[Value.int .i64 m.k,Value.int .i64 (k:Nat),Value.int .i64 m.s,Value.int .i64 m.f,Value.int .i64 m.a,Value.int .u32 (m.w:Nat),Value.int .i64 m.n,Value.bool m.h,Value.slice a' m.l c',Value.int .i64 E,Value.int .i64 I,Value.int .i64 (hs.st:Nat),Value.int .u32 (hs.ss:Nat),Value.int .u32 (hs.nm:Nat),Value.int .u32 (hs.sn:Nat),Value.int .i64 (hs.dc:Nat),Value.int .i64 hs.v.lat,Value.bool (aq hs.v),Value.bool (aB hs.v),Value.slice ah oh ch,Value.int .i64 (ds.st:Nat),Value.int .u32 (ds.ss:Nat),Value.int .u32 (ds.nm:Nat),Value.int .u32 (ds.sn:Nat),Value.int .i64 (ds.dc:Nat),Value.int .i64 ds.v.lat,Value.bool (aq ds.v),Value.bool (aB ds.v),Value.slice ad od cd].toList)) :
  Calls prog 16 #[.pointer (some ⟨X,0,none⟩),.agg #[.int .i64 m.k,.int .i64 (k:Nat),.int .i64 m.s,.int .i64 m.f,.int .i64 m.a,.int .u32 (m.w:Nat),.int .i64 m.n,.bool m.h,.slice d m.l c]] w fun r w'=>∃ a' c' ah ch ad cd,r=.returned (.tuple #[.agg #[Value.int .i64 m.k,Value.int .i64 (k:Nat),Value.int .i64 m.s,Value.int .i64 m.f,Value.int .i64 m.a,Value.int .u32 (m.w:Nat),Value.int .i64 m.n,Value.bool m.h,Value.slice a' m.l c',Value.int .i64 E,Value.int .i64 I,Value.int .i64 (hs.st:Nat),Value.int .u32 (hs.ss:Nat),Value.int .u32 (hs.nm:Nat),Value.int .u32 (hs.sn:Nat),Value.int .i64 (hs.dc:Nat),Value.int .i64 hs.v.lat,Value.bool (aq hs.v),Value.bool (aB hs.v),Value.slice ah oh ch,Value.int .i64 (ds.st:Nat),Value.int .u32 (ds.ss:Nat),Value.int .u32 (ds.nm:Nat),Value.int .u32 (ds.sn:Nat),Value.int .i64 (ds.dc:Nat),Value.int .i64 ds.v.lat,Value.bool (aq ds.v),Value.bool (aB ds.v),Value.slice ad od cd],.int .i64 0])∧Hid (Z a' c' ah ch ad cd w'):=by
 have kA:=aE w (.cells #[.int .i64 m.k,.int .i64 (k:Nat),.int .i64 m.s,.int .i64 m.f,.int .i64 m.a,.int .u32 (m.w:Nat),.int .i64 m.n,.bool m.h,.slice d m.l c] 51)
 have bA:=aM (Below.refl _ w) (.cells #[.int .i64 m.k,.int .i64 (k:Nat),.int .i64 m.s,.int .i64 m.f,.int .i64 m.a,.int .u32 (m.w:Nat),.int .i64 m.n,.bool m.h,.slice d m.l c] 51)
 have sA:(w.alloc (.cells #[.int .i64 m.k,.int .i64 (k:Nat),.int .i64 m.s,.int .i64 m.f,.int .i64 m.a,.int .u32 (m.w:Nat),.int .i64 m.n,.bool m.h,.slice d m.l c] 51)).heap.size=w.heap.size+1:=iK _ _
 have kB:=aE (w.alloc (.cells #[.int .i64 m.k,.int .i64 (k:Nat),.int .i64 m.s,.int .i64 m.f,.int .i64 m.a,.int .u32 (m.w:Nat),.int .i64 m.n,.bool m.h,.slice d m.l c] 51)) (.cells #[.int .i64 0,.int .i64 0,.int .i64 0,.int .i64 0,.int .i64 0,.int .u32 0,.int .i64 0,.bool false,.slice none 0 0,.int .i64 0,.int .i64 0,.int .i64 0,.int .u32 0,.int .u32 0,.int .u32 0,.int .i64 0,.int .i64 0,.bool false,.bool false,.slice none 0 0,.int .i64 0,.int .u32 0,.int .u32 0,.int .u32 0,.int .i64 0,.int .i64 0,.bool false,.bool false,.slice none 0 0] 56)
 have bB:=aM bA (.cells #[.int .i64 0,.int .i64 0,.int .i64 0,.int .i64 0,.int .i64 0,.int .u32 0,.int .i64 0,.bool false,.slice none 0 0,.int .i64 0,.int .i64 0,.int .i64 0,.int .u32 0,.int .u32 0,.int .u32 0,.int .i64 0,.int .i64 0,.bool false,.bool false,.slice none 0 0,.int .i64 0,.int .u32 0,.int .u32 0,.int .u32 0,.int .i64 0,.int .i64 0,.bool false,.bool false,.slice none 0 0] 56)
 have kA2:((w.alloc (.cells #[.int .i64 m.k,.int .i64 (k:Nat),.int .i64 m.s,.int .i64 m.f,.int .i64 m.a,.int .u32 (m.w:Nat),.int .i64 m.n,.bool m.h,.slice d m.l c] 51)).alloc (.cells #[.int .i64 0,.int .i64 0,.int .i64 0,.int .i64 0,.int .i64 0,.int .u32 0,.int .i64 0,.bool false,.slice none 0 0,.int .i64 0,.int .i64 0,.int .i64 0,.int .u32 0,.int .u32 0,.int .u32 0,.int .i64 0,.int .i64 0,.bool false,.bool false,.slice none 0 0,.int .i64 0,.int .u32 0,.int .u32 0,.int .u32 0,.int .i64 0,.int .i64 0,.bool false,.bool false,.slice none 0 0] 56)).heap[w.heap.size]?=some (.cells #[.int .i64 m.k,.int .i64 (k:Nat),.int .i64 m.s,.int .i64 m.f,.int .i64 m.a,.int .u32 (m.w:Nat),.int .i64 m.n,.bool m.h,.slice d m.l c] 51 (0,0)):=(Below.heap_alloc _ _ _ (by omega)).trans kA
 rw[sA]at kB
 have sB:((w.alloc (.cells #[.int .i64 m.k,.int .i64 (k:Nat),.int .i64 m.s,.int .i64 m.f,.int .i64 m.a,.int .u32 (m.w:Nat),.int .i64 m.n,.bool m.h,.slice d m.l c] 51)).alloc (.cells #[.int .i64 0,.int .i64 0,.int .i64 0,.int .i64 0,.int .i64 0,.int .u32 0,.int .i64 0,.bool false,.slice none 0 0,.int .i64 0,.int .i64 0,.int .i64 0,.int .u32 0,.int .u32 0,.int .u32 0,.int .i64 0,.int .i64 0,.bool false,.bool false,.slice none 0 0,.int .i64 0,.int .u32 0,.int .u32 0,.int .u32 0,.int .i64 0,.int .i64 0,.bool false,.bool false,.slice none 0 0] 56)).heap.size=w.heap.size+2:=yb _ _ _
 obtain⟨wa,hwa⟩:∃ z,(w.alloc (.cells #[.int .i64 m.k,.int .i64 (k:Nat),.int .i64 m.s,.int .i64 m.f,.int .i64 m.a,.int .u32 (m.w:Nat),.int .i64 m.n,.bool m.h,.slice d m.l c] 51)).alloc (.cells #[.int .i64 0,.int .i64 0,.int .i64 0,.int .i64 0,.int .i64 0,.int .u32 0,.int .i64 0,.bool false,.slice none 0 0,.int .i64 0,.int .i64 0,.int .i64 0,.int .u32 0,.int .u32 0,.int .u32 0,.int .i64 0,.int .i64 0,.bool false,.bool false,.slice none 0 0,.int .i64 0,.int .u32 0,.int .u32 0,.int .u32 0,.int .i64 0,.int .i64 0,.bool false,.bool false,.slice none 0 0] 56)=z:=⟨_,rfl⟩
 rw[hwa]at kB bB kA2 sB
 obtain⟨x,hx⟩:∃ z,w.heap.size=z:=⟨_,rfl⟩
 have HBa:Hid (Below w.heap.size w wa):=bB
 have HKa:Hid (_):=kA2
 have HKb:Hid (_):=kB
 have Hsz:Hid (_):=sB
 have hRc:=hRf wa bB
 have HCl:Hid (_):=hCl
 have HLay:Hid (_):=hLay
 have HAct:Hid (_):=hAct
 have HX2:Hid (_):=hX2
 have HNo:Hid (_):=hNo
 have HX3:Hid (_):=hX3
 have HSH:Hid (_):=hSH
 have HSD:Hid (_):=hSD
 have HX5:Hid (_):=hX5
 have HZ:Hid (_):=hZ
 have HCm:Hid (_):=cm
 have HXb:Hid (_):=hXb
 have HX35:Hid (_):=hX35
 have hXl:=World.block_lt_of_cell? w _ cm
 have HXl:Hid (X<w.heap.size):=hXl
 have q0:wa.cell? ⟨x,0,none⟩=some (.int .i64 m.k):=ae wa x 0 _ _ _ (hx ▸ kA2)
 have q1:wa.cell? ⟨x,1,none⟩=some (.int .i64 (k:Nat)):=ae wa x 1 _ _ _ (hx ▸ kA2)
 have q2:wa.cell? ⟨x,2,none⟩=some (.int .i64 m.s):=ae wa x 2 _ _ _ (hx ▸ kA2)
 have q3:wa.cell? ⟨x,3,none⟩=some (.int .i64 m.f):=ae wa x 3 _ _ _ (hx ▸ kA2)
 have q4:wa.cell? ⟨x,4,none⟩=some (.int .i64 m.a):=ae wa x 4 _ _ _ (hx ▸ kA2)
 have q5:wa.cell? ⟨x,5,none⟩=some (.int .u32 (m.w:Nat)):=ae wa x 5 _ _ _ (hx ▸ kA2)
 have q6:wa.cell? ⟨x,6,none⟩=some (.int .i64 m.n):=ae wa x 6 _ _ _ (hx ▸ kA2)
 have q7:wa.cell? ⟨x,7,none⟩=some (.bool m.h):=ae wa x 7 _ _ _ (hx ▸ kA2)
 have q8:wa.cell? ⟨x,8,none⟩=some (.slice d m.l c):=ae wa x 8 _ _ _ (hx ▸ kA2)
 have HE:Hid (_=wa):=hwa
 have HS:Hid (w.heap.size=x):=hx
 have hv':((v:Nat):Int)<4096:=by omega
 clear kA bA sA kB bB kA2 sB hwa hx hRf hCl hLay hAct hX2 hNo hX3 hSH hSD hX5 hZ cm hXl hv hXb hX35
 go_enter func16,ntmps16
 go_upto_region 1 with fail
 rw[HE.out,HS.out]
 go_wp2_with fail
 refine hRc.mono ?_
 rintro r w1 ⟨rfl,H1⟩
 clear hRc q0 q1 q2 q3 q4 q5 q6 q7 q8
 have b01:Below w.heap.size w w1:=HBa.out.trans (H1.out.mono HBa.out.size)
 have cm1:=ag HCm.out b01
 have fz1:w1.frozen? ⟨X,5,none⟩=false:=frozen_of_row w1 X 5 _ _ ((b01.block X HXl.out).trans HXb.out)
 have HB01:Hid (_):=b01
 clear b01
 go_upto_region 5 with fail
 have bS:=oc HB01.out X 5 (.int .i64 ((v:Nat)+1))
 have hxX:x≠X:=by have:=HXl.out;have:=HS.out;omega
 have hxX':x+1≠X:=by have:=HXl.out;have:=HS.out;omega
 have k1:(w1.setCell ⟨X,5,none⟩ (.int .i64 ((v:Nat)+1))).heap[x]?=some (.cells #[.int .i64 m.k,.int .i64 (k:Nat),.int .i64 m.s,.int .i64 m.f,.int .i64 m.a,.int .u32 (m.w:Nat),.int .i64 m.n,.bool m.h,.slice d m.l c] 51 (0,0)):=(heap_setCell_other w1 _ x _ hxX).trans ((H1.out.block x (by have:=Hsz.out;have:=HS.out;omega)).trans (HS.out ▸ HKa.out))
 have k2:(w1.setCell ⟨X,5,none⟩ (.int .i64 ((v:Nat)+1))).heap[x+1]?=some (.cells #[.int .i64 0,.int .i64 0,.int .i64 0,.int .i64 0,.int .i64 0,.int .u32 0,.int .i64 0,.bool false,.slice none 0 0,.int .i64 0,.int .i64 0,.int .i64 0,.int .u32 0,.int .u32 0,.int .u32 0,.int .i64 0,.int .i64 0,.bool false,.bool false,.slice none 0 0,.int .i64 0,.int .u32 0,.int .u32 0,.int .u32 0,.int .i64 0,.int .i64 0,.bool false,.bool false,.slice none 0 0] 56 (0,0)):=(heap_setCell_other w1 _ (x+1) _ hxX').trans ((H1.out.block (x+1) (by have:=Hsz.out;have:=HS.out;omega)).trans (HS.out ▸ HKb.out))
 have sS:w.heap.size+2 ≤ (w1.setCell ⟨X,5,none⟩ (.int .i64 ((v:Nat)+1))).heap.size:=by
  have:=H1.out.size
  have:=Hsz.out
  simp only[World.setCell,Array.size_modify]
  omega
 obtain⟨ws,hws⟩:∃ z,w1.setCell ⟨X,5,none⟩ (.int .i64 ((v:Nat)+1))=z:=⟨_,rfl⟩
 rw[hws]at bS k1 k2 sS
 rw[hws]
 have q8:ws.cell? ⟨x,8,none⟩=some (.slice d m.l c):=ae ws x 8 _ _ _ k1
 have hCc:=HCl.out ws bS
 have HK1:Hid (_):=And.intro bS (And.intro k1 (And.intro k2 sS))
 clear bS k1 k2 sS hws cm1 fz1 hxX hxX'
 go_wp2_with fail
 refine hCc.mono ?_
 rintro r w3 ⟨a',c',rfl,H3⟩
 clear hCc q8
 obtain⟨bS,k1,k2,sS⟩:=HK1.out
 have k3:=(H3.out.1.block x (Array.getElem?_eq_some_iff.1 k1).1).trans k1
 have k4:=(H3.out.1.block (x+1) (Array.getElem?_eq_some_iff.1 k2).1).trans k2
 have q8:w3.cell? ⟨x,8,none⟩=some (.slice d m.l c):=ae w3 x 8 _ _ _ k3
 have z8:=frozen_of_row w3 x 8 _ _ k3
 have HK3:Hid (_):=And.intro k3 k4
 clear bS k1 k2 sS k3 k4
 go_upto_region 6 with fail
 obtain⟨bS,k1,k2,sS⟩:=HK1.out
 have kq:(w3.setCell ⟨x,8,none⟩ (.slice a' m.l c')).heap[x]?=some (.cells #[.int .i64 m.k,.int .i64 (k:Nat),.int .i64 m.s,.int .i64 m.f,.int .i64 m.a,.int .u32 (m.w:Nat),.int .i64 m.n,.bool m.h,.slice a' m.l c'] 51 (0,0)):=Joins.block_setCell HK3.out.1 _
 have kr:(w3.setCell ⟨x,8,none⟩ (.slice a' m.l c')).heap[x+1]?=some (.cells #[.int .i64 0,.int .i64 0,.int .i64 0,.int .i64 0,.int .i64 0,.int .u32 0,.int .i64 0,.bool false,.slice none 0 0,.int .i64 0,.int .i64 0,.int .i64 0,.int .u32 0,.int .u32 0,.int .u32 0,.int .i64 0,.int .i64 0,.bool false,.bool false,.slice none 0 0,.int .i64 0,.int .u32 0,.int .u32 0,.int .u32 0,.int .i64 0,.int .i64 0,.bool false,.bool false,.slice none 0 0] 56 (0,0)):=(heap_setCell_other w3 _ (x+1) _ (by show x+1≠x;omega)).trans HK3.out.2
 have bq:Below w.heap.size (w.setCell ⟨X,5,none⟩ (.int .i64 ((v:Nat)+1))) (w3.setCell ⟨x,8,none⟩ (.slice a' m.l c')):=(bS.trans (H3.out.1.mono (by omega))).setCell (by show w.heap.size≤x;rw[HS.out];exact Nat.le_refl _) _
 have nq:∀ z,a'=some z→0<m.l→w.heap.size+2≤z.block:=fun z hz hl=>Nat.le_trans sS (H3.out.2.2 z hz hl)
 have rq:Row8 (w3.setCell ⟨x,8,none⟩ (.slice a' m.l c')) a' m.l c' m.b:=Row8.offY H3.out.2.1 (Off.setCell x 8 w3 _) (fun z hz hl hm=>by have:=nq z hz hl;have:=HS.out;simp at hm;omega)
 obtain⟨wq,hwq⟩:∃ z,w3.setCell ⟨x,8,none⟩ (.slice a' m.l c')=z:=⟨_,rfl⟩
 rw[hwq]at kq kr bq rq
 rw[hwq]
 have hq1:=HLay.out wq a' c' bq (by rw[HS.out];exact kq) (by rw[HS.out];exact kr) rq nq
 have hAc:=HAct.out a' c' wq hq1
 have q0:wq.cell? ⟨x,0,none⟩=some (.int .i64 m.k):=ae wq x 0 _ _ _ kq
 have q1:wq.cell? ⟨x,1,none⟩=some (.int .i64 (k:Nat)):=ae wq x 1 _ _ _ kq
 have q2:wq.cell? ⟨x,2,none⟩=some (.int .i64 m.s):=ae wq x 2 _ _ _ kq
 have q3:wq.cell? ⟨x,3,none⟩=some (.int .i64 m.f):=ae wq x 3 _ _ _ kq
 have q4:wq.cell? ⟨x,4,none⟩=some (.int .i64 m.a):=ae wq x 4 _ _ _ kq
 have q5:wq.cell? ⟨x,5,none⟩=some (.int .u32 (m.w:Nat)):=ae wq x 5 _ _ _ kq
 have q6:wq.cell? ⟨x,6,none⟩=some (.int .i64 m.n):=ae wq x 6 _ _ _ kq
 have q7:wq.cell? ⟨x,7,none⟩=some (.bool m.h):=ae wq x 7 _ _ _ kq
 have q8:wq.cell? ⟨x,8,none⟩=some (.slice a' m.l c'):=ae wq x 8 _ _ _ kq
 clear bS k1 k2 sS kq kr bq nq rq hwq hq1 z8
 go_wp2_with fail
 refine hAc.mono ?_
 rintro r w4 ⟨rfl,H4⟩
 clear hAc q0 q1 q2 q3 q4 q5 q6 q7 q8
 have k4:=HX2.out a' c' w4 H4
 rw[HS.out]at k4
 have q1:w4.cell? ⟨x,1,none⟩=some (.int .i64 (k:Nat)):=ae w4 x 1 _ _ _ k4
 have hNc:=HNo.out a' c' w4 H4
 clear k4
 go_wp2_with fail
 refine hNc.mono ?_
 rintro r w5 ⟨rfl,H5⟩
 clear hNc q1
 obtain⟨k5,cv,c0,c1,c2⟩:=HX3.out a' c' w5 H5
 rw[HS.out]at k5
 have hS:∀ w',Below w5.heap.size w5 w'→w'.cell? ⟨X,3,none⟩=some (Value.slice (some ⟨g,0,none⟩) n cc)∧w'.cell? ⟨x,1,none⟩=some (Value.int .i64 (k:Nat))∧w'.cell? ⟨g,k*3,none⟩=some (Value.pointer (some ⟨hd,0,none⟩))∧w'.cell? ⟨g,k*3+1,none⟩=some (Value.pointer (some ⟨dd,0,none⟩))∧w'.cell? ⟨g,k*3+2,none⟩=some (Value.pointer (some ⟨dm,0,none⟩)):=fun w' b=>⟨ag cv b,ag (ae w5 x 1 _ _ _ k5) b,ag c0 b,ag c1 b,ag c2 b⟩
 have HS0:=hS w5.drew (Below.drew (Below.refl _ _))
 have HSS:Hid (_):=hS
 obtain⟨y,hy⟩:∃ z,w5.heap.size=z:=⟨_,rfl⟩
 have HY:Hid (w5.heap.size=y):=hy
 have HK5:Hid (_):=k5
 have HX6:Hid (x+1<y):=by
  have:=HX35.out a' c' w5 H5
  rw[HS.out,hy]at this
  exact this
 clear k5 cv c0 c1 c2 hS hy
 go_upto_region 8 with fail
 refine wp_region_held_drew (S:=fun w'=>w'.cell? ⟨X,3,none⟩=some (Value.slice (some ⟨g,0,none⟩) n cc)∧w'.cell? ⟨x,1,none⟩=some (Value.int .i64 (k:Nat))∧w'.cell? ⟨g,k*3,none⟩=some (Value.pointer (some ⟨hd,0,none⟩))∧w'.cell? ⟨g,k*3+1,none⟩=some (Value.pointer (some ⟨dd,0,none⟩))∧w'.cell? ⟨g,k*3+2,none⟩=some (Value.pointer (some ⟨dm,0,none⟩))) (by kernel_rfl) HS0 (fun _=>?_)
 refine al (i:=0) (v:=Value.pointer (some ⟨X,0,none⟩)) ?_
 refine al (i:=1) (v:=Value.pointer (some ⟨X,0,none⟩)) ?_
 refine al (i:=2) (v:=Value.pointer (some ⟨X,3,none⟩)) ?_
 refine al (i:=3) (v:=Value.slice (some ⟨g,0,none⟩) n cc) ?_
 refine al (i:=4) (v:=Value.pointer (some ⟨x,1,none⟩)) ?_
 refine al (i:=5) (v:=Value.int .i64 (k:Nat)) ?_
 refine al (i:=6) (v:=Value.pointer (some ⟨g,k*3,none⟩)) ?_
 refine al (i:=7) (v:=Value.agg #[Value.pointer (some ⟨hd,0,none⟩),Value.pointer (some ⟨dd,0,none⟩),Value.pointer (some ⟨dm,0,none⟩)]) ?_
 have b8:Below w5.heap.size w5 (w5.drew.alloc (.cells #[Value.pointer none,Value.pointer none,Value.pointer none] 79)):=(Below.drew (Below.refl _ _)).alloc (Nat.le_refl _) _
 refine bZ (i:=8) (Value.pointer (some ⟨y,0,none⟩)) (w5.drew.alloc (.cells #[Value.pointer none,Value.pointer none,Value.pointer none] 79)) (by kernel_rfl) rfl (by kernel_rfl) (by rw[← HY.out];go_simp) (HSS.out _ b8) ?_
 have s8:(w5.drew.alloc (.cells #[Value.pointer none,Value.pointer none,Value.pointer none] 79)).heap[y]?=some (.cells #[Value.pointer none,Value.pointer none,Value.pointer none] 79 (0,0)):=by rw[← HY.out];exact aE w5.drew _
 have b9:Below w5.heap.size w5 ((((w5.drew.alloc (.cells #[Value.pointer none,Value.pointer none,Value.pointer none] 79)).setCell ⟨y,0,none⟩ (Value.pointer (some ⟨hd,0,none⟩))).setCell ⟨y,1,none⟩ (Value.pointer (some ⟨dd,0,none⟩))).setCell ⟨y,2,none⟩ (Value.pointer (some ⟨dm,0,none⟩))):=((b8.setCell (by rw[HY.out];exact Nat.le_refl _) _).setCell (by rw[HY.out];exact Nat.le_refl _) _).setCell (by rw[HY.out];exact Nat.le_refl _) _
 have s9:=mz (hd:=hd) (dd:=dd) (dm:=dm) s8
 obtain⟨wb,hwb⟩:∃ z,((((w5.drew.alloc (.cells #[Value.pointer none,Value.pointer none,Value.pointer none] 79)).setCell ⟨y,0,none⟩ (Value.pointer (some ⟨hd,0,none⟩))).setCell ⟨y,1,none⟩ (Value.pointer (some ⟨dd,0,none⟩))).setCell ⟨y,2,none⟩ (Value.pointer (some ⟨dm,0,none⟩)))=z:=⟨_,rfl⟩
 rw[hwb]at b9 s9
 have hth:(w5.drew.alloc (.cells #[Value.pointer none,Value.pointer none,Value.pointer none] 79)).there y 0 3:=be s8 rfl
 have hwb2:(w5.drew.alloc (.cells #[Value.pointer none,Value.pointer none,Value.pointer none] 79)).setCells y 0 #[Value.pointer (some ⟨hd,0,none⟩),Value.pointer (some ⟨dd,0,none⟩),Value.pointer (some ⟨dm,0,none⟩)].toList=wb:=hwb
 refine bI (i:=9) (by kernel_rfl) rfl (by kernel_rfl) 79 (.tmp 9) (.tmp 45) rfl y 0 #[Value.pointer (some ⟨hd,0,none⟩),Value.pointer (some ⟨dd,0,none⟩),Value.pointer (some ⟨dm,0,none⟩)] (by kernel_rfl) (by kernel_rfl) hth (by kernel_rfl) (by kernel_rfl) (by rw[hwb2];exact HSS.out _ b9) ?_
 rw[hwb2]
 refine wpAnyH_done (by kernel_rfl) ?_ _
 have HB9:Hid (_):=b9
 have HS9:Hid (_):=s9
 clear hwb hwb2 hth b9 s9 b8 s8 HSS HS0
 have Kb:=(HB9.out.block x (Array.getElem?_eq_some_iff.1 HK5.out).1).trans HK5.out
 have HLX:Hid (x<wb.heap.size):=(Array.getElem?_eq_some_iff.1 Kb).1
 have HYX:Hid (y≠x+1):=by have:=HX6.out;show y≠x+1;omega
 have hS9:∀ w',Below wb.heap.size wb w'→w'.cell? ⟨x,0,none⟩=some (Value.int .i64 m.k)∧w'.cell? ⟨x,1,none⟩=some (Value.int .i64 (k:Nat))∧w'.cell? ⟨x,2,none⟩=some (Value.int .i64 m.s)∧w'.cell? ⟨x,3,none⟩=some (Value.int .i64 m.f)∧w'.cell? ⟨x,4,none⟩=some (Value.int .i64 m.a)∧w'.cell? ⟨x,5,none⟩=some (Value.int .u32 (m.w:Nat))∧w'.cell? ⟨x,6,none⟩=some (Value.int .i64 m.n)∧w'.cell? ⟨x,7,none⟩=some (Value.bool m.h)∧w'.cell? ⟨x,8,none⟩=some (Value.slice a' m.l c')∧w'.cell? ⟨y,0,none⟩=some (Value.pointer (some ⟨hd,0,none⟩))∧w'.cell? ⟨y,1,none⟩=some (Value.pointer (some ⟨dd,0,none⟩)):=fun w' b=>⟨ag (ae wb x 0 _ _ _ Kb) b,ag (ae wb x 1 _ _ _ Kb) b,ag (ae wb x 2 _ _ _ Kb) b,ag (ae wb x 3 _ _ _ Kb) b,ag (ae wb x 4 _ _ _ Kb) b,ag (ae wb x 5 _ _ _ Kb) b,ag (ae wb x 6 _ _ _ Kb) b,ag (ae wb x 7 _ _ _ Kb) b,ag (ae wb x 8 _ _ _ Kb) b,ag (ae wb y 0 _ _ _ HS9.out) b,ag (ae wb y 1 _ _ _ HS9.out) b⟩
 have HT0:=hS9 wb.drew (Below.drew (Below.refl _ _))
 have HSS9:Hid (_):=hS9
 clear hS9 Kb
 go_wp2_with fail
 refine wp_region_held_drew (S:=fun w'=>w'.cell? ⟨x,0,none⟩=some (Value.int .i64 m.k)∧w'.cell? ⟨x,1,none⟩=some (Value.int .i64 (k:Nat))∧w'.cell? ⟨x,2,none⟩=some (Value.int .i64 m.s)∧w'.cell? ⟨x,3,none⟩=some (Value.int .i64 m.f)∧w'.cell? ⟨x,4,none⟩=some (Value.int .i64 m.a)∧w'.cell? ⟨x,5,none⟩=some (Value.int .u32 (m.w:Nat))∧w'.cell? ⟨x,6,none⟩=some (Value.int .i64 m.n)∧w'.cell? ⟨x,7,none⟩=some (Value.bool m.h)∧w'.cell? ⟨x,8,none⟩=some (Value.slice a' m.l c')∧w'.cell? ⟨y,0,none⟩=some (Value.pointer (some ⟨hd,0,none⟩))∧w'.cell? ⟨y,1,none⟩=some (Value.pointer (some ⟨dd,0,none⟩))) (by kernel_rfl) HT0 (fun _=>?_)
 refine al (i:=0) (v:=Value.agg #[Value.int .i64 m.k,Value.int .i64 (k:Nat),Value.int .i64 m.s,Value.int .i64 m.f,Value.int .i64 m.a,Value.int .u32 (m.w:Nat),Value.int .i64 m.n,Value.bool m.h,Value.slice a' m.l c']) ?_
 refine al (i:=1) (v:=Value.int .i64 E) ?_
 refine al (i:=2) (v:=Value.int .i64 I) ?_
 refine al (i:=3) (v:=Value.pointer (some ⟨y,0,none⟩)) ?_
 refine al (i:=4) (v:=Value.pointer (some ⟨hd,0,none⟩)) ?_
 refine al (i:=6) (v:=Value.pointer (some ⟨y,1,none⟩)) ?_
 refine al (i:=7) (v:=Value.pointer (some ⟨dd,0,none⟩)) ?_
 refine aF (i:=5) 34 #[Value.pointer (some ⟨hd,0,none⟩)] (by kernel_rfl) rfl (by kernel_rfl) (by go_simp) ?_
 refine (HSH.out a' c' w5 wb.drew H5 (HB9.out.trans (Below.drew (Below.refl _ _)))).mono ?_
 rintro r w6 ⟨ah,ch,rfl,H6⟩
 have b6:Below wb.heap.size wb w6:=(Below.drew (Below.refl _ _)).trans H6.out.1
 refine⟨_,rfl,HSS9.out w6 b6,?_⟩
 refine aF (i:=8) 35 #[Value.pointer (some ⟨dd,0,none⟩)] (by kernel_rfl) rfl (by kernel_rfl) (by go_simp) ?_
 refine (HSD.out a' c' ah ch w6 H6.out.2).mono ?_
 rintro r w7 ⟨ad,cd,rfl,H7⟩
 have b7:Below wb.heap.size wb w7:=b6.trans (H7.out.1.mono b6.size)
 have HT7:=HSS9.out w7 b7
 refine⟨_,rfl,HT7,?_⟩
 refine al (i:=9) (v:=Value.agg #[Value.int .i64 m.k,Value.int .i64 (k:Nat),Value.int .i64 m.s,Value.int .i64 m.f,Value.int .i64 m.a,Value.int .u32 (m.w:Nat),Value.int .i64 m.n,Value.bool m.h,Value.slice a' m.l c',Value.int .i64 E,Value.int .i64 I,Value.int .i64 (hs.st:Nat),Value.int .u32 (hs.ss:Nat),Value.int .u32 (hs.nm:Nat),Value.int .u32 (hs.sn:Nat),Value.int .i64 (hs.dc:Nat),Value.int .i64 hs.v.lat,Value.bool (aq hs.v),Value.bool (aB hs.v),Value.slice ah oh ch,Value.int .i64 (ds.st:Nat),Value.int .u32 (ds.ss:Nat),Value.int .u32 (ds.nm:Nat),Value.int .u32 (ds.sn:Nat),Value.int .i64 (ds.dc:Nat),Value.int .i64 ds.v.lat,Value.bool (aq ds.v),Value.bool (aB ds.v),Value.slice ad od cd]) ?_
 have hth:w7.there (x+1) 0 #[Value.int .i64 m.k,Value.int .i64 (k:Nat),Value.int .i64 m.s,Value.int .i64 m.f,Value.int .i64 m.a,Value.int .u32 (m.w:Nat),Value.int .i64 m.n,Value.bool m.h,Value.slice a' m.l c',Value.int .i64 E,Value.int .i64 I,Value.int .i64 (hs.st:Nat),Value.int .u32 (hs.ss:Nat),Value.int .u32 (hs.nm:Nat),Value.int .u32 (hs.sn:Nat),Value.int .i64 (hs.dc:Nat),Value.int .i64 hs.v.lat,Value.bool (aq hs.v),Value.bool (aB hs.v),Value.slice ah oh ch,Value.int .i64 (ds.st:Nat),Value.int .u32 (ds.ss:Nat),Value.int .u32 (ds.nm:Nat),Value.int .u32 (ds.sn:Nat),Value.int .i64 (ds.dc:Nat),Value.int .i64 ds.v.lat,Value.bool (aq ds.v),Value.bool (aB ds.v),Value.slice ad od cd].size:=be (by have:=HX5.out a' c' ah ch ad cd w7 H7.out.2;rw[HS.out]at this;exact this) (by kernel_rfl)
 have hrg:=World.rangeAt_setCells_same w7 (x+1) 0 #[Value.int .i64 m.k,Value.int .i64 (k:Nat),Value.int .i64 m.s,Value.int .i64 m.f,Value.int .i64 m.a,Value.int .u32 (m.w:Nat),Value.int .i64 m.n,Value.bool m.h,Value.slice a' m.l c',Value.int .i64 E,Value.int .i64 I,Value.int .i64 (hs.st:Nat),Value.int .u32 (hs.ss:Nat),Value.int .u32 (hs.nm:Nat),Value.int .u32 (hs.sn:Nat),Value.int .i64 (hs.dc:Nat),Value.int .i64 hs.v.lat,Value.bool (aq hs.v),Value.bool (aB hs.v),Value.slice ah oh ch,Value.int .i64 (ds.st:Nat),Value.int .u32 (ds.ss:Nat),Value.int .u32 (ds.nm:Nat),Value.int .u32 (ds.sn:Nat),Value.int .i64 (ds.dc:Nat),Value.int .i64 ds.v.lat,Value.bool (aq ds.v),Value.bool (aB ds.v),Value.slice ad od cd].toList hth
 have hzz:=HZ.out a' c' ah ch ad cd w7 H7.out.2
 rw[HS.out]at hzz
 have o9:=bu w7 (x+1) 0 #[Value.int .i64 m.k,Value.int .i64 (k:Nat),Value.int .i64 m.s,Value.int .i64 m.f,Value.int .i64 m.a,Value.int .u32 (m.w:Nat),Value.int .i64 m.n,Value.bool m.h,Value.slice a' m.l c',Value.int .i64 E,Value.int .i64 I,Value.int .i64 (hs.st:Nat),Value.int .u32 (hs.ss:Nat),Value.int .u32 (hs.nm:Nat),Value.int .u32 (hs.sn:Nat),Value.int .i64 (hs.dc:Nat),Value.int .i64 hs.v.lat,Value.bool (aq hs.v),Value.bool (aB hs.v),Value.slice ah oh ch,Value.int .i64 (ds.st:Nat),Value.int .u32 (ds.ss:Nat),Value.int .u32 (ds.nm:Nat),Value.int .u32 (ds.sn:Nat),Value.int .i64 (ds.dc:Nat),Value.int .i64 ds.v.lat,Value.bool (aq ds.v),Value.bool (aB ds.v),Value.slice ad od cd].toList
 have hS10:(w7.setCells (x+1) 0 #[Value.int .i64 m.k,Value.int .i64 (k:Nat),Value.int .i64 m.s,Value.int .i64 m.f,Value.int .i64 m.a,Value.int .u32 (m.w:Nat),Value.int .i64 m.n,Value.bool m.h,Value.slice a' m.l c',Value.int .i64 E,Value.int .i64 I,Value.int .i64 (hs.st:Nat),Value.int .u32 (hs.ss:Nat),Value.int .u32 (hs.nm:Nat),Value.int .u32 (hs.sn:Nat),Value.int .i64 (hs.dc:Nat),Value.int .i64 hs.v.lat,Value.bool (aq hs.v),Value.bool (aB hs.v),Value.slice ah oh ch,Value.int .i64 (ds.st:Nat),Value.int .u32 (ds.ss:Nat),Value.int .u32 (ds.nm:Nat),Value.int .u32 (ds.sn:Nat),Value.int .i64 (ds.dc:Nat),Value.int .i64 ds.v.lat,Value.bool (aq ds.v),Value.bool (aB ds.v),Value.slice ad od cd].toList).cell? ⟨x,0,none⟩=some (Value.int .i64 m.k)∧(w7.setCells (x+1) 0 #[Value.int .i64 m.k,Value.int .i64 (k:Nat),Value.int .i64 m.s,Value.int .i64 m.f,Value.int .i64 m.a,Value.int .u32 (m.w:Nat),Value.int .i64 m.n,Value.bool m.h,Value.slice a' m.l c',Value.int .i64 E,Value.int .i64 I,Value.int .i64 (hs.st:Nat),Value.int .u32 (hs.ss:Nat),Value.int .u32 (hs.nm:Nat),Value.int .u32 (hs.sn:Nat),Value.int .i64 (hs.dc:Nat),Value.int .i64 hs.v.lat,Value.bool (aq hs.v),Value.bool (aB hs.v),Value.slice ah oh ch,Value.int .i64 (ds.st:Nat),Value.int .u32 (ds.ss:Nat),Value.int .u32 (ds.nm:Nat),Value.int .u32 (ds.sn:Nat),Value.int .i64 (ds.dc:Nat),Value.int .i64 ds.v.lat,Value.bool (aq ds.v),Value.bool (aB ds.v),Value.slice ad od cd].toList).cell? ⟨x,1,none⟩=some (Value.int .i64 (k:Nat))∧(w7.setCells (x+1) 0 #[Value.int .i64 m.k,Value.int .i64 (k:Nat),Value.int .i64 m.s,Value.int .i64 m.f,Value.int .i64 m.a,Value.int .u32 (m.w:Nat),Value.int .i64 m.n,Value.bool m.h,Value.slice a' m.l c',Value.int .i64 E,Value.int .i64 I,Value.int .i64 (hs.st:Nat),Value.int .u32 (hs.ss:Nat),Value.int .u32 (hs.nm:Nat),Value.int .u32 (hs.sn:Nat),Value.int .i64 (hs.dc:Nat),Value.int .i64 hs.v.lat,Value.bool (aq hs.v),Value.bool (aB hs.v),Value.slice ah oh ch,Value.int .i64 (ds.st:Nat),Value.int .u32 (ds.ss:Nat),Value.int .u32 (ds.nm:Nat),Value.int .u32 (ds.sn:Nat),Value.int .i64 (ds.dc:Nat),Value.int .i64 ds.v.lat,Value.bool (aq ds.v),Value.bool (aB ds.v),Value.slice ad od cd].toList).cell? ⟨x,2,none⟩=some (Value.int .i64 m.s)∧(w7.setCells (x+1) 0 #[Value.int .i64 m.k,Value.int .i64 (k:Nat),Value.int .i64 m.s,Value.int .i64 m.f,Value.int .i64 m.a,Value.int .u32 (m.w:Nat),Value.int .i64 m.n,Value.bool m.h,Value.slice a' m.l c',Value.int .i64 E,Value.int .i64 I,Value.int .i64 (hs.st:Nat),Value.int .u32 (hs.ss:Nat),Value.int .u32 (hs.nm:Nat),Value.int .u32 (hs.sn:Nat),Value.int .i64 (hs.dc:Nat),Value.int .i64 hs.v.lat,Value.bool (aq hs.v),Value.bool (aB hs.v),Value.slice ah oh ch,Value.int .i64 (ds.st:Nat),Value.int .u32 (ds.ss:Nat),Value.int .u32 (ds.nm:Nat),Value.int .u32 (ds.sn:Nat),Value.int .i64 (ds.dc:Nat),Value.int .i64 ds.v.lat,Value.bool (aq ds.v),Value.bool (aB ds.v),Value.slice ad od cd].toList).cell? ⟨x,3,none⟩=some (Value.int .i64 m.f)∧(w7.setCells (x+1) 0 #[Value.int .i64 m.k,Value.int .i64 (k:Nat),Value.int .i64 m.s,Value.int .i64 m.f,Value.int .i64 m.a,Value.int .u32 (m.w:Nat),Value.int .i64 m.n,Value.bool m.h,Value.slice a' m.l c',Value.int .i64 E,Value.int .i64 I,Value.int .i64 (hs.st:Nat),Value.int .u32 (hs.ss:Nat),Value.int .u32 (hs.nm:Nat),Value.int .u32 (hs.sn:Nat),Value.int .i64 (hs.dc:Nat),Value.int .i64 hs.v.lat,Value.bool (aq hs.v),Value.bool (aB hs.v),Value.slice ah oh ch,Value.int .i64 (ds.st:Nat),Value.int .u32 (ds.ss:Nat),Value.int .u32 (ds.nm:Nat),Value.int .u32 (ds.sn:Nat),Value.int .i64 (ds.dc:Nat),Value.int .i64 ds.v.lat,Value.bool (aq ds.v),Value.bool (aB ds.v),Value.slice ad od cd].toList).cell? ⟨x,4,none⟩=some (Value.int .i64 m.a)∧(w7.setCells (x+1) 0 #[Value.int .i64 m.k,Value.int .i64 (k:Nat),Value.int .i64 m.s,Value.int .i64 m.f,Value.int .i64 m.a,Value.int .u32 (m.w:Nat),Value.int .i64 m.n,Value.bool m.h,Value.slice a' m.l c',Value.int .i64 E,Value.int .i64 I,Value.int .i64 (hs.st:Nat),Value.int .u32 (hs.ss:Nat),Value.int .u32 (hs.nm:Nat),Value.int .u32 (hs.sn:Nat),Value.int .i64 (hs.dc:Nat),Value.int .i64 hs.v.lat,Value.bool (aq hs.v),Value.bool (aB hs.v),Value.slice ah oh ch,Value.int .i64 (ds.st:Nat),Value.int .u32 (ds.ss:Nat),Value.int .u32 (ds.nm:Nat),Value.int .u32 (ds.sn:Nat),Value.int .i64 (ds.dc:Nat),Value.int .i64 ds.v.lat,Value.bool (aq ds.v),Value.bool (aB ds.v),Value.slice ad od cd].toList).cell? ⟨x,5,none⟩=some (Value.int .u32 (m.w:Nat))∧(w7.setCells (x+1) 0 #[Value.int .i64 m.k,Value.int .i64 (k:Nat),Value.int .i64 m.s,Value.int .i64 m.f,Value.int .i64 m.a,Value.int .u32 (m.w:Nat),Value.int .i64 m.n,Value.bool m.h,Value.slice a' m.l c',Value.int .i64 E,Value.int .i64 I,Value.int .i64 (hs.st:Nat),Value.int .u32 (hs.ss:Nat),Value.int .u32 (hs.nm:Nat),Value.int .u32 (hs.sn:Nat),Value.int .i64 (hs.dc:Nat),Value.int .i64 hs.v.lat,Value.bool (aq hs.v),Value.bool (aB hs.v),Value.slice ah oh ch,Value.int .i64 (ds.st:Nat),Value.int .u32 (ds.ss:Nat),Value.int .u32 (ds.nm:Nat),Value.int .u32 (ds.sn:Nat),Value.int .i64 (ds.dc:Nat),Value.int .i64 ds.v.lat,Value.bool (aq ds.v),Value.bool (aB ds.v),Value.slice ad od cd].toList).cell? ⟨x,6,none⟩=some (Value.int .i64 m.n)∧(w7.setCells (x+1) 0 #[Value.int .i64 m.k,Value.int .i64 (k:Nat),Value.int .i64 m.s,Value.int .i64 m.f,Value.int .i64 m.a,Value.int .u32 (m.w:Nat),Value.int .i64 m.n,Value.bool m.h,Value.slice a' m.l c',Value.int .i64 E,Value.int .i64 I,Value.int .i64 (hs.st:Nat),Value.int .u32 (hs.ss:Nat),Value.int .u32 (hs.nm:Nat),Value.int .u32 (hs.sn:Nat),Value.int .i64 (hs.dc:Nat),Value.int .i64 hs.v.lat,Value.bool (aq hs.v),Value.bool (aB hs.v),Value.slice ah oh ch,Value.int .i64 (ds.st:Nat),Value.int .u32 (ds.ss:Nat),Value.int .u32 (ds.nm:Nat),Value.int .u32 (ds.sn:Nat),Value.int .i64 (ds.dc:Nat),Value.int .i64 ds.v.lat,Value.bool (aq ds.v),Value.bool (aB ds.v),Value.slice ad od cd].toList).cell? ⟨x,7,none⟩=some (Value.bool m.h)∧(w7.setCells (x+1) 0 #[Value.int .i64 m.k,Value.int .i64 (k:Nat),Value.int .i64 m.s,Value.int .i64 m.f,Value.int .i64 m.a,Value.int .u32 (m.w:Nat),Value.int .i64 m.n,Value.bool m.h,Value.slice a' m.l c',Value.int .i64 E,Value.int .i64 I,Value.int .i64 (hs.st:Nat),Value.int .u32 (hs.ss:Nat),Value.int .u32 (hs.nm:Nat),Value.int .u32 (hs.sn:Nat),Value.int .i64 (hs.dc:Nat),Value.int .i64 hs.v.lat,Value.bool (aq hs.v),Value.bool (aB hs.v),Value.slice ah oh ch,Value.int .i64 (ds.st:Nat),Value.int .u32 (ds.ss:Nat),Value.int .u32 (ds.nm:Nat),Value.int .u32 (ds.sn:Nat),Value.int .i64 (ds.dc:Nat),Value.int .i64 ds.v.lat,Value.bool (aq ds.v),Value.bool (aB ds.v),Value.slice ad od cd].toList).cell? ⟨x,8,none⟩=some (Value.slice a' m.l c')∧(w7.setCells (x+1) 0 #[Value.int .i64 m.k,Value.int .i64 (k:Nat),Value.int .i64 m.s,Value.int .i64 m.f,Value.int .i64 m.a,Value.int .u32 (m.w:Nat),Value.int .i64 m.n,Value.bool m.h,Value.slice a' m.l c',Value.int .i64 E,Value.int .i64 I,Value.int .i64 (hs.st:Nat),Value.int .u32 (hs.ss:Nat),Value.int .u32 (hs.nm:Nat),Value.int .u32 (hs.sn:Nat),Value.int .i64 (hs.dc:Nat),Value.int .i64 hs.v.lat,Value.bool (aq hs.v),Value.bool (aB hs.v),Value.slice ah oh ch,Value.int .i64 (ds.st:Nat),Value.int .u32 (ds.ss:Nat),Value.int .u32 (ds.nm:Nat),Value.int .u32 (ds.sn:Nat),Value.int .i64 (ds.dc:Nat),Value.int .i64 ds.v.lat,Value.bool (aq ds.v),Value.bool (aB ds.v),Value.slice ad od cd].toList).cell? ⟨y,0,none⟩=some (Value.pointer (some ⟨hd,0,none⟩))∧(w7.setCells (x+1) 0 #[Value.int .i64 m.k,Value.int .i64 (k:Nat),Value.int .i64 m.s,Value.int .i64 m.f,Value.int .i64 m.a,Value.int .u32 (m.w:Nat),Value.int .i64 m.n,Value.bool m.h,Value.slice a' m.l c',Value.int .i64 E,Value.int .i64 I,Value.int .i64 (hs.st:Nat),Value.int .u32 (hs.ss:Nat),Value.int .u32 (hs.nm:Nat),Value.int .u32 (hs.sn:Nat),Value.int .i64 (hs.dc:Nat),Value.int .i64 hs.v.lat,Value.bool (aq hs.v),Value.bool (aB hs.v),Value.slice ah oh ch,Value.int .i64 (ds.st:Nat),Value.int .u32 (ds.ss:Nat),Value.int .u32 (ds.nm:Nat),Value.int .u32 (ds.sn:Nat),Value.int .i64 (ds.dc:Nat),Value.int .i64 ds.v.lat,Value.bool (aq ds.v),Value.bool (aB ds.v),Value.slice ad od cd].toList).cell? ⟨y,1,none⟩=some (Value.pointer (some ⟨dd,0,none⟩)):=by
  obtain⟨u0,u1,u2,u3,u4,u5,u6,u7,u8,u9,u10⟩:=HT7
  have lx:x<w7.heap.size:=Nat.lt_of_lt_of_le HLX.out b7.size
  have ly:y<w7.heap.size:=World.block_lt_of_cell? w7 ⟨y,0,none⟩ u9
  have nx:x ∉ [x+1]:=by simp
  have ny:y ∉ [x+1]:=by have:=HYX.out;simp;omega
  have fx:∀ i v,w7.cell? ⟨x,i,none⟩=some v→(w7.setCells (x+1) 0 #[Value.int .i64 m.k,Value.int .i64 (k:Nat),Value.int .i64 m.s,Value.int .i64 m.f,Value.int .i64 m.a,Value.int .u32 (m.w:Nat),Value.int .i64 m.n,Value.bool m.h,Value.slice a' m.l c',Value.int .i64 E,Value.int .i64 I,Value.int .i64 (hs.st:Nat),Value.int .u32 (hs.ss:Nat),Value.int .u32 (hs.nm:Nat),Value.int .u32 (hs.sn:Nat),Value.int .i64 (hs.dc:Nat),Value.int .i64 hs.v.lat,Value.bool (aq hs.v),Value.bool (aB hs.v),Value.slice ah oh ch,Value.int .i64 (ds.st:Nat),Value.int .u32 (ds.ss:Nat),Value.int .u32 (ds.nm:Nat),Value.int .u32 (ds.sn:Nat),Value.int .i64 (ds.dc:Nat),Value.int .i64 ds.v.lat,Value.bool (aq ds.v),Value.bool (aB ds.v),Value.slice ad od cd].toList).cell? ⟨x,i,none⟩=some v:=fun i v h=>(World.cell?_of_block (w:=w7) (a:=⟨x,i,none⟩) (o9.block x lx nx)).trans h
  have fy:∀ i v,w7.cell? ⟨y,i,none⟩=some v→(w7.setCells (x+1) 0 #[Value.int .i64 m.k,Value.int .i64 (k:Nat),Value.int .i64 m.s,Value.int .i64 m.f,Value.int .i64 m.a,Value.int .u32 (m.w:Nat),Value.int .i64 m.n,Value.bool m.h,Value.slice a' m.l c',Value.int .i64 E,Value.int .i64 I,Value.int .i64 (hs.st:Nat),Value.int .u32 (hs.ss:Nat),Value.int .u32 (hs.nm:Nat),Value.int .u32 (hs.sn:Nat),Value.int .i64 (hs.dc:Nat),Value.int .i64 hs.v.lat,Value.bool (aq hs.v),Value.bool (aB hs.v),Value.slice ah oh ch,Value.int .i64 (ds.st:Nat),Value.int .u32 (ds.ss:Nat),Value.int .u32 (ds.nm:Nat),Value.int .u32 (ds.sn:Nat),Value.int .i64 (ds.dc:Nat),Value.int .i64 ds.v.lat,Value.bool (aq ds.v),Value.bool (aB ds.v),Value.slice ad od cd].toList).cell? ⟨y,i,none⟩=some v:=fun i v h=>(World.cell?_of_block (w:=w7) (a:=⟨y,i,none⟩) (o9.block y ly ny)).trans h
  exact⟨fx _ _ u0,fx _ _ u1,fx _ _ u2,fx _ _ u3,fx _ _ u4,fx _ _ u5,fx _ _ u6,fx _ _ u7,fx _ _ u8,fy _ _ u9,fy _ _ u10⟩
 obtain⟨wz,hwz⟩:∃ z,w7.setCells (x+1) 0 #[Value.int .i64 m.k,Value.int .i64 (k:Nat),Value.int .i64 m.s,Value.int .i64 m.f,Value.int .i64 m.a,Value.int .u32 (m.w:Nat),Value.int .i64 m.n,Value.bool m.h,Value.slice a' m.l c',Value.int .i64 E,Value.int .i64 I,Value.int .i64 (hs.st:Nat),Value.int .u32 (hs.ss:Nat),Value.int .u32 (hs.nm:Nat),Value.int .u32 (hs.sn:Nat),Value.int .i64 (hs.dc:Nat),Value.int .i64 hs.v.lat,Value.bool (aq hs.v),Value.bool (aB hs.v),Value.slice ah oh ch,Value.int .i64 (ds.st:Nat),Value.int .u32 (ds.ss:Nat),Value.int .u32 (ds.nm:Nat),Value.int .u32 (ds.sn:Nat),Value.int .i64 (ds.dc:Nat),Value.int .i64 ds.v.lat,Value.bool (aq ds.v),Value.bool (aB ds.v),Value.slice ad od cd].toList=z:=⟨_,rfl⟩
 rw[hwz]at hrg hzz hS10
 refine bI (i:=10) (by kernel_rfl) rfl (by kernel_rfl) 56 (.tmp 4) (.tmp 55) rfl (x+1) 0 #[Value.int .i64 m.k,Value.int .i64 (k:Nat),Value.int .i64 m.s,Value.int .i64 m.f,Value.int .i64 m.a,Value.int .u32 (m.w:Nat),Value.int .i64 m.n,Value.bool m.h,Value.slice a' m.l c',Value.int .i64 E,Value.int .i64 I,Value.int .i64 (hs.st:Nat),Value.int .u32 (hs.ss:Nat),Value.int .u32 (hs.nm:Nat),Value.int .u32 (hs.sn:Nat),Value.int .i64 (hs.dc:Nat),Value.int .i64 hs.v.lat,Value.bool (aq hs.v),Value.bool (aB hs.v),Value.slice ah oh ch,Value.int .i64 (ds.st:Nat),Value.int .u32 (ds.ss:Nat),Value.int .u32 (ds.nm:Nat),Value.int .u32 (ds.sn:Nat),Value.int .i64 (ds.dc:Nat),Value.int .i64 ds.v.lat,Value.bool (aq ds.v),Value.bool (aB ds.v),Value.slice ad od cd] (by kernel_rfl) (by kernel_rfl) hth (by kernel_rfl) (by kernel_rfl) (by rw[hwz];exact hS10) ?_
 rw[hwz]
 refine al (i:=11) (v:=Value.int .i64 0) ?_
 refine wpAnyH_done (by kernel_rfl) ?_ _
 have hl:(loadVar 56 ⟨x+1,0,none⟩).run prog wz=.ok (.agg #[Value.int .i64 m.k,Value.int .i64 (k:Nat),Value.int .i64 m.s,Value.int .i64 m.f,Value.int .i64 m.a,Value.int .u32 (m.w:Nat),Value.int .i64 m.n,Value.bool m.h,Value.slice a' m.l c',Value.int .i64 E,Value.int .i64 I,Value.int .i64 (hs.st:Nat),Value.int .u32 (hs.ss:Nat),Value.int .u32 (hs.nm:Nat),Value.int .u32 (hs.sn:Nat),Value.int .i64 (hs.dc:Nat),Value.int .i64 hs.v.lat,Value.bool (aq hs.v),Value.bool (aB hs.v),Value.slice ah oh ch,Value.int .i64 (ds.st:Nat),Value.int .u32 (ds.ss:Nat),Value.int .u32 (ds.nm:Nat),Value.int .u32 (ds.sn:Nat),Value.int .i64 (ds.dc:Nat),Value.int .i64 ds.v.lat,Value.bool (aq ds.v),Value.bool (aB ds.v),Value.slice ad od cd]) wz:=run_loadVar_mid wz (x+1) 0 56 #[Value.int .i64 m.k,Value.int .i64 (k:Nat),Value.int .i64 m.s,Value.int .i64 m.f,Value.int .i64 m.a,Value.int .u32 (m.w:Nat),Value.int .i64 m.n,Value.bool m.h,Value.slice a' m.l c',Value.int .i64 E,Value.int .i64 I,Value.int .i64 (hs.st:Nat),Value.int .u32 (hs.ss:Nat),Value.int .u32 (hs.nm:Nat),Value.int .u32 (hs.sn:Nat),Value.int .i64 (hs.dc:Nat),Value.int .i64 hs.v.lat,Value.bool (aq hs.v),Value.bool (aB hs.v),Value.slice ah oh ch,Value.int .i64 (ds.st:Nat),Value.int .u32 (ds.ss:Nat),Value.int .u32 (ds.nm:Nat),Value.int .u32 (ds.sn:Nat),Value.int .i64 (ds.dc:Nat),Value.int .i64 ds.v.lat,Value.bool (aq ds.v),Value.bool (aB ds.v),Value.slice ad od cd].toList _ hrg underlying56 rfl (by kernel_rfl)
 have HF:Hid (_):=hzz
 clear hth hrg hzz o9 hS10 hwz HT7 b7 b6 HT0
 go_wp2_with fail
 refine bodyPost_ret (v:=.tuple #[.agg #[Value.int .i64 m.k,Value.int .i64 (k:Nat),Value.int .i64 m.s,Value.int .i64 m.f,Value.int .i64 m.a,Value.int .u32 (m.w:Nat),Value.int .i64 m.n,Value.bool m.h,Value.slice a' m.l c',Value.int .i64 E,Value.int .i64 I,Value.int .i64 (hs.st:Nat),Value.int .u32 (hs.ss:Nat),Value.int .u32 (hs.nm:Nat),Value.int .u32 (hs.sn:Nat),Value.int .i64 (hs.dc:Nat),Value.int .i64 hs.v.lat,Value.bool (aq hs.v),Value.bool (aB hs.v),Value.slice ah oh ch,Value.int .i64 (ds.st:Nat),Value.int .u32 (ds.ss:Nat),Value.int .u32 (ds.nm:Nat),Value.int .u32 (ds.sn:Nat),Value.int .i64 (ds.dc:Nat),Value.int .i64 ds.v.lat,Value.bool (aq ds.v),Value.bool (aB ds.v),Value.slice ad od cd],.int .i64 0]) ((cU (t:=4) (u:=5) (ty:=56) rfl _ prog wz (by kernel_rfl) hl).trans (by kernel_rfl)) rfl ?_
 exact⟨a',c',ah,ch,ad,cd,rfl,HF.out⟩
def Ws.up (S:Ws):Ws:={ S with mv:=S.mv+1 }
def Pw.toM (L:Pw):Pw:={ L with S:=L.S.up }
theorem Pw.toM_t (L:Pw):∀ i,i≠0→L.toM.t i=L.t i:=fun i hi=>by
 unfold Pw.t
 rw[if_neg hi,if_neg hi]
 rfl
theorem jz {w:World} {B T size n x:Nat} {v:Value} {xs:List Value} {cs:Array Value} {T':TypeId} (h:w.ownsRow B T size v n xs) (hx:w.heap[x]?=some (.cells cs T' (0,0))) (hT:T≠T'):∀ k,v.ownBlock=some k→k ∉ [x]:=fun k hk hm=>by
 simp at hm
 subst hm
 obtain⟨c,hc⟩:=aQ h hk
 rw[hx]at hc
 injection hc with hc
 injection hc with _ h2 _
 exact hT h2.symm
theorem WB.up {L:Pw} {w:World} (h:WB L.core w):WB L.toM.core (w.setCell ⟨L.x,5,none⟩ (.int .i64 ((L.S.mv:Nat)+1))):=by
 have o:=Off.setCell L.x 5 w (.int .i64 ((L.S.mv:Nat)+1))
 have hb:=h.blk
 refine⟨?_,a8 h.r0 o (jz h.r0 hb (by decide)),a8 h.r1 o (jz h.r1 hb (by decide)),a8 h.rc o (jz h.rc hb (by decide)),a8 h.rf o (jz h.rf hb (by decide)),h.dl,fun i f d hf hd=>?_,fun k hk=>?_⟩
 ·exact Joins.block_setCell (w:=w) (g:=L.x) (i:=5) hb (.int .i64 ((L.S.mv:Nat)+1))
 ·obtain⟨R,hV⟩:=h.dr i f d hf hd
  exact⟨R.offY o (fun y hy hn hm=>by simp at hm;exact (h.vl _ (hV y hy hn)).2.1 hm),hV⟩
 ·exact⟨Nat.lt_of_lt_of_le (h.vl k hk).1 o.size,(h.vl k hk).2⟩
theorem PW.stepM {e:Nat→Nat} {w0 w:World} {t:Nat→Thing} {L:Pw} (h:PW e w0 w t L):PWn e w0 t L (w.setCell ⟨L.x,5,none⟩ (.int .i64 ((L.S.mv:Nat)+1))) L.S.up:=by
 have hw:=(h.2.wb h.1).up
 refine⟨_,L.toM,⟨?_,h.2.put 0 (L.toM_t)⟩,rfl,⟨rfl,rfl,rfl,rfl,rfl,rfl⟩,Els.put _ _ _ _⟩
 refine h.1.step (e 0) (wT L.toM.core) (U:=L.core.U) (by rw[h.2.2];rfl) ⟨(Off.setCell L.x 5 w _).more (fun k hk=>?_),fun k hk=>.inl hk⟩ hw (fun k hk=>hw.lt k hk)
 simp at hk
 subst hk
 simp[Wc.U,Pw.core]
theorem PW.layD {e:Nat→Nat} {w0 w:World} {t:Nat→Thing} {L:Pw} (h:PW e w0 w t L) {i:Nat} (hi:∀ j,i≠e j) {a:Option Addr} {len cap:Nat} {bs:Nat→Nat} (R:Row8 w a len cap bs) (hge:∀ y,a=some y→0<len→w0.heap.size≤y.block) (hd:∀ y,a=some y→0<len→∀ j,j≠i→y.block ∉ (t j).U):PW e w0 w (ay t i (bE a len cap bs)) L:=by
 have hu:∀ k,k ∈ (bE a len cap bs).U→∃ y,a=some y∧0<len∧y.block=k:=fun k hk=>by
  have hk:k ∈ (if 0<len then a.toList.map (·.block) else []):=hk
  split at hk
  ·next hl=>
   simp only[List.mem_map,Option.mem_toList]at hk
   obtain⟨y,hy,e⟩:=hk
   exact⟨y,hy,hl,e⟩
  ·cases hk
 refine⟨h.1.turn i _ (Off.refl _ _) R (fun k hk=>?_) (fun k hk j hj hm=>?_),h.2.1,fun j=>?_⟩
 ·obtain⟨y,hy,hl,rfl⟩:=hu k hk
  have c0:=R.src y hy 0 hl
  have hb:(y.add 0).block=y.block:=by unfold Addr.add;split <;> rfl
  have hlt:=World.block_lt_of_cell? w _ c0
  rw[hb]at hlt
  exact⟨hge y hy hl,hlt⟩
 ·obtain⟨y,hy,hl,rfl⟩:=hu k hk
  exact hd y hy hl j hj hm
 ·rw[an _ _ (fun q=>hi j q.symm)]
  exact h.2.2 j
theorem Els.putB {e:Nat→Nat} {t t':Nat→Thing} (l:Els e t t') (i:Nat) (x:Thing):Els e (ay t i x) (ay t' i x):=fun q hq=>by
 by_cases z:q=i
 ·subst z
  rw[ak,ak]
 ·rw[an _ _ z,an _ _ z]
  exact l q hq
theorem PWn.lay {e:Nat→Nat} {w0 w:World} {t:Nat→Thing} {L:Pw} {S:Ws} {w1:World} (h:PWn e w0 t L w1 S) (b:Below w1.heap.size w1 w) {i:Nat} (hi:∀ j,i≠e j) {a:Option Addr} {len cap:Nat} {bs:Nat→Nat} (R:Row8 w a len cap bs) (bN:∀ y,a=some y→0<len→w1.heap.size≤y.block):PWn e w0 (ay t i (bE a len cap bs)) L w S:=by
 obtain⟨t1,L1,h1,hs,hx,he⟩:=h
 exact⟨_,L1,h1.lay b hi R bN,hs,hx,he.putB _ _⟩
theorem rz {e:Nat→Nat} {w0 w:World} {t:Nat→Thing} {L:Pw} {S:Ws} (k:Nat) (h:PWn e w0 t L w S) (hk:k<S.n) (hF:S.fs.length≤90000):Calls prog 33 #[.pointer (some ⟨L.x,0,none⟩),.int .i64 (k:Nat)] w fun r w'=>r=.returned (.tuple #[])∧Hid (PWn e w0 t L w' (S.note [oH S k,oD S k])):=by
 obtain⟨t1,L1,h1,hs,hx,he⟩:=h
 subst hs
 have:=ud e w0 w t1 L1 k h1 hk hF
 rw[hx.x]at this
 refine this.mono ?_
 rintro r w' ⟨rfl,H⟩
 exact⟨rfl,PWn.bind hx he H.out⟩
theorem PWn.conn {e:Nat→Nat} {w0 w:World} {t:Nat→Thing} {L:Pw} {S:Ws} (h:PWn e w0 t L w S) {k:Nat} (hk:k<S.n):w.cell? ⟨L.x,3,none⟩=some (.slice (some ⟨fu L.vc,0,none⟩) S.n (gZ L.vc))∧w.cell? ⟨fu L.vc,k*3,none⟩=some (.pointer (some ⟨L.hd k,0,none⟩))∧w.cell? ⟨fu L.vc,k*3+1,none⟩=some (.pointer (some ⟨L.dd k,0,none⟩))∧w.cell? ⟨fu L.vc,k*3+2,none⟩=some (.pointer (some ⟨L.dm k,0,none⟩)):=by
 obtain⟨t1,L1,h1,hs,hx,he⟩:=h
 subst hs
 obtain⟨e1,c0,c1,c2⟩:=(h1.2.wb h1.1).conn (k:=k) hk
 have cv:w.cell? ⟨L1.x,3,none⟩=some (.slice (some ⟨fu L1.vc,0,none⟩) L1.S.n (gZ L1.vc)):=(ae w L1.x 3 _ _ _ (h1.2.wb h1.1).blk).trans (congrArg some e1)
 rw[hx.x,hx.vc]at cv
 refine⟨cv,?_,?_,?_⟩
 ·rw[← hx.vc,← hx.hd];exact c0
 ·rw[← hx.vc,← hx.dd];exact c1
 ·rw[← hx.vc,← hx.dm];exact c2
theorem PWn.hv {e:Nat→Nat} {w0 w:World} {t:Nat→Thing} {L:Pw} {S:Ws} (h:PWn e w0 t L w S) {k:Nat} (hk:k<S.n):∃ U,HV w (L.hd k) (S.PH k) U (S.hs k):=by
 obtain⟨t1,L1,h1,hs,hx,he⟩:=h
 subst hs
 have:=h1.2.hv h1.1 hk
 rw[hx.hd]at this
 exact⟨_,this⟩
theorem PWn.dv {e:Nat→Nat} {w0 w:World} {t:Nat→Thing} {L:Pw} {S:Ws} (h:PWn e w0 t L w S) {k:Nat} (hk:k<S.n):∃ g U,DV w (L.dd k) (L.dm k) g 16 S.mx (S.PD k) U (S.ds k):=by
 obtain⟨t1,L1,h1,hs,hx,he⟩:=h
 subst hs
 have:=h1.2.dv h1.1 hk
 rw[hx.dd,hx.dm]at this
 exact⟨_,_,this⟩
theorem PWn.free {e:Nat→Nat} {w0 w:World} {t:Nat→Thing} {L:Pw} {S:Ws} {w':World} (h:PWn e w0 t L w S) {i:Nat} (hi:∀ j,i≠e j) {l:List Nat} (ht:∀ k,k ∈ l→k ∈ (t i).U) (o:Off l w w'):PWn e w0 (ay t i oz) L w' S:=by
 obtain⟨t1,L1,h1,hs,hx,he⟩:=h
 refine⟨ay t1 i oz,L1,⟨h1.1.turn i oz (by rw[he i hi];exact o.more ht) trivial (fun k hk=>by simp[oz]at hk) (fun k hk=>by simp[oz]at hk),h1.2.1,fun j=>?_⟩,hs,hx,he.putB _ _⟩
 rw[an _ _ (fun z=>hi j z.symm)]
 exact h1.2.2 j
def v9 (t:Nat→Thing) (i:Nat) (m:Mv) (S:Ws) (k:Nat) (a:Option Addr) (c:Nat) (ah:Option Addr) (ch:Nat) (ad:Option Addr) (cd:Nat):Nat→Thing:=ay (ay (ay t (2 * (i+1)+1) (bE a m.l c m.b)) (2 * (i+2)+1) (bE ah (S.PH k).i ch (cG (S.hs k).v))) (2 * (i+3)+1) (bE ad (S.PD k).o cd (cG (S.ds k).v))
theorem yO (e:Nat→Nat) (w0 w:World) (t:Nat→Thing) (L:Pw) (i k:Nat) (m:Mv) (d:Option Addr) (c:Nat) (E I:Int) (S':Ws) (h:PW e w0 w t L) (F:Fre e t i) (hk:k<L.S.n) (hv:L.S.mv<4096) (R:Row8 w d m.l c m.b) (hdx:∀ y,d=some y→0<m.l→y.block≠L.x) (hl:m.l≤140737488351232) (hn:S'.n=L.S.n) (hF:S'.fs.length≤90000)
  (hRf:∀ w1,Below w.heap.size w w1→Calls prog 30 #[.pointer (some ⟨L.x,0,none⟩),.agg #[.int .i64 m.k,.int .i64 (k:Nat),.int .i64 m.s,.int .i64 m.f,.int .i64 m.a,.int .u32 (m.w:Nat),.int .i64 m.n,.bool m.h,.slice d m.l c]] w1 fun r w'=>r=.returned (.int .i64 0)∧Hid (Below w1.heap.size w1 w'))
  (hAct:∀ a' c' w1 t1,PWn e w0 t1 L w1 L.S.up→Fre e t1 (i+2)→t1 (2 * (i+1)+1)=bE a' m.l c' m.b→Calls prog 32 #[.pointer (some ⟨L.x,0,none⟩),.agg #[.int .i64 m.k,.int .i64 (k:Nat),.int .i64 m.s,.int .i64 m.f,.int .i64 m.a,.int .u32 (m.w:Nat),.int .i64 m.n,.bool m.h,.slice a' m.l c']] w1 fun r w'=>r=.returned (.tuple #[.int .i64 E,.int .i64 I])∧Hid (PWn e w0 t1 L w' S')) :
  Calls prog 16 #[.pointer (some ⟨L.x,0,none⟩),.agg #[.int .i64 m.k,.int .i64 (k:Nat),.int .i64 m.s,.int .i64 m.f,.int .i64 m.a,.int .u32 (m.w:Nat),.int .i64 m.n,.bool m.h,.slice d m.l c]] w fun r w'=>∃ a' c' ah ch ad cd,r=.returned (.tuple #[.agg #[Value.int .i64 m.k,Value.int .i64 (k:Nat),Value.int .i64 m.s,Value.int .i64 m.f,Value.int .i64 m.a,Value.int .u32 (m.w:Nat),Value.int .i64 m.n,Value.bool m.h,Value.slice a' m.l c',Value.int .i64 E,Value.int .i64 I,Value.int .i64 ((S'.hs k).st:Nat),Value.int .u32 ((S'.hs k).ss:Nat),Value.int .u32 ((S'.hs k).nm:Nat),Value.int .u32 ((S'.hs k).sn:Nat),Value.int .i64 ((S'.hs k).dc:Nat),Value.int .i64 (S'.hs k).v.lat,Value.bool (aq (S'.hs k).v),Value.bool (aB (S'.hs k).v),Value.slice ah (S'.PH k).i ch,Value.int .i64 ((S'.ds k).st:Nat),Value.int .u32 ((S'.ds k).ss:Nat),Value.int .u32 ((S'.ds k).nm:Nat),Value.int .u32 ((S'.ds k).sn:Nat),Value.int .i64 ((S'.ds k).dc:Nat),Value.int .i64 (S'.ds k).v.lat,Value.bool (aq (S'.ds k).v),Value.bool (aB (S'.ds k).v),Value.slice ad (S'.PD k).o cd],.int .i64 0])∧Hid (PWn e w0 (v9 t i m S' k a' c' ah ch ad cd) L w' (S'.note [oH S' k,oD S' k])):=by
 have i0:=(F i (Nat.le_refl _))
 have i1:=(F (i+1) (by omega)).1
 have i2:=(F (i+2) (by omega)).1
 have i3:=(F (i+3) (by omega)).1
 obtain⟨T1,hT1⟩:∃ y:Option Addr→Nat→Nat→Thing,y=fun a' c'=>ay (ay t (2*i+1) (fB [(w.heap.size,.cells #[.int .i64 m.k,.int .i64 (k:Nat),.int .i64 m.s,.int .i64 m.f,.int .i64 m.a,.int .u32 (m.w:Nat),.int .i64 m.n,.bool m.h,.slice a' m.l c'] 51 (0,0)),(w.heap.size+1,.cells #[.int .i64 0,.int .i64 0,.int .i64 0,.int .i64 0,.int .i64 0,.int .u32 0,.int .i64 0,.bool false,.slice none 0 0,.int .i64 0,.int .i64 0,.int .i64 0,.int .u32 0,.int .u32 0,.int .u32 0,.int .i64 0,.int .i64 0,.bool false,.bool false,.slice none 0 0,.int .i64 0,.int .u32 0,.int .u32 0,.int .u32 0,.int .i64 0,.int .i64 0,.bool false,.bool false,.slice none 0 0] 56 (0,0))])) (2 * (i+1)+1) (bE a' m.l c' m.b):=⟨_,rfl⟩
 have F1:∀ a' c',Fre e (T1 a' c') (i+2):=fun a' c'=>by rw[hT1];exact (F.put _).put _
 have b1:∀ a' c',T1 a' c' (2*i+1)=(fB [(w.heap.size,.cells #[.int .i64 m.k,.int .i64 (k:Nat),.int .i64 m.s,.int .i64 m.f,.int .i64 m.a,.int .u32 (m.w:Nat),.int .i64 m.n,.bool m.h,.slice a' m.l c'] 51 (0,0)),(w.heap.size+1,.cells #[.int .i64 0,.int .i64 0,.int .i64 0,.int .i64 0,.int .i64 0,.int .u32 0,.int .i64 0,.bool false,.slice none 0 0,.int .i64 0,.int .i64 0,.int .i64 0,.int .u32 0,.int .u32 0,.int .u32 0,.int .i64 0,.int .i64 0,.bool false,.bool false,.slice none 0 0,.int .i64 0,.int .u32 0,.int .u32 0,.int .u32 0,.int .i64 0,.int .i64 0,.bool false,.bool false,.slice none 0 0] 56 (0,0))]):=fun a' c'=>by
  rw[hT1]
  dsimp only
  rw[an _ _ (by omega),ak]
 have r1:∀ a' c',T1 a' c' (2 * (i+1)+1)=bE a' m.l c' m.b:=fun a' c'=>by
  rw[hT1]
  dsimp only
  rw[ak]
 have hwb:=h.2.wb h.1
 have hsz:(w.setCell ⟨L.x,5,none⟩ (.int .i64 ((L.S.mv:Nat)+1))).heap.size=w.heap.size:=by simp[World.setCell]
 refine zi L.x (fu L.vc) (gZ L.vc) L.S.n k (L.hd k) (L.dd k) (L.dm k) L.S.mv m d c E I (S'.hs k) (S'.ds k) (S'.PH k).i (S'.PD k).o w (fun a' c' w1=>PWn e w0 (T1 a' c') L w1 L.S.up) (fun a' c' w1=>PWn e w0 (T1 a' c') L w1 S') (fun a' c' w1=>PWn e w0 (T1 a' c') L w1 (S'.note [oH S' k,oD S' k]))
  (fun a' c' ah ch w1=>PWn e w0 (ay (T1 a' c') (2 * (i+2)+1) (bE ah (S'.PH k).i ch (cG (S'.hs k).v))) L w1 (S'.note [oH S' k,oD S' k]))
  (fun a' c' ah ch ad cd w1=>PWn e w0 (ay (ay (T1 a' c') (2 * (i+2)+1) (bE ah (S'.PH k).i ch (cG (S'.hs k).v))) (2 * (i+3)+1) (bE ad (S'.PD k).o cd (cG (S'.ds k).v))) L w1 (S'.note [oH S' k,oD S' k]))
  (fun a' c' ah ch ad cd w1=>PWn e w0 (v9 t i m S' k a' c' ah ch ad cd) L w1 (S'.note [oH S' k,oD S' k]))
  hv (ae w L.x 5 _ _ _ hwb.blk) hwb.blk ?_ hRf ?_ ?_ ?_ ?_ ?_ ?_ (by omega) ?_ ?_ ?_ ?_
 ·intro a' c' w1 H
  have:=H.out.box i0.1 (b1 a' c') _ (List.mem_cons_of_mem _ (List.mem_cons_self ..))
  exact (Array.getElem?_eq_some_iff.1 this).1
 ·intro w1 hb
  have o:Off [L.x] w w1:=(Off.setCell L.x 5 w _).trans (Off.of_below (l:=[L.x]) (by rw[hsz];exact hb))
  refine (iM d m.l c m.b w1 (R.offY o (fun y hy hn hm=>hdx y hy hn (by simpa using hm))) hl).mono ?_
  rintro r w' ⟨a',c',rfl,H⟩
  obtain⟨a2,c2,e2,R2⟩:=Fr.row (f:=(m.l,m.b)) H.out.2 (fun j hj=>R.byte j hj)
  injection e2 with e3 _ e4
  subst e3 e4
  exact⟨a',c',rfl,H.out.1,R2,Fr.newY (n:=m.l) (bs:=m.b) H.out.2⟩
 ·intro w1 a' c' hb kx ky R1 hn1
  obtain⟨t2,L2,h2,hs2,hx2,he2⟩:=h.stepM
  have hb':Below (w.setCell ⟨L.x,5,none⟩ (.int .i64 ((L.S.mv:Nat)+1))).heap.size (w.setCell ⟨L.x,5,none⟩ (.int .i64 ((L.S.mv:Nat)+1))) w1:=by rw[hsz];exact hb
  have h3:=h2.layL hb' (i:=2*i+1) i0.1 (l:=[(w.heap.size,.cells #[.int .i64 m.k,.int .i64 (k:Nat),.int .i64 m.s,.int .i64 m.f,.int .i64 m.a,.int .u32 (m.w:Nat),.int .i64 m.n,.bool m.h,.slice a' m.l c'] 51 (0,0)),(w.heap.size+1,.cells #[.int .i64 0,.int .i64 0,.int .i64 0,.int .i64 0,.int .i64 0,.int .u32 0,.int .i64 0,.bool false,.slice none 0 0,.int .i64 0,.int .i64 0,.int .i64 0,.int .u32 0,.int .u32 0,.int .u32 0,.int .i64 0,.int .i64 0,.bool false,.bool false,.slice none 0 0,.int .i64 0,.int .u32 0,.int .u32 0,.int .u32 0,.int .i64 0,.int .i64 0,.bool false,.bool false,.slice none 0 0] 56 (0,0))]) (fun p hp=>by
   simp only[List.mem_cons,List.not_mem_nil,or_false]at hp
   rcases hp with rfl | rfl
   ·exact kx
   ·exact ky) (fun p hp=>by
   rw[hsz]
   simp only[List.mem_cons,List.not_mem_nil,or_false]at hp
   rcases hp with rfl | rfl
   ·exact Nat.le_refl _
   ·exact Nat.le_succ _)
  have hw0:=h.1.size
  have h4:=h3.layD (i:=2 * (i+1)+1) i1 R1 (fun y hy hl=>by have:=hn1 y hy hl;omega) (fun y hy hl j hj hm=>by
   have q1:=hn1 y hy hl
   by_cases z:j=2*i+1
   ·subst z
    rw[ak]at hm
    have hm:y.block ∈ [w.heap.size,w.heap.size+1]:=hm
    simp at hm
    omega
   ·rw[an _ _ z]at hm
    have:=(h2.1.lt j _ hm).2
    rw[hsz]at this
    omega)
  refine⟨_,L2,h4,hs2,hx2,?_⟩
  rw[hT1]
  exact (he2.putB _ _).putB _ _
 ·intro a' c' w1 q
  exact hAct a' c' w1 _ q (F1 a' c') (r1 a' c')
 ·intro a' c' w1 H
  exact H.out.box i0.1 (b1 a' c') _ (List.mem_cons_self ..)
 ·intro a' c' w1 H
  exact rz k H.out (by omega) hF
 ·intro a' c' w1 H
  refine⟨H.out.box i0.1 (b1 a' c') _ (List.mem_cons_self ..),?_⟩
  have:=H.out.conn (k:=k) (by show k<S'.n;omega)
  have e1:(S'.note [oH S' k,oD S' k]).n=L.S.n:=hn
  rw[e1]at this
  exact this
 ·intro a' c' w1 w2 H b
  have H2:=H.out.below b
  obtain⟨U,hv⟩:=H2.hv (k:=k) (by show k<S'.n;omega)
  refine (iY (L.hd k) (S'.PH k) U (S'.hs k) w2 hv).mono ?_
  rintro r w' ⟨ah,ch,rfl,H3⟩
  exact⟨ah,ch,rfl,H3.out.2.2,H2.lay H3.out.2.2 i2 H3.out.2.1 H3.out.1.newY⟩
 ·intro a' c' ah ch w1 H
  obtain⟨g,U,dv⟩:=H.dv (k:=k) (by show k<S'.n;omega)
  refine (iH (L.dd k) (L.dm k) g 16 S'.mx (S'.PD k) U (S'.ds k) w1 dv).mono ?_
  rintro r w' ⟨ad,cd,rfl,H3⟩
  exact⟨ad,cd,rfl,H3.out.2.2,H.lay H3.out.2.2 i3 H3.out.2.1 H3.out.1.newY⟩
 ·intro a' c' ah ch ad cd w1 H
  exact H.box i0.1 (by rw[an _ _ (by omega),an _ _ (by omega)];exact b1 a' c') _ (List.mem_cons_of_mem _ (List.mem_cons_self ..))
 ·intro a' c' ah ch ad cd w1 H
  have H2:=H.free (i:=2*i+1) i0.1 (l:=[w.heap.size+1]) (fun q hq=>by
   rw[an _ _ (by omega),an _ _ (by omega),b1]
   have hq:q=w.heap.size+1:=by simpa using hq
   subst hq
   show w.heap.size+1 ∈ [w.heap.size,w.heap.size+1]
   simp) (bu w1 (w.heap.size+1) 0 #[Value.int .i64 m.k,Value.int .i64 (k:Nat),Value.int .i64 m.s,Value.int .i64 m.f,Value.int .i64 m.a,Value.int .u32 (m.w:Nat),Value.int .i64 m.n,Value.bool m.h,Value.slice a' m.l c',Value.int .i64 E,Value.int .i64 I,Value.int .i64 ((S'.hs k).st:Nat),Value.int .u32 ((S'.hs k).ss:Nat),Value.int .u32 ((S'.hs k).nm:Nat),Value.int .u32 ((S'.hs k).sn:Nat),Value.int .i64 ((S'.hs k).dc:Nat),Value.int .i64 (S'.hs k).v.lat,Value.bool (aq (S'.hs k).v),Value.bool (aB (S'.hs k).v),Value.slice ah (S'.PH k).i ch,Value.int .i64 ((S'.ds k).st:Nat),Value.int .u32 ((S'.ds k).ss:Nat),Value.int .u32 ((S'.ds k).nm:Nat),Value.int .u32 ((S'.ds k).sn:Nat),Value.int .i64 ((S'.ds k).dc:Nat),Value.int .i64 (S'.ds k).v.lat,Value.bool (aq (S'.ds k).v),Value.bool (aB (S'.ds k).v),Value.slice ad (S'.PD k).o cd].toList)
  obtain⟨t5,L5,h5,hs5,hx5,he5⟩:=H2
  refine⟨t5,L5,h5,hs5,hx5,fun q hq=>?_⟩
  rw[he5 q hq,hT1]
  unfold v9
  dsimp only
  by_cases z3:q=2 * (i+3)+1
  ·subst z3
   rw[an _ _ (by omega),ak,ak]
  by_cases z2:q=2 * (i+2)+1
  ·subst z2
   rw[an _ _ (by omega),an _ _ z3,ak,an _ _ z3,ak]
  by_cases z1:q=2 * (i+1)+1
  ·subst z1
   rw[an _ _ (by omega),an _ _ z3,an _ _ z2,ak,an _ _ z3,an _ _ z2,ak]
  rw[an _ _ z3,an _ _ z2,an _ _ z1]
  by_cases z0:q=2*i+1
  ·subst z0
   rw[ak]
   exact i0.2.symm
  ·rw[an _ _ z0,an _ _ z3,an _ _ z2,an _ _ z1,an _ _ z0]
structure Ws.Ok (S:Ws) (m:Mv):Prop where
 mv:S.mv<4096
 k1:1≤m.k
 k8:m.k≤8
 c0:0≤m.c
 cn:m.c < ((S.n:Nat):Int)
 sd:eM m.k=true→m.s=1∨m.s=2
 fr:m.k=3∨m.k=4→0≤m.f∧m.f < ((S.bg.length:Nat):Int)
 gb:m.k=4→cE ((S.bg.getD m.f.toNat dX).1:Nat) m.a m.w=0
theorem Ws.Ok.of {S:Ws} {m:Mv} (h:S.bad m=0):S.Ok m:=by
 unfold Ws.bad at h
 by_cases q1:4096≤S.mv
 ·rw[if_pos q1]at h;omega
 rw[if_neg q1]at h
 by_cases q2:m.k<1∨8<m.k
 ·rw[if_pos q2]at h;omega
 rw[if_neg q2]at h
 by_cases q3:m.c<0∨((S.n:Nat):Int)≤m.c
 ·rw[if_pos q3]at h;omega
 rw[if_neg q3]at h
 by_cases q4:eM m.k=true∧m.s≠1∧m.s≠2
 ·rw[if_pos q4]at h;omega
 rw[if_neg q4]at h
 refine⟨by omega,by omega,by omega,by omega,by omega,fun q=>?_,fun q=>?_,fun q=>?_⟩
 ·by_cases z1:m.s=1
  ·exact .inl z1
  ·by_cases z2:m.s=2
   ·exact .inr z2
   ·exact absurd ⟨q,z1,z2⟩ q4
 ·by_cases z:m.f<0∨((S.bg.length:Nat):Int)≤m.f
  ·rcases q with q | q
   ·rw[if_pos q,if_pos z]at h;omega
   ·rw[if_neg (by omega),if_pos q,if_pos z]at h;omega
  ·omega
 ·rw[if_neg (by omega),if_pos q]at h
  by_cases z:m.f<0∨((S.bg.length:Nat):Int)≤m.f
  ·rw[if_pos z]at h;omega
  ·rw[if_neg z]at h;exact h
theorem zu (e:Nat→Nat) (w0 w:World) (t:Nat→Thing) (L:Pw) (m:Mv) (d:Option Addr) (c:Nat) (h:PW e w0 w t L) (h0:0≤m.f) (h1:m.f < ((L.S.bg.length:Nat):Int)) (hw:m.w<4294967296) (h4:m.k=4→cE (((L.S.bg.getD m.f.toNat dX).1:Nat):Int) m.a m.w=0) :
  Calls prog 68 #[.pointer (some ⟨L.x,0,none⟩),.agg #[.int .i64 m.k,.int .i64 m.c,.int .i64 m.s,.int .i64 m.f,.int .i64 m.a,.int .u32 (m.w:Nat),.int .i64 m.n,.bool m.h,.slice d m.l c]] w fun r w'=>∃ a n cap,r=.returned (.tuple #[.slice a n cap,.int .i64 0])∧Hid (Below w.heap.size w w'):=by
 have hlt:m.f.toNat<L.S.bg.length:=by omega
 have hI:((m.f.toNat:Nat):Int)=m.f:=by omega
 obtain⟨f,hf⟩:∃ y,L.S.bg.getD m.f.toNat dX=y:=⟨_,rfl⟩
 have hg:L.S.bg[m.f.toNat]?=some f:=by
  rw[← hf,List.getD_eq_getElem?_getD,List.getElem?_eq_getElem hlt]
  rfl
 rw[hf]at h4
 refine (nG L.x L.b m d c (L.S.fr m) w (fun a cap w'=>Below w.heap.size w w') (ae w L.x 4 _ _ _ (h.2.wb h.1).blk) (fun wx hk bx=>?_) (fun wx hk bx=>?_)).mono ?_
 ·have hp:=h.below bx
  have e1:L.S.fr m=vF f m.a.toNat m.w:=by
   unfold Ws.fr
   rw[if_pos hk,hf]
  have hm:=h4 hk
  have hm2:¬ (m.w=0∨m.a<0∨8 * ((f.1:Nat):Int)<m.a + ((PM.bl m.w:Nat):Int)):=fun q=>by
   unfold cE at hm
   rw[if_neg (by omega),if_pos q]at hm
   omega
  have hA:((m.a.toNat:Nat):Int)=m.a:=by omega
  have:=jD 0 L.b L.m L.bv L.bs L.bp L.S.bg m.f.toNat f m.a.toNat m.w wx (hp.2.bg hp.1).1 hg hw (fun q=>hm2 (.inl q)) (by omega)
  rw[hI,hA]at this
  refine this.mono ?_
  rintro r w' ⟨g,cap,rfl,H⟩
  rw[e1]
  exact⟨some ⟨g,0,none⟩,cap,rfl,bx.trans (H.out.1.mono bx.size),H.out.1⟩
 ·have hp:=h.below bx
  have e1:L.S.fr m=f:=by
   unfold Ws.fr
   rw[if_neg hk,hf]
  have:=iC 0 L.b L.m L.bv L.bs L.bp L.S.bg m.f.toNat f wx (hp.2.bg hp.1).1 hg
  rw[hI]at this
  refine this.mono ?_
  rintro r w' ⟨a,cap,rfl,H⟩
  rw[e1]
  exact⟨a,cap,rfl,bx.trans (H.out.1.mono bx.size),H.out.1⟩
 ·rintro r w' ⟨a,cap,rfl,H⟩
  exact⟨a,_,cap,rfl,H⟩
theorem xP {e:Nat→Nat} {w0 w:World} {t:Nat→Thing} {L:Pw} {S:Ws} (k i:Nat) (h:PWn e w0 t L w S) (F:Fre e t i) (hk:k<S.n) (hF:S.fs.length≤90000) (hB:S.bg.length<4096) (ho:(S.hs k).ms<4) (h5:1 ≤ (S.hs k).st∧(S.hs k).st≤5) (hsn:(S.hs k).st=4→(S.hs k).sn+1<4294967296) (hL:(S.hs k).L.length<700000) (hb:∀ j,j < (az (S.PH k) (S.hs k)).1→(az (S.PH k) (S.hs k)).2 j<256) (hf:(az (S.PH k) (S.hs k)).1≤27):Calls prog 50 #[.pointer (some ⟨L.x,0,none⟩),.int .i64 (k:Nat)] w fun r w'=>r=.returned (.tuple #[.int .i64 (S.snd k).e,.int .i64 (S.snd k).i])∧Hid (PWn e w0 t L w' (S.snd k).S):=by
 obtain⟨t1,L1,h1,hs,hx,he⟩:=h
 subst hs
 have:=aab e w0 w t1 L1 k i h1 (F.els he) hk hF hB ho h5 hsn hL hb hf
 rw[hx.x]at this
 refine this.mono ?_
 rintro r w' ⟨rfl,H⟩
 exact⟨rfl,PWn.bind hx he H.out⟩
theorem sj {e:Nat→Nat} {w0 w:World} {t:Nat→Thing} {L:Pw} {S:Ws} (i k:Nat) (m:Mv) (d:Option Addr) (c:Nat) (h:PWn e w0 t L w S) (F:Fre e t i) (hc:m.c=((k:Nat):Int)) (hk:k<S.n) (hF:S.fs.length≤80000) (hB:S.bg.length<4096) (h0:0≤m.f) (h1:m.f < ((S.bg.length:Nat):Int)) (hw:m.w<4294967296) (h4:m.k=4→cE (((S.bg.getD m.f.toNat dX).1:Nat):Int) m.a m.w=0)
  (hHL:(S.hs k).L.length<800000) (hsn:(S.ds k).st=4→(S.ds k).sn+1<4294967296) (ho:(S.ds k).od<4) (hL:(S.ds k).L.length<800000) (htm:(S.ds k).ms.t<9223372036854774000) (hb:∀ j,j < (au (S.PD k) S.mx 16 (S.ds k) (S.fr m).1 (S.fr m).2).f.1→(au (S.PD k) S.mx 16 (S.ds k) (S.fr m).1 (S.fr m).2).f.2 j<256) (hf:(au (S.PD k) S.mx 16 (S.ds k) (S.fr m).1 (S.fr m).2).f.1≤27) :
  Calls prog 51 #[.pointer (some ⟨L.x,0,none⟩),.agg #[.int .i64 m.k,.int .i64 m.c,.int .i64 m.s,.int .i64 m.f,.int .i64 m.a,.int .u32 (m.w:Nat),.int .i64 m.n,.bool m.h,.slice d m.l c]] w fun r w'=>r=.returned (.tuple #[.int .i64 (S.dlv m k).e,.int .i64 (S.dlv m k).i])∧Hid (PWn e w0 t L w' (S.dlv m k).S):=by
 obtain⟨t1,L1,h9,hs,hx,he⟩:=h
 subst hs
 have:=tF e w0 w t1 L1 i k m d c h9 (F.els he) hc hk hF hB h0 h1 hw h4 hHL hsn ho hL htm hb hf
 rw[hx.x]at this
 refine this.mono ?_
 rintro r w' ⟨rfl,H⟩
 exact⟨rfl,PWn.bind hx he H.out⟩
theorem aae {e:Nat→Nat} {w0 w:World} {t:Nat→Thing} {L:Pw} {S:Ws} (k i:Nat) (m:Mv) (d:Option Addr) (c:Nat) (h:PWn e w0 t L w S) (F:Fre e t i) (h2:m.k=2) (hk:k<S.n) (hF:S.fs.length≤90000) (hB:S.bg.length<4096) (ho:(S.hs k).ms<4) (h5:1 ≤ (S.hs k).st∧(S.hs k).st≤5) (hsn:(S.hs k).st=4→(S.hs k).sn+1<4294967296) (hL:(S.hs k).L.length<700000) (hb:∀ j,j < (az (S.PH k) (S.hs k)).1→(az (S.PH k) (S.hs k)).2 j<256) (hf:(az (S.PH k) (S.hs k)).1≤27):Calls prog 32 #[.pointer (some ⟨L.x,0,none⟩),.agg #[.int .i64 m.k,.int .i64 (k:Nat),.int .i64 m.s,.int .i64 m.f,.int .i64 m.a,.int .u32 (m.w:Nat),.int .i64 m.n,.bool m.h,.slice d m.l c]] w fun r w'=>r=.returned (.tuple #[.int .i64 (S.snd k).e,.int .i64 (S.snd k).i])∧Hid (PWn e w0 t L w' (S.snd k).S):=by
 obtain⟨cv,c0,c1,c2⟩:=h.conn hk
 exact zw L.x (fu L.vc) (gZ L.vc) S.n k (L.hd k) (L.dd k) (L.dm k) m d c _ _ w _ cv c0 c1 c2 (by omega) (ce h2) (fun w1 b1=>xP k i (h.below b1) F hk hF hB ho h5 hsn hL hb hf)
theorem yW {e:Nat→Nat} {w0 w:World} {t:Nat→Thing} {L:Pw} {S:Ws} (k i:Nat) (m:Mv) (d:Option Addr) (c:Nat) (h:PWn e w0 t L w S) (F:Fre e t i) (h3:m.k=3∨m.k=4) (hc:m.c=((k:Nat):Int)) (hk:k<S.n) (hF:S.fs.length≤80000) (hB:S.bg.length<4096) (h0:0≤m.f) (h1:m.f < ((S.bg.length:Nat):Int)) (hw:m.w<4294967296) (h4:m.k=4→cE (((S.bg.getD m.f.toNat dX).1:Nat):Int) m.a m.w=0)
  (hHL:(S.hs k).L.length<800000) (hsn:(S.ds k).st=4→(S.ds k).sn+1<4294967296) (ho:(S.ds k).od<4) (hL:(S.ds k).L.length<800000) (htm:(S.ds k).ms.t<9223372036854774000) (hb:∀ j,j < (au (S.PD k) S.mx 16 (S.ds k) (S.fr m).1 (S.fr m).2).f.1→(au (S.PD k) S.mx 16 (S.ds k) (S.fr m).1 (S.fr m).2).f.2 j<256) (hf:(au (S.PD k) S.mx 16 (S.ds k) (S.fr m).1 (S.fr m).2).f.1≤27):Calls prog 32 #[.pointer (some ⟨L.x,0,none⟩),.agg #[.int .i64 m.k,.int .i64 (k:Nat),.int .i64 m.s,.int .i64 m.f,.int .i64 m.a,.int .u32 (m.w:Nat),.int .i64 m.n,.bool m.h,.slice d m.l c]] w fun r w'=>r=.returned (.tuple #[.int .i64 (S.dlv m k).e,.int .i64 (S.dlv m k).i])∧Hid (PWn e w0 t L w' (S.dlv m k).S):=by
 obtain⟨cv,c0,c1,c2⟩:=h.conn hk
 have hD:∀ w1,Below w.heap.size w w1→Calls prog 51 #[.pointer (some ⟨L.x,0,none⟩),.agg #[.int .i64 m.k,.int .i64 (k:Nat),.int .i64 m.s,.int .i64 m.f,.int .i64 m.a,.int .u32 (m.w:Nat),.int .i64 m.n,.bool m.h,.slice d m.l c]] w1 fun r w'=>r=.returned (.tuple #[.int .i64 (S.dlv m k).e,.int .i64 (S.dlv m k).i])∧Hid (PWn e w0 t L w' (S.dlv m k).S):=fun w1 b1=>by
  have:=sj i k m d c (h.below b1) F hc hk hF hB h0 h1 hw h4 hHL hsn ho hL htm hb hf
  rw[hc]at this
  exact this
 rcases h3 with h3 | h3
 ·exact yU L.x (fu L.vc) (gZ L.vc) S.n k (L.hd k) (L.dd k) (L.dm k) m d c _ _ w _ cv c0 c1 c2 (by omega) (aw (by omega)) (ce h3) hD
 ·exact aac L.x (fu L.vc) (gZ L.vc) S.n k (L.hd k) (L.dd k) (L.dm k) m d c _ _ w _ cv c0 c1 c2 (by omega) (aw (by omega)) (aw (by omega)) (ce h3) hD
def s0 (P Q:Pm) (mx:Nat):Ws:=⟨1,fun _=>P,fun _=>Q,fun _=>bN,fun _=>dJ M0,mx,[],0,[]⟩
def fA (L:Pw):Nat→Thing:=fun q=>if q % 2=0 then L.t (q / 2) else oz
def ev (j:Nat):Nat:=2*j
theorem dS (L:Pw):Fre ev (fA L) 0:=fun q _=>⟨fun j=>by unfold ev;omega,by unfold fA;rw[if_neg (by omega)]⟩
theorem ww (L:Pw):Wat ev (fA L) L:=⟨fun i j h=>by unfold ev at h;omega,fun j=>by unfold fA ev;rw[if_pos (by omega),show 2*j / 2=j by omega]⟩
def tr (P Q:Pm) (mx:Nat) (X b m:Nat) (a0:Option Addr) (c0:Nat) (a1:Option Addr) (c1:Nat) (h d dm g:Nat) (av:Option Addr) (cv:Nat) (hU dU:List Nat):Pw:=⟨X,.slice a0 1 c0,.slice a1 1 c1,.slice av 1 cv,.slice none 0 0,[],[],b,m,.slice none 0 0,[],none,fun _=>h,fun _=>hU,fun _=>d,fun _=>dm,fun _=>g,fun _=>dU,s0 P Q mx⟩
theorem NwF.mem {P Q:Pm} {mx X b m:Nat} {a0:Option Addr} {c0:Nat} {a1:Option Addr} {c1 h d dm g:Nat} {av:Option Addr} {cv:Nat} {hU dU:List Nat} (q k:Nat) (hk:k ∈ (fA (tr P Q mx X b m a0 c0 a1 c1 h d dm g av cv hU dU) q).U) :
  (q=0∧(k=X∨(Value.slice a0 1 c0).ownBlock=some k∨(Value.slice a1 1 c1).ownBlock=some k∨(Value.slice av 1 cv).ownBlock=some k))∨(q=2∧(k=b∨k=m))∨(q=4∧k ∈ hU)∨(q=6∧k ∈ dU):=by
 unfold fA at hk
 by_cases h2:q % 2=0
 ·rw[if_pos h2]at hk
  unfold Pw.t at hk
  by_cases z0:q / 2=0
  ·rw[if_pos z0]at hk
   have hk:k ∈ (tr P Q mx X b m a0 c0 a1 c1 h d dm g av cv hU dU).core.U:=hk
   simp only[Wc.U,Pw.core,tr,List.mem_cons,List.mem_append,Option.mem_toList,List.not_mem_nil,or_false]at hk
   refine .inl ⟨by omega,?_⟩
   rcases hk with hk | hk | hk | hk | hk
   ·exact .inl hk
   ·exact .inr (.inl hk)
   ·exact .inr (.inr (.inl hk))
   ·exact .inr (.inr (.inr hk))
   ·cases hk
  rw[if_neg z0]at hk
  by_cases z1:q / 2=1
  ·rw[if_pos z1]at hk
   have hk:k ∈ kD b m (.slice none 0 0) [] none:=hk
   simp[kD,Value.ownBlock]at hk
   exact .inr (.inl ⟨by omega,hk⟩)
  rw[if_neg z1]at hk
  by_cases z2:q / 2-2<2 * (tr P Q mx X b m a0 c0 a1 c1 h d dm g av cv hU dU).S.n
  ·rw[if_pos z2]at hk
   have z2:q / 2-2<2*1:=z2
   by_cases z3:(q / 2-2) % 2=0
   ·rw[if_pos z3]at hk
    exact .inr (.inr (.inl ⟨by omega,hk⟩))
   ·rw[if_neg z3]at hk
    exact .inr (.inr (.inr ⟨by omega,hk⟩))
  ·rw[if_neg z2]at hk
   simp[oz]at hk
 ·rw[if_neg h2]at hk
  simp[oz]at hk
theorem NwF.pw {P Q:Pm} {mx:Nat} {w w':World} {X b m:Nat} {a0:Option Addr} {c0:Nat} {a1:Option Addr} {c1 h d dm g:Nat} {av:Option Addr} {cv:Nat} {hU dU:List Nat} (F:NwF P Q mx w w' X b m a0 c0 a1 c1 h d dm g av cv hU dU):PW ev w w' (fA (tr P Q mx X b m a0 c0 a1 c1 h d dm g av cv hU dU)) (tr P Q mx X b m a0 c0 a1 c1 h d dm g av cv hU dU):=by
 have wb:WB (tr P Q mx X b m a0 c0 a1 c1 h d dm g av cv hU dU).core w':=by
  refine⟨F.blk,?_,?_,?_,⟨rfl,.inl ⟨rfl,rfl⟩⟩,rfl,fun i f d hf=>by simp[tr,Pw.core,s0]at hf,fun k hk=>by simp[tr,Pw.core]at hk⟩
  ·have:=ei F.r0 (Nat.zero_le _)
   show w'.ownsRow 0 42 5 (.slice a0 1 c0) 1 (wN 1 (fun _=>P))
   rw[show wN 1 (fun _=>P)=P.cs by simp[wN]]
   exact this
  ·have:=ei F.r1 (Nat.zero_le _)
   show w'.ownsRow 0 42 5 (.slice a1 1 c1) 1 (wN 1 (fun _=>Q))
   rw[show wN 1 (fun _=>Q)=Q.cs by simp[wN]]
   exact this
  ·have:=ei F.rc (Nat.zero_le _)
   show w'.ownsRow 0 79 3 (.slice av 1 cv) 1 (oY 1 (fun _=>h) (fun _=>d) (fun _=>dm))
   rw[show oY 1 (fun _=>h) (fun _=>d) (fun _=>dm)=[.pointer (some ⟨h,0,none⟩),.pointer (some ⟨d,0,none⟩),.pointer (some ⟨dm,0,none⟩)] by simp[oY]]
   exact this
 refine⟨⟨F.bel,fun q=>?_,fun q k hk=>?_,fun p q hpq k hp hq=>?_⟩,ww _⟩
 ·unfold fA
  by_cases h2:q % 2=0
  ·rw[if_pos h2]
   unfold Pw.t
   by_cases z0:q / 2=0
   ·rw[if_pos z0]
    exact wb
   rw[if_neg z0]
   by_cases z1:q / 2=1
   ·rw[if_pos z1]
    exact⟨F.bg,rfl⟩
   rw[if_neg z1]
   by_cases z2:q / 2-2<2 * (tr P Q mx X b m a0 c0 a1 c1 h d dm g av cv hU dU).S.n
   ·rw[if_pos z2]
    by_cases z3:(q / 2-2) % 2=0
    ·rw[if_pos z3]
     exact F.hv
    ·rw[if_neg z3]
     exact F.dv
   ·rw[if_neg z2]
    trivial
  ·rw[if_neg h2]
   trivial
 ·have lm:=F.lm
  have mb:=F.mb
  have bX:=F.bX
  have lX:=(Array.getElem?_eq_some_iff.1 F.blk).1
  rcases NwF.mem q k hk with ⟨_,hk | hk | hk | hk⟩ | ⟨_,hk | hk⟩ | ⟨_,hk⟩ | ⟨_,hk⟩
  ·omega
  ·exact F.r0.lt k hk
  ·exact F.r1.lt k hk
  ·exact F.rc.lt k hk
  ·omega
  ·omega
  ·have:=(F.lh k hk).1
   have:=HV.ult F.hv k hk
   omega
  ·have:=F.ld k hk
   have:=DV.ult F.dv k hk
   omega
 ·have mb:=F.mb
  have bX:=F.bX
  rcases NwF.mem p k hp with ⟨e1,hp | hp | hp | hp⟩ | ⟨e1,hp | hp⟩ | ⟨e1,hp⟩ | ⟨e1,hp⟩
  all_goals rcases NwF.mem q k hq with ⟨e2,hq | hq | hq | hq⟩ | ⟨e2,hq | hq⟩ | ⟨e2,hq⟩ | ⟨e2,hq⟩
  all_goals first
   | exact hpq (by omega)
   | omega
   | (have:=F.l0 k hp;omega)
   | (have:=F.l1 k hp;omega)
   | (have:=F.l0 k hq;omega)
   | (have:=F.l1 k hq;omega)
   | (have:=(F.lc k hp).1;omega)
   | (have:=(F.lc k hq).1;omega)
   | (have:=(F.lh k hp).1;omega)
   | (have:=(F.lh k hq).1;omega)
   | (have:=F.ld k hp;omega)
   | (have:=F.ld k hq;omega)
   | exact (F.lc k hp).2.1 hq
   | exact (F.lc k hq).2.1 hp
   | exact (F.lc k hp).2.2 hq
   | exact (F.lc k hq).2.2 hp
   | exact (F.lh k hp).2 hq
   | exact (F.lh k hq).2 hp
   | (have:=F.l0 k hp;have:=(F.lh k hq).1;omega)
   | (have:=F.l1 k hp;have:=(F.lh k hq).1;omega)
   | (have:=F.l0 k hq;have:=(F.lh k hp).1;omega)
   | (have:=F.l1 k hq;have:=(F.lh k hp).1;omega)
   | (have:=F.l0 k hp;have:=F.ld k hq;omega)
   | (have:=F.l1 k hp;have:=F.ld k hq;omega)
   | (have:=F.l0 k hq;have:=F.ld k hp;omega)
   | (have:=F.l1 k hq;have:=F.ld k hp;omega)
theorem tI (P Q:Pm) (hP:Pok P) (hQ:Pok Q) (q0 q1 mx:Nat) (hmx:mx<4294967296) (h0:mx≠0) (w:World) (k0:w.heap[q0]?=some (.cells #[.int .u32 (P.c:Nat),.int .i64 (P.o:Nat),.int .i64 (P.i:Nat),.int .i64 (P.t:Nat),.int .u32 (P.n:Nat)] 42 (0,0))) (k1:w.heap[q1]?=some (.cells #[.int .u32 (Q.c:Nat),.int .i64 (Q.o:Nat),.int .i64 (Q.i:Nat),.int .i64 (Q.t:Nat),.int .u32 (Q.n:Nat)] 42 (0,0))):Calls prog 11 #[.agg #[.slice (some ⟨q0,0,none⟩) 1 1,.slice (some ⟨q1,0,none⟩) 1 1,.int .u32 (mx:Nat)]] w fun r w'=>∃ L:Pw,r=.returned (.tuple #[.pointer (some ⟨L.x,0,none⟩),.int .i64 0])∧Hid (PW ev w w' (fA L) L∧L.S=s0 P Q mx):=by
 refine (ze P Q hP hQ q0 q1 mx hmx h0 w k0 k1).mono ?_
 rintro r w' ⟨X,b,m,a0,c0,a1,c1,h,d,dm,g,av,cv,hU,dU,rfl,H⟩
 exact⟨tr P Q mx X b m a0 c0 a1 c1 h d dm g av cv hU dU,rfl,H.out.pw,rfl⟩
theorem xE (w:World):Calls prog 28 #[] w fun r w'=>r=.returned (.agg #[.int .u32 7,.int .i64 2,.int .i64 1,.int .i64 10,.int .u32 9])∧Below w.heap.size w w':=by
 go_enter func28,ntmps28
 go_wp2_with fail
 refine bodyPost_ret (v:=.agg #[.int .u32 7,.int .i64 2,.int .i64 1,.int .i64 10,.int .u32 9]) (by simp[results,results28,go_sem]) rfl ⟨rfl,?_⟩
 exact aM (Below.refl _ _) _
theorem uJ (w:World):Calls prog 12 #[] w fun r w'=>∃ q0 q1,r=.returned (.agg #[.slice (some ⟨q0,0,none⟩) 1 1,.slice (some ⟨q1,0,none⟩) 1 1,.int .u32 50])∧Hid (w'.heap[q0]?=some (.cells #[.int .u32 7,.int .i64 2,.int .i64 1,.int .i64 10,.int .u32 9] 42 (0,0))∧w'.heap[q1]?=some (.cells #[.int .u32 7,.int .i64 2,.int .i64 1,.int .i64 10,.int .u32 9] 42 (0,0))∧Below w.heap.size w w'):=by
 have hS:=fun wx=>xE wx
 have b1:Below w.heap.size w (w.alloc (.cells #[.slice none 0 0,.slice none 0 0,.int .u32 0] 37)):=aM (Below.refl _ _) _
 have hk:=aE w (.cells #[.slice none 0 0,.slice none 0 0,.int .u32 0] 37)
 have z1:=iK w (.cells #[.slice none 0 0,.slice none 0 0,.int .u32 0] 37)
 go_enter func12,ntmps12
 go_wp2_with fail
 refine (hS _).mono ?_
 rintro r w3 ⟨rfl,b3⟩
 have k3:=(b3.block w.heap.size (by rw[z1];omega)).trans hk
 have b5:Below w3.heap.size w3 (((w3.alloc (.cells #[.int .u32 7,.int .i64 2,.int .i64 1,.int .i64 10,.int .u32 9] 42)).alloc (.cells #[.int .u32 7,.int .i64 2,.int .i64 1,.int .i64 10,.int .u32 9] 42)).alloc (.cells #[.int .u32 7,.int .i64 2,.int .i64 1,.int .i64 10,.int .u32 9] 42)):=aM (aM (aM (Below.refl _ _) _) _) _
 have l3:w.heap.size<w3.heap.size:=by have:=b3.size;rw[z1]at this;omega
 have k5:=(b5.block w.heap.size l3).trans k3
 have y0:=ae (((w3.alloc (.cells #[.int .u32 7,.int .i64 2,.int .i64 1,.int .i64 10,.int .u32 9] 42)).alloc (.cells #[.int .u32 7,.int .i64 2,.int .i64 1,.int .i64 10,.int .u32 9] 42)).alloc (.cells #[.int .u32 7,.int .i64 2,.int .i64 1,.int .i64 10,.int .u32 9] 42)) _ 0 _ _ _ k5
 have y1:=ae (((w3.alloc (.cells #[.int .u32 7,.int .i64 2,.int .i64 1,.int .i64 10,.int .u32 9] 42)).alloc (.cells #[.int .u32 7,.int .i64 2,.int .i64 1,.int .i64 10,.int .u32 9] 42)).alloc (.cells #[.int .u32 7,.int .i64 2,.int .i64 1,.int .i64 10,.int .u32 9] 42)) _ 1 _ _ _ k5
 have y2:=ae (((w3.alloc (.cells #[.int .u32 7,.int .i64 2,.int .i64 1,.int .i64 10,.int .u32 9] 42)).alloc (.cells #[.int .u32 7,.int .i64 2,.int .i64 1,.int .i64 10,.int .u32 9] 42)).alloc (.cells #[.int .u32 7,.int .i64 2,.int .i64 1,.int .i64 10,.int .u32 9] 42)) _ 2 _ _ _ k5
 have yz:=fun k=>frozen_of_row (((w3.alloc (.cells #[.int .u32 7,.int .i64 2,.int .i64 1,.int .i64 10,.int .u32 9] 42)).alloc (.cells #[.int .u32 7,.int .i64 2,.int .i64 1,.int .i64 10,.int .u32 9] 42)).alloc (.cells #[.int .u32 7,.int .i64 2,.int .i64 1,.int .i64 10,.int .u32 9] 42)) _ k _ _ k5
 have u1:=iK w3 (.cells #[.int .u32 7,.int .i64 2,.int .i64 1,.int .i64 10,.int .u32 9] 42)
 have u2:=yb w3 (.cells #[.int .u32 7,.int .i64 2,.int .i64 1,.int .i64 10,.int .u32 9] 42) (.cells #[.int .u32 7,.int .i64 2,.int .i64 1,.int .i64 10,.int .u32 9] 42)
 have n1:(((w3.alloc (.cells #[.int .u32 7,.int .i64 2,.int .i64 1,.int .i64 10,.int .u32 9] 42)).alloc (.cells #[.int .u32 7,.int .i64 2,.int .i64 1,.int .i64 10,.int .u32 9] 42)).alloc (.cells #[.int .u32 7,.int .i64 2,.int .i64 1,.int .i64 10,.int .u32 9] 42)).heap[w3.heap.size+1]?=some (.cells #[.int .u32 7,.int .i64 2,.int .i64 1,.int .i64 10,.int .u32 9] 42 (0,0)):=(Below.heap_alloc _ _ _ (by rw[u2];omega)).trans (by rw[← u1];exact aE _ _)
 have n2:(((w3.alloc (.cells #[.int .u32 7,.int .i64 2,.int .i64 1,.int .i64 10,.int .u32 9] 42)).alloc (.cells #[.int .u32 7,.int .i64 2,.int .i64 1,.int .i64 10,.int .u32 9] 42)).alloc (.cells #[.int .u32 7,.int .i64 2,.int .i64 1,.int .i64 10,.int .u32 9] 42)).heap[w3.heap.size+1+1]?=some (.cells #[.int .u32 7,.int .i64 2,.int .i64 1,.int .i64 10,.int .u32 9] 42 (0,0)):=by rw[show w3.heap.size+1+1=w3.heap.size+2 by omega,← u2];exact aE _ _
 have HN:Hid (_):=And.intro n1 (And.intro n2 (And.intro b3 (And.intro b5 l3)))
 have HB1:Hid (_):=b1
 have HZ1:Hid (_):=z1
 clear n1 n2 b3 b5 k3 k5 hk b1 z1 u1 u2
 go_wp2_with fail
 refine bodyPost_ret (v:=.agg #[.slice (some ⟨w3.heap.size+1,0,none⟩) 1 1,.slice (some ⟨w3.heap.size+1+1,0,none⟩) 1 1,.int .u32 50]) (by simp[results,results12,go_sem,y0,y1,y2]) rfl ?_
 obtain⟨n1,n2,b3,b5,l3⟩:=HN.out
 have o:Off [w.heap.size] (((w3.alloc (.cells #[.int .u32 7,.int .i64 2,.int .i64 1,.int .i64 10,.int .u32 9] 42)).alloc (.cells #[.int .u32 7,.int .i64 2,.int .i64 1,.int .i64 10,.int .u32 9] 42)).alloc (.cells #[.int .u32 7,.int .i64 2,.int .i64 1,.int .i64 10,.int .u32 9] 42)) ((((((w3.alloc (.cells #[.int .u32 7,.int .i64 2,.int .i64 1,.int .i64 10,.int .u32 9] 42)).alloc (.cells #[.int .u32 7,.int .i64 2,.int .i64 1,.int .i64 10,.int .u32 9] 42)).alloc (.cells #[.int .u32 7,.int .i64 2,.int .i64 1,.int .i64 10,.int .u32 9] 42)).setCell ⟨w.heap.size,0,none⟩ (.slice (some ⟨w3.heap.size+1,0,none⟩) 1 1)).setCell ⟨w.heap.size,1,none⟩ (.slice (some ⟨w3.heap.size+1+1,0,none⟩) 1 1)).setCell ⟨w.heap.size,2,none⟩ (.int .u32 50)):=((Off.setCell _ 0 _ _).trans (Off.setCell _ 1 _ _)).trans (Off.setCell _ 2 _ _)
 have s5:=sz3 w3 (.cells #[.int .u32 7,.int .i64 2,.int .i64 1,.int .i64 10,.int .u32 9] 42) (.cells #[.int .u32 7,.int .i64 2,.int .i64 1,.int .i64 10,.int .u32 9] 42) (.cells #[.int .u32 7,.int .i64 2,.int .i64 1,.int .i64 10,.int .u32 9] 42)
 have m1:=(o.block (w3.heap.size+1) (by omega) (by simp;omega)).trans n1
 have m2:=(o.block (w3.heap.size+1+1) (by omega) (by simp;omega)).trans n2
 have bw:Below w.heap.size w (((w3.alloc (.cells #[.int .u32 7,.int .i64 2,.int .i64 1,.int .i64 10,.int .u32 9] 42)).alloc (.cells #[.int .u32 7,.int .i64 2,.int .i64 1,.int .i64 10,.int .u32 9] 42)).alloc (.cells #[.int .u32 7,.int .i64 2,.int .i64 1,.int .i64 10,.int .u32 9] 42)):=(HB1.out.trans (b3.mono (by rw[HZ1.out];omega))).trans (b5.mono (by omega))
 exact⟨_,_,rfl,m1,m2,o.below bw (fun k hk=>by simp at hk;omega) bw.size⟩
open Go.RowKit
theorem wD (w:World):(Instr.buildSlice 22 0 #[]).run prog w=.ok (.slice (some ⟨w.heap.size,0,none⟩) 0 0) (w.alloc (.cells #[] 5)):=by kernel_rfl
theorem xf (B:Nat) (bs:Nat→Nat) (w:World) (h:B≤w.heap.size):(w.alloc (.cells #[] 5)).ownsRow B 5 1 (.slice (some ⟨w.heap.size,0,none⟩) 0 0) 0 (CB bs 0):=World.ownsRow_made w #[] 0 h (Nat.zero_le _) rfl
theorem iU {P:Program} {ops:Array Oper} {rest:List Oper} {op:Oper} {a:Act} {w:World} {Q:Exit→Act→World→Prop} (hw:Region.wanted op (yielded ops a.tmps)=true) (ty:TypeId) (x:Operand) (ho:op.op=.load ty x)
  (b o:Nat) (hx:a.eval x=.pointer (some ⟨b,o,none⟩)) (cs:List Value) (d:TypeDesc) (hc:w.rangeAt b o cs)
  (hu:P.underlying ty=some d) (hd:d.isRow=true) (hi:(P.info? ty).map (·.size)=some cs.length)
  (h:wpList P ops Q rest (a.put op.dst (.agg cs.toArray)) w):wpList P ops Q (op :: rest) a w:=by
 unfold wpList
 rw[if_pos hw]
 exact .inl (wp_load_mid ty x ho b o hx cs d hc hu hd hi h)
theorem dH {P:Program} {ops:Array Oper} {rest:List Oper} {op:Oper} {a:Act} {w:World} {Q:Exit→Act→World→Prop} (hgd:op.guard=none) (v:Value) (hrun:(execOp a.eval op).run P w=.ok (.value v) w) (h:wpList P ops Q rest (a.put op.dst v) w):wpList P ops Q (op :: rest) a w:=
 wpList_plain hgd fun _ hK=>by
  unfold Oper.wp
  rw[hrun]
  exact hK _ _ h
theorem eQ {P:Program} {w:World} {b o:Nat} {A:Array Value} (ht:w.there b o A.size) (h1:A.all (·.oneCell')=true):(storeCells ⟨b,o,none⟩ A.toList).run P w=.ok () (w.setCells b o A.toList):=by
 have:=run_storeCells_cells (P:=P) b o A.toList 0 w (fun j hj=>by simpa using (ht j (by simpa using hj)).1) (fun j hj=>by simpa using (ht j (by simpa using hj)).2)
  (fun v hv=>(Array.all_eq_true_iff_forall_mem.1 h1) v (by simpa using hv))
 simp only[Nat.add_zero]at this
 exact this
theorem tp (w:World):Calls prog 29 #[.pointer none] w fun r w'=>r=.returned (.bool true)∧w'=w:=by
 have hnn:∀ w,(binOp .eql 31 (.pointer none) (.pointer none)).run prog w=.ok (.bool true) w:=fun _=>rfl
 go_enter func29,ntmps29
 go_wp2_with fail
 go_ret
 exact⟨rfl,rfl⟩
theorem zg (m:Mv) (d:Option Addr) (c:Nat) (w:World):Calls prog 30 #[.pointer none,.agg #[.int .i64 m.k,.int .i64 m.c,.int .i64 m.s,.int .i64 m.f,.int .i64 m.a,.int .u32 (m.w:Nat),.int .i64 m.n,.bool m.h,.slice d m.l c]] w fun r w'=>r=.returned (.int .i64 1)∧Below w.heap.size w w':=by
 have hN:=tp (w.alloc (.cells #[.int .i64 m.k,.int .i64 m.c,.int .i64 m.s,.int .i64 m.f,.int .i64 m.a,.int .u32 (m.w:Nat),.int .i64 m.n,.bool m.h,.slice d m.l c] 51))
 have HB:Hid (_):=aM (Below.refl _ w) (.cells #[.int .i64 m.k,.int .i64 m.c,.int .i64 m.s,.int .i64 m.f,.int .i64 m.a,.int .u32 (m.w:Nat),.int .i64 m.n,.bool m.h,.slice d m.l c] 51)
 go_enter func30,ntmps30
 go_wp2_with fail
 refine hN.mono ?_
 rintro r w2 ⟨rfl,rfl⟩
 go_wp2_with fail
 go_ret
 exact⟨rfl,HB.out⟩
theorem yX (k s:Int) (w:World):Calls prog 20 #[.pointer none,.int .i64 k,.int .i64 s] w fun r w'=>r=.returned (.tuple #[.agg #[.int .i64 0,.int .u32 0,.int .u32 0,.int .u32 0,.int .i64 0,.int .i64 0,.bool false,.bool false,.slice none 0 0],.int .i64 1])∧Below w.heap.size w w':=by
 have hN:=tp (w.alloc (.cells #[.int .i64 0,.int .u32 0,.int .u32 0,.int .u32 0,.int .i64 0,.int .i64 0,.bool false,.bool false,.slice none 0 0] 54))
 have HB:Hid (_):=aM (Below.refl _ w) (.cells #[.int .i64 0,.int .u32 0,.int .u32 0,.int .u32 0,.int .i64 0,.int .i64 0,.bool false,.bool false,.slice none 0 0] 54)
 go_enter func20,ntmps20
 go_wp2_with fail
 refine hN.mono ?_
 rintro r w2 ⟨rfl,rfl⟩
 go_wp2_with fail
 refine bodyPost_ret (v:=.tuple #[.agg #[.int .i64 0,.int .u32 0,.int .u32 0,.int .u32 0,.int .i64 0,.int .i64 0,.bool false,.bool false,.slice none 0 0],.int .i64 1]) (by simp[results,results20,go_sem]) rfl ⟨rfl,?_⟩
 exact HB.out
theorem xY (m:Mv) (d:Option Addr) (c:Nat) (w:World):Calls prog 16 #[.pointer none,.agg #[.int .i64 m.k,.int .i64 m.c,.int .i64 m.s,.int .i64 m.f,.int .i64 m.a,.int .u32 (m.w:Nat),.int .i64 m.n,.bool m.h,.slice d m.l c]] w fun r w'=>r=.returned (.tuple #[.agg #[.int .i64 0,.int .i64 0,.int .i64 0,.int .i64 0,.int .i64 0,.int .u32 0,.int .i64 0,.bool false,.slice none 0 0,.int .i64 0,.int .i64 0,.int .i64 0,.int .u32 0,.int .u32 0,.int .u32 0,.int .i64 0,.int .i64 0,.bool false,.bool false,.slice none 0 0,.int .i64 0,.int .u32 0,.int .u32 0,.int .u32 0,.int .i64 0,.int .i64 0,.bool false,.bool false,.slice none 0 0],.int .i64 1])∧Below w.heap.size w w':=by
 have s1:=iK w (.cells #[.int .i64 m.k,.int .i64 m.c,.int .i64 m.s,.int .i64 m.f,.int .i64 m.a,.int .u32 (m.w:Nat),.int .i64 m.n,.bool m.h,.slice d m.l c] 51)
 have s2:=yb w (.cells #[.int .i64 m.k,.int .i64 m.c,.int .i64 m.s,.int .i64 m.f,.int .i64 m.a,.int .u32 (m.w:Nat),.int .i64 m.n,.bool m.h,.slice d m.l c] 51) (.cells #[.int .i64 0,.int .i64 0,.int .i64 0,.int .i64 0,.int .i64 0,.int .u32 0,.int .i64 0,.bool false,.slice none 0 0,.int .i64 0,.int .i64 0,.int .i64 0,.int .u32 0,.int .u32 0,.int .u32 0,.int .i64 0,.int .i64 0,.bool false,.bool false,.slice none 0 0,.int .i64 0,.int .u32 0,.int .u32 0,.int .u32 0,.int .i64 0,.int .i64 0,.bool false,.bool false,.slice none 0 0] 56)
 have bW:Below w.heap.size w ((w.alloc (.cells #[.int .i64 m.k,.int .i64 m.c,.int .i64 m.s,.int .i64 m.f,.int .i64 m.a,.int .u32 (m.w:Nat),.int .i64 m.n,.bool m.h,.slice d m.l c] 51)).alloc (.cells #[.int .i64 0,.int .i64 0,.int .i64 0,.int .i64 0,.int .i64 0,.int .u32 0,.int .i64 0,.bool false,.slice none 0 0,.int .i64 0,.int .i64 0,.int .i64 0,.int .u32 0,.int .u32 0,.int .u32 0,.int .i64 0,.int .i64 0,.bool false,.bool false,.slice none 0 0,.int .i64 0,.int .u32 0,.int .u32 0,.int .u32 0,.int .i64 0,.int .i64 0,.bool false,.bool false,.slice none 0 0] 56)):=aM (aM (Below.refl _ w) _) _
 have kp:((w.alloc (.cells #[.int .i64 m.k,.int .i64 m.c,.int .i64 m.s,.int .i64 m.f,.int .i64 m.a,.int .u32 (m.w:Nat),.int .i64 m.n,.bool m.h,.slice d m.l c] 51)).alloc (.cells #[.int .i64 0,.int .i64 0,.int .i64 0,.int .i64 0,.int .i64 0,.int .u32 0,.int .i64 0,.bool false,.slice none 0 0,.int .i64 0,.int .i64 0,.int .i64 0,.int .u32 0,.int .u32 0,.int .u32 0,.int .i64 0,.int .i64 0,.bool false,.bool false,.slice none 0 0,.int .i64 0,.int .u32 0,.int .u32 0,.int .u32 0,.int .i64 0,.int .i64 0,.bool false,.bool false,.slice none 0 0] 56)).heap[w.heap.size]?=some (.cells #[.int .i64 m.k,.int .i64 m.c,.int .i64 m.s,.int .i64 m.f,.int .i64 m.a,.int .u32 (m.w:Nat),.int .i64 m.n,.bool m.h,.slice d m.l c] 51 (0,0)):=(Below.heap_alloc _ _ _ (by omega)).trans (aE w _)
 have kr:=aE (w.alloc (.cells #[.int .i64 m.k,.int .i64 m.c,.int .i64 m.s,.int .i64 m.f,.int .i64 m.a,.int .u32 (m.w:Nat),.int .i64 m.n,.bool m.h,.slice d m.l c] 51)) (.cells #[.int .i64 0,.int .i64 0,.int .i64 0,.int .i64 0,.int .i64 0,.int .u32 0,.int .i64 0,.bool false,.slice none 0 0,.int .i64 0,.int .i64 0,.int .i64 0,.int .u32 0,.int .u32 0,.int .u32 0,.int .i64 0,.int .i64 0,.bool false,.bool false,.slice none 0 0,.int .i64 0,.int .u32 0,.int .u32 0,.int .u32 0,.int .i64 0,.int .i64 0,.bool false,.bool false,.slice none 0 0] 56)
 rw[s1]at kr
 obtain⟨wa,hwa⟩:∃ z,(w.alloc (.cells #[.int .i64 m.k,.int .i64 m.c,.int .i64 m.s,.int .i64 m.f,.int .i64 m.a,.int .u32 (m.w:Nat),.int .i64 m.n,.bool m.h,.slice d m.l c] 51)).alloc (.cells #[.int .i64 0,.int .i64 0,.int .i64 0,.int .i64 0,.int .i64 0,.int .u32 0,.int .i64 0,.bool false,.slice none 0 0,.int .i64 0,.int .i64 0,.int .i64 0,.int .u32 0,.int .u32 0,.int .u32 0,.int .i64 0,.int .i64 0,.bool false,.bool false,.slice none 0 0,.int .i64 0,.int .u32 0,.int .u32 0,.int .u32 0,.int .i64 0,.int .i64 0,.bool false,.bool false,.slice none 0 0] 56)=z:=⟨_,rfl⟩
 rw[hwa]at bW kp kr s2
 obtain⟨x,hx⟩:∃ z,w.heap.size=z:=⟨_,rfl⟩
 have HB:Hid (Below w.heap.size w wa):=bW
 rw[hx]at kp kr s2
 have p0:wa.cell? ⟨x,0,none⟩=some (.int .i64 m.k):=ae wa (x) 0 _ _ _ kp
 have p1:wa.cell? ⟨x,1,none⟩=some (.int .i64 m.c):=ae wa (x) 1 _ _ _ kp
 have p2:wa.cell? ⟨x,2,none⟩=some (.int .i64 m.s):=ae wa (x) 2 _ _ _ kp
 have p3:wa.cell? ⟨x,3,none⟩=some (.int .i64 m.f):=ae wa (x) 3 _ _ _ kp
 have p4:wa.cell? ⟨x,4,none⟩=some (.int .i64 m.a):=ae wa (x) 4 _ _ _ kp
 have p5:wa.cell? ⟨x,5,none⟩=some (.int .u32 (m.w:Nat)):=ae wa (x) 5 _ _ _ kp
 have p6:wa.cell? ⟨x,6,none⟩=some (.int .i64 m.n):=ae wa (x) 6 _ _ _ kp
 have p7:wa.cell? ⟨x,7,none⟩=some (.bool m.h):=ae wa (x) 7 _ _ _ kp
 have p8:wa.cell? ⟨x,8,none⟩=some (.slice d m.l c):=ae wa (x) 8 _ _ _ kp
 have hRc:=zg m d c wa
 have HR:Hid (_):=kr
 have H2:Hid (wa.heap.size=x+2):=s2
 have HE:Hid (_=wa):=hwa
 have HS:Hid (w.heap.size=x):=hx
 clear s1 s2 bW kp kr hwa hx
 go_enter func16,ntmps16
 go_upto_region 1 with fail
 rw[HE.out,HS.out]
 go_wp2_with fail
 refine hRc.mono ?_
 rintro r w1 ⟨rfl,b1⟩
 clear hRc
 have kr:=(b1.block (x+1) (by rw[H2.out];omega)).trans HR.out
 have hth:w1.there (x+1) 0 29:=be kr rfl
 have hrg:=World.rangeAt_setCells_same w1 (x+1) 0 #[.int .i64 0,.int .i64 0,.int .i64 0,.int .i64 0,.int .i64 0,.int .u32 0,.int .i64 0,.bool false,.slice none 0 0,.int .i64 0,.int .i64 0,.int .i64 0,.int .u32 0,.int .u32 0,.int .u32 0,.int .i64 0,.int .i64 0,.bool false,.bool false,.slice none 0 0,.int .i64 0,.int .u32 0,.int .u32 0,.int .u32 0,.int .i64 0,.int .i64 0,.bool false,.bool false,.slice none 0 0].toList hth
 have o1:=bu w1 (x+1) 0 #[.int .i64 0,.int .i64 0,.int .i64 0,.int .i64 0,.int .i64 0,.int .u32 0,.int .i64 0,.bool false,.slice none 0 0,.int .i64 0,.int .i64 0,.int .i64 0,.int .u32 0,.int .u32 0,.int .u32 0,.int .i64 0,.int .i64 0,.bool false,.bool false,.slice none 0 0,.int .i64 0,.int .u32 0,.int .u32 0,.int .u32 0,.int .i64 0,.int .i64 0,.bool false,.bool false,.slice none 0 0].toList
 have hl:(loadVar 56 ⟨x+1,0,none⟩).run prog (w1.setCells (x+1) 0 #[.int .i64 0,.int .i64 0,.int .i64 0,.int .i64 0,.int .i64 0,.int .u32 0,.int .i64 0,.bool false,.slice none 0 0,.int .i64 0,.int .i64 0,.int .i64 0,.int .u32 0,.int .u32 0,.int .u32 0,.int .i64 0,.int .i64 0,.bool false,.bool false,.slice none 0 0,.int .i64 0,.int .u32 0,.int .u32 0,.int .u32 0,.int .i64 0,.int .i64 0,.bool false,.bool false,.slice none 0 0].toList)=.ok (.agg #[.int .i64 0,.int .i64 0,.int .i64 0,.int .i64 0,.int .i64 0,.int .u32 0,.int .i64 0,.bool false,.slice none 0 0,.int .i64 0,.int .i64 0,.int .i64 0,.int .u32 0,.int .u32 0,.int .u32 0,.int .i64 0,.int .i64 0,.bool false,.bool false,.slice none 0 0,.int .i64 0,.int .u32 0,.int .u32 0,.int .u32 0,.int .i64 0,.int .i64 0,.bool false,.bool false,.slice none 0 0]) (w1.setCells (x+1) 0 #[.int .i64 0,.int .i64 0,.int .i64 0,.int .i64 0,.int .i64 0,.int .u32 0,.int .i64 0,.bool false,.slice none 0 0,.int .i64 0,.int .i64 0,.int .i64 0,.int .u32 0,.int .u32 0,.int .u32 0,.int .i64 0,.int .i64 0,.bool false,.bool false,.slice none 0 0,.int .i64 0,.int .u32 0,.int .u32 0,.int .u32 0,.int .i64 0,.int .i64 0,.bool false,.bool false,.slice none 0 0].toList):=run_loadVar_mid (P:=prog) _ (x+1) 0 56 #[.int .i64 0,.int .i64 0,.int .i64 0,.int .i64 0,.int .i64 0,.int .u32 0,.int .i64 0,.bool false,.slice none 0 0,.int .i64 0,.int .i64 0,.int .i64 0,.int .u32 0,.int .u32 0,.int .u32 0,.int .i64 0,.int .i64 0,.bool false,.bool false,.slice none 0 0,.int .i64 0,.int .u32 0,.int .u32 0,.int .u32 0,.int .i64 0,.int .i64 0,.bool false,.bool false,.slice none 0 0].toList _ hrg underlying56 rfl (by kernel_rfl)
 have HO:Hid (_):=And.intro o1 b1
 have HL:Hid (_):=hl
 have HT:Hid (_):=hth
 clear kr hrg o1 b1 hth hl
 go_upto_region 3 with fail
 apply wp_region_lit
 refine dH rfl (.agg #[.int .i64 0,.int .i64 0,.int .i64 0,.int .i64 0,.int .i64 0,.int .u32 0,.int .i64 0,.bool false,.slice none 0 0,.int .i64 0,.int .i64 0,.int .i64 0,.int .u32 0,.int .u32 0,.int .u32 0,.int .i64 0,.int .i64 0,.bool false,.bool false,.slice none 0 0,.int .i64 0,.int .u32 0,.int .u32 0,.int .u32 0,.int .i64 0,.int .i64 0,.bool false,.bool false,.slice none 0 0]) (by go_simp) ?_
 refine dH rfl (.int .i64 1) (by go_simp) ?_
 refine wpList_store_mid rfl 56 (.tmp 4) (.tmp 15) rfl (x+1) 0 #[.int .i64 0,.int .i64 0,.int .i64 0,.int .i64 0,.int .i64 0,.int .u32 0,.int .i64 0,.bool false,.slice none 0 0,.int .i64 0,.int .i64 0,.int .i64 0,.int .u32 0,.int .u32 0,.int .u32 0,.int .i64 0,.int .i64 0,.bool false,.bool false,.slice none 0 0,.int .i64 0,.int .u32 0,.int .u32 0,.int .u32 0,.int .i64 0,.int .i64 0,.bool false,.bool false,.slice none 0 0] (by kernel_rfl) (by kernel_rfl) HT.out (by kernel_rfl) (by kernel_rfl) ?_
 have HL2:=HL.out
 obtain⟨wz,hwz⟩:∃ z,w1.setCells (x+1) 0 #[.int .i64 0,.int .i64 0,.int .i64 0,.int .i64 0,.int .i64 0,.int .u32 0,.int .i64 0,.bool false,.slice none 0 0,.int .i64 0,.int .i64 0,.int .i64 0,.int .u32 0,.int .u32 0,.int .u32 0,.int .i64 0,.int .i64 0,.bool false,.bool false,.slice none 0 0,.int .i64 0,.int .u32 0,.int .u32 0,.int .u32 0,.int .i64 0,.int .i64 0,.bool false,.bool false,.slice none 0 0].toList=z:=⟨_,rfl⟩
 rw[hwz]at HL2 ⊢
 have HO2:=HO.out
 rw[hwz]at HO2
 have HO3:Hid (_):=HO2
 clear HO HO2 HL hwz
 refine dH rfl (.int .i64 1) (by go_simp) ?_
 go_wp2_with fail
 refine bodyPost_ret (v:=.tuple #[.agg #[.int .i64 0,.int .i64 0,.int .i64 0,.int .i64 0,.int .i64 0,.int .u32 0,.int .i64 0,.bool false,.slice none 0 0,.int .i64 0,.int .i64 0,.int .i64 0,.int .u32 0,.int .u32 0,.int .u32 0,.int .i64 0,.int .i64 0,.bool false,.bool false,.slice none 0 0,.int .i64 0,.int .u32 0,.int .u32 0,.int .u32 0,.int .i64 0,.int .i64 0,.bool false,.bool false,.slice none 0 0],.int .i64 1]) ((cU (t:=4) (u:=5) (ty:=56) rfl _ prog wz (by kernel_rfl) HL2).trans (by kernel_rfl)) rfl ?_
 refine⟨rfl,?_⟩
 have hb:=HB.out
 have hb1:=HO3.out.2
 exact HO3.out.1.below (hb.trans (hb1.mono hb.size)) (by simp[HS.out]) (Nat.le_trans hb.size hb1.size)
def jt:Mv:=⟨3,0,2,0,0,0,0,false,0,fun _=>0⟩
theorem PWn.dropR {e:Nat→Nat} {w0 w:World} {t:Nat→Thing} {L:Pw} {S:Ws} {i:Nat} {m:Mv} {S':Ws} {k:Nat} {a:Option Addr} {c:Nat} {ah:Option Addr} {ch:Nat} {ad:Option Addr} {cd:Nat} (h:PWn e w0 (v9 t i m S' k a c ah ch ad cd) L w S) (F:Fre e t i):PWn e w0 t L w S:=by
 unfold v9 at h
 have h1:=h.drop (F (i+3) (by omega)).1 (by rw[an _ _ (by omega),an _ _ (by omega)];exact (F (i+3) (by omega)).2)
 have h2:=h1.drop (F (i+2) (by omega)).1 (by rw[an _ _ (by omega)];exact (F (i+2) (by omega)).2)
 exact h2.drop (F (i+1) (by omega)).1 (F (i+1) (by omega)).2
theorem PWn.layL {e:Nat→Nat} {w0 w:World} {t:Nat→Thing} {L:Pw} {S:Ws} {w1:World} (h:PWn e w0 t L w1 S) (b:Below w1.heap.size w1 w) {i:Nat} (hi:∀ j,i≠e j) {l:List (Nat × Obj)} (R:∀ p,p ∈ l→w.heap[p.1]?=some p.2) (bN:∀ p,p ∈ l→w1.heap.size≤p.1):PWn e w0 (ay t i (fB l)) L w S:=by
 obtain⟨t1,L1,h1,hs,hx,he⟩:=h
 exact⟨_,L1,h1.layL b hi R bN,hs,hx,he.putB _ _⟩
theorem xL {e:Nat→Nat} {w0 w:World} {t:Nat→Thing} {L:Pw} {S:Ws} (h:PWn e w0 t L w S):Calls prog 13 #[.pointer (some ⟨L.x,0,none⟩)] w fun r w'=>r=.returned (.int .i64 (S.mv:Nat))∧w'=w:=by
 obtain⟨t1,L1,h1,hs,hx,he⟩:=h
 subst hs
 have hb:=(h1.2.wb h1.1).blk
 have c4:w.cell? ⟨L1.x,4,none⟩=some (.pointer (some ⟨L1.b,0,none⟩)):=ae w L1.x 4 _ _ _ hb
 have c5:w.cell? ⟨L1.x,5,none⟩=some (.int .i64 (L1.S.mv:Nat)):=ae w L1.x 5 _ _ _ hb
 rw[hx.x]at c4 c5
 have hN:=qH L.x L1.b w c4
 obtain⟨X,hX⟩:∃ y,L.x=y:=⟨_,rfl⟩
 obtain⟨v,hv⟩:∃ y,L1.S.mv=y:=⟨_,rfl⟩
 rw[hX]at c5 hN ⊢
 rw[hv]at c5 ⊢
 clear h1 hx he hb c4 hX hv
 go_enter func13,ntmps13
 go_wp2_with fail
 refine hN.mono ?_
 rintro r w2 ⟨rfl,rfl⟩
 go_wp2_with fail
 go_ret
 exact⟨rfl,rfl⟩
theorem aN (S:Ws) (k s:Nat) (f:Fm):(S.put k s f).n=S.n∧(S.put k s f).ds=S.ds∧(S.put k s f).hs=S.hs∧(S.put k s f).PD=S.PD∧(S.put k s f).PH=S.PH∧(S.put k s f).mx=S.mx∧(S.put k s f).mv=S.mv∧(S.put k s f).fs.length≤S.fs.length+1:=by
 unfold Ws.put
 split
 ·exact⟨rfl,rfl,rfl,rfl,rfl,rfl,rfl,Nat.le_succ _⟩
 ·refine⟨rfl,rfl,rfl,rfl,rfl,rfl,rfl,?_⟩
  show (S.fs ++ dK 1 k s f).length≤_
  rw[List.length_append]
  unfold dK
  split <;> simp
theorem tM (S:Ws) (k s:Nat) (f:Fm) (h:f.1≠0):(S.put k s f).bg=S.bg ++ [f]∧S.putI f=((S.bg.length:Nat):Int):=by
 unfold Ws.put Ws.putI
 rw[if_neg h,if_neg h]
 exact⟨rfl,rfl⟩
def aS1:Ws:=((s0 P0 P0 50).up.snd 0).S
def dM (T:Ws):Ws:=(T.note [oH T 0,oD T 0])
def vj (T:Ws):Wr:=(dM T).up.dlv jt 0
structure A1 (T:Ws):Prop where
 bg:T.bg=[dG P0]
 n:T.n=1
 ds:T.ds=(fun _=>dJ M0)
 PD:T.PD=(fun _=>P0)
 mx:T.mx=50
 mv:T.mv=1
 fs:T.fs.length≤1
 hs:T.hs 0=aC P0 bN
theorem wY:az P0 bN=dG P0:=tz P0 ja
theorem a1:((s0 P0 P0 50).up.snd 0).e=0∧((s0 P0 P0 50).up.snd 0).i=0∧A1 aS1:=by
 obtain⟨p1,p2,p3,p4,p5,p6,p7,p8⟩:=aN ((s0 P0 P0 50).up.setH 0 (aC P0 bN)) 0 1 (az P0 bN)
 obtain⟨q1,q2⟩:=tM ((s0 P0 P0 50).up.setH 0 (aC P0 bN)) 0 1 (az P0 bN) (by rw[wY];exact Nat.succ_ne_zero 22)
 refine⟨rfl,q2,?_,p1,p2,p4,p6,p7,p8,?_⟩
 ·show (((s0 P0 P0 50).up.setH 0 (aC P0 bN)).put 0 1 (az P0 bN)).bg=_
  rw[q1,wY]
  rfl
 ·show (((s0 P0 P0 50).up.setH 0 (aC P0 bN)).put 0 1 (az P0 bN)).hs 0=_
  rw[p3]
  rfl
theorem aaa:(dC 17 P0.c 1 0 0 4 (jj P0)).1=23:=by
 have e:dC 17 P0.c 1 0 0 4 (jj P0)=(15+4+4,PM.sl (fr 17 P0.c 1 0 0 4 (jj P0)) (15+4)):=if_pos (us (by decide) (by decide))
 rw[e]
theorem aD {T:Ws} (q:A1 T):au ((dM T).up.PD 0) (dM T).up.mx 16 ((dM T).up.ds 0) ((dM T).up.fr jt).1 ((dM T).up.fr jt).2=au P0 50 16 (dJ M0) (dG P0).1 (dG P0).2:=by
 obtain⟨b1,_,b3,b4,b5,_⟩:=q
 have e1:(dM T).up.PD 0=P0:=by show T.PD 0=P0;rw[b4]
 have e2:(dM T).up.mx=50:=b5
 have e3:(dM T).up.ds 0=dJ M0:=by show T.ds 0=_;rw[b3]
 have e4:(dM T).up.fr jt=dG P0:=by
  unfold Ws.fr
  rw[if_neg (by decide)]
  show T.bg.getD 0 dX=_
  rw[b1]
  rfl
 rw[e1,e2,e3,e4]
theorem a3 {T:Ws} (q:A1 T):(vj T).e=0∧(vj T).i=1∧(vj T).S.bg.length=2∧(vj T).S.mv=2∧(vj T).S.n=1∧((vj T).S.ds 0).st=2∧(vj T).S.fs.length≤100:=by
 obtain⟨f1,f2,f3⟩:=oE P0 ja 50 (by omega)
 have hd:=aD q
 obtain⟨b1,b2,b3,b4,b5,b6,b7,b8⟩:=q
 have e0:vj T=(dM T).up.toD 0 ((dM T).up.fr jt):=by
  unfold vj Ws.dlv
  rw[if_neg (by decide)]
 obtain⟨D,hD⟩:∃ y,au P0 50 16 (dJ M0) (dG P0).1 (dG P0).2=y:=⟨_,rfl⟩
 rw[hD]at hd f1 f2 f3
 have fne:D.f.1≠0:=by rw[f3,aaa];decide
 rw[e0]
 unfold Ws.toD
 rw[hd]
 obtain⟨p1,p2,p3,p4,p5,p6,p7,p8⟩:=aN ((dM T).up.toD2 0 ((dM T).up.fr jt)) 0 2 D.f
 obtain⟨q1,q2⟩:=tM ((dM T).up.toD2 0 ((dM T).up.fr jt)) 0 2 D.f fne
 have t1:(dM T).up.toD1 0 ((dM T).up.fr jt)=((dM T).up.setD 0 D.s).note (dN 0 ((dM T).up.ds 0) D.s):=by unfold Ws.toD1;rw[hd]
 have g:∀ V:Ws,(V=(dM T).up.toD1 0 ((dM T).up.fr jt)∨V=((dM T).up.toD1 0 ((dM T).up.fr jt)).note (cH 0 2 ((dM T).up.fr jt)))→V.bg=T.bg∧V.mv=T.mv+1∧V.n=T.n∧V.ds 0=D.s∧V.fs.length≤10:=by
  have l1:=kj 0 ((dM T).up.ds 0) D.s
  have l2:=fP 0 2 ((dM T).up.fr jt)
  have l0:(dM T).up.fs.length≤3:=by
   show (T.fs ++ [oH T 0,oD T 0]).length≤3
   rw[List.length_append]
   simp
   omega
  intro V hT
  rcases hT with rfl | rfl
  ·rw[t1]
   refine⟨rfl,rfl,rfl,(show eE (dM T).up.ds 0 D.s 0=D.s from aj _ _ _),?_⟩
   show ((dM T).up.fs ++ dN 0 ((dM T).up.ds 0) D.s).length≤10
   rw[List.length_append]
   omega
  ·rw[t1]
   refine⟨rfl,rfl,rfl,(show eE (dM T).up.ds 0 D.s 0=D.s from aj _ _ _),?_⟩
   show (((dM T).up.fs ++ dN 0 ((dM T).up.ds 0) D.s) ++ cH 0 2 ((dM T).up.fr jt)).length≤10
   rw[List.length_append,List.length_append]
   omega
 have h2:(dM T).up.toD2 0 ((dM T).up.fr jt)=(dM T).up.toD1 0 ((dM T).up.fr jt)∨(dM T).up.toD2 0 ((dM T).up.fr jt)=((dM T).up.toD1 0 ((dM T).up.fr jt)).note (cH 0 2 ((dM T).up.fr jt)):=by
  unfold Ws.toD2
  split
  ·exact .inr rfl
  ·exact .inl rfl
 obtain⟨g1,g2,g3,g4,g5⟩:=g _ h2
 refine⟨f1,?_,?_,?_,?_,?_,?_⟩
 ·show ((dM T).up.toD2 0 ((dM T).up.fr jt)).putI D.f=1
  rw[q2,g1,b1]
  rfl
 ·show (((dM T).up.toD2 0 ((dM T).up.fr jt)).put 0 2 D.f).bg.length=2
  rw[q1,g1,b1]
  rfl
 ·show (((dM T).up.toD2 0 ((dM T).up.fr jt)).put 0 2 D.f).mv=2
  rw[p7,g2,b6]
 ·show (((dM T).up.toD2 0 ((dM T).up.fr jt)).put 0 2 D.f).n=1
  rw[p1,g3,b2]
 ·show ((((dM T).up.toD2 0 ((dM T).up.fr jt)).put 0 2 D.f).ds 0).st=2
  rw[p2,g4]
  exact f2
 ·show (((dM T).up.toD2 0 ((dM T).up.fr jt)).put 0 2 D.f).fs.length≤100
  omega
section
variable {w wr w':World} {g:Nat} {fs:List Fa}
end
end Go.Proofs.YtfgnmadnmjdbiaaGreat
namespace Go.Proofs.YtfgnmadnmjdbiaaGreat
open Tryz
open Go.RowKit
section
variable {P:Pm} {s:Sh}
theorem nR (s:Sh) (x:Int):(a6 s x).v=du s.v x:=by unfold a6 eX;split <;> rfl
theorem fa (s:Sh) (x:Int):(a6 s x).st=s.st∧(a6 s x).ss=s.ss∧(a6 s x).nm=s.nm∧(a6 s x).sn=s.sn∧(a6 s x).wt=s.wt∧(a6 s x).ms=s.ms∧(a6 s x).ap=s.ap∧(a6 s x).hd=s.hd∧(a6 s x).dc=s.dc:=by unfold a6 eX;split <;> exact⟨rfl,rfl,rfl,rfl,rfl,rfl,rfl,rfl,rfl⟩
theorem gS (s:Sh) (x:Int):(a6 s x).L.length≤s.L.length+1:=by unfold a6 eX;split <;> simp
theorem qN {v:Vs} {x:Int} (hx:x≠0):(du v x).lat≠0:=by
 unfold du
 rw[if_neg hx]
 show (if v.lat=0 then x else v.lat)≠0
 split <;> assumption
theorem j7 {v:Vs} {x:Int} (h:v.lat≠0):(du v x).lat≠0:=by
 unfold du
 by_cases hx:x=0
 ·rw[if_pos hx];exact h
 ·rw[if_neg hx]
  show (if v.lat=0 then x else v.lat)≠0
  rw[if_neg h];exact h
theorem eC (v:Vs) (o:Bool):(dI v o).lat=v.lat:=by unfold dI;split <;> rfl
theorem Ih.new_ (P:Pm):Ih P bN:=⟨by show 1≤1;omega,by show 1≤5;omega,by show 0<_;omega,by show 0<_;omega,by show 0<_;omega,by show 0<4;omega,fun e=>by have e:(1:Nat)=2∨(1:Nat)=3∨(1:Nat)=4:=e;omega,fun _ _=>⟨rfl,rfl⟩,fun e=>by have e:(1:Nat)=4:=e;omega,rfl,fun e=>by have e:(1:Nat)=5:=e;omega⟩
theorem Ih.life (P:Pm) (s:Sh):Ih P (fR s):=⟨by show 1≤1;omega,by show 1≤5;omega,by show 0<_;omega,by show 0<_;omega,by show 0<_;omega,by show 0<4;omega,fun e=>by have e:(1:Nat)=2∨(1:Nat)=3∨(1:Nat)=4:=e;omega,fun _ _=>⟨rfl,rfl⟩,fun e=>by have e:(1:Nat)=4:=e;omega,rfl,fun e=>by have e:(1:Nat)=5:=e;omega⟩
theorem Ih.note (h:Ih P s) (x:Int):Ih P (eX s x):=⟨h.st1,h.st5,h.ss,h.nm,h.sn,h.ms,h.s4,h.hs,h.run,h.vr,h.lat5⟩
theorem Ih.latch (h:Ih P s) (x:Int):Ih P (a6 s x):=by
 unfold a6 eX
 split
 ·exact⟨h.st1,h.st5,h.ss,h.nm,h.sn,h.ms,h.s4,h.hs,h.run,(gE _ _).trans h.vr,fun e=>j7 (h.lat5 e)⟩
 ·exact⟨h.st1,h.st5,h.ss,h.nm,h.sn,h.ms,h.s4,h.hs,h.run,(gE _ _).trans h.vr,fun e=>j7 (h.lat5 e)⟩
theorem Ih.give_of (h:s.ss<4294967296):Ih P (iu s):=⟨by show 1≤1;omega,by show 1≤5;omega,h,by show 0<_;omega,by show 0<_;omega,by show 0<4;omega,fun e=>by have e:(1:Nat)=2∨(1:Nat)=3∨(1:Nat)=4:=e;omega,fun _ _=>⟨rfl,rfl⟩,fun e=>by have e:(1:Nat)=4:=e;omega,eR _ _,fun e=>by have e:(1:Nat)=5:=e;omega⟩
theorem Ih.miss (h:Ih P s):Ih P (ck s):=by
 unfold ck
 split
 ·exact h
 ·split
  ·rename_i h4
   exact⟨h.st1,h.st5,h.ss,h.nm,h.sn,h4,h.s4,h.hs,h.run,h.vr,h.lat5⟩
  ·refine Ih.give_of ?_
   split
   ·rw[(fa _ _).2.1];exact h.ss
   ·exact h.ss
theorem Ih.exh (h1:s.ss<4294967296) (h2:s.nm<4294967296) (h3:s.sn<4294967296) (h4:s.ms<4):Ih P (j6 s):=by
 obtain⟨_,f2,f3,f4,_,f6,_⟩:=fa s 80
 refine⟨by show 1≤5;omega,by show 5≤5;omega,by show (a6 s 80).ss<_;omega,by show (a6 s 80).nm<_;omega,by show (a6 s 80).sn<_;omega,by show (a6 s 80).ms<4;omega,fun e=>by have e:(5:Nat)=2∨(5:Nat)=3∨(5:Nat)=4:=e;omega,fun _ e=>absurd rfl e,fun e=>by have e:(5:Nat)=4:=e;omega,eR _ _,fun _=>?_⟩
 show (dI (a6 s 80).v false).lat≠0
 rw[eC,nR]
 exact qN (by omega)
theorem Ih.next (hP:Pok P) (h:Ih P s) (h5:s.st≠5):Ih P (bf P s).1:=by
 unfold bf
 by_cases c1:s.st=1
 ·rw[if_pos c1];exact h
 ·rw[if_neg c1]
  by_cases c2:s.st=2
  ·rw[if_pos c2];exact h
  ·rw[if_neg c2]
   by_cases c3:s.st=3
   ·rw[if_pos c3];exact h
   ·rw[if_neg c3]
    have h4:s.st=4:=by have:=h.st1;have:=h.st5;omega
    have hr:=h.run h4
    have hn:=hP.n
    by_cases c4:s.sn+1=P.n
    ·rw[if_pos c4]
     exact Ih.exh (s:={ s with sn:=s.sn+1 }) h.ss h.nm (by show s.sn+1<_;omega) h.ms
    ·rw[if_neg c4]
     exact⟨h.st1,h.st5,h.ss,h.nm,by show s.sn+1<_;omega,h.ms,h.s4,fun e=>absurd h4 e,fun _=>⟨by show s.sn+1<P.n;omega,hr.2⟩,h.vr,h.lat5⟩
theorem qP (h:s.st≠5):(ck s).st≠5:=by
 unfold ck
 split
 ·exact h
 ·split
  ·exact h
  ·show (1:Nat)≠5;omega
theorem Ih.wait (h:Ih P s):Ih P { s with wt:=true }:=⟨h.st1,h.st5,h.ss,h.nm,h.sn,h.ms,h.s4,h.hs,h.run,h.vr,h.lat5⟩
theorem Ih.send (hP:Pok P) (h:Ih P s):Ih P (aC P s):=by
 unfold aC
 by_cases c:s.st=5
 ·rw[if_pos c];exact h
 ·rw[if_neg c];exact (h.miss.next hP (qP c)).wait
theorem Ih.on_ (h:Ih P s):Ih P (oy s):=⟨h.st1,h.st5,h.ss,h.nm,h.sn,by show 0<4;omega,h.s4,h.hs,h.run,h.vr,h.lat5⟩
theorem Ih.recv (hP:Pok P) (h:Ih P s) (len:Nat) (bs:Nat→Nat) (hb:∀ i,i<len→bs i<256):Ih P (cC P s len bs):=by
 unfold cC
 by_cases hE:dE P s len bs≠0
 ·rw[if_pos hE];exact h.note _
 ·rw[if_neg hE]
  have hE:dE P s len bs=0:=by omega
  unfold dE at hE
  by_cases hD:DE bs len≠0
  ·rw[if_pos hD]at hE;exact absurd hE hD
  ·rw[if_neg hD]at hE
   have hD:DE bs len=0:=by omega
   have hl:19≤len:=(jp hD).1
   have hs5:aV bs 5<4294967296:=tu fun j hj=>hb _ (by omega)
   have hs9:aV bs 9<4294967296:=tu fun j hj=>hb _ (by omega)
   generalize aV bs 5=ss at *
   generalize aV bs 9=num at *
   generalize (fun i=>bs (15+i))=ds at *
   generalize bs 13=fl at *
   generalize bs 0=k at *
   have hn2:2≤P.n:=by have:=hP.ok.2.2.2.2;omega
   have hn:=hP.n
   unfold cQ at hE
   by_cases hK:iI (k:Int)=false
   ·rw[if_pos hK]at hE;omega
   ·rw[if_neg hK]at hE
    by_cases hC:aV bs 1≠P.c
    ·rw[if_pos hC]at hE;omega
    ·rw[if_neg hC]at hE
     by_cases h1:s.st=1
     ·rw[if_pos h1]at hE
      unfold jg at hE
      by_cases hk:k≠17∨ss≤s.ss
      ·rw[if_pos hk]at hE;omega
      ·obtain rfl:k=17:=by omega
       have h0:=h.hs (by omega) (by omega)
       unfold bJ
       rw[if_pos rfl]
       refine Ih.on_ ⟨by show 1≤2;omega,by show 2≤5;omega,hs5,h.nm,h.sn,h.ms,fun _=>by show ss≠0;omega,fun _ _=>h0,fun e=>by have e:(2:Nat)=4:=e;omega,?_,fun e=>by have e:(2:Nat)=5:=e;omega⟩
       show s.v.run=decide ((2:Nat)=4)
       rw[h.vr,h1];rfl
     ·rw[if_neg h1]at hE
      by_cases ha:ss≠s.ss∨bL P s k num (len-19)=false
      ·rw[if_pos ha]at hE;omega
      ·have ha2:bL P s k num (len-19)=true:=by
        cases hh:bL P s k num (len-19) with
        | true=>rfl
        | false=>exact absurd (.inr hh) ha
       unfold bL at ha2
       have ha3:=of_decide_eq_true ha2
       unfold bJ
       rcases ha3 with ⟨rfl,h2⟩ | ⟨rfl,h3⟩ | ⟨rfl,⟨⟨h4,hm⟩,hp⟩,_⟩ | ⟨rfl,⟨h4,hm⟩,rfl⟩
       ·rw[if_neg (by omega),if_pos rfl]
        have h0:=h.hs (by omega) (by omega)
        refine Ih.on_ ⟨by show 1≤3;omega,by show 3≤5;omega,h.ss,h.nm,h.sn,h.ms,fun _=>h.s4 (.inl h2),fun _ _=>h0,fun e=>by have e:(3:Nat)=4:=e;omega,?_,fun e=>by have e:(3:Nat)=5:=e;omega⟩
        show s.v.run=decide ((3:Nat)=4)
        rw[h.vr,h2];rfl
       ·rw[if_neg (by omega),if_neg (by omega),if_pos rfl]
        have h0:=h.hs (by omega) (by omega)
        refine Ih.on_ ⟨by show 1≤4;omega,by show 4≤5;omega,h.ss,h.nm,h.sn,h.ms,fun _=>h.s4 (.inr (.inl h3)),fun e=>absurd rfl e,fun _=>⟨by show s.sn<P.n;omega,by show s.nm<P.n;omega⟩,eR _ _,fun e=>by have e:(4:Nat)=5:=e;omega⟩
       ·rw[if_neg (by omega),if_neg (by omega),if_neg (by omega),if_pos rfl]
        have hr:=h.run h4
        refine⟨h.st1,h.st5,h.ss,hs9,h.sn,by show 0<4;omega,h.s4,fun e=>absurd h4 e,fun _=>⟨hr.1,hp⟩,?_,fun e=>by have e:s.st=5:=e;omega⟩
        show (bP (cP (bH s.v) (decide (8≤fl))) ds).run=decide (s.st=4)
        rw[lr];exact h.vr
       ·rw[if_neg (by omega),if_neg (by omega),if_neg (by omega),if_neg (by omega),if_pos rfl]
        exact Ih.exh (s:=oy { s with nm:=P.n }) h.ss (by show P.n<_;omega) h.sn (by show 0<4;omega)
theorem Ih.tick (h:Ih P s) (k:Int):Ih P (dh P s k):=by
 unfold dh
 by_cases c:k<0
 ·rw[if_pos c];exact h
 ·rw[if_neg c]
  have h':Ih P { s with dc:=tk P.t s.dc k.toNat }:=⟨h.st1,h.st5,h.ss,h.nm,h.sn,h.ms,h.s4,h.hs,h.run,h.vr,h.lat5⟩
  split
  ·exact h'.latch 100
  ·exact h'
theorem Ih.ack (h:Ih P s):Ih P (fC s):=by
 refine⟨h.st1,h.st5,h.ss,h.nm,h.sn,h.ms,h.s4,h.hs,h.run,(m7 _).trans h.vr,fun e=>?_⟩
 have e:s.st=5:=e
 have hr:s.v.run=false:=by rw[h.vr,e];rfl
 show (ep s.v).lat≠0
 unfold ep aq
 rw[hr,if_neg (by simp)]
 exact h.lat5 e
theorem Ih.write (h:Ih P s) (len:Nat) (bs:Nat→Nat) (o:Bool):Ih P (dx P s len bs o):=by
 unfold dx
 split
 ·exact⟨h.st1,h.st5,h.ss,h.nm,h.sn,h.ms,h.s4,h.hs,h.run,h.vr,h.lat5⟩
 ·exact h
theorem nE (s:Sh):(j6 s).L.length≤s.L.length+1:=gS s 80
theorem rn (s:Sh):(ck s).L.length≤s.L.length+1:=by
 unfold ck
 split
 ·omega
 ·split
  ·show s.L.length≤_;omega
  ·show (iu _).L.length≤_
   unfold iu
   split
   ·exact gS { s with ms:=s.ms+1 } 131
   ·show s.L.length≤_;omega
theorem rl (P:Pm) (s:Sh):(bf P s).1.L.length≤s.L.length+1:=by
 unfold bf
 by_cases c1:s.st=1
 ·rw[if_pos c1];show s.L.length≤_;omega
 ·rw[if_neg c1]
  by_cases c2:s.st=2
  ·rw[if_pos c2];show s.L.length≤_;omega
  ·rw[if_neg c2]
   by_cases c3:s.st=3
   ·rw[if_pos c3];show s.L.length≤_;omega
   ·rw[if_neg c3]
    by_cases c4:s.sn+1=P.n
    ·rw[if_pos c4];exact nE { s with sn:=s.sn+1 }
    ·rw[if_neg c4];show s.L.length≤_;omega
theorem qL (P:Pm) (s:Sh):(aC P s).L.length≤s.L.length+2:=by
 unfold aC
 by_cases c:s.st=5
 ·rw[if_pos c];omega
 ·rw[if_neg c]
  show (bf P (ck s)).1.L.length≤_
  have:=rl P (ck s)
  have:=rn s
  omega
end
end Go.Proofs.YtfgnmadnmjdbiaaGreat
namespace Go.Proofs.YtfgnmadnmjdbiaaGreat
open Tryz
open Go.RowKit
set_option linter.unusedVariables false
theorem cJ (P:Pm) (s:Sd) (k num fl len:Nat) (bs:Nat→Nat) (hb:∀ i,i<len→bs i<256):∀ i,i < (cu P s k num fl len bs).1→(cu P s k num fl len bs).2 i<256:=eu _ _ _ _ _ _ _ hb
theorem ll (k c s n:Nat) (f:Int) (len:Nat) (bs:Nat→Nat):(zG k c s n f len bs).1≤27:=by
 unfold zG
 by_cases h:LW k c s n f len len=0
 ·rw[if_pos h]
  have:=(gN h).2.2.2.1
  show 15+len+4≤27
  omega
 ·rw[if_neg h];show 0≤27;omega
theorem dZ {bs:Nat→Nat}:∀ i,i<0→bs i<256:=fun i hi=>absurd hi (Nat.not_lt_zero i)
theorem eA:∀ i,i<dX.1→dX.2 i<256:=fun i hi=>absurd hi (Nat.not_lt_zero i)
theorem mj (P:Pm) (mx n:Nat) (s:Sd):∀ i,i < (bG P mx n s).f.1→(bG P mx n s).f.2 i<256:=by
 unfold bG
 split
 ·exact cJ _ _ _ _ _ _ _ dZ
 ·split
  ·exact eA
  ·exact cJ _ _ _ _ _ _ _ (it P)
theorem nL (P:Pm) (mx n:Nat) (s:Sd):∀ i,i < (bO P mx n s).f.1→(bO P mx n s).f.2 i<256:=by
 unfold bO
 split
 ·exact cJ _ _ _ _ _ _ _ (it P)
 ·split
  ·exact cJ _ _ _ _ _ _ _ dZ
  ·exact mj P mx n _
theorem fq (P:Pm) (s:Sd) (e:Int):∀ i,i < (aS P s e).f.1→(aS P s e).f.2 i<256:=cJ _ _ _ _ _ _ _ dZ
theorem nS (P:Pm) (mx n:Nat) (s:Sd) (hap:∀ i,i<P.i→s.ap i<256) (k ss num fl len:Nat) (bs:Nat→Nat):∀ i,i < (aL P mx n s k ss num fl len bs).f.1→(aL P mx n s k ss num fl len bs).f.2 i<256:=by
 unfold aL
 split
 ·split
  ·exact nL P mx n s
  ·exact fq P s _
 ·split
  ·split
   ·exact cJ _ _ _ _ _ _ _ dZ
   ·exact fq P s _
  ·split
   ·exact cJ _ _ _ _ _ _ _ dZ
   ·split
    ·exact cJ _ _ _ _ _ _ _ hap
    ·split
     ·exact cJ _ _ _ _ _ _ _ dZ
     ·exact fq P s _
theorem nB (P:Pm) (mx n:Nat) (s:Sd) (hap:∀ i,i<P.i→s.ap i<256) (len:Nat) (bs:Nat→Nat):∀ i,i < (au P mx n s len bs).f.1→(au P mx n s len bs).f.2 i<256:=by
 have hh:∀ i,i < (bK P mx n s len bs).f.1→(bK P mx n s len bs).f.2 i<256:=by
  unfold bK
  split
  ·exact eA
  ·split
   ·exact eA
   ·split
    ·exact eA
    ·exact nS P mx n s hap _ _ _ _ _ _
 unfold au
 split
 ·exact eA
 ·split
  ·exact hh
  ·exact hh
theorem mS (P:Pm) (s:Sh) (hap:∀ i,i<P.o→s.ap i<256):∀ i,i < (bf P s).2.1→(bf P s).2.2 i<256:=by
 unfold bf
 split
 ·exact eu _ _ _ _ _ _ _ (it P)
 ·split
  ·exact eu _ _ _ _ _ _ _ (it P)
  ·split
   ·exact eu _ _ _ _ _ _ _ dZ
   ·split
    ·exact eu _ _ _ _ _ _ _ dZ
    ·exact eu _ _ _ _ _ _ _ hap
theorem qS (s:Sh):(ck s).ap=s.ap:=by
 unfold ck
 split
 ·rfl
 ·split
  ·rfl
  ·show (iu _).ap=_
   unfold iu
   split
   ·exact (fa _ _).2.2.2.2.2.2.1
   ·rfl
theorem nA (P:Pm) (s:Sh) (hap:∀ i,i<P.o→s.ap i<256):∀ i,i < (az P s).1→(az P s).2 i<256:=by
 unfold az
 split
 ·exact eA
 ·exact mS P _ (by rw[qS];exact hap)
theorem Ih.sentY {P:Pm} {s:Sh} (hP:Pok P) (h:Ih P s):s.st=4→s.sn+1<4294967296:=fun e=>by
 have:=(h.run e).1
 have:=hP.n
 omega
theorem pF (s:Sh) (k ss num fl:Nat) (bs:Nat→Nat):(bJ s k ss num fl bs).L.length≤s.L.length+1:=by
 unfold bJ
 split
 ·show s.L.length≤_;omega
 ·split
  ·show s.L.length≤_;omega
  ·split
   ·show s.L.length≤_;omega
   ·split
    ·show s.L.length≤_;omega
    ·split
     ·exact nE (oy { s with nm:=num })
     ·show s.L.length≤_;omega
theorem pK (P:Pm) (s:Sh) (len:Nat) (bs:Nat→Nat):(cC P s len bs).L.length≤s.L.length+1:=by
 unfold cC
 split
 ·show (s.L ++ [_]).length≤_;simp
 ·exact pF _ _ _ _ _ _
theorem pJ (P:Pm) (s:Sh) (k:Int):(dh P s k).L.length≤s.L.length+1:=by
 unfold dh
 split
 ·omega
 ·split
  ·exact gS { s with dc:=tk P.t s.dc k.toNat } 100
  ·show s.L.length≤_;omega
theorem nO (P:Pm) (s:Sh) (len:Nat) (bs:Nat→Nat) (o:Bool):(dx P s len bs o).L.length≤s.L.length:=by
 unfold dx
 split
 ·show s.L.length≤_;omega
 ·omega
theorem nM (P:Pm) (s:Sh):(az P s).1≤27:=by
 have he:∀ k c s n f len bs,(dC k c s n f len bs).1≤27:=fun k c s n f len bs=>ll k c s n f len bs
 unfold az bf
 split
 ·show 0≤27;omega
 ·split
  ·exact he _ _ _ _ _ _ _
  ·split
   ·exact he _ _ _ _ _ _ _
   ·split
    ·exact he _ _ _ _ _ _ _
    ·split
     ·exact he _ _ _ _ _ _ _
     ·exact he _ _ _ _ _ _ _
theorem mC (P:Pm) (mx n:Nat) (s:Sd) (len:Nat) (bs:Nat→Nat):(au P mx n s len bs).f.1≤27:=by
 have he:∀ k c s n f len bs,(dC k c s n f len bs).1≤27:=fun k c s n f len bs=>ll k c s n f len bs
 have h0:dX.1≤27:=by show 0≤27;omega
 have hb:∀ s,(bG P mx n s).f.1≤27:=fun s=>by
  unfold bG
  split
  ·exact he _ _ _ _ _ _ _
  ·split
   ·exact h0
   ·exact he _ _ _ _ _ _ _
 have ht:∀ k ss num fl len bs,(aL P mx n s k ss num fl len bs).f.1≤27:=fun k ss num fl len bs=>by
  unfold aL bO aS
  repeat' split
  all_goals first | exact he _ _ _ _ _ _ _ | exact hb _
 have hh:(bK P mx n s len bs).f.1≤27:=by
  unfold bK
  repeat' split
  all_goals first | exact h0 | exact ht _ _ _ _ _ _
 unfold au
 split
 ·exact h0
 ·split <;> exact hh
end Go.Proofs.YtfgnmadnmjdbiaaGreat
