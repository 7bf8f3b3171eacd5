/- Part 37: contracts that the proof rests on. -/
import Derived.Deep.MidRow
import Derived.Deep.Upon
import Derived.Test.YtenilkloffnjlaaGreatPkH35
set_option maxHeartbeats 64000000
set_option maxRecDepth 100000
namespace Go.Proofs.YtenilkloffnjlaaGreat
open Tryz
open Go.RowKit
theorem io (w:World) (a:Obj):(w.alloc a).heap.size=w.heap.size+1:=by rw[World.size_alloc]
theorem sz2 (w:World) (a b:Obj):((w.alloc a).alloc b).heap.size=w.heap.size+2:=by rw[io,io]
theorem sz3 (w:World) (a b c:Obj):(((w.alloc a).alloc b).alloc c).heap.size=w.heap.size+3:=by rw[io,sz2]
open Go.RowKit Go.Maps
set_option linter.unusedVariables false
theorem nr {w:World} {y hd dd dm:Nat} (h:w.heap[y]?=some (.cells aQ 80 (0,0))):(((w.setCell ⟨y,0,none⟩ (ac hd 0)).setCell ⟨y,1,none⟩ (ac dd 0)).setCell ⟨y,2,none⟩ (ac dm 0)).heap[y]?=some (.cells (aA hd dd dm) 80 (0,0)):=Joins.block_setCell (Joins.block_setCell (Joins.block_setCell h _) _) _
theorem cC {P:Program} {md:Region.Mode} {ops:Array Oper} {Q:Exit→Act→World→Prop} {S:World→Prop} {fuel:Nat} {l:Array Bool} {a:Act} {w:World} {i:Nat} {o:Oper} (v:Value) (w':World) (hr:Region.ready md ops l=[i]) (ho:ops[i]?=some o)
  (hw:Region.wanted o (yielded ops a.tmps)=true) (hrun:(execOp a.eval o).run P w=.ok (.value v) w') (hS:S w')
  (h:wpAnyH P md ops Q S fuel (l.setIfInBounds i true) (a.put o.dst v) w'):wpAnyH P md ops Q S (fuel+1) l a w:=
 wpAnyH_all hr (by simp) (fun j hj=>by
  obtain rfl:=List.mem_singleton.1 hj
  exact cA v w' ho hw hrun ⟨hS,h⟩)
theorem bI {w:World} {b n:Nat} {cs:Array Value} {T:TypeId} (h:w.heap[b]?=some (.cells cs T (0,0))) (hn:n=cs.size):w.there b 0 n:=fun j hj=>by
 rw[Nat.zero_add]
 refine⟨?_,frozen_of_row _ _ j _ _ h⟩
 rw[ae _ _ j _ _ _ h,Array.getElem?_eq_getElem (by omega)]
 rfl
theorem bJ {P:Program} {md:Region.Mode} {ops:Array Oper} {Q:Exit→Act→World→Prop} {S:World→Prop} {fuel:Nat} {l:Array Bool} {a:Act} {w:World} {i:Nat} {o:Oper} (hr:Region.ready md ops l=[i]) (ho:ops[i]?=some o)
  (hw:Region.wanted o (yielded ops a.tmps)=true) (ty:TypeId) (x y:Operand) (hop:o.op=.store ty x y) (b f:Nat) (A:Array Value) (hx:a.eval x=ac b f) (hy:a.eval y=.agg A)
  (ht:w.there b f A.size) (hi:(P.info? ty).map (·.size)=some A.size) (h1:A.all (·.oneCell')=true) (hS:S (w.setCells b f A.toList))
  (h:wpAnyH P md ops Q S fuel (l.setIfInBounds i true) (a.put o.dst undef) (w.setCells b f A.toList)):wpAnyH P md ops Q S (fuel+1) l a w:=
 wpAnyH_all hr (by simp) (fun j hj=>by
  obtain rfl:=List.mem_singleton.1 hj
  unfold wpOp
  simp only[ho,hw,if_true]
  refine .inl ?_
  exact wp_store_mid ty x y hop b f A hx hy ht hi h1 ⟨hS,h⟩)
theorem acl (X g cc n k hd dd dm:Nat) (m:Mv) (d:Option Addr) (c:Nat) (E I:Int) (w:World) (Z:World→Prop) (cv:w.cell? ⟨X,3,none⟩=some (.slice (af g 0) n cc)) (c0:w.cell? ⟨g,k*3,none⟩=some (ac hd 0)) (c1:w.cell? ⟨g,k*3+1,none⟩=some (ac dd 0)) (c2:w.cell? ⟨g,k*3+2,none⟩=some (ac dm 0)) (hlt:((k:Nat):Int) < ((n:Nat):Int)) (h2:(m.k == 2)=true)
  (hC:∀ w1,Below w.heap.size w w1→Calls prog 53 #[ac X 0,.int .i64 (k:Nat)] w1 fun r w'=>r=.returned (.tuple #[.int .i64 E,.int .i64 I])∧Hid (Z w')) :
  Calls prog 28 #[ac X 0,.agg (aj m (k:Nat) d c)] w fun r w'=>r=.returned (.tuple #[.int .i64 E,.int .i64 I])∧Hid (Z w'):=by
 have kA:=aB w (.cells (aj m (k:Nat) d c) 39)
 have bA:=aF (Below.refl _ w) (.cells (aj m (k:Nat) d c) 39)
 have sA:(w.alloc (.cells (aj m (k:Nat) d c) 39)).heap.size=w.heap.size+1:=io _ _
 obtain⟨wa,hwa⟩:∃ y,w.alloc (.cells (aj m (k:Nat) d c) 39)=y:=⟨_,rfl⟩
 rw[hwa]at kA bA sA
 obtain⟨x,hx⟩:∃ y,w.heap.size=y:=⟨_,rfl⟩
 have HB:Hid (Below w.heap.size w wa):=bA
 have HSz:Hid (w.heap.size=x):=hx
 rw[hx]at kA sA
 have hS:∀ w',Below wa.heap.size wa w'→w'.cell? ⟨X,3,none⟩=some (Value.slice (af g 0) n cc)∧w'.cell? ⟨x,1,none⟩=some (Value.int .i64 (k:Nat))∧w'.cell? ⟨g,k*3,none⟩=some (ac hd 0)∧w'.cell? ⟨g,k*3+1,none⟩=some (ac dd 0)∧w'.cell? ⟨g,k*3+2,none⟩=some (ac dm 0):=fun w' b=>⟨ag (ag cv bA) b,ag (ae wa x 1 _ _ _ kA) b,ag (ag c0 bA) b,ag (ag c1 bA) b,ag (ag c2 bA) b⟩
 have HS0:=hS wa.drew (Below.drew (Below.refl _ _))
 have HSS:Hid (_):=hS
 have HE:Hid (_=wa):=hwa
 have HX:Hid (wa.heap.size=x+1):=sA
 have HK:Hid (wa.heap[x]?=some (.cells (aj m (k:Nat) d c) 39 (0,0))):=kA
 clear kA bA hwa hx hS sA cv c0 c1 c2
 have HC:Hid (_):=hC
 clear hC
 go_enter func28,ntmps28
 go_upto_region 1 with fail
 rw[HE.out,HSz.out]
 refine wp_region_held_drew (S:=fun w'=>w'.cell? ⟨X,3,none⟩=some (Value.slice (af g 0) n cc)∧w'.cell? ⟨x,1,none⟩=some (Value.int .i64 (k:Nat))∧w'.cell? ⟨g,k*3,none⟩=some (ac hd 0)∧w'.cell? ⟨g,k*3+1,none⟩=some (ac dd 0)∧w'.cell? ⟨g,k*3+2,none⟩=some (ac dm 0)) (by kernel_rfl) HS0 (fun _=>?_)
 refine aq (i:=0) (v:=ac X 0) ?_
 refine aq (i:=1) (v:=ac X 0) ?_
 refine aq (i:=2) (v:=ac X 3) ?_
 refine aq (i:=3) (v:=Value.slice (af g 0) n cc) ?_
 refine aq (i:=4) (v:=ac x 1) ?_
 refine aq (i:=5) (v:=Value.int .i64 (k:Nat)) ?_
 refine aq (i:=6) (v:=ac g (k*3)) ?_
 refine aq (i:=7) (v:=Value.agg (aA hd dd dm)) ?_
 have b8:Below wa.heap.size wa (wa.drew.alloc (.cells aQ 80)):=(Below.drew (Below.refl _ _)).alloc (Nat.le_refl _) _
 refine cC (i:=8) (ac (x+1) 0) (wa.drew.alloc (.cells aQ 80)) (by kernel_rfl) rfl (by kernel_rfl) (by rw[← HX.out];go_simp) (HSS.out _ b8) ?_
 have s8:(wa.drew.alloc (.cells aQ 80)).heap[x+1]?=some (.cells aQ 80 (0,0)):=by rw[← HX.out];exact aB wa.drew _
 have b9:Below wa.heap.size wa ((((wa.drew.alloc (.cells aQ 80)).setCell ⟨x+1,0,none⟩ (ac hd 0)).setCell ⟨x+1,1,none⟩ (ac dd 0)).setCell ⟨x+1,2,none⟩ (ac dm 0)):=((b8.setCell (by rw[HX.out];exact Nat.le_refl _) _).setCell (by rw[HX.out];exact Nat.le_refl _) _).setCell (by rw[HX.out];exact Nat.le_refl _) _
 have s9:=nr (hd:=hd) (dd:=dd) (dm:=dm) s8
 obtain⟨wb,hwb⟩:∃ y,((((wa.drew.alloc (.cells aQ 80)).setCell ⟨x+1,0,none⟩ (ac hd 0)).setCell ⟨x+1,1,none⟩ (ac dd 0)).setCell ⟨x+1,2,none⟩ (ac dm 0))=y:=⟨_,rfl⟩
 rw[hwb]at b9 s9
 have hth:(wa.drew.alloc (.cells aQ 80)).there (x+1) 0 3:=bI s8 rfl
 have hwb2:(wa.drew.alloc (.cells aQ 80)).setCells (x+1) 0 (aA hd dd dm).toList=wb:=hwb
 refine bJ (i:=9) (by kernel_rfl) rfl (by kernel_rfl) 80 (.tmp 6) (.tmp 16) rfl (x+1) 0 (aA hd dd dm) (by kernel_rfl) (by kernel_rfl) hth (by kernel_rfl) (by kernel_rfl) (by rw[hwb2];exact HSS.out _ b9) ?_
 rw[hwb2]
 refine wpAnyH_done (by kernel_rfl) ?_ _
 have K:=(b9.block x (by rw[HX.out];omega)).trans HK.out
 have bW:Below w.heap.size w wb:=HB.out.trans (b9.mono (by rw[HX.out,HSz.out];omega))
 have q0:wb.cell? ⟨x,0,none⟩=some (.int .i64 m.k):=ae wb x 0 _ _ _ K
 have q1:wb.cell? ⟨x,1,none⟩=some (.int .i64 (k:Nat)):=ae wb x 1 _ _ _ K
 have q2:wb.cell? ⟨x,2,none⟩=some (.int .i64 m.s):=ae wb x 2 _ _ _ K
 have q3:wb.cell? ⟨x,3,none⟩=some (.int .i64 m.f):=ae wb x 3 _ _ _ K
 have q4:wb.cell? ⟨x,4,none⟩=some (.int .i64 m.a):=ae wb x 4 _ _ _ K
 have q5:wb.cell? ⟨x,5,none⟩=some (.int .u32 (m.w:Nat)):=ae wb x 5 _ _ _ K
 have q6:wb.cell? ⟨x,6,none⟩=some (.int .i64 m.n):=ae wb x 6 _ _ _ K
 have q7:wb.cell? ⟨x,7,none⟩=some (.bool m.h):=ae wb x 7 _ _ _ K
 have q8:wb.cell? ⟨x,8,none⟩=some (.slice d m.l c):=ae wb x 8 _ _ _ K
 have p0:wb.cell? ⟨x+1,0,none⟩=some (ac hd 0):=ae wb (x+1) 0 _ _ _ s9
 have p1:wb.cell? ⟨x+1,1,none⟩=some (ac dd 0):=ae wb (x+1) 1 _ _ _ s9
 have p2:wb.cell? ⟨x+1,2,none⟩=some (ac dm 0):=ae wb (x+1) 2 _ _ _ s9
 have HWb:Hid (Below w.heap.size w wb):=bW
 have HKb:Hid (_):=K
 have HCb:Hid (_):=s9
 clear hwb hwb2 hth b9 s9 b8 s8 K bW HE HK HSS HB HS0
 have hCc:=HC.out wb HWb.out
 go_wp2_with fail
 refine hCc.mono ?_
 rintro r w2 ⟨rfl,H2⟩
 go_wp2_with fail
 go_ret2
 exact⟨rfl,H2⟩
theorem acm (X g cc n k hd dd dm:Nat) (m:Mv) (d:Option Addr) (c:Nat) (E I:Int) (w:World) (Z:World→Prop) (cv:w.cell? ⟨X,3,none⟩=some (.slice (af g 0) n cc)) (c0:w.cell? ⟨g,k*3,none⟩=some (ac hd 0)) (c1:w.cell? ⟨g,k*3+1,none⟩=some (ac dd 0)) (c2:w.cell? ⟨g,k*3+2,none⟩=some (ac dm 0)) (hlt:((k:Nat):Int) < ((n:Nat):Int)) (h2:(m.k == 2)=false) (h3:(m.k == 3)=true)
  (hC:∀ w1,Below w.heap.size w w1→Calls prog 54 #[ac X 0,.agg (aj m (k:Nat) d c)] w1 fun r w'=>r=.returned (.tuple #[.int .i64 E,.int .i64 I])∧Hid (Z w')) :
  Calls prog 28 #[ac X 0,.agg (aj m (k:Nat) d c)] w fun r w'=>r=.returned (.tuple #[.int .i64 E,.int .i64 I])∧Hid (Z w'):=by
 have kA:=aB w (.cells (aj m (k:Nat) d c) 39)
 have bA:=aF (Below.refl _ w) (.cells (aj m (k:Nat) d c) 39)
 have sA:(w.alloc (.cells (aj m (k:Nat) d c) 39)).heap.size=w.heap.size+1:=io _ _
 obtain⟨wa,hwa⟩:∃ y,w.alloc (.cells (aj m (k:Nat) d c) 39)=y:=⟨_,rfl⟩
 rw[hwa]at kA bA sA
 obtain⟨x,hx⟩:∃ y,w.heap.size=y:=⟨_,rfl⟩
 have HB:Hid (Below w.heap.size w wa):=bA
 have HSz:Hid (w.heap.size=x):=hx
 rw[hx]at kA sA
 have hS:∀ w',Below wa.heap.size wa w'→w'.cell? ⟨X,3,none⟩=some (Value.slice (af g 0) n cc)∧w'.cell? ⟨x,1,none⟩=some (Value.int .i64 (k:Nat))∧w'.cell? ⟨g,k*3,none⟩=some (ac hd 0)∧w'.cell? ⟨g,k*3+1,none⟩=some (ac dd 0)∧w'.cell? ⟨g,k*3+2,none⟩=some (ac dm 0):=fun w' b=>⟨ag (ag cv bA) b,ag (ae wa x 1 _ _ _ kA) b,ag (ag c0 bA) b,ag (ag c1 bA) b,ag (ag c2 bA) b⟩
 have HS0:=hS wa.drew (Below.drew (Below.refl _ _))
 have HSS:Hid (_):=hS
 have HE:Hid (_=wa):=hwa
 have HX:Hid (wa.heap.size=x+1):=sA
 have HK:Hid (wa.heap[x]?=some (.cells (aj m (k:Nat) d c) 39 (0,0))):=kA
 clear kA bA hwa hx hS sA cv c0 c1 c2
 have HC:Hid (_):=hC
 clear hC
 go_enter func28,ntmps28
 go_upto_region 1 with fail
 rw[HE.out,HSz.out]
 refine wp_region_held_drew (S:=fun w'=>w'.cell? ⟨X,3,none⟩=some (Value.slice (af g 0) n cc)∧w'.cell? ⟨x,1,none⟩=some (Value.int .i64 (k:Nat))∧w'.cell? ⟨g,k*3,none⟩=some (ac hd 0)∧w'.cell? ⟨g,k*3+1,none⟩=some (ac dd 0)∧w'.cell? ⟨g,k*3+2,none⟩=some (ac dm 0)) (by kernel_rfl) HS0 (fun _=>?_)
 refine aq (i:=0) (v:=ac X 0) ?_
 refine aq (i:=1) (v:=ac X 0) ?_
 refine aq (i:=2) (v:=ac X 3) ?_
 refine aq (i:=3) (v:=Value.slice (af g 0) n cc) ?_
 refine aq (i:=4) (v:=ac x 1) ?_
 refine aq (i:=5) (v:=Value.int .i64 (k:Nat)) ?_
 refine aq (i:=6) (v:=ac g (k*3)) ?_
 refine aq (i:=7) (v:=Value.agg (aA hd dd dm)) ?_
 have b8:Below wa.heap.size wa (wa.drew.alloc (.cells aQ 80)):=(Below.drew (Below.refl _ _)).alloc (Nat.le_refl _) _
 refine cC (i:=8) (ac (x+1) 0) (wa.drew.alloc (.cells aQ 80)) (by kernel_rfl) rfl (by kernel_rfl) (by rw[← HX.out];go_simp) (HSS.out _ b8) ?_
 have s8:(wa.drew.alloc (.cells aQ 80)).heap[x+1]?=some (.cells aQ 80 (0,0)):=by rw[← HX.out];exact aB wa.drew _
 have b9:Below wa.heap.size wa ((((wa.drew.alloc (.cells aQ 80)).setCell ⟨x+1,0,none⟩ (ac hd 0)).setCell ⟨x+1,1,none⟩ (ac dd 0)).setCell ⟨x+1,2,none⟩ (ac dm 0)):=((b8.setCell (by rw[HX.out];exact Nat.le_refl _) _).setCell (by rw[HX.out];exact Nat.le_refl _) _).setCell (by rw[HX.out];exact Nat.le_refl _) _
 have s9:=nr (hd:=hd) (dd:=dd) (dm:=dm) s8
 obtain⟨wb,hwb⟩:∃ y,((((wa.drew.alloc (.cells aQ 80)).setCell ⟨x+1,0,none⟩ (ac hd 0)).setCell ⟨x+1,1,none⟩ (ac dd 0)).setCell ⟨x+1,2,none⟩ (ac dm 0))=y:=⟨_,rfl⟩
 rw[hwb]at b9 s9
 have hth:(wa.drew.alloc (.cells aQ 80)).there (x+1) 0 3:=bI s8 rfl
 have hwb2:(wa.drew.alloc (.cells aQ 80)).setCells (x+1) 0 (aA hd dd dm).toList=wb:=hwb
 refine bJ (i:=9) (by kernel_rfl) rfl (by kernel_rfl) 80 (.tmp 6) (.tmp 16) rfl (x+1) 0 (aA hd dd dm) (by kernel_rfl) (by kernel_rfl) hth (by kernel_rfl) (by kernel_rfl) (by rw[hwb2];exact HSS.out _ b9) ?_
 rw[hwb2]
 refine wpAnyH_done (by kernel_rfl) ?_ _
 have K:=(b9.block x (by rw[HX.out];omega)).trans HK.out
 have bW:Below w.heap.size w wb:=HB.out.trans (b9.mono (by rw[HX.out,HSz.out];omega))
 have q0:wb.cell? ⟨x,0,none⟩=some (.int .i64 m.k):=ae wb x 0 _ _ _ K
 have q1:wb.cell? ⟨x,1,none⟩=some (.int .i64 (k:Nat)):=ae wb x 1 _ _ _ K
 have q2:wb.cell? ⟨x,2,none⟩=some (.int .i64 m.s):=ae wb x 2 _ _ _ K
 have q3:wb.cell? ⟨x,3,none⟩=some (.int .i64 m.f):=ae wb x 3 _ _ _ K
 have q4:wb.cell? ⟨x,4,none⟩=some (.int .i64 m.a):=ae wb x 4 _ _ _ K
 have q5:wb.cell? ⟨x,5,none⟩=some (.int .u32 (m.w:Nat)):=ae wb x 5 _ _ _ K
 have q6:wb.cell? ⟨x,6,none⟩=some (.int .i64 m.n):=ae wb x 6 _ _ _ K
 have q7:wb.cell? ⟨x,7,none⟩=some (.bool m.h):=ae wb x 7 _ _ _ K
 have q8:wb.cell? ⟨x,8,none⟩=some (.slice d m.l c):=ae wb x 8 _ _ _ K
 have p0:wb.cell? ⟨x+1,0,none⟩=some (ac hd 0):=ae wb (x+1) 0 _ _ _ s9
 have p1:wb.cell? ⟨x+1,1,none⟩=some (ac dd 0):=ae wb (x+1) 1 _ _ _ s9
 have p2:wb.cell? ⟨x+1,2,none⟩=some (ac dm 0):=ae wb (x+1) 2 _ _ _ s9
 have HWb:Hid (Below w.heap.size w wb):=bW
 have HKb:Hid (_):=K
 have HCb:Hid (_):=s9
 clear hwb hwb2 hth b9 s9 b8 s8 K bW HE HK HSS HB HS0
 have hCc:=HC.out wb HWb.out
 go_wp2_with fail
 refine hCc.mono ?_
 rintro r w2 ⟨rfl,H2⟩
 go_wp2_with fail
 go_ret2
 exact⟨rfl,H2⟩
theorem acn (X g cc n k hd dd dm:Nat) (m:Mv) (d:Option Addr) (c:Nat) (E I:Int) (w:World) (Z:World→Prop) (cv:w.cell? ⟨X,3,none⟩=some (.slice (af g 0) n cc)) (c0:w.cell? ⟨g,k*3,none⟩=some (ac hd 0)) (c1:w.cell? ⟨g,k*3+1,none⟩=some (ac dd 0)) (c2:w.cell? ⟨g,k*3+2,none⟩=some (ac dm 0)) (hlt:((k:Nat):Int) < ((n:Nat):Int)) (h2:(m.k == 2)=false) (h3:(m.k == 3)=false) (h4:(m.k == 4)=true)
  (hC:∀ w1,Below w.heap.size w w1→Calls prog 54 #[ac X 0,.agg (aj m (k:Nat) d c)] w1 fun r w'=>r=.returned (.tuple #[.int .i64 E,.int .i64 I])∧Hid (Z w')) :
  Calls prog 28 #[ac X 0,.agg (aj m (k:Nat) d c)] w fun r w'=>r=.returned (.tuple #[.int .i64 E,.int .i64 I])∧Hid (Z w'):=by
 have kA:=aB w (.cells (aj m (k:Nat) d c) 39)
 have bA:=aF (Below.refl _ w) (.cells (aj m (k:Nat) d c) 39)
 have sA:(w.alloc (.cells (aj m (k:Nat) d c) 39)).heap.size=w.heap.size+1:=io _ _
 obtain⟨wa,hwa⟩:∃ y,w.alloc (.cells (aj m (k:Nat) d c) 39)=y:=⟨_,rfl⟩
 rw[hwa]at kA bA sA
 obtain⟨x,hx⟩:∃ y,w.heap.size=y:=⟨_,rfl⟩
 have HB:Hid (Below w.heap.size w wa):=bA
 have HSz:Hid (w.heap.size=x):=hx
 rw[hx]at kA sA
 have hS:∀ w',Below wa.heap.size wa w'→w'.cell? ⟨X,3,none⟩=some (Value.slice (af g 0) n cc)∧w'.cell? ⟨x,1,none⟩=some (Value.int .i64 (k:Nat))∧w'.cell? ⟨g,k*3,none⟩=some (ac hd 0)∧w'.cell? ⟨g,k*3+1,none⟩=some (ac dd 0)∧w'.cell? ⟨g,k*3+2,none⟩=some (ac dm 0):=fun w' b=>⟨ag (ag cv bA) b,ag (ae wa x 1 _ _ _ kA) b,ag (ag c0 bA) b,ag (ag c1 bA) b,ag (ag c2 bA) b⟩
 have HS0:=hS wa.drew (Below.drew (Below.refl _ _))
 have HSS:Hid (_):=hS
 have HE:Hid (_=wa):=hwa
 have HX:Hid (wa.heap.size=x+1):=sA
 have HK:Hid (wa.heap[x]?=some (.cells (aj m (k:Nat) d c) 39 (0,0))):=kA
 clear kA bA hwa hx hS sA cv c0 c1 c2
 have HC:Hid (_):=hC
 clear hC
 go_enter func28,ntmps28
 go_upto_region 1 with fail
 rw[HE.out,HSz.out]
 refine wp_region_held_drew (S:=fun w'=>w'.cell? ⟨X,3,none⟩=some (Value.slice (af g 0) n cc)∧w'.cell? ⟨x,1,none⟩=some (Value.int .i64 (k:Nat))∧w'.cell? ⟨g,k*3,none⟩=some (ac hd 0)∧w'.cell? ⟨g,k*3+1,none⟩=some (ac dd 0)∧w'.cell? ⟨g,k*3+2,none⟩=some (ac dm 0)) (by kernel_rfl) HS0 (fun _=>?_)
 refine aq (i:=0) (v:=ac X 0) ?_
 refine aq (i:=1) (v:=ac X 0) ?_
 refine aq (i:=2) (v:=ac X 3) ?_
 refine aq (i:=3) (v:=Value.slice (af g 0) n cc) ?_
 refine aq (i:=4) (v:=ac x 1) ?_
 refine aq (i:=5) (v:=Value.int .i64 (k:Nat)) ?_
 refine aq (i:=6) (v:=ac g (k*3)) ?_
 refine aq (i:=7) (v:=Value.agg (aA hd dd dm)) ?_
 have b8:Below wa.heap.size wa (wa.drew.alloc (.cells aQ 80)):=(Below.drew (Below.refl _ _)).alloc (Nat.le_refl _) _
 refine cC (i:=8) (ac (x+1) 0) (wa.drew.alloc (.cells aQ 80)) (by kernel_rfl) rfl (by kernel_rfl) (by rw[← HX.out];go_simp) (HSS.out _ b8) ?_
 have s8:(wa.drew.alloc (.cells aQ 80)).heap[x+1]?=some (.cells aQ 80 (0,0)):=by rw[← HX.out];exact aB wa.drew _
 have b9:Below wa.heap.size wa ((((wa.drew.alloc (.cells aQ 80)).setCell ⟨x+1,0,none⟩ (ac hd 0)).setCell ⟨x+1,1,none⟩ (ac dd 0)).setCell ⟨x+1,2,none⟩ (ac dm 0)):=((b8.setCell (by rw[HX.out];exact Nat.le_refl _) _).setCell (by rw[HX.out];exact Nat.le_refl _) _).setCell (by rw[HX.out];exact Nat.le_refl _) _
 have s9:=nr (hd:=hd) (dd:=dd) (dm:=dm) s8
 obtain⟨wb,hwb⟩:∃ y,((((wa.drew.alloc (.cells aQ 80)).setCell ⟨x+1,0,none⟩ (ac hd 0)).setCell ⟨x+1,1,none⟩ (ac dd 0)).setCell ⟨x+1,2,none⟩ (ac dm 0))=y:=⟨_,rfl⟩
 rw[hwb]at b9 s9
 have hth:(wa.drew.alloc (.cells aQ 80)).there (x+1) 0 3:=bI s8 rfl
 have hwb2:(wa.drew.alloc (.cells aQ 80)).setCells (x+1) 0 (aA hd dd dm).toList=wb:=hwb
 refine bJ (i:=9) (by kernel_rfl) rfl (by kernel_rfl) 80 (.tmp 6) (.tmp 16) rfl (x+1) 0 (aA hd dd dm) (by kernel_rfl) (by kernel_rfl) hth (by kernel_rfl) (by kernel_rfl) (by rw[hwb2];exact HSS.out _ b9) ?_
 rw[hwb2]
 refine wpAnyH_done (by kernel_rfl) ?_ _
 have K:=(b9.block x (by rw[HX.out];omega)).trans HK.out
 have bW:Below w.heap.size w wb:=HB.out.trans (b9.mono (by rw[HX.out,HSz.out];omega))
 have q0:wb.cell? ⟨x,0,none⟩=some (.int .i64 m.k):=ae wb x 0 _ _ _ K
 have q1:wb.cell? ⟨x,1,none⟩=some (.int .i64 (k:Nat)):=ae wb x 1 _ _ _ K
 have q2:wb.cell? ⟨x,2,none⟩=some (.int .i64 m.s):=ae wb x 2 _ _ _ K
 have q3:wb.cell? ⟨x,3,none⟩=some (.int .i64 m.f):=ae wb x 3 _ _ _ K
 have q4:wb.cell? ⟨x,4,none⟩=some (.int .i64 m.a):=ae wb x 4 _ _ _ K
 have q5:wb.cell? ⟨x,5,none⟩=some (.int .u32 (m.w:Nat)):=ae wb x 5 _ _ _ K
 have q6:wb.cell? ⟨x,6,none⟩=some (.int .i64 m.n):=ae wb x 6 _ _ _ K
 have q7:wb.cell? ⟨x,7,none⟩=some (.bool m.h):=ae wb x 7 _ _ _ K
 have q8:wb.cell? ⟨x,8,none⟩=some (.slice d m.l c):=ae wb x 8 _ _ _ K
 have p0:wb.cell? ⟨x+1,0,none⟩=some (ac hd 0):=ae wb (x+1) 0 _ _ _ s9
 have p1:wb.cell? ⟨x+1,1,none⟩=some (ac dd 0):=ae wb (x+1) 1 _ _ _ s9
 have p2:wb.cell? ⟨x+1,2,none⟩=some (ac dm 0):=ae wb (x+1) 2 _ _ _ s9
 have HWb:Hid (Below w.heap.size w wb):=bW
 have HKb:Hid (_):=K
 have HCb:Hid (_):=s9
 clear hwb hwb2 hth b9 s9 b8 s8 K bW HE HK HSS HB HS0
 have hCc:=HC.out wb HWb.out
 go_wp2_with fail
 refine hCc.mono ?_
 rintro r w2 ⟨rfl,H2⟩
 go_wp2_with fail
 go_ret2
 exact⟨rfl,H2⟩
end Go.Proofs.YtenilkloffnjlaaGreat
