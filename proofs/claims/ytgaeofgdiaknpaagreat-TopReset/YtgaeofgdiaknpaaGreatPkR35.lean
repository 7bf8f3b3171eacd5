/- Part 36: contracts that the proof rests on. -/
import Derived.Deep.MidRow
import Derived.Deep.Upon
import Derived.Test.YtgaeofgdiaknpaaGreatPkR34
set_option maxHeartbeats 64000000
namespace Go.Proofs.YtgaeofgdiaknpaaGreat
set_option maxRecDepth 100000
open Go.RowKit
theorem sz1 (w:World) (a:Obj):(w.alloc a).heap.size=w.heap.size+1:=by rw[World.size_alloc]
theorem sz2 (w:World) (a b:Obj):((w.alloc a).alloc b).heap.size=w.heap.size+2:=by rw[sz1,sz1]
theorem sz3 (w:World) (a b c:Obj):(((w.alloc a).alloc b).alloc c).heap.size=w.heap.size+3:=by rw[sz1,sz2]
open Go.RowKit Go.Maps
set_option linter.unusedVariables false
theorem con3 {w:World} {y hd dd dm:Nat} (h:w.heap[y]?=some (.cells #[Value.pointer none,Value.pointer none,Value.pointer none] 73 (0,0))):(((w.setCell ⟨y,0,none⟩ (Value.pointer (some ⟨hd,0,none⟩))).setCell ⟨y,1,none⟩ (Value.pointer (some ⟨dd,0,none⟩))).setCell ⟨y,2,none⟩ (Value.pointer (some ⟨dm,0,none⟩))).heap[y]?=some (.cells #[Value.pointer (some ⟨hd,0,none⟩),Value.pointer (some ⟨dd,0,none⟩),Value.pointer (some ⟨dm,0,none⟩)] 73 (0,0)):=Joins.block_setCell (Joins.block_setCell (Joins.block_setCell h _) _) _
theorem held_new {P:Program} {md:Region.Mode} {ops:Array Oper} {Q:Exit→Act→World→Prop} {S:World→Prop} {fuel:Nat} {l:Array Bool} {a:Act} {w:World} {i:Nat} {o:Oper} (v:Value) (w':World) (hr:Region.ready md ops l=[i]) (ho:ops[i]?=some o)
  (hw:Region.wanted o (yielded ops a.tmps)=true) (hrun:(execOp a.eval o).run P w=.ok (.value v) w') (hS:S w')
  (h:wpAnyH P md ops Q S fuel (l.setIfInBounds i true) (a.put o.dst v) w'):wpAnyH P md ops Q S (fuel+1) l a w:=
 wpAnyH_all hr (by simp) (fun j hj=>by
  obtain rfl:=List.mem_singleton.1 hj
  exact any_val v w' ho hw hrun ⟨hS,h⟩)
theorem there_row {w:World} {b n:Nat} {cs:Array Value} {T:TypeId} (h:w.heap[b]?=some (.cells cs T (0,0))) (hn:n=cs.size):w.there b 0 n:=fun j hj=>by
 rw[Nat.zero_add]
 refine⟨?_,frozen_of_row _ _ j _ _ h⟩
 rw[cell_of_row _ _ j _ _ _ h,Array.getElem?_eq_getElem (by omega)]
 rfl
theorem held_storeA {P:Program} {md:Region.Mode} {ops:Array Oper} {Q:Exit→Act→World→Prop} {S:World→Prop} {fuel:Nat} {l:Array Bool} {a:Act} {w:World} {i:Nat} {o:Oper} (hr:Region.ready md ops l=[i]) (ho:ops[i]?=some o)
  (hw:Region.wanted o (yielded ops a.tmps)=true) (ty:TypeId) (x y:Operand) (hop:o.op=.store ty x y) (b f:Nat) (A:Array Value) (hx:a.eval x=.pointer (some ⟨b,f,none⟩)) (hy:a.eval y=.agg A)
  (ht:w.there b f A.size) (hi:(P.info? ty).map (·.size)=some A.size) (h1:A.all (·.oneCell')=true) (hS:S (w.setCells b f A.toList))
  (h:wpAnyH P md ops Q S fuel (l.setIfInBounds i true) (a.put o.dst undef) (w.setCells b f A.toList)):wpAnyH P md ops Q S (fuel+1) l a w:=
 wpAnyH_all hr (by simp) (fun j hj=>by
  obtain rfl:=List.mem_singleton.1 hj
  unfold wpOp
  simp only[ho,hw,if_true]
  refine .inl ?_
  exact wp_store_mid ty x y hop b f A hx hy ht hi h1 ⟨hS,h⟩)
theorem wact2 (X g cc n k hd dd dm:Nat) (m:Mv) (d:Option Addr) (c:Nat) (E I:Int) (w:World) (Z:World→Prop) (cv:w.cell? ⟨X,3,none⟩=some (.slice (some ⟨g,0,none⟩) n cc)) (c0:w.cell? ⟨g,k*3,none⟩=some (.pointer (some ⟨hd,0,none⟩))) (c1:w.cell? ⟨g,k*3+1,none⟩=some (.pointer (some ⟨dd,0,none⟩))) (c2:w.cell? ⟨g,k*3+2,none⟩=some (.pointer (some ⟨dm,0,none⟩))) (hlt:((k:Nat):Int) < ((n:Nat):Int)) (h2:(m.k == 2)=true)
  (hC:∀ w1,Below w.heap.size w w1→Calls Tryz.prog 46 #[.pointer (some ⟨X,0,none⟩),.int .i64 (k:Nat)] w1 fun r w'=>r=.returned (.tuple #[.int .i64 E,.int .i64 I])∧Hid (Z w')) :
  Calls Tryz.prog 26 #[.pointer (some ⟨X,0,none⟩),.agg #[.int .i64 m.k,.int .i64 (k:Nat),.int .i64 m.s,.int .i64 m.f,.int .i64 m.a,.int .u32 (m.w:Nat),.int .i64 m.n,.bool m.h,.slice d m.l c]] w fun r w'=>r=.returned (.tuple #[.int .i64 E,.int .i64 I])∧Hid (Z w'):=by
 have kA:=heap_alloc_new w (.cells #[.int .i64 m.k,.int .i64 (k:Nat),.int .i64 m.s,.int .i64 m.f,.int .i64 m.a,.int .u32 (m.w:Nat),.int .i64 m.n,.bool m.h,.slice d m.l c] 38)
 have bA:=belY (Below.refl _ w) (.cells #[.int .i64 m.k,.int .i64 (k:Nat),.int .i64 m.s,.int .i64 m.f,.int .i64 m.a,.int .u32 (m.w:Nat),.int .i64 m.n,.bool m.h,.slice d m.l c] 38)
 have sA:(w.alloc (.cells #[.int .i64 m.k,.int .i64 (k:Nat),.int .i64 m.s,.int .i64 m.f,.int .i64 m.a,.int .u32 (m.w:Nat),.int .i64 m.n,.bool m.h,.slice d m.l c] 38)).heap.size=w.heap.size+1:=sz1 _ _
 obtain⟨wa,hwa⟩:∃ y,w.alloc (.cells #[.int .i64 m.k,.int .i64 (k:Nat),.int .i64 m.s,.int .i64 m.f,.int .i64 m.a,.int .u32 (m.w:Nat),.int .i64 m.n,.bool m.h,.slice d m.l c] 38)=y:=⟨_,rfl⟩
 rw[hwa]at kA bA sA
 obtain⟨x,hx⟩:∃ y,w.heap.size=y:=⟨_,rfl⟩
 have HB:Hid (Below w.heap.size w wa):=bA
 have HSz:Hid (w.heap.size=x):=hx
 rw[hx]at kA sA
 have hS:∀ w',Below wa.heap.size wa w'→w'.cell? ⟨X,3,none⟩=some (Value.slice (some ⟨g,0,none⟩) n cc)∧w'.cell? ⟨x,1,none⟩=some (Value.int .i64 (k:Nat))∧w'.cell? ⟨g,k*3,none⟩=some (Value.pointer (some ⟨hd,0,none⟩))∧w'.cell? ⟨g,k*3+1,none⟩=some (Value.pointer (some ⟨dd,0,none⟩))∧w'.cell? ⟨g,k*3+2,none⟩=some (Value.pointer (some ⟨dm,0,none⟩)):=fun w' b=>⟨cellY (cellY cv bA) b,cellY (cell_of_row wa x 1 _ _ _ kA) b,cellY (cellY c0 bA) b,cellY (cellY c1 bA) b,cellY (cellY c2 bA) b⟩
 have HS0:=hS wa.drew (Below.drew (Below.refl _ _))
 have HSS:Hid (_):=hS
 have HE:Hid (_=wa):=hwa
 have HX:Hid (wa.heap.size=x+1):=sA
 have HK:Hid (wa.heap[x]?=some (.cells #[.int .i64 m.k,.int .i64 (k:Nat),.int .i64 m.s,.int .i64 m.f,.int .i64 m.a,.int .u32 (m.w:Nat),.int .i64 m.n,.bool m.h,.slice d m.l c] 38 (0,0))):=kA
 clear kA bA hwa hx hS sA cv c0 c1 c2
 have HC:Hid (_):=hC
 clear hC
 go_enter Tryz.func26,Tryz.ntmps26
 go_upto_region 1 with fail
 rw[HE.out,HSz.out]
 refine wp_region_held_drew (S:=fun w'=>w'.cell? ⟨X,3,none⟩=some (Value.slice (some ⟨g,0,none⟩) n cc)∧w'.cell? ⟨x,1,none⟩=some (Value.int .i64 (k:Nat))∧w'.cell? ⟨g,k*3,none⟩=some (Value.pointer (some ⟨hd,0,none⟩))∧w'.cell? ⟨g,k*3+1,none⟩=some (Value.pointer (some ⟨dd,0,none⟩))∧w'.cell? ⟨g,k*3+2,none⟩=some (Value.pointer (some ⟨dm,0,none⟩))) (by kernel_rfl) HS0 (fun _=>?_)
 refine tkH (i:=0) (v:=Value.pointer (some ⟨X,0,none⟩)) ?_
 refine tkH (i:=1) (v:=Value.pointer (some ⟨X,0,none⟩)) ?_
 refine tkH (i:=2) (v:=Value.pointer (some ⟨X,3,none⟩)) ?_
 refine tkH (i:=3) (v:=Value.slice (some ⟨g,0,none⟩) n cc) ?_
 refine tkH (i:=4) (v:=Value.pointer (some ⟨x,1,none⟩)) ?_
 refine tkH (i:=5) (v:=Value.int .i64 (k:Nat)) ?_
 refine tkH (i:=6) (v:=Value.pointer (some ⟨g,k*3,none⟩)) ?_
 refine tkH (i:=7) (v:=Value.agg #[Value.pointer (some ⟨hd,0,none⟩),Value.pointer (some ⟨dd,0,none⟩),Value.pointer (some ⟨dm,0,none⟩)]) ?_
 have b8:Below wa.heap.size wa (wa.drew.alloc (.cells #[Value.pointer none,Value.pointer none,Value.pointer none] 73)):=(Below.drew (Below.refl _ _)).alloc (Nat.le_refl _) _
 refine held_new (i:=8) (Value.pointer (some ⟨x+1,0,none⟩)) (wa.drew.alloc (.cells #[Value.pointer none,Value.pointer none,Value.pointer none] 73)) (by kernel_rfl) rfl (by kernel_rfl) (by rw[← HX.out];go_simp) (HSS.out _ b8) ?_
 have s8:(wa.drew.alloc (.cells #[Value.pointer none,Value.pointer none,Value.pointer none] 73)).heap[x+1]?=some (.cells #[Value.pointer none,Value.pointer none,Value.pointer none] 73 (0,0)):=by rw[← HX.out];exact heap_alloc_new wa.drew _
 have b9:Below wa.heap.size wa ((((wa.drew.alloc (.cells #[Value.pointer none,Value.pointer none,Value.pointer none] 73)).setCell ⟨x+1,0,none⟩ (Value.pointer (some ⟨hd,0,none⟩))).setCell ⟨x+1,1,none⟩ (Value.pointer (some ⟨dd,0,none⟩))).setCell ⟨x+1,2,none⟩ (Value.pointer (some ⟨dm,0,none⟩))):=((b8.setCell (by rw[HX.out];exact Nat.le_refl _) _).setCell (by rw[HX.out];exact Nat.le_refl _) _).setCell (by rw[HX.out];exact Nat.le_refl _) _
 have s9:=con3 (hd:=hd) (dd:=dd) (dm:=dm) s8
 obtain⟨wb,hwb⟩:∃ y,((((wa.drew.alloc (.cells #[Value.pointer none,Value.pointer none,Value.pointer none] 73)).setCell ⟨x+1,0,none⟩ (Value.pointer (some ⟨hd,0,none⟩))).setCell ⟨x+1,1,none⟩ (Value.pointer (some ⟨dd,0,none⟩))).setCell ⟨x+1,2,none⟩ (Value.pointer (some ⟨dm,0,none⟩)))=y:=⟨_,rfl⟩
 rw[hwb]at b9 s9
 have hth:(wa.drew.alloc (.cells #[Value.pointer none,Value.pointer none,Value.pointer none] 73)).there (x+1) 0 3:=there_row s8 rfl
 have hwb2:(wa.drew.alloc (.cells #[Value.pointer none,Value.pointer none,Value.pointer none] 73)).setCells (x+1) 0 #[Value.pointer (some ⟨hd,0,none⟩),Value.pointer (some ⟨dd,0,none⟩),Value.pointer (some ⟨dm,0,none⟩)].toList=wb:=hwb
 refine held_storeA (i:=9) (by kernel_rfl) rfl (by kernel_rfl) 73 (.tmp 6) (.tmp 16) rfl (x+1) 0 #[Value.pointer (some ⟨hd,0,none⟩),Value.pointer (some ⟨dd,0,none⟩),Value.pointer (some ⟨dm,0,none⟩)] (by kernel_rfl) (by kernel_rfl) hth (by kernel_rfl) (by kernel_rfl) (by rw[hwb2];exact HSS.out _ b9) ?_
 rw[hwb2]
 refine wpAnyH_done (by kernel_rfl) ?_ _
 have K:=(b9.block x (by rw[HX.out];omega)).trans HK.out
 have bW:Below w.heap.size w wb:=HB.out.trans (b9.mono (by rw[HX.out,HSz.out];omega))
 have q0:wb.cell? ⟨x,0,none⟩=some (.int .i64 m.k):=cell_of_row wb x 0 _ _ _ K
 have q1:wb.cell? ⟨x,1,none⟩=some (.int .i64 (k:Nat)):=cell_of_row wb x 1 _ _ _ K
 have q2:wb.cell? ⟨x,2,none⟩=some (.int .i64 m.s):=cell_of_row wb x 2 _ _ _ K
 have q3:wb.cell? ⟨x,3,none⟩=some (.int .i64 m.f):=cell_of_row wb x 3 _ _ _ K
 have q4:wb.cell? ⟨x,4,none⟩=some (.int .i64 m.a):=cell_of_row wb x 4 _ _ _ K
 have q5:wb.cell? ⟨x,5,none⟩=some (.int .u32 (m.w:Nat)):=cell_of_row wb x 5 _ _ _ K
 have q6:wb.cell? ⟨x,6,none⟩=some (.int .i64 m.n):=cell_of_row wb x 6 _ _ _ K
 have q7:wb.cell? ⟨x,7,none⟩=some (.bool m.h):=cell_of_row wb x 7 _ _ _ K
 have q8:wb.cell? ⟨x,8,none⟩=some (.slice d m.l c):=cell_of_row wb x 8 _ _ _ K
 have p0:wb.cell? ⟨x+1,0,none⟩=some (.pointer (some ⟨hd,0,none⟩)):=cell_of_row wb (x+1) 0 _ _ _ s9
 have p1:wb.cell? ⟨x+1,1,none⟩=some (.pointer (some ⟨dd,0,none⟩)):=cell_of_row wb (x+1) 1 _ _ _ s9
 have p2:wb.cell? ⟨x+1,2,none⟩=some (.pointer (some ⟨dm,0,none⟩)):=cell_of_row wb (x+1) 2 _ _ _ s9
 have HWb:Hid (Below w.heap.size w wb):=bW
 have HKb:Hid (_):=K
 have HCb:Hid (_):=s9
 clear hwb hwb2 hth b9 s9 b8 s8 K bW HE HK HSS HB HS0
 have hCc:=HC.out wb HWb.out
 go_wp2_with fail
 refine hCc.mono ?_
 rintro r w2 ⟨rfl,H2⟩
 go_wp2_with fail
 go_ret2
 exact⟨rfl,H2⟩
theorem wact3 (X g cc n k hd dd dm:Nat) (m:Mv) (d:Option Addr) (c:Nat) (E I:Int) (w:World) (Z:World→Prop) (cv:w.cell? ⟨X,3,none⟩=some (.slice (some ⟨g,0,none⟩) n cc)) (c0:w.cell? ⟨g,k*3,none⟩=some (.pointer (some ⟨hd,0,none⟩))) (c1:w.cell? ⟨g,k*3+1,none⟩=some (.pointer (some ⟨dd,0,none⟩))) (c2:w.cell? ⟨g,k*3+2,none⟩=some (.pointer (some ⟨dm,0,none⟩))) (hlt:((k:Nat):Int) < ((n:Nat):Int)) (h2:(m.k == 2)=false) (h3:(m.k == 3)=true)
  (hC:∀ w1,Below w.heap.size w w1→Calls Tryz.prog 47 #[.pointer (some ⟨X,0,none⟩),.agg #[.int .i64 m.k,.int .i64 (k:Nat),.int .i64 m.s,.int .i64 m.f,.int .i64 m.a,.int .u32 (m.w:Nat),.int .i64 m.n,.bool m.h,.slice d m.l c]] w1 fun r w'=>r=.returned (.tuple #[.int .i64 E,.int .i64 I])∧Hid (Z w')) :
  Calls Tryz.prog 26 #[.pointer (some ⟨X,0,none⟩),.agg #[.int .i64 m.k,.int .i64 (k:Nat),.int .i64 m.s,.int .i64 m.f,.int .i64 m.a,.int .u32 (m.w:Nat),.int .i64 m.n,.bool m.h,.slice d m.l c]] w fun r w'=>r=.returned (.tuple #[.int .i64 E,.int .i64 I])∧Hid (Z w'):=by
 have kA:=heap_alloc_new w (.cells #[.int .i64 m.k,.int .i64 (k:Nat),.int .i64 m.s,.int .i64 m.f,.int .i64 m.a,.int .u32 (m.w:Nat),.int .i64 m.n,.bool m.h,.slice d m.l c] 38)
 have bA:=belY (Below.refl _ w) (.cells #[.int .i64 m.k,.int .i64 (k:Nat),.int .i64 m.s,.int .i64 m.f,.int .i64 m.a,.int .u32 (m.w:Nat),.int .i64 m.n,.bool m.h,.slice d m.l c] 38)
 have sA:(w.alloc (.cells #[.int .i64 m.k,.int .i64 (k:Nat),.int .i64 m.s,.int .i64 m.f,.int .i64 m.a,.int .u32 (m.w:Nat),.int .i64 m.n,.bool m.h,.slice d m.l c] 38)).heap.size=w.heap.size+1:=sz1 _ _
 obtain⟨wa,hwa⟩:∃ y,w.alloc (.cells #[.int .i64 m.k,.int .i64 (k:Nat),.int .i64 m.s,.int .i64 m.f,.int .i64 m.a,.int .u32 (m.w:Nat),.int .i64 m.n,.bool m.h,.slice d m.l c] 38)=y:=⟨_,rfl⟩
 rw[hwa]at kA bA sA
 obtain⟨x,hx⟩:∃ y,w.heap.size=y:=⟨_,rfl⟩
 have HB:Hid (Below w.heap.size w wa):=bA
 have HSz:Hid (w.heap.size=x):=hx
 rw[hx]at kA sA
 have hS:∀ w',Below wa.heap.size wa w'→w'.cell? ⟨X,3,none⟩=some (Value.slice (some ⟨g,0,none⟩) n cc)∧w'.cell? ⟨x,1,none⟩=some (Value.int .i64 (k:Nat))∧w'.cell? ⟨g,k*3,none⟩=some (Value.pointer (some ⟨hd,0,none⟩))∧w'.cell? ⟨g,k*3+1,none⟩=some (Value.pointer (some ⟨dd,0,none⟩))∧w'.cell? ⟨g,k*3+2,none⟩=some (Value.pointer (some ⟨dm,0,none⟩)):=fun w' b=>⟨cellY (cellY cv bA) b,cellY (cell_of_row wa x 1 _ _ _ kA) b,cellY (cellY c0 bA) b,cellY (cellY c1 bA) b,cellY (cellY c2 bA) b⟩
 have HS0:=hS wa.drew (Below.drew (Below.refl _ _))
 have HSS:Hid (_):=hS
 have HE:Hid (_=wa):=hwa
 have HX:Hid (wa.heap.size=x+1):=sA
 have HK:Hid (wa.heap[x]?=some (.cells #[.int .i64 m.k,.int .i64 (k:Nat),.int .i64 m.s,.int .i64 m.f,.int .i64 m.a,.int .u32 (m.w:Nat),.int .i64 m.n,.bool m.h,.slice d m.l c] 38 (0,0))):=kA
 clear kA bA hwa hx hS sA cv c0 c1 c2
 have HC:Hid (_):=hC
 clear hC
 go_enter Tryz.func26,Tryz.ntmps26
 go_upto_region 1 with fail
 rw[HE.out,HSz.out]
 refine wp_region_held_drew (S:=fun w'=>w'.cell? ⟨X,3,none⟩=some (Value.slice (some ⟨g,0,none⟩) n cc)∧w'.cell? ⟨x,1,none⟩=some (Value.int .i64 (k:Nat))∧w'.cell? ⟨g,k*3,none⟩=some (Value.pointer (some ⟨hd,0,none⟩))∧w'.cell? ⟨g,k*3+1,none⟩=some (Value.pointer (some ⟨dd,0,none⟩))∧w'.cell? ⟨g,k*3+2,none⟩=some (Value.pointer (some ⟨dm,0,none⟩))) (by kernel_rfl) HS0 (fun _=>?_)
 refine tkH (i:=0) (v:=Value.pointer (some ⟨X,0,none⟩)) ?_
 refine tkH (i:=1) (v:=Value.pointer (some ⟨X,0,none⟩)) ?_
 refine tkH (i:=2) (v:=Value.pointer (some ⟨X,3,none⟩)) ?_
 refine tkH (i:=3) (v:=Value.slice (some ⟨g,0,none⟩) n cc) ?_
 refine tkH (i:=4) (v:=Value.pointer (some ⟨x,1,none⟩)) ?_
 refine tkH (i:=5) (v:=Value.int .i64 (k:Nat)) ?_
 refine tkH (i:=6) (v:=Value.pointer (some ⟨g,k*3,none⟩)) ?_
 refine tkH (i:=7) (v:=Value.agg #[Value.pointer (some ⟨hd,0,none⟩),Value.pointer (some ⟨dd,0,none⟩),Value.pointer (some ⟨dm,0,none⟩)]) ?_
 have b8:Below wa.heap.size wa (wa.drew.alloc (.cells #[Value.pointer none,Value.pointer none,Value.pointer none] 73)):=(Below.drew (Below.refl _ _)).alloc (Nat.le_refl _) _
 refine held_new (i:=8) (Value.pointer (some ⟨x+1,0,none⟩)) (wa.drew.alloc (.cells #[Value.pointer none,Value.pointer none,Value.pointer none] 73)) (by kernel_rfl) rfl (by kernel_rfl) (by rw[← HX.out];go_simp) (HSS.out _ b8) ?_
 have s8:(wa.drew.alloc (.cells #[Value.pointer none,Value.pointer none,Value.pointer none] 73)).heap[x+1]?=some (.cells #[Value.pointer none,Value.pointer none,Value.pointer none] 73 (0,0)):=by rw[← HX.out];exact heap_alloc_new wa.drew _
 have b9:Below wa.heap.size wa ((((wa.drew.alloc (.cells #[Value.pointer none,Value.pointer none,Value.pointer none] 73)).setCell ⟨x+1,0,none⟩ (Value.pointer (some ⟨hd,0,none⟩))).setCell ⟨x+1,1,none⟩ (Value.pointer (some ⟨dd,0,none⟩))).setCell ⟨x+1,2,none⟩ (Value.pointer (some ⟨dm,0,none⟩))):=((b8.setCell (by rw[HX.out];exact Nat.le_refl _) _).setCell (by rw[HX.out];exact Nat.le_refl _) _).setCell (by rw[HX.out];exact Nat.le_refl _) _
 have s9:=con3 (hd:=hd) (dd:=dd) (dm:=dm) s8
 obtain⟨wb,hwb⟩:∃ y,((((wa.drew.alloc (.cells #[Value.pointer none,Value.pointer none,Value.pointer none] 73)).setCell ⟨x+1,0,none⟩ (Value.pointer (some ⟨hd,0,none⟩))).setCell ⟨x+1,1,none⟩ (Value.pointer (some ⟨dd,0,none⟩))).setCell ⟨x+1,2,none⟩ (Value.pointer (some ⟨dm,0,none⟩)))=y:=⟨_,rfl⟩
 rw[hwb]at b9 s9
 have hth:(wa.drew.alloc (.cells #[Value.pointer none,Value.pointer none,Value.pointer none] 73)).there (x+1) 0 3:=there_row s8 rfl
 have hwb2:(wa.drew.alloc (.cells #[Value.pointer none,Value.pointer none,Value.pointer none] 73)).setCells (x+1) 0 #[Value.pointer (some ⟨hd,0,none⟩),Value.pointer (some ⟨dd,0,none⟩),Value.pointer (some ⟨dm,0,none⟩)].toList=wb:=hwb
 refine held_storeA (i:=9) (by kernel_rfl) rfl (by kernel_rfl) 73 (.tmp 6) (.tmp 16) rfl (x+1) 0 #[Value.pointer (some ⟨hd,0,none⟩),Value.pointer (some ⟨dd,0,none⟩),Value.pointer (some ⟨dm,0,none⟩)] (by kernel_rfl) (by kernel_rfl) hth (by kernel_rfl) (by kernel_rfl) (by rw[hwb2];exact HSS.out _ b9) ?_
 rw[hwb2]
 refine wpAnyH_done (by kernel_rfl) ?_ _
 have K:=(b9.block x (by rw[HX.out];omega)).trans HK.out
 have bW:Below w.heap.size w wb:=HB.out.trans (b9.mono (by rw[HX.out,HSz.out];omega))
 have q0:wb.cell? ⟨x,0,none⟩=some (.int .i64 m.k):=cell_of_row wb x 0 _ _ _ K
 have q1:wb.cell? ⟨x,1,none⟩=some (.int .i64 (k:Nat)):=cell_of_row wb x 1 _ _ _ K
 have q2:wb.cell? ⟨x,2,none⟩=some (.int .i64 m.s):=cell_of_row wb x 2 _ _ _ K
 have q3:wb.cell? ⟨x,3,none⟩=some (.int .i64 m.f):=cell_of_row wb x 3 _ _ _ K
 have q4:wb.cell? ⟨x,4,none⟩=some (.int .i64 m.a):=cell_of_row wb x 4 _ _ _ K
 have q5:wb.cell? ⟨x,5,none⟩=some (.int .u32 (m.w:Nat)):=cell_of_row wb x 5 _ _ _ K
 have q6:wb.cell? ⟨x,6,none⟩=some (.int .i64 m.n):=cell_of_row wb x 6 _ _ _ K
 have q7:wb.cell? ⟨x,7,none⟩=some (.bool m.h):=cell_of_row wb x 7 _ _ _ K
 have q8:wb.cell? ⟨x,8,none⟩=some (.slice d m.l c):=cell_of_row wb x 8 _ _ _ K
 have p0:wb.cell? ⟨x+1,0,none⟩=some (.pointer (some ⟨hd,0,none⟩)):=cell_of_row wb (x+1) 0 _ _ _ s9
 have p1:wb.cell? ⟨x+1,1,none⟩=some (.pointer (some ⟨dd,0,none⟩)):=cell_of_row wb (x+1) 1 _ _ _ s9
 have p2:wb.cell? ⟨x+1,2,none⟩=some (.pointer (some ⟨dm,0,none⟩)):=cell_of_row wb (x+1) 2 _ _ _ s9
 have HWb:Hid (Below w.heap.size w wb):=bW
 have HKb:Hid (_):=K
 have HCb:Hid (_):=s9
 clear hwb hwb2 hth b9 s9 b8 s8 K bW HE HK HSS HB HS0
 have hCc:=HC.out wb HWb.out
 go_wp2_with fail
 refine hCc.mono ?_
 rintro r w2 ⟨rfl,H2⟩
 go_wp2_with fail
 go_ret2
 exact⟨rfl,H2⟩
theorem wact4 (X g cc n k hd dd dm:Nat) (m:Mv) (d:Option Addr) (c:Nat) (E I:Int) (w:World) (Z:World→Prop) (cv:w.cell? ⟨X,3,none⟩=some (.slice (some ⟨g,0,none⟩) n cc)) (c0:w.cell? ⟨g,k*3,none⟩=some (.pointer (some ⟨hd,0,none⟩))) (c1:w.cell? ⟨g,k*3+1,none⟩=some (.pointer (some ⟨dd,0,none⟩))) (c2:w.cell? ⟨g,k*3+2,none⟩=some (.pointer (some ⟨dm,0,none⟩))) (hlt:((k:Nat):Int) < ((n:Nat):Int)) (h2:(m.k == 2)=false) (h3:(m.k == 3)=false) (h4:(m.k == 4)=true)
  (hC:∀ w1,Below w.heap.size w w1→Calls Tryz.prog 47 #[.pointer (some ⟨X,0,none⟩),.agg #[.int .i64 m.k,.int .i64 (k:Nat),.int .i64 m.s,.int .i64 m.f,.int .i64 m.a,.int .u32 (m.w:Nat),.int .i64 m.n,.bool m.h,.slice d m.l c]] w1 fun r w'=>r=.returned (.tuple #[.int .i64 E,.int .i64 I])∧Hid (Z w')) :
  Calls Tryz.prog 26 #[.pointer (some ⟨X,0,none⟩),.agg #[.int .i64 m.k,.int .i64 (k:Nat),.int .i64 m.s,.int .i64 m.f,.int .i64 m.a,.int .u32 (m.w:Nat),.int .i64 m.n,.bool m.h,.slice d m.l c]] w fun r w'=>r=.returned (.tuple #[.int .i64 E,.int .i64 I])∧Hid (Z w'):=by
 have kA:=heap_alloc_new w (.cells #[.int .i64 m.k,.int .i64 (k:Nat),.int .i64 m.s,.int .i64 m.f,.int .i64 m.a,.int .u32 (m.w:Nat),.int .i64 m.n,.bool m.h,.slice d m.l c] 38)
 have bA:=belY (Below.refl _ w) (.cells #[.int .i64 m.k,.int .i64 (k:Nat),.int .i64 m.s,.int .i64 m.f,.int .i64 m.a,.int .u32 (m.w:Nat),.int .i64 m.n,.bool m.h,.slice d m.l c] 38)
 have sA:(w.alloc (.cells #[.int .i64 m.k,.int .i64 (k:Nat),.int .i64 m.s,.int .i64 m.f,.int .i64 m.a,.int .u32 (m.w:Nat),.int .i64 m.n,.bool m.h,.slice d m.l c] 38)).heap.size=w.heap.size+1:=sz1 _ _
 obtain⟨wa,hwa⟩:∃ y,w.alloc (.cells #[.int .i64 m.k,.int .i64 (k:Nat),.int .i64 m.s,.int .i64 m.f,.int .i64 m.a,.int .u32 (m.w:Nat),.int .i64 m.n,.bool m.h,.slice d m.l c] 38)=y:=⟨_,rfl⟩
 rw[hwa]at kA bA sA
 obtain⟨x,hx⟩:∃ y,w.heap.size=y:=⟨_,rfl⟩
 have HB:Hid (Below w.heap.size w wa):=bA
 have HSz:Hid (w.heap.size=x):=hx
 rw[hx]at kA sA
 have hS:∀ w',Below wa.heap.size wa w'→w'.cell? ⟨X,3,none⟩=some (Value.slice (some ⟨g,0,none⟩) n cc)∧w'.cell? ⟨x,1,none⟩=some (Value.int .i64 (k:Nat))∧w'.cell? ⟨g,k*3,none⟩=some (Value.pointer (some ⟨hd,0,none⟩))∧w'.cell? ⟨g,k*3+1,none⟩=some (Value.pointer (some ⟨dd,0,none⟩))∧w'.cell? ⟨g,k*3+2,none⟩=some (Value.pointer (some ⟨dm,0,none⟩)):=fun w' b=>⟨cellY (cellY cv bA) b,cellY (cell_of_row wa x 1 _ _ _ kA) b,cellY (cellY c0 bA) b,cellY (cellY c1 bA) b,cellY (cellY c2 bA) b⟩
 have HS0:=hS wa.drew (Below.drew (Below.refl _ _))
 have HSS:Hid (_):=hS
 have HE:Hid (_=wa):=hwa
 have HX:Hid (wa.heap.size=x+1):=sA
 have HK:Hid (wa.heap[x]?=some (.cells #[.int .i64 m.k,.int .i64 (k:Nat),.int .i64 m.s,.int .i64 m.f,.int .i64 m.a,.int .u32 (m.w:Nat),.int .i64 m.n,.bool m.h,.slice d m.l c] 38 (0,0))):=kA
 clear kA bA hwa hx hS sA cv c0 c1 c2
 have HC:Hid (_):=hC
 clear hC
 go_enter Tryz.func26,Tryz.ntmps26
 go_upto_region 1 with fail
 rw[HE.out,HSz.out]
 refine wp_region_held_drew (S:=fun w'=>w'.cell? ⟨X,3,none⟩=some (Value.slice (some ⟨g,0,none⟩) n cc)∧w'.cell? ⟨x,1,none⟩=some (Value.int .i64 (k:Nat))∧w'.cell? ⟨g,k*3,none⟩=some (Value.pointer (some ⟨hd,0,none⟩))∧w'.cell? ⟨g,k*3+1,none⟩=some (Value.pointer (some ⟨dd,0,none⟩))∧w'.cell? ⟨g,k*3+2,none⟩=some (Value.pointer (some ⟨dm,0,none⟩))) (by kernel_rfl) HS0 (fun _=>?_)
 refine tkH (i:=0) (v:=Value.pointer (some ⟨X,0,none⟩)) ?_
 refine tkH (i:=1) (v:=Value.pointer (some ⟨X,0,none⟩)) ?_
 refine tkH (i:=2) (v:=Value.pointer (some ⟨X,3,none⟩)) ?_
 refine tkH (i:=3) (v:=Value.slice (some ⟨g,0,none⟩) n cc) ?_
 refine tkH (i:=4) (v:=Value.pointer (some ⟨x,1,none⟩)) ?_
 refine tkH (i:=5) (v:=Value.int .i64 (k:Nat)) ?_
 refine tkH (i:=6) (v:=Value.pointer (some ⟨g,k*3,none⟩)) ?_
 refine tkH (i:=7) (v:=Value.agg #[Value.pointer (some ⟨hd,0,none⟩),Value.pointer (some ⟨dd,0,none⟩),Value.pointer (some ⟨dm,0,none⟩)]) ?_
 have b8:Below wa.heap.size wa (wa.drew.alloc (.cells #[Value.pointer none,Value.pointer none,Value.pointer none] 73)):=(Below.drew (Below.refl _ _)).alloc (Nat.le_refl _) _
 refine held_new (i:=8) (Value.pointer (some ⟨x+1,0,none⟩)) (wa.drew.alloc (.cells #[Value.pointer none,Value.pointer none,Value.pointer none] 73)) (by kernel_rfl) rfl (by kernel_rfl) (by rw[← HX.out];go_simp) (HSS.out _ b8) ?_
 have s8:(wa.drew.alloc (.cells #[Value.pointer none,Value.pointer none,Value.pointer none] 73)).heap[x+1]?=some (.cells #[Value.pointer none,Value.pointer none,Value.pointer none] 73 (0,0)):=by rw[← HX.out];exact heap_alloc_new wa.drew _
 have b9:Below wa.heap.size wa ((((wa.drew.alloc (.cells #[Value.pointer none,Value.pointer none,Value.pointer none] 73)).setCell ⟨x+1,0,none⟩ (Value.pointer (some ⟨hd,0,none⟩))).setCell ⟨x+1,1,none⟩ (Value.pointer (some ⟨dd,0,none⟩))).setCell ⟨x+1,2,none⟩ (Value.pointer (some ⟨dm,0,none⟩))):=((b8.setCell (by rw[HX.out];exact Nat.le_refl _) _).setCell (by rw[HX.out];exact Nat.le_refl _) _).setCell (by rw[HX.out];exact Nat.le_refl _) _
 have s9:=con3 (hd:=hd) (dd:=dd) (dm:=dm) s8
 obtain⟨wb,hwb⟩:∃ y,((((wa.drew.alloc (.cells #[Value.pointer none,Value.pointer none,Value.pointer none] 73)).setCell ⟨x+1,0,none⟩ (Value.pointer (some ⟨hd,0,none⟩))).setCell ⟨x+1,1,none⟩ (Value.pointer (some ⟨dd,0,none⟩))).setCell ⟨x+1,2,none⟩ (Value.pointer (some ⟨dm,0,none⟩)))=y:=⟨_,rfl⟩
 rw[hwb]at b9 s9
 have hth:(wa.drew.alloc (.cells #[Value.pointer none,Value.pointer none,Value.pointer none] 73)).there (x+1) 0 3:=there_row s8 rfl
 have hwb2:(wa.drew.alloc (.cells #[Value.pointer none,Value.pointer none,Value.pointer none] 73)).setCells (x+1) 0 #[Value.pointer (some ⟨hd,0,none⟩),Value.pointer (some ⟨dd,0,none⟩),Value.pointer (some ⟨dm,0,none⟩)].toList=wb:=hwb
 refine held_storeA (i:=9) (by kernel_rfl) rfl (by kernel_rfl) 73 (.tmp 6) (.tmp 16) rfl (x+1) 0 #[Value.pointer (some ⟨hd,0,none⟩),Value.pointer (some ⟨dd,0,none⟩),Value.pointer (some ⟨dm,0,none⟩)] (by kernel_rfl) (by kernel_rfl) hth (by kernel_rfl) (by kernel_rfl) (by rw[hwb2];exact HSS.out _ b9) ?_
 rw[hwb2]
 refine wpAnyH_done (by kernel_rfl) ?_ _
 have K:=(b9.block x (by rw[HX.out];omega)).trans HK.out
 have bW:Below w.heap.size w wb:=HB.out.trans (b9.mono (by rw[HX.out,HSz.out];omega))
 have q0:wb.cell? ⟨x,0,none⟩=some (.int .i64 m.k):=cell_of_row wb x 0 _ _ _ K
 have q1:wb.cell? ⟨x,1,none⟩=some (.int .i64 (k:Nat)):=cell_of_row wb x 1 _ _ _ K
 have q2:wb.cell? ⟨x,2,none⟩=some (.int .i64 m.s):=cell_of_row wb x 2 _ _ _ K
 have q3:wb.cell? ⟨x,3,none⟩=some (.int .i64 m.f):=cell_of_row wb x 3 _ _ _ K
 have q4:wb.cell? ⟨x,4,none⟩=some (.int .i64 m.a):=cell_of_row wb x 4 _ _ _ K
 have q5:wb.cell? ⟨x,5,none⟩=some (.int .u32 (m.w:Nat)):=cell_of_row wb x 5 _ _ _ K
 have q6:wb.cell? ⟨x,6,none⟩=some (.int .i64 m.n):=cell_of_row wb x 6 _ _ _ K
 have q7:wb.cell? ⟨x,7,none⟩=some (.bool m.h):=cell_of_row wb x 7 _ _ _ K
 have q8:wb.cell? ⟨x,8,none⟩=some (.slice d m.l c):=cell_of_row wb x 8 _ _ _ K
 have p0:wb.cell? ⟨x+1,0,none⟩=some (.pointer (some ⟨hd,0,none⟩)):=cell_of_row wb (x+1) 0 _ _ _ s9
 have p1:wb.cell? ⟨x+1,1,none⟩=some (.pointer (some ⟨dd,0,none⟩)):=cell_of_row wb (x+1) 1 _ _ _ s9
 have p2:wb.cell? ⟨x+1,2,none⟩=some (.pointer (some ⟨dm,0,none⟩)):=cell_of_row wb (x+1) 2 _ _ _ s9
 have HWb:Hid (Below w.heap.size w wb):=bW
 have HKb:Hid (_):=K
 have HCb:Hid (_):=s9
 clear hwb hwb2 hth b9 s9 b8 s8 K bW HE HK HSS HB HS0
 have hCc:=HC.out wb HWb.out
 go_wp2_with fail
 refine hCc.mono ?_
 rintro r w2 ⟨rfl,H2⟩
 go_wp2_with fail
 go_ret2
 exact⟨rfl,H2⟩
end Go.Proofs.YtgaeofgdiaknpaaGreat
