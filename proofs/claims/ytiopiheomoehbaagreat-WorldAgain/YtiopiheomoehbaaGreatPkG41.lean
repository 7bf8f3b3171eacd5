/- Part 42 of the texts on which the proof rests: contracts of Go functions. -/
import Derived.Test.YtiopiheomoehbaaGreatPkG37
import Derived.Test.YtiopiheomoehbaaGreatPkG38
import Derived.Test.YtiopiheomoehbaaGreatPkG40
namespace Go.Proofs.YtiopiheomoehbaaGreat
set_option maxRecDepth 100000
open Go.RowKit Go.Maps
theorem mvY_cells (w:World) (o:Array Value) (wx:World) (hb:Below (w.alloc (.cells o 27)).heap.size (w.alloc (.cells o 27)) wx) (i:Nat):wx.cell? ⟨w.heap.size,i,none⟩=o[i]?:=by
 rw[hb.cell (p:=⟨w.heap.size,i,none⟩) (by simp)]
 exact cell_of_row _ _ _ _ _ _ (heap_alloc_new _ _)
theorem mvY_frozen (w:World) (o:Array Value) (i:Nat) (wx:World) (hb:Below (w.alloc (.cells o 27)).heap.size (w.alloc (.cells o 27)) wx):wx.frozen? ⟨w.heap.size,i,none⟩=false:=by
 rw[hb.frozen (p:=⟨w.heap.size,i,none⟩) (by simp)]
 simp
set_option maxHeartbeats 2000000 in
theorem pcopyY (m:Mv) (d:Option Addr) (e:Nat) (w:World) (hr:Row8 w d m.l e m.b) (hlen:m.l≤140737488351232):Calls Tryz.prog 9 #[.agg #[.int .i64 m.k,.int .i64 m.c,.int .i64 m.s,.int .i64 m.f,.int .i64 m.a,.int .u32 (m.w:Nat),.int .i64 m.n,.bool m.h,.slice d m.l e]] w fun r w'=>∃ a' c',r=.returned (.agg #[.int .i64 m.k,.int .i64 m.c,.int .i64 m.s,.int .i64 m.f,.int .i64 m.a,.int .u32 (m.w:Nat),.int .i64 m.n,.bool m.h,.slice a' m.l c'])∧Hid (Row8 w' a' m.l c' m.b∧Below w.heap.size w w'∧∀ y,a'=some y→0<m.l→w.heap.size≤y.block):=by
 obtain⟨i0,hi,hz0,hz1,hz2⟩:=info_parts info_u8
 have hbd:=build0D
 have hX:=fun wx hb=>mvY_cells w #[.int .i64 m.k,.int .i64 m.c,.int .i64 m.s,.int .i64 m.f,.int .i64 m.a,.int .u32 (m.w:Nat),.int .i64 m.n,.bool m.h,.slice d m.l e] wx hb
 have hXf:=fun i wx hb=>mvY_frozen w #[.int .i64 m.k,.int .i64 m.c,.int .i64 m.s,.int .i64 m.f,.int .i64 m.a,.int .u32 (m.w:Nat),.int .i64 m.n,.bool m.h,.slice d m.l e] i wx hb
 obtain⟨wa,hwa⟩:∃ x,x=w.alloc (.cells #[.int .i64 m.k,.int .i64 m.c,.int .i64 m.s,.int .i64 m.f,.int .i64 m.a,.int .u32 (m.w:Nat),.int .i64 m.n,.bool m.h,.slice d m.l e] 27):=⟨_,rfl⟩
 rw[← hwa]at hX hXf
 have hA:Below w.heap.size w wa:=by rw[hwa];exact (Below.refl _ _).alloc (Nat.le_refl _) _
 have hAs:wa.heap.size=w.heap.size+1:=by rw[hwa];simp
 have hY:=fun wx hb=>mvY_cells wa #[.int .i64 0,.int .i64 0,.int .i64 0,.int .i64 0,.int .i64 0,.int .u32 0,.int .i64 0,.bool false,.slice none 0 0] wx hb
 have hYf:=fun i wx hb=>mvY_frozen wa #[.int .i64 0,.int .i64 0,.int .i64 0,.int .i64 0,.int .i64 0,.int .u32 0,.int .i64 0,.bool false,.slice none 0 0] i wx hb
 obtain⟨wb,hwb⟩:∃ x,x=wa.alloc (.cells #[.int .i64 0,.int .i64 0,.int .i64 0,.int .i64 0,.int .i64 0,.int .u32 0,.int .i64 0,.bool false,.slice none 0 0] 27):=⟨_,rfl⟩
 rw[← hwb]at hY hYf
 have hB:Below wa.heap.size wa wb:=by rw[hwb];exact (Below.refl _ _).alloc (Nat.le_refl _) _
 have hBs:wb.heap.size=w.heap.size+1+1:=by rw[hwb,hwa];simp
 have hC:Below wb.heap.size wb (wb.alloc (.cells #[] 5)):=(Below.refl _ _).alloc (Nat.le_refl _) _
 have O0:(wb.alloc (.cells #[] 5)).ownsRow wb.heap.size 5 1 (.slice (some ⟨wb.heap.size,0,none⟩) 0 0) 0 (CB m.b 0):=World.ownsRow_made wb #[] 0 (Nat.le_refl _) (Nat.zero_le _) rfl
 have hszC:=hC.size
 have R0:=((hr.below hA).below hB).below hC
 rw[hAs]at hY hYf
 go_enter Tryz.func9,Tryz.ntmps9
 go_upto_region 1 with fail
 try rw[← hwa]
 try rw[← hwb]
 have H0:Hid (_):=And.intro hwa (And.intro hwb (And.intro hAs hBs))
 clear hwa hwb
 have x8:(wb.alloc (.cells #[] 5)).cell? ⟨w.heap.size,8,none⟩=some (.slice d m.l e):=hX (wb.alloc (.cells #[] 5)) (hB.trans (hC.mono (by omega))) 8
 clear hAs hBs
 go_wp2_with (at_builtin;refine wpList_append_row8 rfl (.tmp 3) (.tmp 5) 25 rfl wb.heap.size 5 i0 (.int .u8 0) Tryz.underlying25 hi hz0 hz1 hz2 rfl _ 0 _ rfl O0 d m.l e m.b rfl R0 (by unfold maxLen;omega) (by omega) hszC ?_)
 intro v2 w2 hown2 hgrow2
 have hbel2:Below wb.heap.size wb w2:=hC.grown hgrow2 hszC (fun j hj=>(O0.lt j hj).1)
 rw[show CB m.b 0=[] from rfl,List.nil_append]at hown2
 have hlt:w.heap.size<wb.heap.size∧w.heap.size+1<wb.heap.size:=by have:=H0.out;omega
 have hbelA:Below wa.heap.size wa w2:=hB.trans (hbel2.mono (by have:=H0.out;omega))
 have x0:w2.cell? ⟨w.heap.size,0,none⟩=some ((.int .i64 m.k)):=hX w2 hbelA 0
 have x1:w2.cell? ⟨w.heap.size,1,none⟩=some ((.int .i64 m.c)):=hX w2 hbelA 1
 have x2:w2.cell? ⟨w.heap.size,2,none⟩=some ((.int .i64 m.s)):=hX w2 hbelA 2
 have x3:w2.cell? ⟨w.heap.size,3,none⟩=some ((.int .i64 m.f)):=hX w2 hbelA 3
 have x4:w2.cell? ⟨w.heap.size,4,none⟩=some ((.int .i64 m.a)):=hX w2 hbelA 4
 have x5:w2.cell? ⟨w.heap.size,5,none⟩=some ((.int .u32 (m.w:Nat))):=hX w2 hbelA 5
 have x6:w2.cell? ⟨w.heap.size,6,none⟩=some ((.int .i64 m.n)):=hX w2 hbelA 6
 have x7:w2.cell? ⟨w.heap.size,7,none⟩=some ((.bool m.h)):=hX w2 hbelA 7
 have x8:w2.cell? ⟨w.heap.size,8,none⟩=some ((.slice d m.l e)):=hX w2 hbelA 8
 have y0:w2.cell? ⟨w.heap.size+1,0,none⟩=some (.int .i64 0):=hY w2 hbel2 0
 have y1:w2.cell? ⟨w.heap.size+1,1,none⟩=some (.int .i64 0):=hY w2 hbel2 1
 have y2:w2.cell? ⟨w.heap.size+1,2,none⟩=some (.int .i64 0):=hY w2 hbel2 2
 have y3:w2.cell? ⟨w.heap.size+1,3,none⟩=some (.int .i64 0):=hY w2 hbel2 3
 have y4:w2.cell? ⟨w.heap.size+1,4,none⟩=some (.int .i64 0):=hY w2 hbel2 4
 have y5:w2.cell? ⟨w.heap.size+1,5,none⟩=some (.int .u32 0):=hY w2 hbel2 5
 have y6:w2.cell? ⟨w.heap.size+1,6,none⟩=some (.int .i64 0):=hY w2 hbel2 6
 have y7:w2.cell? ⟨w.heap.size+1,7,none⟩=some (.bool false):=hY w2 hbel2 7
 have y8:w2.cell? ⟨w.heap.size+1,8,none⟩=some (.slice none 0 0):=hY w2 hbel2 8
 have xf:=fun i=>hXf i w2 hbelA
 have yf:=fun i=>hYf i w2 hbel2
 obtain⟨a2,c2,rfl,R2⟩:=own_row8 hown2 hr.byte
 have HR:Hid (w2.ownsRow wb.heap.size 5 1 (.slice a2 m.l c2) m.l (CB m.b m.l)∧Below wb.heap.size wb w2):=⟨hown2,hbel2⟩
 clear hgrow2 O0 R0 hC hszC hX hY hXf hYf hown2 R2 hbel2 hbelA hbd
 go_wp2_with fail
 refine bodyPost_ret (v:=.agg #[.int .i64 m.k,.int .i64 m.c,.int .i64 m.s,.int .i64 m.f,.int .i64 m.a,.int .u32 (m.w:Nat),.int .i64 m.n,.bool m.h,.slice a2 m.l c2]) (by simp[results,Tryz.results9,go_sem,y0,y1,y2,y3,y4,y5,y6,y7,y8]) rfl ⟨a2,c2,rfl,?_,?_,?_⟩
 ·obtain⟨a3,c3,e,R3⟩:=own_row8 (ownsRow_setCell_below (ownsRow_setCell_below (ownsRow_setCell_below (ownsRow_setCell_below (ownsRow_setCell_below (ownsRow_setCell_below (ownsRow_setCell_below (ownsRow_setCell_below (ownsRow_setCell_below (ownsRow_setCell_below HR.out.1 (a:=⟨w.heap.size,8,none⟩) hlt.1 _) (a:=⟨w.heap.size+1,0,none⟩) hlt.2 _) (a:=⟨w.heap.size+1,1,none⟩) hlt.2 _) (a:=⟨w.heap.size+1,2,none⟩) hlt.2 _) (a:=⟨w.heap.size+1,3,none⟩) hlt.2 _) (a:=⟨w.heap.size+1,4,none⟩) hlt.2 _) (a:=⟨w.heap.size+1,5,none⟩) hlt.2 _) (a:=⟨w.heap.size+1,6,none⟩) hlt.2 _) (a:=⟨w.heap.size+1,7,none⟩) hlt.2 _) (a:=⟨w.heap.size+1,8,none⟩) hlt.2 _) hr.byte
  simp only[Value.slice.injEq,true_and]at e
  obtain⟨rfl,rfl⟩:=e
  exact R3
 ·have hb:Below w.heap.size w w2:=(hA.trans (hB.mono (by have:=H0.out;omega))).trans (HR.out.2.mono (by omega))
  exact ((((((((((hb.setCell (p:=⟨w.heap.size,8,none⟩) (Nat.le_refl _) _).setCell (p:=⟨w.heap.size+1,0,none⟩) (Nat.le_succ _) _).setCell (p:=⟨w.heap.size+1,1,none⟩) (Nat.le_succ _) _).setCell (p:=⟨w.heap.size+1,2,none⟩) (Nat.le_succ _) _).setCell (p:=⟨w.heap.size+1,3,none⟩) (Nat.le_succ _) _).setCell (p:=⟨w.heap.size+1,4,none⟩) (Nat.le_succ _) _).setCell (p:=⟨w.heap.size+1,5,none⟩) (Nat.le_succ _) _).setCell (p:=⟨w.heap.size+1,6,none⟩) (Nat.le_succ _) _).setCell (p:=⟨w.heap.size+1,7,none⟩) (Nat.le_succ _) _).setCell (p:=⟨w.heap.size+1,8,none⟩) (Nat.le_succ _) _)
 ·intro y hy hn
  rcases HR.out.1.2 with ⟨e,_⟩ | ⟨g,cap,cur,e,hg,_⟩
  ·simp only[Value.slice.injEq]at e
   rw[e.1]at hy
   cases hy
  ·simp only[Value.slice.injEq]at e
   rw[e.1]at hy
   cases hy
   have:=hlt.1
   show w.heap.size≤g
   omega
set_option linter.unusedVariables false
theorem note_bg (S:Ws) (l:List Fa):(S.note l).bg=S.bg:=rfl
theorem note_mv (S:Ws) (l:List Fa):(S.note l).mv=S.mv:=rfl
theorem wpList_loadAG {P:Program} {ops:Array Oper} {rest:List Oper} {op:Oper} {a:Act} {w:World} {Q:Exit→Act→World→Prop} (hw:Region.wanted op (yielded ops a.tmps)=true) (ty:TypeId) (x:Operand) (ho:op.op=.load ty x)
  (b o:Nat) (hx:a.eval x=.pointer (some ⟨b,o,none⟩)) (A:Array Value) (d:TypeDesc) (hc:w.rangeAt b o A.toList)
  (hu:P.underlying ty=some d) (hd:d.isRow=true) (hi:(P.info? ty).map (·.size)=some A.size)
  (h:wpList P ops Q rest (a.put op.dst (.agg A)) w):wpList P ops Q (op :: rest) a w:=
 wpList_load_midG hw ty x ho b o hx A.toList d hc hu hd (by simpa using hi) (by simpa using h)
structure Pq where
 c:Nat
 o:Int
 i:Int
 t:Int
 n:Nat
def Pq.cs (p:Pq):List Value:=[.int .u32 (p.c:Nat),.int .i64 p.o,.int .i64 p.i,.int .i64 p.t,.int .u32 (p.n:Nat)]
def PqRow (w:World) (a:Option Addr) (len:Nat) (P:Nat→Pq):Prop:=∀ i,i<len→∃ q off,a=some ⟨q,off,none⟩∧∀ j u,(P i).cs[j]?=some u→w.cell? ⟨q,off+i*5+j,none⟩=some u
theorem PqRow.below {w w':World} {a:Option Addr} {len:Nat} {P:Nat→Pq} (h:PqRow w a len P) (b:Below w.heap.size w w'):PqRow w' a len P:=fun i hi=>by
 obtain⟨q,off,e,c⟩:=h i hi
 exact⟨q,off,e,fun j u hu=>cellY (c j u hu) b⟩
def natQ:Value→Nat
 | .int _ i=>i.toNat
 | _=>0
def hasC (P:Nat→Pq) (l c:Nat):Bool:=(List.range l).any fun i=>(P i).c == c
theorem hasC_succ (P:Nat→Pq) (l c:Nat):hasC P (l+1) c=(hasC P l c || ((P l).c == c)):=by
 unfold hasC
 rw[List.range_succ,List.any_append]
 simp
set_option maxHeartbeats 1000000 in
theorem pclos (p:Pq) (x c:Nat) (w:World) (cx:w.cell? ⟨x,0,none⟩=some (.int .u32 (c:Nat))):Calls Tryz.prog 57 #[.agg #[.int .u32 (p.c:Nat),.int .i64 p.o,.int .i64 p.i,.int .i64 p.t,.int .u32 (p.n:Nat)],.pointer (some ⟨x,0,none⟩)] w fun r w'=>r=.returned (.bool (((p.c:Nat):Int) == ((c:Nat):Int)))∧Below w.heap.size w w':=by
 have kA:=heap_alloc_new w (.cells #[.int .u32 (p.c:Nat),.int .i64 p.o,.int .i64 p.i,.int .i64 p.t,.int .u32 (p.n:Nat)] 68)
 have bA:=belY (Below.refl _ w) (.cells #[.int .u32 (p.c:Nat),.int .i64 p.o,.int .i64 p.i,.int .i64 p.t,.int .u32 (p.n:Nat)] 68)
 have c1:=cellY cx bA
 obtain⟨wa,hwa⟩:∃ z,w.alloc (.cells #[.int .u32 (p.c:Nat),.int .i64 p.o,.int .i64 p.i,.int .i64 p.t,.int .u32 (p.n:Nat)] 68)=z:=⟨_,rfl⟩
 rw[hwa]at kA bA c1
 obtain⟨y,hy⟩:∃ z,w.heap.size=z:=⟨_,rfl⟩
 have HB:Hid (Below w.heap.size w wa):=bA
 rw[hy]at kA
 have q0:wa.cell? ⟨y,0,none⟩=some (.int .u32 (p.c:Nat)):=cell_of_row wa y 0 _ _ _ kA
 have HE:Hid (_=wa):=hwa
 have HS:Hid (w.heap.size=y):=hy
 clear kA bA hwa hy cx
 go_enter Tryz.func57,Tryz.ntmps57
 go_upto_region 1 with fail
 rw[HE.out,HS.out]
 go_wp2_with fail
 go_ret
 exact⟨rfl,HB.out⟩
set_option maxHeartbeats 4000000 in
theorem pindexC (a:Option Addr) (len cap:Nat) (P:Nat→Pq) (x c:Nat) (w:World) (hr:PqRow w a len P) (cx:w.cell? ⟨x,0,none⟩=some (.int .u32 (c:Nat))) (hlen:len≤1000000):Calls Tryz.prog 74 #[.slice a len cap,(.func (.func 57) #[] #[.pointer (some ⟨x,0,none⟩)])] w fun r w'=>∃ k:Int,r=.returned (.int .i64 k)∧Hid ((decide (0≤k))=hasC P len c∧Below w.heap.size w w'):=by
 have HW:Hid (PqRow w a len P):=hr
 have HX:Hid (_):=cx
 clear hr cx
 go_enter Tryz.func74,Tryz.ntmps74
 go_wp2_with fail
 go_loopw [4,5,8,9,10,11,12,13,14,15,16,17,18] (fun _ _ c0 _ _ _ _ _ _ _ _ _ _ wr=>∃ i:Nat,i≤len∧c0=.int .i64 ((i:Nat):Int)∧Hid (hasC P i c=false∧Below w.heap.size w wr)) (fun _ _ c0 _ _ _ _ _ _ _ _ _ _ _=>len-natQ c0)
 case atStart=>exact⟨0,by omega,rfl,rfl,Below.refl _ _⟩
 case round=>
  obtain⟨i,hi,rfl,HI⟩:=hrel
  by_cases hlt:i<len
  rotate_left
  ·obtain rfl:i=len:=by omega
   have hlt':¬ ((i:Nat):Int) < ((i:Nat):Int):=by omega
   go_wp2_with fail
   go_ret
   exact⟨-1,rfl,by rw[HI.out.1] <;> rfl,HI.out.2⟩
  have hlt':((i:Nat):Int) < ((len:Nat):Int):=by omega
  have hw1:IntKind.i64.wrap (((i:Nat):Int)+1)=((i+1:Nat):Int):=by rw[IntKind.wrap_i64];omega
  obtain⟨q,off,ea,cc⟩:=(PqRow.below HW.out HI.out.2) i hlt
  subst ea
  obtain⟨p,hP⟩:∃ y,P i=y:=⟨_,rfl⟩
  rw[hP]at cc
  have c0:wr.cell? ⟨q,off+i*5,none⟩=some (.int .u32 (p.c:Nat)):=cc 0 _ rfl
  have c1:wr.cell? ⟨q,off+i*5+1,none⟩=some (.int .i64 p.o):=cc 1 _ rfl
  have c2:wr.cell? ⟨q,off+i*5+2,none⟩=some (.int .i64 p.i):=cc 2 _ rfl
  have c3:wr.cell? ⟨q,off+i*5+3,none⟩=some (.int .i64 p.t):=cc 3 _ rfl
  have c4:wr.cell? ⟨q,off+i*5+4,none⟩=some (.int .u32 (p.n:Nat)):=cc 4 _ rfl
  have hC:=pclos p x c wr (cellY HX.out HI.out.2)
  have HP:Hid (_):=hP
  clear cc hP
  by_cases hq:p.c=c
  ·rw[show (((p.c:Nat):Int) == ((c:Nat):Int))=true by rw[natEqY];exact decide_eq_true hq]at hC
   have HQ:Hid (p.c=c):=hq
   clear hq
   go_wp2_with fail
   refine hC.mono ?_
   rintro r w3 ⟨rfl,b3⟩
   go_wp2_with fail
   go_ret
   refine⟨((i:Nat):Int),rfl,?_,HI.out.2.trans (b3.mono HI.out.2.size)⟩
   rw[decide_eq_true (by omega)]
   refine (List.any_eq_true.2 ⟨i,List.mem_range.2 hlt,?_⟩).symm
   rw[HP.out]
   simpa using HQ.out
  ·rw[show (((p.c:Nat):Int) == ((c:Nat):Int))=false by rw[natEqY];exact decide_eq_false hq]at hC
   have HN:Hid (hasC P (i+1) c=false):=by
    show hasC P (i+1) c=false
    rw[hasC_succ,HI.out.1,HP.out]
    simpa using hq
   clear hq
   go_wp2_with fail
   refine hC.mono ?_
   rintro r w3 ⟨rfl,b3⟩
   have HB3:Hid (_):=b3
   clear b3 hC
   go_wp2_with fail
   exact⟨⟨i+1,by omega,by first | rfl | go_num,HN.out,HI.out.2.trans (HB3.out.mono HI.out.2.size)⟩,by simp only[natQ];omega⟩
set_option maxHeartbeats 1000000 in
theorem pcontainsC (a:Option Addr) (len cap:Nat) (P:Nat→Pq) (x c:Nat) (w:World) (hr:PqRow w a len P) (cx:w.cell? ⟨x,0,none⟩=some (.int .u32 (c:Nat))) (hlen:len≤1000000):Calls Tryz.prog 58 #[.slice a len cap,(.func (.func 57) #[] #[.pointer (some ⟨x,0,none⟩)])] w fun r w'=>r=.returned (.bool (hasC P len c))∧Hid (Below w.heap.size w w'):=by
 have hI:=pindexC a len cap P x c w hr cx hlen
 obtain⟨B,hB⟩:∃ y,hasC P len c=y:=⟨_,rfl⟩
 rw[hB]at hI ⊢
 clear hr cx hB
 go_enter Tryz.func58,Tryz.ntmps58
 go_wp2_with fail
 refine hI.mono ?_
 rintro r w2 ⟨k,rfl,H⟩
 go_wp2_with fail
 go_ret
 exact⟨by rw[← H.out.1] <;> rfl,H.out.2⟩
def dblC (P:Nat→Pq) (l:Nat):Bool:=(List.range l).any fun i=>hasC P i (P i).c
theorem dblC_succ (P:Nat→Pq) (l:Nat):dblC P (l+1)=(dblC P l || hasC P l (P l).c):=by
 unfold dblC
 rw[List.range_succ,List.any_append]
 simp
set_option maxHeartbeats 4000000 in
theorem pdoubledC (a:Option Addr) (len cap:Nat) (P:Nat→Pq) (w:World) (hr:PqRow w a len P) (hlen:len≤1000000) (hcap:len≤cap):Calls Tryz.prog 34 #[.slice a len cap] w fun r w'=>r=.returned (.bool (dblC P len))∧Hid (Below w.heap.size w w'):=by
 have HW:Hid (PqRow w a len P):=hr
 clear hr
 go_enter Tryz.func34,Tryz.ntmps34
 go_wp2_with fail
 go_loopw [2,3,4,5,8,9,10,11,12,13,14,15,16,17,18,19] (fun _ _ _ _ c0 _ _ _ _ _ _ _ _ _ _ _ wr=>∃ i:Nat,i≤len∧c0=.int .i64 ((i:Nat):Int)∧Hid (dblC P i=false∧Below w.heap.size w wr)) (fun _ _ _ _ c0 _ _ _ _ _ _ _ _ _ _ _ _=>len-natQ c0)
 case atStart=>exact⟨0,by omega,rfl,rfl,Below.refl _ _⟩
 case round=>
  obtain⟨i,hi,rfl,HI⟩:=hrel
  by_cases hlt:i<len
  rotate_left
  ·obtain rfl:i=len:=by omega
   have hlt':¬ ((i:Nat):Int) < ((i:Nat):Int):=by omega
   go_wp2_with fail
   go_ret
   exact⟨by rw[HI.out.1] <;> rfl,HI.out.2⟩
  have hlt':((i:Nat):Int) < ((len:Nat):Int):=by omega
  have hic:((i:Nat):Int) ≤ ((cap:Nat):Int):=by omega
  have hR:=PqRow.below HW.out HI.out.2
  obtain⟨q,off,ea,cc⟩:=hR i hlt
  subst ea
  obtain⟨p,hP⟩:∃ y,P i=y:=⟨_,rfl⟩
  rw[hP]at cc
  have c0:wr.cell? ⟨q,off+i*5,none⟩=some (.int .u32 (p.c:Nat)):=cc 0 _ rfl
  have c1:wr.cell? ⟨q,off+i*5+1,none⟩=some (.int .i64 p.o):=cc 1 _ rfl
  have c2:wr.cell? ⟨q,off+i*5+2,none⟩=some (.int .i64 p.i):=cc 2 _ rfl
  have c3:wr.cell? ⟨q,off+i*5+3,none⟩=some (.int .i64 p.t):=cc 3 _ rfl
  have c4:wr.cell? ⟨q,off+i*5+4,none⟩=some (.int .u32 (p.n:Nat)):=cc 4 _ rfl
  have bA:=belY (Below.refl _ wr) (.cells #[.int .u32 (p.c:Nat),.int .i64 p.o,.int .i64 p.i,.int .i64 p.t,.int .u32 (p.n:Nat)] 68)
  have kA:=heap_alloc_new wr (.cells #[.int .u32 (p.c:Nat),.int .i64 p.o,.int .i64 p.i,.int .i64 p.t,.int .u32 (p.n:Nat)] 68)
  have hC:=pcontainsC (some ⟨q,off,none⟩) i cap P wr.heap.size p.c (wr.alloc (.cells #[.int .u32 (p.c:Nat),.int .i64 p.o,.int .i64 p.i,.int .i64 p.t,.int .u32 (p.n:Nat)] 68)) (fun j hj=>(hR.below bA) j (by omega)) (cell_of_row _ _ 0 _ _ _ kA) (by omega)
  have HP:Hid (_):=hP
  have HB:Hid (_):=HI.out.2.trans (bA.mono HI.out.2.size)
  clear cc hP bA kA hR
  cases hq:hasC P i p.c with
  | true=>
   rw[hq]at hC
   have HN:Hid (dblC P len=true):=List.any_eq_true.2 ⟨i,List.mem_range.2 hlt,by rw[HP.out];exact hq⟩
   clear hq
   go_wp2_with fail
   refine hC.mono ?_
   rintro r w3 ⟨rfl,H3⟩
   clear hC
   go_wp2_with fail
   go_ret
   exact⟨by rw[HN.out] <;> rfl,HB.out.trans (H3.out.mono HB.out.size)⟩
  | false=>
   rw[hq]at hC
   have HN:Hid (dblC P (i+1)=false):=by
    show dblC P (i+1)=false
    rw[dblC_succ,HI.out.1,HP.out,hq]
    rfl
   clear hq
   go_wp2_with fail
   refine hC.mono ?_
   rintro r w3 ⟨rfl,H3⟩
   clear hC
   go_wp2_with fail
   go_roundw
   case rel=>exact⟨i+1,by omega,by first | rfl | go_num,HN.out,HB.out.trans (H3.out.mono HB.out.size)⟩
   case measure=>simp only[natQ];omega
def flQ (n:Nat) (P:Nat→Pq):List Value:=(List.range n).flatMap fun i=>(P i).cs
theorem flQ_succ (n:Nat) (P:Nat→Pq):flQ (n+1) P=flQ n P ++ (P n).cs:=by
 unfold flQ
 rw[List.range_succ,List.flatMap_append]
 simp
theorem flQ_len (n:Nat) (P:Nat→Pq):(flQ n P).length=n*5:=by
 induction n with
 | zero=>rfl
 | succ n ih=>
  rw[flQ_succ,List.length_append,ih]
  have:(P n).cs.length=5:=rfl
  omega
theorem flQ_one (n:Nat) (P:Nat→Pq):∀ u ∈ flQ n P,u.oneCell'=true:=by
 intro u hu
 unfold flQ at hu
 obtain⟨i,_,hi⟩:=List.mem_flatMap.1 hu
 simp[Pq.cs]at hi
 rcases hi with rfl | rfl | rfl | rfl | rfl <;> rfl
theorem flQ_get (n:Nat) (P:Nat→Pq) (i j:Nat) (hi:i<n) (hj:j<5):(flQ n P)[i*5+j]?=(P i).cs[j]?:=by
 induction n with
 | zero=>omega
 | succ n ih=>
  rw[flQ_succ]
  by_cases h:i<n
  ·rw[List.getElem?_append_left (by rw[flQ_len];omega)]
   exact ih h
  ·obtain rfl:i=n:=by omega
   rw[List.getElem?_append_right (by rw[flQ_len];omega),flQ_len]
   congr 1
   omega
theorem flQ_cat (n k:Nat) (P Q:Nat→Pq):flQ (n+k) (fun i=>if i<n then P i else Q (i-n))=flQ n P ++ flQ k Q:=by
 induction k with
 | zero=>
  have e:∀ m,m≤n→flQ m (fun i=>if i<n then P i else Q (i-n))=flQ m P:=by
   intro m hm
   induction m with
   | zero=>rfl
   | succ m ih=>
    rw[flQ_succ,flQ_succ,ih (by omega),if_pos (by omega)]
  have:flQ 0 Q=[]:=rfl
  rw[this,List.append_nil]
  exact e n (Nat.le_refl _)
 | succ k ih=>
  rw[show n + (k+1)=(n+k)+1 by omega,flQ_succ,ih,flQ_succ,List.append_assoc,if_neg (by omega),show n+k-n=k by omega]
theorem PqRow.src {w:World} {q off n:Nat} {P:Nat→Pq} (h:PqRow w (some ⟨q,off,none⟩) n P):∀ j u,(flQ n P)[j]?=some u→w.cell? ((⟨q,off,none⟩:Addr).add j)=some u:=fun j u hu=>by
 have hj:j<n*5:=by
  have:=(List.getElem?_eq_some_iff.1 hu).1
  rw[flQ_len]at this
  exact this
 have e:(Addr.add ⟨q,off,none⟩ j)=⟨q,off+j,none⟩:=Addr.add_mid q off j
 obtain⟨q',off',e1,c⟩:=h (j / 5) (by omega)
 injection e1 with e1
 injection e1 with e2 e3
 subst e2 e3
 have g:=flQ_get n P (j / 5) (j % 5) (by omega) (by omega)
 rw[show j / 5*5+j % 5=j by omega,hu]at g
 have:=c (j % 5) u g.symm
 rw[show off+j / 5*5+j % 5=off+j by omega]at this
 rw[e]
 exact this
theorem PqRow.ofOwn {w:World} {B n c:Nat} {a:Option Addr} {P:Nat→Pq} (h:w.ownsRow B 68 5 (.slice a n c) n (flQ n P)):PqRow w a n P:=fun i hi=>by
 obtain⟨g,rfl,_⟩:=own_someY h (by omega)
 refine⟨g,0,rfl,fun j u hu=>?_⟩
 have hj:j<5:=by
  have:=(List.getElem?_eq_some_iff.1 hu).1
  exact this
 have:=own_cellY h (i*5+j) u (by rw[flQ_get n P i j hi hj];exact hu)
 rw[Nat.zero_add]
 exact this
set_option maxHeartbeats 1000000 in
theorem pgrowN (N:Nat) (h0:0<N) (hN:N≤1000000) (w:World):Calls Tryz.prog 55 #[.slice none 0 0,.int .i64 (N:Nat)] w fun r w'=>∃ a c,r=.returned (.slice a 0 c)∧Hid (w'.ownsRow w.heap.size 68 5 (.slice a 0 c) 0 []∧Below w.heap.size w w'):=by
 obtain⟨i0,hI,hz0,hz1,hz2⟩:=info_parts info_parY
 have hold:(Builtin.firstCells i0.size 0 (.slice none 0 0)).run Tryz.prog w.drew=.ok ([]:List Value).toArray w.drew:=run_firstCells_none _ _ _ _ _
 have hnc:Builtin.nextslicecap N 0*40≤281474976710656:=by
  unfold Builtin.nextslicecap
  rw[if_pos (by omega)]
  omega
 have hrz:∀ ty,(Builtin.append_ #[33,3] ty #[.slice none 0 0,.int .i64 (N:Nat)]).run Tryz.prog w=_:=fun ty=>Lib.run_append_grow_zeros (P:=Tryz.prog) w 33 3 ty 68 i0 _ .i64 .i64 Tryz.underlying33 Tryz.underlying3 hI hz0 none 0 0 [] hold N h0 (by rw[hz1];omega) (by omega) (by omega) (by rw[hz2];omega) (by rw[hz2,Nat.zero_add];exact hnc)
 have hGn:N≤grownCap w N 0 68:=grownCap_ge w _ _ _
 have hGm:grownCap w N 0 68≤maxLen:=grownCap_le_maxLen w N 0 _ (by unfold maxLen;omega)
 obtain⟨G,hG⟩:∃ G,grownCap w N 0 68=G:=⟨_,rfl⟩
 simp only[Nat.zero_add]at hrz
 rw[hG]at hrz hGn hGm
 have hb:Below w.heap.size w w.drew:=Below.drew (Below.refl _ _)
 have hs2:(([]:List Value).toArray ++ Builtin.zeroCells (Value.agg #[.int .u32 0,.int .i64 0,.int .i64 0,.int .i64 0,.int .u32 0]).cells N ++ Builtin.zeroCells (Value.agg #[.int .u32 0,.int .i64 0,.int .i64 0,.int .i64 0,.int .u32 0]).cells (G-N)).size=G*5:=by
  simp[Builtin.zeroCells,Value.cells]
  omega
 obtain⟨ZZ,hZZ⟩:∃ z,([]:List Value).toArray ++ Builtin.zeroCells (Value.agg #[.int .u32 0,.int .i64 0,.int .i64 0,.int .i64 0,.int .u32 0]).cells N ++ Builtin.zeroCells (Value.agg #[.int .u32 0,.int .i64 0,.int .i64 0,.int .i64 0,.int .u32 0]).cells (G-N)=z:=⟨_,rfl⟩
 rw[hZZ]at hrz hs2
 have hG63:G≤9223372036854775807:=by unfold maxLen at hGm;omega
 have ho:(w.drew.alloc (.cells ZZ 68)).ownsRow w.heap.size 68 5 (.slice (some ⟨w.drew.heap.size,0,none⟩) 0 G) 0 []:=World.ownsRow_made w.drew ZZ G (Nat.le_refl _) hGm hs2
 have HF:Hid (_):=And.intro ho (belY hb (.cells ZZ 68))
 have h1:¬ (((N:Nat):Int)<0):=by omega
 have h2:((N:Nat):Int) > 0:=by omega
 clear hold hG hb hs2 hZZ ho hGm
 go_enter Tryz.func55,Tryz.ntmps55
 go_wp2_with (at_builtin;refine Lib.wpList_append_run _ rfl _ _ _ _ rfl _ _ rfl rfl _ _ (hrz _) ?_)
 go_ret
 exact⟨_,_,rfl,HF.out⟩
set_option maxHeartbeats 1000000 in
theorem pcloneQ (q off n c:Nat) (P:Nat→Pq) (w:World) (h:PqRow w (some ⟨q,off,none⟩) n P) (hn:n≤1000000):Calls Tryz.prog 35 #[.slice (some ⟨q,off,none⟩) n c] w fun r w'=>∃ a' c',r=.returned (.slice a' n c')∧Hid (w'.ownsRow w.heap.size 68 5 (.slice a' n c') n (flQ n P)∧Below w.heap.size w w'):=by
 have hnn:∀ w,(binOp .eql 33 (.slice (some ⟨q,off,none⟩) n c) (.slice none 0 0)).run Tryz.prog w=.ok (.bool false) w:=fun _=>rfl
 obtain⟨i0,hI,hz0,hz1,hz2⟩:=info_parts info_parY
 have bA:=belY (Below.refl _ w) (.cells #[] 68)
 have oA:(w.alloc (.cells #[] 68)).ownsRow w.heap.size 68 5 (.slice (some ⟨w.heap.size,0,none⟩) 0 0) 0 []:=World.ownsRow_made w #[] 0 (Nat.le_refl _) (Nat.zero_le _) rfl
 have sA:=(h.below bA).src
 have HB:Hid (_):=bA
 have zA:w.heap.size ≤ (w.alloc (.cells #[] 68)).heap.size:=bA.size
 clear h bA
 go_enter Tryz.func35,Tryz.ntmps35
 go_wp2_with (at_builtin;refine wpList_append_own_at _ rfl _ _ 33 rfl w.heap.size 68 i0 (.agg #[.int .u32 0,.int .i64 0,.int .i64 0,.int .i64 0,.int .u32 0]) 5 40 Tryz.underlying33 hI hz0 hz1 hz2 rfl (by decide) (.slice (some ⟨w.heap.size,0,none⟩) 0 0) 0 [] rfl oA ⟨q,off,none⟩ n c (flQ n P) rfl (flQ_len _ _) sA (flQ_one _ _) (by unfold maxLen;omega) (by omega) zA ?_)
 intro v' w' o' g' _ _
 obtain⟨a',c',rfl⟩:=own_shape o'
 have HF:Hid (_):=And.intro o' (HB.out.grown g' HB.out.size (fun k hk=>(oA.lt k hk).1))
 clear o' g' oA sA zA hnn
 go_wp2_with fail
 go_ret
 exact⟨_,_,rfl,HF.out.1,HF.out.2⟩
set_option maxHeartbeats 2000000 in
theorem pconcatQ (P Q:Nat→Pq) (s q0 o0 n0 c0 q1 o1 n1 c1:Nat) (w:World) (hs:w.heap[s]?=some (.cells #[.slice (some ⟨q0,o0,none⟩) n0 c0,.slice (some ⟨q1,o1,none⟩) n1 c1] 33 (0,0))) (h0:PqRow w (some ⟨q0,o0,none⟩) n0 P) (h1:PqRow w (some ⟨q1,o1,none⟩) n1 Q) (l0:0<n0) (b0:n0≤1000) (b1:n1≤1000):Calls Tryz.prog 32 #[.slice (some ⟨s,0,none⟩) 2 2] w fun r w'=>∃ a c,r=.returned (.slice a (n0+n1) c)∧Hid (PqRow w' a (n0+n1) (fun i=>if i<n0 then P i else Q (i-n0))∧n0+n1≤c∧Below w.heap.size w w'):=by
 obtain⟨i0,hI,hz0,hz1,hz2⟩:=info_parts info_parY
 have e0:=cell_of_row w s 0 _ _ _ hs
 have e1:=cell_of_row w s 1 _ _ _ hs
 have hG:=pgrowN (n0+n1) (by omega) (by omega) w
 rw[Int.natCast_add]at hG
 have ls:=(Array.getElem?_eq_some_iff.1 hs).1
 have H0:Hid (_):=ls
 have Hs:Hid (_):=hs
 have Hp:Hid (_):=h0
 have Hq:Hid (_):=h1
 have f0:¬ (((n0:Nat):Int)<0):=by omega
 have f1:¬ (((n0:Nat):Int) + ((n1:Nat):Int)<0):=by omega
 clear hs h0 h1 ls
 go_enter Tryz.func32,Tryz.ntmps32
 go_wp2_with fail
 refine wp_loop_rounds 3 ?_
 rw[rounds_succ]
 go_wp2_with fail
 rw[rounds_succ]
 go_wp2_with fail
 rw[rounds_succ]
 go_wp2_with fail
 refine hG.mono ?_
 rintro r w1 ⟨a,c,rfl,H1⟩
 have oA:=H1.out.1
 have bb1:=H1.out.2
 have d0:=cell_of_row w1 s 0 _ _ _ ((bb1.block s H0.out).trans Hs.out)
 have d1:=cell_of_row w1 s 1 _ _ _ ((bb1.block s H0.out).trans Hs.out)
 have sA:=(PqRow.below Hp.out bb1).src
 have zA:w.heap.size≤w1.heap.size:=bb1.size
 have HB1:Hid (_):=bb1
 clear bb1 hG e0 e1
 go_wp2_with fail
 refine wp_loop_rounds 3 ?_
 rw[rounds_succ]
 go_wp2_with (at_builtin;refine wpList_append_own_at _ rfl _ _ 33 rfl w.heap.size 68 i0 (.agg #[.int .u32 0,.int .i64 0,.int .i64 0,.int .i64 0,.int .u32 0]) 5 40 Tryz.underlying33 hI hz0 hz1 hz2 rfl (by decide) (.slice a 0 c) 0 [] rfl oA ⟨q0,o0,none⟩ n0 c0 (flQ n0 P) rfl (flQ_len _ _) sA (flQ_one _ _) (by unfold maxLen;omega) (by omega) zA ?_)
 intro v2 w2 o2 g2 _ _
 obtain⟨a2,c2,rfl⟩:=own_shape o2
 have bb2:=HB1.out.grown g2 zA (fun k hk=>(oA.lt k hk).1)
 have k0:=cell_of_row w2 s 0 _ _ _ ((bb2.block s H0.out).trans Hs.out)
 have k1:=cell_of_row w2 s 1 _ _ _ ((bb2.block s H0.out).trans Hs.out)
 have sB:=(PqRow.below Hq.out bb2).src
 have zB:w.heap.size≤w2.heap.size:=bb2.size
 have HB2:Hid (_):=bb2
 clear oA sA zA d0 d1 bb2 g2
 go_wp2_with fail
 rw[rounds_succ]
 go_wp2_with (at_builtin;refine wpList_append_own_at _ rfl _ _ 33 rfl w.heap.size 68 i0 (.agg #[.int .u32 0,.int .i64 0,.int .i64 0,.int .i64 0,.int .u32 0]) 5 40 Tryz.underlying33 hI hz0 hz1 hz2 rfl (by decide) (.slice a2 n0 c2) n0 (flQ n0 P) rfl o2 ⟨q1,o1,none⟩ n1 c1 (flQ n1 Q) rfl (flQ_len _ _) sB (flQ_one _ _) (by unfold maxLen;omega) (by omega) zB ?_)
 intro v3 w3 o3 g3 _ _
 obtain⟨a3,c3,rfl⟩:=own_shape o3
 have HF:Hid (_):=And.intro o3 (HB2.out.grown g3 zB (fun k hk=>(o2.lt k hk).1))
 have m1:=cell_of_row w3 s 1 _ _ _ ((HF.out.2.block s H0.out).trans Hs.out)
 clear o2 o3 sB zB k0 k1 g3
 go_wp2_with fail
 rw[rounds_succ]
 go_wp2_with fail
 go_ret
 have h3:=HF.out.1
 rw[← flQ_cat]at h3
 refine⟨_,_,rfl,PqRow.ofOwn h3,?_,HF.out.2⟩
 rcases h3.2 with ⟨e,e2⟩ | ⟨g,cap,cur,e,_,_,hle,_⟩
 ·omega
 ·injection e with _ _ e3
  omega
end Go.Proofs.YtiopiheomoehbaaGreat
