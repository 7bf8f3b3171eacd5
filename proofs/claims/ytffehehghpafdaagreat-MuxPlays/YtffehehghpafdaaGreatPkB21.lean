/- Part 22 of the texts on which the proofs of layer 13 rest: contracts of Go functions. -/
import Derived.WalkKit
import Derived.ProofKit
import Derived.SizedLaws
import Derived.Lib.SmallJoins
import Derived.Deep.Slices
import Derived.OpenShut
import Derived.Shelf.SlIter.Collect
import Derived.Shelf.AbstractIn
import Derived.Test.YtffehehghpafdaaGreatPkB00
import Derived.Test.YtffehehghpafdaaGreatPkB07
import Derived.Test.YtffehehghpafdaaGreatPkB20
namespace Go.Proofs.YtffehehghpafdaaGreat
set_option maxRecDepth 100000
open Go.RowKit
def Pc (c:Nat):Pm:=⟨c,2,1,10,9⟩
theorem Pc_ok (c:Nat) (h:c≠0) (hc:c<4294967296):Pok (Pc c):=⟨by unfold okP Pc;dsimp only;omega,hc,by show (9:Nat)<4294967296;omega⟩
theorem pset (w:World) (c:Int):∃ W,w.alloc (.cells #[.int .u32 c,.int .i64 2,.int .i64 1,.int .i64 10,.int .u32 9] 49)=W∧Below w.heap.size w W∧W.heap[w.heap.size]?=some (.cells #[.int .u32 c,.int .i64 2,.int .i64 1,.int .i64 10,.int .u32 9] 49 (0,0)):=by
 refine⟨_,rfl,(Below.refl _ w).alloc (Nat.le_refl _) _,heap_alloc_new w _⟩
set_option maxHeartbeats 4000000 in
theorem made16 (c:Nat) (h0:c≠0) (hc:c<4294967296) (w:World) :
  Calls Tryz.prog 12 #[.int .u32 (c:Nat)] w fun e w'=>∃ L:Pl,e=.returned (.tuple #[.pointer (some ⟨L.d,0,none⟩),.pointer (some ⟨L.m,0,none⟩),.pointer (some ⟨L.e,0,none⟩)])∧Hid (L.n=16∧L.mx=99∧L.P=Pc c∧Two w w' L (dnew M0)):=by
 have hS:Calls Tryz.prog 30 #[] w fun e w'=>e=.returned (.agg #[.int .u32 7,.int .i64 2,.int .i64 1,.int .i64 10,.int .u32 9])∧Below w.heap.size w w':=small_any w
 have hP:=Pc_ok c h0 hc
 have hO:=open0 99 (by omega)
 go_enter Tryz.func12,Tryz.ntmps12
 go_wp2_with (go_at_call 30;refine hS.mono ?_;rintro e w1 ⟨rfl,b1⟩)
 obtain⟨W,hW,bW,pW⟩:=pset w1 (c:Nat)
 rw[hW]
 have hM:=new_ok 16 W (by omega)
 refine hM.mono ?_
 rintro e w3 ⟨m,g,rfl,h3⟩
 have hR:=rnew_ok 16 w3 (by omega)
 clear hM hS hW
 go_wp2_with fail
 refine hR.mono ?_
 rintro e w4 ⟨r,q,rfl,h4⟩
 obtain⟨m1,g1,o3,x3⟩:=h3.out
 obtain⟨r1,q1,o4,x4⟩:=h4.out
 have lp:w1.heap.size<W.heap.size:=(Array.getElem?_eq_some_iff.1 pW).1
 have s3:=o3.size
 have s4:=o4.size
 have p4:w4.heap[w1.heap.size]?=_:=(o4.block _ (by omega) (by simp)).trans ((o3.block _ lp (by simp)).trans pW)
 have x3':=x3.off o4 (by simp) (by simp)
 have hN:Calls Tryz.prog 32 #[.agg #[.int .u32 (c:Nat),.int .i64 2,.int .i64 1,.int .i64 10,.int .u32 9],.pointer (some ⟨m,0,none⟩),.int .u32 99] w4 _:=newD_ok m g 16 99 (Pc c) hP M0 w4 x3' (by omega) (by decide) hO.1
 rw[hO.2]at hN
 have k0:=cell_of_row w4 w1.heap.size 0 _ _ _ p4
 have k1:=cell_of_row w4 w1.heap.size 1 _ _ _ p4
 have k2:=cell_of_row w4 w1.heap.size 2 _ _ _ p4
 have k3:=cell_of_row w4 w1.heap.size 3 _ _ _ p4
 have k4:=cell_of_row w4 w1.heap.size 4 _ _ _ p4
 have bel:Below w.heap.size w w4:=o4.below (o3.below (b1.trans (bW.mono b1.size)) (by simp) (Nat.le_trans b1.size bW.size)) (by simp) (Nat.le_trans (Nat.le_trans b1.size bW.size) s3)
 have lr:=x4.lt
 have lg:=x4.lg
 have HA:Hid (_):=And.intro bel (And.intro x4 (And.intro p4 (And.intro (And.intro m1 g1) (And.intro (And.intro r1 q1) (And.intro (And.intro lp b1.size) (And.intro (And.intro bW.size (And.intro s3 s4)) (And.intro (And.intro x3.lt x3.lg) (And.intro lr lg))))))))
 clear hR h3 h4 m1 g1 r1 q1 o3 o4 x3 x3' x4 b1 bW pW bel lr lg p4
 go_wp2_with fail
 refine hN.mono ?_
 rintro e w5 ⟨d,rfl,h5⟩
 obtain⟨U,o5,D5,hU⟩:=h5.out
 obtain⟨bel,x4,p4,hm,hr,⟨lp',lb⟩,⟨lW,l3,l4⟩,⟨lm,lg⟩,⟨lr,lq⟩⟩:=HA.out
 have x5:=x4.off o5 (by simp;omega) (by simp;omega)
 have p5:w5.heap[w1.heap.size]?=_:=(o5.block _ (by omega) (by simp;omega)).trans p4
 have k0:=cell_of_row w5 w1.heap.size 0 _ _ _ p5
 have k1:=cell_of_row w5 w1.heap.size 1 _ _ _ p5
 have k2:=cell_of_row w5 w1.heap.size 2 _ _ _ p5
 have k3:=cell_of_row w5 w1.heap.size 3 _ _ _ p5
 have k4:=cell_of_row w5 w1.heap.size 4 _ _ _ p5
 have hQ:Calls Tryz.prog 51 #[.agg #[.int .u32 (c:Nat),.int .i64 2,.int .i64 1,.int .i64 10,.int .u32 9],.pointer (some ⟨r,0,none⟩),.int .u32 99] w5 _:=rnew_any r q 16 99 (Pc c) hP M0 w5 x5 (by omega) (by decide)
 have HB:Hid (_):=And.intro o5 (And.intro D5 hU)
 clear hN h5 o5 D5 hU bel x4 p4 x5 p5
 go_wp2_with fail
 refine hQ.mono ?_
 rintro e w6 ⟨p,rfl,h6⟩
 obtain⟨o6,_,h6a,_⟩:=h6.out
 obtain⟨d',V,rfl,R6,hV⟩:=h6a hO.1
 rw[hO.2]at R6
 have HC:Hid (_):=And.intro o6 (And.intro R6 hV)
 clear hQ h6 o6 R6 hV h6a
 go_wp2_with fail
 refine bodyPost_ret (v:=.tuple #[.pointer (some ⟨d,0,none⟩),.pointer (some ⟨m,0,none⟩),.pointer (some ⟨d',0,none⟩)]) (by simp[results,Tryz.results12,go_sem]) rfl ?_
 obtain⟨o5,D5,hU⟩:=HB.out
 obtain⟨o6,R6,hV⟩:=HC.out
 obtain⟨bel,_⟩:=HA.out
 have z1:w.heap.size≤m:=by omega
 have z2:w.heap.size≤g:=by omega
 have z3:w.heap.size≤r:=by omega
 have z4:w.heap.size≤q:=by omega
 have y1:m≠r:=by omega
 have y2:m≠q:=by omega
 have y3:g≠r:=by omega
 have y4:g≠q:=by omega
 exact⟨⟨d,m,g,d',r,q,16,99,Pc c,[]⟩,rfl,rfl,rfl,rfl,two_made bel o5 D5 hU o6 R6 hV ⟨z1,z2,z3,z4⟩ ⟨y1,y2,y3,y4⟩ ⟨lr,lq⟩ rfl⟩
open Go.ChangeShapes Go.WideShapes Go.ChangeAt Go.RowKit Go.Joins Go.Deep
def OpRow (w:World) (a:Option Addr) (len:Nat):Prop:=len≤9223372036854775807∧(0<len→∃ b off,a=some ⟨b,off,none⟩∧b<w.heap.size∧∀ i,i<len→∃ (pl k N fl:Int) (o:Bool) (x:Option Addr) (l c:Nat) (bs:Nat→Nat) (p:Int) (z:Nat),
 w.cell? ⟨b,off+i*8,none⟩=some (.int .i64 pl)∧w.cell? ⟨b,off+i*8+1,none⟩=some (.int .i64 k)∧w.cell? ⟨b,off+i*8+2,none⟩=some (.int .i64 N)∧w.cell? ⟨b,off+i*8+3,none⟩=some (.int .i64 fl)∧w.cell? ⟨b,off+i*8+4,none⟩=some (.bool o)∧w.cell? ⟨b,off+i*8+5,none⟩=some (.slice x l c)∧w.cell? ⟨b,off+i*8+6,none⟩=some (.int .i64 p)∧w.cell? ⟨b,off+i*8+7,none⟩=some (.int .u32 (z:Nat)) ∧
 Row8 w x l c bs∧l≤140737488351232∧N≤9223372036854775807∧z<4294967296∧∀ y,x=some y→0<l→y.block<w.heap.size)
theorem seven {α:Type} {l:List α} (h:l.length=7):∃ a b c d e f g,l=[a,b,c,d,e,f,g]:=by
 match l,h with
 | [a,b,c,d,e,f,g],_=>exact⟨a,b,c,d,e,f,g,rfl⟩
theorem mem_weightsAll {H:Type} {P:Program} {e:TypeId} {n:Nat} {d:DataW H} (hn:n ∈ d.weights P e):∀ {l:List (DataW H)},d ∈ l→n ∈ DataW.weightsAll P e l
 | [],h=>by cases h
 | x :: r,h=>by
  simp only[DataW.weightsAll,List.mem_append]
  rcases List.mem_cons.1 h with rfl | h
  ·exact .inl hn
  ·exact .inr (mem_weightsAll hn h)
section
variable {H:Type} {enc:TypeId × Value→H} {P:Program} {w:World} {base:Nat} {spare:TypeId→Bool} {held:Bool}
theorem trod_struct7 {t:TypeId} {f0 f1 f2 f3 f4 f5 f6:Field} {fuel:Nat} {cs:List Value} {x:DataW H × List MemPlace} (ht:P.underlying t=some (.struct #[f0,f1,f2,f3,f4,f5,f6])) (h:DataW.trod enc P w base spare held fuel t cs=some x) :
  ∃ y0 y1 y2 y3 y4 y5 y6 n,x.1=.agg [y0.1,y1.1,y2.1,y3.1,y4.1,y5.1,y6.1]∧cs.length=P.cellsOf t∧DataW.trod enc P w base spare held n f0.type ((cs.drop f0.offset).take (P.cellsOf f0.type))=some y0 ∧
   DataW.trod enc P w base spare held n f1.type ((cs.drop f1.offset).take (P.cellsOf f1.type))=some y1∧DataW.trod enc P w base spare held n f2.type ((cs.drop f2.offset).take (P.cellsOf f2.type))=some y2 ∧
   DataW.trod enc P w base spare held n f3.type ((cs.drop f3.offset).take (P.cellsOf f3.type))=some y3∧DataW.trod enc P w base spare held n f4.type ((cs.drop f4.offset).take (P.cellsOf f4.type))=some y4 ∧
   DataW.trod enc P w base spare held n f5.type ((cs.drop f5.offset).take (P.cellsOf f5.type))=some y5∧DataW.trod enc P w base spare held n f6.type ((cs.drop f6.offset).take (P.cellsOf f6.type))=some y6:=by
 obtain⟨xs,n,_,rfl,hl,hlen,hf⟩:=DataW.trod_struct ht h
 obtain⟨y0,y1,y2,y3,y4,y5,y6,rfl⟩:=seven (l:=xs) (by simpa using hlen)
 exact⟨y0,y1,y2,y3,y4,y5,y6,n,by simp,hl,by simpa using hf 0 f0 rfl,by simpa using hf 1 f1 rfl,by simpa using hf 2 f2 rfl,by simpa using hf 3 f3 rfl,by simpa using hf 4 f4 rfl,by simpa using hf 5 f5 rfl,by simpa using hf 6 f6 rfl⟩
end
theorem max_i64 {x:Int} (h:(Lit.int .i64 x).wf=true):x≤9223372036854775807:=by
 have e2:IntKind.i64.max=9223372036854775807:=by decide
 simp[Lit.wf,e2]at h
 exact h.2
theorem nat_u32 {x:Int} (h:(Lit.int .u32 x).wf=true):∃ z:Nat,x=(z:Int)∧z<4294967296:=by
 have e1:IntKind.u32.min=0:=by decide
 have e2:IntKind.u32.max=4294967295:=by decide
 simp[Lit.wf,e1,e2]at h
 exact⟨x.toNat,by omega,by omega⟩
section
variable {H:Type} {enc:TypeId × Value→H} {w:World} {base:Nat} {spare:TypeId→Bool} {held:Bool}
theorem trod_bytes {fuel:Nat} {v:Value} {x:DataW H × List MemPlace} (h:DataW.trod enc Tryz.prog w base spare held fuel 29 [v]=some x) :
  ∃ (a:Option Addr) (l c:Nat) (bs:Nat→Nat),v=.slice a l c∧Row8 w a l c bs∧(∀ y,a=some y→0<l→y.block<w.heap.size)∧((∀ n ∈ x.1.weights Tryz.prog 29,n≤reachBytes)→l≤140737488351232):=by
 rcases open_ints Tryz.underlying29 Tryz.underlying5 (by kernel_rfl) h with ⟨hcs,_⟩ | ⟨y,l,c,zs,hcs,_,hl,hm,hz,hx,hcell,hwz⟩
 ·simp at hcs
  exact⟨none,0,0,_,hcs,BRow.row8 (zs:=[]) (.inl ⟨rfl,rfl,rfl,rfl⟩),(fun y hy=>by cases hy),fun _=>by omega⟩
 ·simp at hcs
  have hll:l≤zs.length:=by rw[hz];split <;> omega
  refine⟨some y,l,c,_,hcs,(⟨fun i hi=>?_,(fun hx=>by cases hx),fun x hx i hi=>?_,hl⟩:Row8 w (some y) l c (fun i=>(zs.getD i 0).toNat)),fun x hx h0=>?_,fun hs=>?_⟩
  ·have:=bounds_u8 (hwz (zs.getD i 0) (by rw[List.getD_eq_getElem?_getD,List.getElem?_eq_getElem (by omega)];exact List.getElem_mem _))
   omega
  ·cases hx
   have:=bounds_u8 (hwz (zs.getD i 0) (by rw[List.getD_eq_getElem?_getD,List.getElem?_eq_getElem (by omega)];exact List.getElem_mem _))
   rw[hcell i (by omega),Int.toNat_of_nonneg this.1]
  ·cases hx
   have:=World.block_lt_of_cell? w _ (hcell 0 (by omega))
   simpa [Addr.add] using this
  ·rw[hx]at hs
   have h1:=hs (((lits (H:=H) .u8 (zs.take l)).length + (lits (H:=H) .u8 (zs.drop l)).length)*Tryz.prog.bytesOf 5) (by simp only[DataW.weights,Tryz.underlying29];exact List.mem_cons_self)
   rw[show Tryz.prog.bytesOf 5=1 by kernel_rfl]at h1
   simp[lits]at h1
   unfold reachBytes at h1
   omega
end
section
variable {H:Type} {enc:TypeId × Value→H} {w:World} {base:Nat} {spare:TypeId→Bool} {held:Bool}
theorem trod_op {fuel:Nat} {cs:List Value} {x:DataW H × List MemPlace} (h:DataW.trod enc Tryz.prog w base spare held fuel 32 cs=some x) :
  ∃ (k N fl:Int) (o:Bool) (a:Option Addr) (l c:Nat) (bs:Nat→Nat) (p:Int) (z:Nat),cs=[.int .i64 k,.int .i64 N,.int .i64 fl,.bool o,.slice a l c,.int .i64 p,.int .u32 (z:Nat)]∧Row8 w a l c bs∧(∀ y,a=some y→0<l→y.block<w.heap.size)∧N≤9223372036854775807∧z<4294967296∧((∀ n ∈ x.1.weights Tryz.prog 32,n≤reachBytes)→l≤140737488351232):=by
 obtain⟨y0,y1,y2,y3,y4,y5,y6,n,hx,hl,g0,g1,g2,g3,g4,g5,g6⟩:=trod_struct7 (Tryz.underlying32) h
 obtain⟨c0,c1,c2,c3,c4,c5,c6,rfl⟩:=seven (hl.trans (by kernel_rfl))
 have z1:Tryz.prog.cellsOf 3=1:=by kernel_rfl
 have z2:Tryz.prog.cellsOf 4=1:=by kernel_rfl
 have z3:Tryz.prog.cellsOf 29=1:=by kernel_rfl
 have z4:Tryz.prog.cellsOf 30=1:=by kernel_rfl
 simp[z1,z2,z3,z4]at g0 g1 g2 g3 g4 g5 g6
 obtain⟨k,e0,_⟩:=DataW.trod_int Tryz.underlying3 g0
 obtain⟨N,e1,_,wN⟩:=DataW.trod_int Tryz.underlying3 g1
 obtain⟨fl,e2,_⟩:=DataW.trod_int Tryz.underlying3 g2
 obtain⟨o,e3,_⟩:=DataW.trod_bool Tryz.underlying4 g3
 obtain⟨a,l,c,bs,e4,R,hlow,hs⟩:=trod_bytes g4
 obtain⟨p,e5,_⟩:=DataW.trod_int Tryz.underlying3 g5
 obtain⟨zz,e6,_,wz⟩:=DataW.trod_int Tryz.underlying30 g6
 obtain⟨z,rfl,hz⟩:=nat_u32 wz
 simp at e0 e1 e2 e3 e5 e6
 refine⟨k,N,fl,o,a,l,c,bs,p,z,by rw[e0,e1,e2,e3,e4,e5,e6],R,hlow,max_i64 wN,hz,fun hn=>hs fun m hm=>hn m ?_⟩
 rw[hx]
 have hu:DataW.weights (H:=H) Tryz.prog 32 (.agg [y0.1,y1.1,y2.1,y3.1,y4.1,y5.1,y6.1])=y0.1.weights Tryz.prog 3 ++ (y1.1.weights Tryz.prog 3 ++ (y2.1.weights Tryz.prog 3 ++ (y3.1.weights Tryz.prog 4 ++ (y4.1.weights Tryz.prog 29 ++ (y5.1.weights Tryz.prog 3 ++ (y6.1.weights Tryz.prog 30 ++ [])))))):=by
  simp[DataW.weights,Tryz.underlying32,DataW.weightsEach]
 rw[hu]
 simp[hm]
theorem trod_struct2 {P:Program} {t:TypeId} {f0 f1:Field} {fuel:Nat} {cs:List Value} {x:DataW H × List MemPlace} (ht:P.underlying t=some (.struct #[f0,f1])) (h:DataW.trod enc P w base spare held fuel t cs=some x) :
  ∃ y0 y1 n,x.1=.agg [y0.1,y1.1]∧cs.length=P.cellsOf t∧DataW.trod enc P w base spare held n f0.type ((cs.drop f0.offset).take (P.cellsOf f0.type))=some y0∧DataW.trod enc P w base spare held n f1.type ((cs.drop f1.offset).take (P.cellsOf f1.type))=some y1:=by
 obtain⟨xs,n,_,rfl,hl,hlen,hf⟩:=DataW.trod_struct ht h
 obtain⟨y0,y1,rfl⟩:∃ a b,xs=[a,b]:=by
  match xs,(by simpa using hlen:xs.length=2) with
  | [a,b],_=>exact⟨a,b,rfl⟩
 exact⟨y0,y1,n,by simp,hl,by simpa using hf 0 f0 rfl,by simpa using hf 1 f1 rfl⟩
theorem trod_op16 {fuel:Nat} {cs:List Value} {x:DataW H × List MemPlace} (h:DataW.trod enc Tryz.prog w base spare held fuel 34 cs=some x) :
  ∃ (pl k N fl:Int) (o:Bool) (a:Option Addr) (l c:Nat) (bs:Nat→Nat) (p:Int) (z:Nat),cs=[.int .i64 pl,.int .i64 k,.int .i64 N,.int .i64 fl,.bool o,.slice a l c,.int .i64 p,.int .u32 (z:Nat)]∧Row8 w a l c bs∧(∀ y,a=some y→0<l→y.block<w.heap.size)∧N≤9223372036854775807∧z<4294967296∧((∀ n ∈ x.1.weights Tryz.prog 34,n≤reachBytes)→l≤140737488351232):=by
 obtain⟨y0,y1,n,hx,hl,g0,g1⟩:=trod_struct2 (Tryz.underlying34) h
 have z0:Tryz.prog.cellsOf 34=8:=by kernel_rfl
 rw[z0]at hl
 obtain⟨c0,r,rfl⟩:∃ a r,cs=a :: r:=by
  match cs,hl with
  | a :: r,_=>exact⟨a,r,rfl⟩
 have hr:r.length=7:=by simpa using hl
 have z1:Tryz.prog.cellsOf 3=1:=by kernel_rfl
 have z7:Tryz.prog.cellsOf 32=7:=by kernel_rfl
 simp[z1,z7]at g0 g1
 rw[List.take_of_length_le (by omega)]at g1
 obtain⟨pl,e0,_⟩:=DataW.trod_int Tryz.underlying3 g0
 obtain⟨k,N,fl,o,a,l,c,bs,p,z,rfl,R,hlow,hN,hz,hs⟩:=trod_op g1
 simp at e0
 refine⟨pl,k,N,fl,o,a,l,c,bs,p,z,by rw[e0],R,hlow,hN,hz,fun hn=>hs fun m hm=>hn m ?_⟩
 rw[hx]
 have hu:DataW.weights (H:=H) Tryz.prog 34 (.agg [y0.1,y1.1])=y0.1.weights Tryz.prog 3 ++ (y1.1.weights Tryz.prog 32 ++ []):=by
  simp[DataW.weights,Tryz.underlying34,DataW.weightsEach]
 rw[hu]
 simp[hm]
theorem ops_sized {a:Option Addr} {len cap j:Nat} {d:DataW H} {p:List MemPlace} {ts:List TypeId} {ds:List (DataW H)} (h:DataW.Trod enc Tryz.prog w base spare held 23 (.slice a len cap) d p)
  (hz:(DataW.weightsEach Tryz.prog ts ds).all (· ≤ reachBytes)=true) (ht:ts[j]?=some 23) (hd:ds[j]?=some d):OpRow w a len:=by
 obtain⟨fuel,hf⟩:=h
 have hw:∀ n ∈ d.weights Tryz.prog 23,n≤reachBytes:=fun n hn=>by
  have:=List.all_eq_true.1 hz _ (DataW.weights_mem_each ht hd n hn)
  simpa using this
 rcases open_slice Tryz.underlying23 hf with ⟨hcs,_⟩ | ⟨y,l,cp,m,n,D,Pl,hcs,_,hl,hm,hmm,hxx,hx⟩
 ·simp[Value.cells]at hcs
  obtain⟨_,rfl,_⟩:=hcs
  exact⟨by omega,fun h=>by omega⟩
 ·simp[Value.cells]at hcs
  obtain⟨rfl,rfl,rfl⟩:=hcs
  simp only[Prod.mk.injEq]at hxx
  rw[hxx.1]at hw
  refine⟨by unfold maxLen at hm;omega,fun hp=>?_⟩
  have hlm:len≤m:=by rw[hmm];split <;> omega
  have ce:Tryz.prog.cellsOf 34=8:=by kernel_rfl
  rw[ce]at hx
  have each:∀ i,i<len→∃ (pl k N fl:Int) (o:Bool) (x:Option Addr) (l c:Nat) (bs:Nat→Nat) (p:Int) (z:Nat),(∀ j u,(#[.int .i64 pl,.int .i64 k,.int .i64 N,.int .i64 fl,.bool o,.slice x l c,.int .i64 p,.int .u32 (z:Nat)]:Array Value)[j]?=some u→w.cell? ((y.add (i*8)).add j)=some u)∧Row8 w x l c bs∧l≤140737488351232∧N≤9223372036854775807∧z<4294967296∧(∀ y,x=some y→0<l→y.block<w.heap.size):=by
   intro i hi
   obtain⟨cs,h1,h2⟩:=hx i (by omega)
   obtain⟨pl,k,N,fl,o,x,l,c,bs,p,z,rfl,R,hlow,hN,hz',hs⟩:=trod_op16 h2
   obtain⟨_,_,hcell⟩:=World.cells?_some h1
   refine⟨pl,k,N,fl,o,x,l,c,bs,p,z,fun j u hu=>?_,R,hs fun q hq=>hw q ?_,hN,hz',hlow⟩
   ·have hj:j<8:=by simpa using (Array.getElem?_eq_some_iff.1 hu).1
    rw[hcell j hj]
    simpa using hu
   ·simp only[DataW.weights,Tryz.underlying23,List.mem_cons,List.mem_append]
    exact .inr (.inl (mem_weightsAll hq (List.mem_map.2 ⟨i,List.mem_range.2 hi,rfl⟩)))
  obtain⟨b,off,spot⟩:=y
  obtain⟨_,_,_,_,_,_,_,_,_,_,_,h0,_⟩:=each 0 hp
  have hc0:=h0 0 _ rfl
  have hspot:spot=none:=by simpa [Addr.add] using World.cell?_spot hc0
  subst hspot
  refine⟨b,off,rfl,?_,fun i hi=>?_⟩
  ·rw[Go.WideShapes.add_plain,Go.WideShapes.add_plain]at hc0
   exact World.block_lt_of_cell? w _ hc0
  ·obtain⟨pl,k,N,fl,o,x,l,c,bs,p,z,hh,R,hs,hN,hz',hlow⟩:=each i hi
   refine⟨pl,k,N,fl,o,x,l,c,bs,p,z,?_,?_,?_,?_,?_,?_,?_,?_,R,hs,hN,hz',hlow⟩
   ·have:=hh 0 _ rfl;rw[Go.WideShapes.add_plain,Go.WideShapes.add_plain]at this;exact this
   ·have:=hh 1 _ rfl;rw[Go.WideShapes.add_plain,Go.WideShapes.add_plain]at this;exact this
   ·have:=hh 2 _ rfl;rw[Go.WideShapes.add_plain,Go.WideShapes.add_plain]at this;exact this
   ·have:=hh 3 _ rfl;rw[Go.WideShapes.add_plain,Go.WideShapes.add_plain]at this;exact this
   ·have:=hh 4 _ rfl;rw[Go.WideShapes.add_plain,Go.WideShapes.add_plain]at this;exact this
   ·have:=hh 5 _ rfl;rw[Go.WideShapes.add_plain,Go.WideShapes.add_plain]at this;exact this
   ·have:=hh 6 _ rfl;rw[Go.WideShapes.add_plain,Go.WideShapes.add_plain]at this;exact this
   ·have:=hh 7 _ rfl;rw[Go.WideShapes.add_plain,Go.WideShapes.add_plain]at this;exact this
end
end Go.Proofs.YtffehehghpafdaaGreat
namespace Go.Proofs.YtffehehghpafdaaGreat
set_option maxRecDepth 100000
open Go.RowKit Go.Maps
structure Prt where
 c:Nat
 d:Nat
 k:Nat
 n:Nat
def rdQ:Value→Option (DataW Unit × List MemPlace)
 | .agg cs=>match cs.toList with
  | [.pointer none,.pointer none]=>some (.lit (.int .i64 (-1)),[])
  | [.pointer (some ⟨d,0,none⟩),.pointer (some ⟨k,0,none⟩)]=>some (.agg [.lit (.int .i64 d),.lit (.int .i64 k)],[])
  | _=>none
 | _=>none
def datq:Option (Nat × Nat)→DataW Unit
 | none=>.lit (.int .i64 (-1))
 | some x=>.agg [.lit (.int .i64 x.1),.lit (.int .i64 x.2)]
def ptq:Option (Nat × Nat)→Value
 | none=>.agg #[.pointer none,.pointer none]
 | some x=>.agg #[.pointer (some ⟨x.1,0,none⟩),.pointer (some ⟨x.2,0,none⟩)]
theorem rdQ_ptq (o:Option (Nat × Nat)):rdQ (ptq o)=some (datq o,[]):=by cases o <;> rfl
theorem datq_inj {o o':Option (Nat × Nat)} (h:datq o=datq o'):o=o':=by
 cases o with
 | none=>cases o' with
  | none=>rfl
  | some y=>simp[datq]at h
 | some x=>cases o' with
  | none=>simp[datq]at h
  | some y=>
   obtain⟨a,b⟩:=x
   obtain⟨a',b'⟩:=y
   simp[datq]at h
   obtain⟨h1,h2⟩:=h
   rw[show a=a' by omega,show b=b' by omega]
theorem rdQ_inv {v:Value} {o:Option (Nat × Nat)} {ps:List MemPlace} (h:rdQ v=some (datq o,ps)):v=ptq o:=by
 unfold rdQ at h
 split at h
 ·rename_i cs
  split at h
  ·rename_i e
   simp only[Option.some.injEq,Prod.mk.injEq]at h
   have:=datq_inj (o:=none) (o':=o) h.1
   subst this
   have e2:cs=#[.pointer none,.pointer none]:=Array.toList_inj.1 e
   rw[e2];rfl
  ·rename_i d k e
   simp only[Option.some.injEq,Prod.mk.injEq]at h
   have:=datq_inj (o:=some (d,k)) (o':=o) h.1
   subst this
   have e2:cs=#[.pointer (some ⟨d,0,none⟩),.pointer (some ⟨k,0,none⟩)]:=Array.toList_inj.1 e
   rw[e2];rfl
  ·cases h
 ·cases h
def fnd:List Prt→Nat→Option Prt
 | [],_=>none
 | p :: L,c=>if p.c=c then some p else fnd L c
def fndq (L:List Prt) (c:Nat):Option (Nat × Nat):=(fnd L c).map fun p=>(p.d,p.k)
theorem fnd_mem {L:List Prt} {c:Nat} {p:Prt} (h:fnd L c=some p):p ∈ L∧p.c=c:=by
 induction L with
 | nil=>simp[fnd]at h
 | cons q L ih=>
  unfold fnd at h
  split at h
  ·rename_i e
   cases h
   exact⟨by simp,e⟩
  ·exact⟨by simp[(ih h).1],(ih h).2⟩
theorem fnd_none {L:List Prt} {c:Nat} (h:fnd L c=none):∀ p,p ∈ L→p.c≠c:=by
 induction L with
 | nil=>simp
 | cons q L ih=>
  unfold fnd at h
  split at h
  ·cases h
  ·rename_i e
   intro p hp
   rcases List.mem_cons.1 hp with rfl | hp
   ·exact e
   ·exact ih h p hp
theorem fnd_app (L M:List Prt) (c:Nat):fnd (L ++ M) c=match fnd L c with | some p=>some p | none=>fnd M c:=by
 induction L with
 | nil=>rfl
 | cons q L ih=>
  simp only[List.cons_append,fnd]
  split
  ·rfl
  ·exact ih
structure MX (w:World) (b:Nat) (L:List Prt) (lost l mb nn:Nat) (D:DataW Unit):Prop where
 blk:w.heap[b]?=some (.cells #[.map (some mb),.pointer (some ⟨l,0,none⟩)] 120 (0,0))
 los:Met w l (lost:Nat) none 0 0 none
 map:w.ownsMap Tryz.prog 30 rdQ mb nn D
 nle:nn≤L.length
 siz:Maps.size D=L.length
 at_:∀ c:Nat,c<4294967296→D.atKey (.int .u32 (c:Nat)) (datq none)=datq (fndq L c)
 has_:∀ c:Nat,c<4294967296→has D (.int .u32 (c:Nat))=(fnd L c).isSome
 key:∀ c:Int,has D (.int .u32 c)=true→∃ p,p ∈ L∧c=(p.c:Nat)
 met:∀ p,p ∈ L→Met w p.k (p.n:Nat) none 0 0 none∧p.k≠l∧p.c<4294967296
 one:L.Pairwise (fun p q=>p.c≠q.c∧p.k≠q.k)
def MXU (L:List Prt) (b l mb:Nat):List Nat:=b :: l :: mb :: L.map (·.k)
def Mxx (w:World) (b:Nat) (L:List Prt) (lost:Nat) (V:List Nat):Prop:=∃ l mb nn D,MX w b L lost l mb nn D∧V=MXU L b l mb
section
variable {w w':World} {b:Nat} {L:List Prt} {lost l mb nn:Nat} {D:DataW Unit}
theorem MX.lt (h:MX w b L lost l mb nn D):∀ k,k ∈ MXU L b l mb→k<w.heap.size:=by
 intro k hk
 simp[MXU]at hk
 rcases hk with rfl | rfl | rfl | ⟨p,hp,rfl⟩
 ·exact (Array.getElem?_eq_some_iff.1 h.blk).1
 ·exact h.los.lt
 ·exact h.map.lt
 ·exact (h.met p hp).1.lt
theorem MX.off {o:List Nat} (h:MX w b L lost l mb nn D) (ho:Off o w w') (hl:∀ k,k ∈ MXU L b l mb→k ∉ o):MX w' b L lost l mb nn D where
 blk:=(ho.block b (h.lt b (by simp[MXU])) (hl b (by simp[MXU]))).trans h.blk
 los:=h.los.off ho (hl l (by simp[MXU]))
 map:=ownsMap_off h.map ho (hl mb (by simp[MXU]))
 nle:=h.nle
 siz:=h.siz
 at_:=h.at_
 has_:=h.has_
 key:=h.key
 met:=fun p hp=>⟨(h.met p hp).1.off ho (hl p.k (by simp[MXU];exact .inr (.inr (.inr ⟨p,hp,rfl⟩)))),(h.met p hp).2⟩
 one:=h.one
theorem MX.c0 (h:MX w b L lost l mb nn D):w.cell? ⟨b,0,none⟩=some (.map (some mb)):=cell_of_row w b 0 _ _ _ h.blk
theorem MX.c1 (h:MX w b L lost l mb nn D):w.cell? ⟨b,1,none⟩=some (.pointer (some ⟨l,0,none⟩)):=cell_of_row w b 1 _ _ _ h.blk
end
theorem key_u32:Keyed Tryz.prog 30:=int_keyed Tryz.underlying30
theorem zero_prt (w:World):(zeroValue 122).run Tryz.prog w=.ok (ptq none) w:=by kernel_rfl
theorem wf_u32 (c:Nat) (h:c<4294967296):(Lit.int .u32 (c:Nat)).wf=true:=by
 have e1:IntKind.u32.min=0:=by decide
 have e2:IntKind.u32.max=4294967295:=by decide
 simp[Lit.wf,e1,e2]
 omega
section
variable {w:World} {b:Nat} {L:List Prt} {lost l mb nn:Nat} {D:DataW Unit}
theorem MX.look (h:MX w b L lost l mb nn D) (c:Nat) (hc:c<4294967296) :
  (Instr.lookup 117 (.map (some mb)) (.int .u32 (c:Nat)) false).run Tryz.prog w=.ok (ptq (fndq L c)) w:=by
 obtain⟨v,ps,hrun,hv⟩:=h.map.lookup key_u32 Tryz.underlying117 (zero_prt w) (zd:=datq none) (zp:=[]) (rdQ_ptq none) (keyOf_int_mk Tryz.underlying30 (wf_u32 c hc))
 rw[h.at_ c hc]at hv
 rw[hrun,rdQ_inv hv]
theorem MX.look2 (h:MX w b L lost l mb nn D) (c:Nat) (hc:c<4294967296) :
  (Instr.lookup 117 (.map (some mb)) (.int .u32 (c:Nat)) true).run Tryz.prog w=.ok (.tuple #[ptq (fndq L c),.bool (fnd L c).isSome]) w:=by
 obtain⟨v,ps,hrun,hv⟩:=h.map.look_ok key_u32 Tryz.underlying117 (zero_prt w) (zd:=datq none) (zp:=[]) (rdQ_ptq none) (keyOf_int_mk Tryz.underlying30 (wf_u32 c hc))
 rw[h.at_ c hc]at hv
 rw[hrun,rdQ_inv hv,h.has_ c hc]
end
end Go.Proofs.YtffehehghpafdaaGreat
namespace Go.Proofs.YtffehehghpafdaaGreat
set_option maxRecDepth 100000
open Go.RowKit Go.Maps
theorem map_ne (mb:Nat) (w:World):(binOp BinOp.eql 117 (.map (some mb)) (.map none)).run Tryz.prog w=.ok (.bool false) w:=by kernel_rfl
theorem prt_seen (p q:Value) (w:World):(Instr.field 122 (.agg #[p,q]) 1).run Tryz.prog w=.ok q w:=by kernel_rfl
theorem prt_dev (p q:Value) (w:World):(Instr.field 122 (.agg #[p,q]) 0).run Tryz.prog w=.ok p w:=by kernel_rfl
theorem mnone_any (b mb:Nat) (w:World) (c0:w.cell? ⟨b,0,none⟩=some (.map (some mb))):Calls Tryz.prog 55 #[.pointer (some ⟨b,0,none⟩)] w fun e w'=>e=.returned (.bool false)∧w'=w:=by
 have hne:=map_ne mb w
 go_enter Tryz.func55,Tryz.ntmps55
 go_wp2_with fail
 go_ret
 exact⟨rfl,rfl⟩
theorem mlost_any (b:Nat) (L:List Prt) (lost:Nat) (V:List Nat) (w:World) (h:Mxx w b L lost V) (hn:lost<1000000):Calls Tryz.prog 26 #[.pointer (some ⟨b,0,none⟩)] w fun e w'=>e=.returned (.int .i64 (lost:Nat))∧w'=w:=by
 obtain⟨l,mb,nn,D,h,_⟩:=h
 have c0:=h.c0
 have c1:=h.c1
 have hq:=mnone_any b mb w c0
 have ht:=total_any (lost:Nat) l none none 0 0 w h.los
 have h1:IntKind.i64.wrap ((lost:Nat):Int)=(lost:Int):=by rw[IntKind.wrap_i64];omega
 go_enter Tryz.func26,Tryz.ntmps26
 go_wp2_with (first
  | (go_at_call 55;refine hq.mono ?_;rintro e w' ⟨rfl,rfl⟩)
  | (go_at_call 77;refine ht.mono ?_;rintro e w' ⟨rfl,rfl⟩))
 go_ret
 exact⟨rfl,rfl⟩
def sns (L:List Prt) (c:Nat):Nat:=match fnd L c with | some p=>p.n | none=>0
theorem mseen_any (b:Nat) (L:List Prt) (lost:Nat) (V:List Nat) (c:Nat) (w:World) (h:Mxx w b L lost V) (hc:c<4294967296) (hn:sns L c<1000000):Calls Tryz.prog 25 #[.pointer (some ⟨b,0,none⟩),.int .u32 (c:Nat)] w fun e w'=>e=.returned (.int .i64 (sns L c:Nat))∧w'=w:=by
 obtain⟨l,mb,nn,D,h,_⟩:=h
 have c0:=h.c0
 have hq:=mnone_any b mb w c0
 have hk:=h.look c hc
 have hfs:=prt_seen
 cases hm:fnd L c with
 | none=>
  have e1:sns L c=0:=by unfold sns;rw[hm]
  have e2:ptq (fndq L c)=.agg #[.pointer none,.pointer none]:=by unfold fndq;rw[hm];rfl
  rw[e2]at hk
  rw[e1]
  clear hn
  go_enter Tryz.func25,Tryz.ntmps25
  go_wp2_with (first
   | (go_at_call 55;refine hq.mono ?_;rintro e w' ⟨rfl,rfl⟩)
   | (go_at_call 77;refine (total_nil _).mono ?_;rintro e w' ⟨rfl,rfl⟩))
  go_ret
  exact⟨rfl,rfl⟩
 | some p=>
  have e1:sns L c=p.n:=by unfold sns;rw[hm]
  have e2:ptq (fndq L c)=.agg #[.pointer (some ⟨p.d,0,none⟩),.pointer (some ⟨p.k,0,none⟩)]:=by unfold fndq;rw[hm];rfl
  rw[e2]at hk
  rw[e1]at hn ⊢
  have ht:=total_any (p.n:Nat) p.k none none 0 0 w (h.met p (fnd_mem hm).1).1
  generalize p.n=n at *
  have h1:IntKind.i64.wrap ((n:Nat):Int)=(n:Int):=by rw[IntKind.wrap_i64];omega
  clear hm e1 e2
  go_enter Tryz.func25,Tryz.ntmps25
  go_wp2_with (first
   | (go_at_call 55;refine hq.mono ?_;rintro e w' ⟨rfl,rfl⟩)
   | (go_at_call 77;refine ht.mono ?_;rintro e w' ⟨rfl,rfl⟩))
  go_ret
  exact⟨rfl,rfl⟩
theorem mnew_any (w:World):Calls Tryz.prog 23 #[] w fun e w'=>e=.returned (.pointer (some ⟨w.heap.size+2,0,none⟩))∧Hid (Below w.heap.size w w'∧w'.heap.size=w.heap.size+3∧Mxx w' (w.heap.size+2) [] 0 [w.heap.size+2,w.heap.size+1,w.heap.size]):=by
 have hmk:=@run_makeMap Tryz.prog
 go_enter Tryz.func23,Tryz.ntmps23
 go_wp2_with (go_at_call 74;refine (new_any _).mono ?_;rintro e w' ⟨rfl,rfl⟩)
 go_ret
 refine⟨rfl,?_⟩
 clear hmk
 generalize hw1:w.alloc (Obj.map #[] 0)=w1
 generalize hw2:w1.alloc (Obj.cells (MtC 0 none 0 0 none) 201)=w2
 have s1:w1.heap.size=w.heap.size+1:=by rw[← hw1];simp
 have s2:w2.heap.size=w.heap.size+2:=by rw[← hw2];simp[s1]
 have o1:Off [] w w1:=hw1 ▸ Off.alloc [] w _
 have o2:Off [] w1 w2:=hw2 ▸ Off.alloc [] w1 _
 have o3:∀ o,Off [] w2 (w2.alloc o):=fun o=>Off.alloc [] w2 o
 have m1:w1.ownsMap Tryz.prog 30 rdQ w.heap.size 0 (.map []):=hw1 ▸ World.ownsMap_made w Tryz.prog 30 rdQ
 have m2:Met w2 (w.heap.size+1) 0 none 0 0 none:=by
  have:=new_met w1
  rw[hw2,s1]at this
  exact this
 refine⟨((o1.trans o2).trans (o3 _)).below (Below.refl _ _) (by simp) (Nat.le_refl _),by simp[s2],w.heap.size+1,w.heap.size,0,.map [],?_,rfl⟩
 have hb:=heap_alloc_new w2 (Obj.cells #[Value.map (some w.heap.size),Value.pointer (some ⟨w.heap.size+1,0,none⟩)] 120)
 rw[s2]at hb
 exact⟨hb,m2.off (o3 _) (by simp),ownsMap_off (ownsMap_off m1 o2 (by simp)) (o3 _) (by simp),Nat.le_refl _,rfl,fun c _=>rfl,fun c _=>rfl,fun c h=>by simp[has]at h,fun p hp=>by simp at hp,List.Pairwise.nil⟩
theorem mcode_any (d c:Nat) (w:World) (c0:w.cell? ⟨d,0,none⟩=some (.int .u32 (c:Nat))):Calls Tryz.prog 63 #[.pointer (some ⟨d,0,none⟩)] w fun e w'=>e=.returned (.int .u32 (c:Nat))∧w'=w:=by
 go_enter Tryz.func63,Tryz.ntmps63
 go_wp2_with fail
 go_ret
 exact⟨rfl,rfl⟩
open Go.RowKit Go.Maps Go.Sort Go.Shelf
def encU (x:Int):Value:=.int .u32 x
theorem encU_inj {x y:Int} (h:encU x=encU y):x=y:=by simpa [encU] using h
structure Kcol (D:DataW Unit) (left:Lit→Bool) (ss:List Int):Prop where
 nd:ss.Nodup
 mem:∀ x,x ∈ ss ↔ (has D (.int .u32 x)=true∧left (.int .u32 x)=false)
theorem Kcol.start (D:DataW Unit):Kcol D (has D) []:=⟨List.nodup_nil,fun x=>by cases has D (.int .u32 x) <;> simp⟩
theorem Kcol.step {D:DataW Unit} {left:Lit→Bool} {ss:List Int} (h:Kcol D left ss) {x:Int} {y:DataW Unit} (hl:left (.int .u32 x)=true) (ha:∀ z,D.atKey (.int .u32 x) z=y):Kcol D (fun z=>left z && !z.sameKey (.int .u32 x)) (ss ++ [x]):=by
 have hx:has D (.int .u32 x)=true:=has_true_of_atKey ha
 have hn:x ∉ ss:=fun hm=>by
  have:=((h.mem x).1 hm).2
  rw[hl]at this
  cases this
 refine⟨List.nodup_append.2 ⟨h.nd,by simp,fun a hA b hB e=>?_⟩,fun z=>?_⟩
 ·simp at hB
  subst hB;subst e
  exact hn hA
 ·simp only[List.mem_append,List.mem_singleton,h.mem z,Bool.and_eq_false_iff,Bool.not_eq_false']
  by_cases e:z=x
  ·subst e
   simp[hx,Lit.sameKey]
  ·have:Lit.sameKey (.int .u32 z) (.int .u32 x)=false:=sameKey_ne (by simpa using e)
   simp[e,this]
def AllK (D:DataW Unit) (ss:List Int):Prop:=ss.Nodup∧∀ x,x ∈ ss ↔ has D (.int .u32 x)=true
set_option maxRecDepth 100000 in
set_option maxHeartbeats 1000000 in
theorem keysU1 (l Bm b nn n:Nat) (hn:1≤n) (D:DataW Unit) (J:List Int→World→Prop)
  (hY:∀ pre x W,J pre W→pre.length<Maps.size D→YieldAt Fence.wide (n-1) Tryz.prog l #[encU x] W fun e W'=>e=.returned (.bool true)∧J (pre ++ [x]) W'∧KeepsWalks W W')
  (W:World) (hJ:AbidesFrom W.heap.size J) (hm:W.cell? ⟨Bm,0,none⟩=some (.map (some b))) (hown:W.ownsMap Tryz.prog 30 rdQ b nn D) (h0:J [] W) :
  CallsIn Fence.wide n Tryz.prog 132 #[.func (.yield l) #[] #[],.pointer (some ⟨Bm,0,none⟩)] W fun e W'=>(∃ v,e=.returned v)∧∃ ss:List Int,AllK D ss∧J ss W':=by
 refine callsIn_of_wp Tryz.func132 rfl trivial ?_ rfl
 simp only[Tryz.ntmps132,List.size_toArray,List.length_cons,List.length_nil,Nat.reduceAdd,Nat.reduceSub,Array.replicate_succ,Array.replicate_zero,List.push_toArray,List.append_toArray,List.nil_append,List.cons_append]
 gi_wp2_with (first
  | (gi_at_range;refine wpListIn_range_own _ rfl _ 117 rfl 30 122 key_u32 Tryz.underlying117 _ b nn _ rfl hown ?_;intro w0 hr0 hg0 hs0)
  | gi_in)
 go_frame
 gi_loopw [3] (fun _ wr=>∃ (left:Lit→Bool) (cnt:Nat) (ss:List Int),wr.ranges Tryz.prog 30 rdQ b W.heap.size nn D left cnt∧ss.length+cnt≤Maps.size D∧Kcol D left ss∧J ss wr)
  (fun _ wr=>wr.rangeLeft b W.heap.size)
 case atStart=>
  exact⟨_,_,[],hr0,by simp,Kcol.start D,hJ [] W w0 none h0 hg0 (fun r e=>by cases e)⟩
 case round=>
  obtain⟨left,cnt,ss,hr,hc,hK,hJs⟩:=hrel
  gi_wp2_with (first
   | (gi_at_next;refine wpListIn_next_ranges _ rfl _ rfl 30 key_u32 rdQ encU id (fun key kl hk=>by obtain⟨x,hx,_⟩:=Maps.keyOf_int_inv Tryz.underlying30 hk;exact⟨x,hx⟩) (fun v _ _=>⟨v,rfl⟩) b W.heap.size nn _ _ _ rfl hr ?_ ?_)
   | gi_in)
  ·intro hc0 hl0
   gi_wp2
   go_end0
   exact⟨⟨_,rfl⟩,ss,⟨hK.nd,fun x=>by rw[hK.mem x,hl0];simp⟩,hJs⟩
  ·intro x c kl yd yp w2 cnt2 hkey hlk hv hat hr2 hlt hg2 hs2 hen
   obtain⟨x',ex,rfl,_⟩:=Maps.keyOf_int_inv Tryz.underlying30 hkey
   obtain rfl:x=x':=encU_inj ex
   have hJ2:J ss w2:=hJ ss wr w2 (some W.heap.size) hJs hg2 (fun r e=>by cases e;exact⟨Nat.le_refl _,hr.iter_walk⟩)
   obtain⟨fn,tmps,assign,body,hy,hR⟩:=hY ss x w2 hJ2 (by omega)
   clear hs2
   change (Instr.yield l #[.int .u32 x]).run Tryz.prog w2=_ at hy
   gi_wp2
   refine hR.mono ?_
   rintro e W3 ⟨rfl,hJ3,hk3⟩
   gi_wp2
   have hr3:=hr2.of_walks hk3
   go_roundw
   case rel=>exact⟨_,cnt2,ss ++ [x],hr3,by simp;omega,hK.step hlk hat,hJ3⟩
   case measure=>rw[hr3.left_eq,hr.left_eq];exact hlt
theorem keysU (mb:Option Nat) (n:Nat) (w:World):CallsIn Fence.wide n Tryz.prog 76 #[.map mb] w fun e w'=>e=.returned (.func (.func 132) #[] #[.pointer (some ⟨w.heap.size,0,none⟩)])∧w'=w.alloc (.cells #[.map mb] 117):=by
 refine callsIn_of_wp Tryz.func76 rfl trivial ?_ rfl
 simp only[Tryz.ntmps76,List.size_toArray,List.length_cons,List.length_nil,Nat.reduceAdd,Nat.reduceSub,Array.replicate_succ,Array.replicate_zero,List.push_toArray,List.append_toArray,List.nil_append,List.cons_append]
 gi_wp2
 go_ret
 exact⟨rfl,rfl⟩
theorem keysU_gives (Bm b nn n:Nat) (hn:1≤n) (D:DataW Unit) (w:World) (hB:Bm<w.heap.size) (hm:w.cell? ⟨Bm,0,none⟩=some (.map (some b))) (hown:w.ownsMap Tryz.prog 30 rdQ b nn D) :
  SeqGives Fence.wide n Tryz.prog 132 #[.pointer (some ⟨Bm,0,none⟩)] encU (AllK D) (Maps.size D) w:=fun l J W hW hJ hY h0=>
 keysU1 l Bm b nn n hn D J hY W hJ ((hW.cell (p:=⟨Bm,0,none⟩) hB).trans hm) (ownsMap_off hown (Off.of_below (l:=[]) hW) (by simp)) h0
theorem info_u32:(Tryz.prog.info? 30).map (fun i=>(i.zero,i.size,i.bytes))=some (some (.int .u32 0),1,4):=by kernel_rfl
def renU:Ren:=⟨fun n=>n,fun n=>if n=26 then 30 else if n=24 then 22 else 0,fun n=>n⟩
abbrev recU (fn:FuncId) (sv:Value) (Bs D:Nat) (st:LoopState) (pend:Option Code):Loop:=AnyZ.apRec renU fn sv Bs D st pend
structure ApU (w0:World) (fn:FuncId) (sv:Value) (Bs l D:Nat) (ss:List Int) (W:World):Prop where
 box:∃ v,W.heap[Bs]?=some (.cells #[v] 22 (0,0))∧W.ownsRow w0.heap.size 30 1 v ss.length (ss.map encU)∧(v=.slice none 0 0 ↔ ss=[])
 lop:W.heap[l]?=some (.loop (recU fn sv Bs D .ready none))
 dfr:W.heap[D]?=some (.deferred (some []))
 bel:Below w0.heap.size w0 W
theorem ApU.abides (w0:World) (fn:FuncId) (sv:Value) (Bs l D B:Nat) (hB:w0.heap.size≤B):AbidesFrom B (ApU w0 fn sv Bs l D):=fun s W W' row h hg hrow=>by
 have hw:∀ r,row=some r→∃ o:Obj,W.heap[r]?=some o∧o.isWalk=true:=fun r e=>(hrow r e).2
 obtain⟨v,hv,hr,hn⟩:=h.box
 refine⟨⟨v,(grownBy_keeps hg hw hv rfl).trans hv,ownsRow_abides_a hr hg hw,hn⟩,(grownBy_keeps hg hw h.lop rfl).trans h.lop,(grownBy_keeps hg hw h.dfr rfl).trans h.dfr,?_⟩
 exact h.bel.grown hg h.bel.size (fun k e=>Nat.le_trans hB (hrow k e).1)
set_option maxRecDepth 100000 in
set_option maxHeartbeats 2000000 in
theorem ApU.yield (m:Nat) (w0:World) (fn:FuncId) (sv:Value) (Bs l D:Nat) (hBl:Bs≠l) (hDl:D≠l) (hDB:D≠Bs) (h0B:w0.heap.size≤Bs) (h0l:w0.heap.size≤l) (N:Nat) (hN:N≤1000000) (ss:List Int) (x:Int) (W:World) (h:ApU w0 fn sv Bs l D ss W) (hlen:ss.length<N) :
  YieldAt Fence.wide m Tryz.prog l #[encU x] W fun e W'=>e=.returned (.bool true)∧ApU w0 fn sv Bs l D (ss ++ [x]) W'∧KeepsWalks W W':=by
 have hne:∀ (v:Value) (cur:Array Value),(Obj.cells #[v] 22 (0,0)) ≠ .cells cur 30 (0,0):=fun v cur e=>by cases e
 have hnl:∀ (L:Loop) (cur:Array Value),(Obj.loop L) ≠ .cells cur 30 (0,0):=fun v cur e=>by cases e
 have hnd:∀ (L:Option (List Deferred)) (cur:Array Value),(Obj.deferred L) ≠ .cells cur 30 (0,0):=fun v cur e=>by cases e
 obtain⟨i0,hi,hz0,hz1,hz2⟩:=info_parts info_u32
 obtain⟨v,hv,hrow,_⟩:=h.box
 refine⟨fn,#[.slice none 0 0,sv,.pointer (some ⟨Bs,0,none⟩),undef,.slice none 0 0,undef,sv,.int .u32 x,undef,undef,undef,undef,undef],AnyZ.apAssign renU,AnyZ.apBody renU,by simpa [AnyZ.apRec,encU] using run_yield (P:=Tryz.prog) (args:=#[encU x]) h.lop rfl,roundIn_of_wpIn trivial ?_⟩
 have hl:l<W.heap.size:=(Array.getElem?_eq_some_iff.1 h.lop).1
 have hbr:=run_beginRound (P:=Tryz.prog) h.lop rfl
 obtain⟨W2,hW2⟩:∃ W2,W.putObj l (.loop { recU fn sv Bs D .ready none with state:=.busy })=W2:=⟨_,rfl⟩
 rw[hW2]at hbr
 have g2:W.grownBy W2 (some l):=by rw[← hW2];exact grownBy_putObj_a _ _ _
 have k2:KeepsWalks W W2:=by rw[← hW2];exact KeepsWalks.putObj _ h.lop rfl
 have v2:W2.heap[Bs]?=some (.cells #[v] 22 (0,0)):=by rw[← hW2];exact (World.putObj_heap_other hBl).trans hv
 have d2:W2.heap[D]?=some (.deferred (some [])):=by rw[← hW2];exact (World.putObj_heap_other hDl).trans h.dfr
 have l2:W2.heap[l]?=some (.loop { recU fn sv Bs D .ready none with state:=.busy }):=by rw[← hW2];exact World.putObj_heap_same hl
 have r2:W2.ownsRow w0.heap.size 30 1 v ss.length (ss.map encU):=hrow.kept g2 (ownsRow_ne_a hrow h.lop (hnl _))
 have b2:Below w0.heap.size w0 W2:=h.bel.grown g2 h.bel.size (fun k e=>by cases e;exact h0l)
 obtain⟨c2,f2⟩:=cell_of_box_a v2
 have vl:Bs<W2.heap.size:=(Array.getElem?_eq_some_iff.1 v2).1
 have ll:l<W2.heap.size:=(Array.getElem?_eq_some_iff.1 l2).1
 have dl:D<W2.heap.size:=(Array.getElem?_eq_some_iff.1 d2).1
 have nof:∀ {j:Nat} {o:Obj},W2.heap[j]?=some o→(∀ cur,o ≠ .cells cur 30 (0,0))→some j≠v.ownBlock:=fun hj hno=>by
  rcases ownsRow_ne_a r2 hj hno with e | e
  ·rw[e];simp
  ·exact fun e'=>e e'.symm
 clear hW2
 have sb:=b2.size
 unfold AnyZ.apAssign
 gi_wp2_with gi_round_op_a
 unfold AnyZ.apBody
 simp only[renU]
 gi_wp2_with (first
  | (gi_at_builtin;refine wpListIn_append_own _ rfl _ _ 22 rfl w0.heap.size 30 i0 (.int .u32 0) 1 4 Tryz.underlying22 hi hz0 hz1 hz2 rfl (by decide) _ _ _ rfl (r2.alloc _) ⟨W2.heap.size,0,none⟩ 1 1 [.int .u32 x] rfl rfl (cell_one_new _ _ _) (by simp[Value.oneCell']) (by unfold maxLen;omega) (by omega) (by simp;omega) ?_;intro v' w3 own3 g3 nil3
     have v3:w3.heap[Bs]?=some (.cells #[v] 22 (0,0)):=(g3.block Bs (by simp;omega) (nof v2 (hne _))).trans ((Below.heap_alloc _ _ Bs vl).trans v2)
     obtain⟨c3,f3⟩:=cell_of_box_a v3
     obtain⟨g',cap',cur',rfl,_,_,_,_,_,_⟩:∃ g' cap' cur',v'=.slice (some ⟨g',0,none⟩) (ss.length+1) cap'∧w0.heap.size≤g'∧w3.heap[g']?=some (.cells cur' 30 (0,0))∧ss.length+1≤cap'∧cap'≤maxLen∧cur'.size=cap'*1∧cur'.toList.take ((ss.length+1)*1)=ss.map encU ++ [.int .u32 x]:=by
      rcases own3.2 with ⟨_,h0⟩ | h'
      ·exact absurd h0 (by omega)
      ·exact h'
     go_frame)
  | gi_round_op_a)
 have g3':(W2.alloc (.cells #[.int .u32 x] 30)).grownBy w3 v.ownBlock:=g3
 have l3:w3.heap[l]?=some (.loop { recU fn sv Bs D .ready none with state:=.busy }):=(g3'.block l (by simp;omega) (nof l2 (hnl _))).trans ((Below.heap_alloc _ _ l ll).trans l2)
 have d3:w3.heap[D]?=some (.deferred (some [])):=(g3'.block D (by simp;omega) (nof d2 (hnd _))).trans ((Below.heap_alloc _ _ D dl).trans d2)
 obtain⟨w4,hw4⟩:∃ w4,w3.setCell ⟨Bs,0,none⟩ (.slice (some ⟨g',0,none⟩) (ss.length+1) cap')=w4:=⟨_,rfl⟩
 rw[hw4]
 have g4:w3.grownBy w4 (some Bs):=by rw[← hw4];exact grownBy_setCell0_a _ _ _
 have v4:w4.heap[Bs]?=some (.cells #[.slice (some ⟨g',0,none⟩) (ss.length+1) cap'] 22 (0,0)):=by rw[← hw4];exact heap_setCell_box_a _ v3
 have l4:w4.heap[l]?=some (.loop { recU fn sv Bs D .ready none with state:=.busy }):=(g4.block l (Array.getElem?_eq_some_iff.1 l3).1 (fun e=>hBl (by cases e;rfl))).trans l3
 have d4:w4.heap[D]?=some (.deferred (some [])):=(g4.block D (Array.getElem?_eq_some_iff.1 d3).1 (fun e=>hDB (by cases e;rfl))).trans d3
 have r4:=own3.kept g4 (ownsRow_ne_a own3 v3 (hne _))
 have b3:Below w0.heap.size w0 w3:=(b2.alloc b2.size _).grown g3' (by simp;omega) (fun k e=>(r2.lt k e).1)
 have b4:Below w0.heap.size w0 w4:=b3.grown g4 b3.size (fun k e=>by cases e;exact h0B)
 have k4:KeepsWalks W w4:=((k2.trans (KeepsWalks.alloc _ _)).trans (KeepsWalks.of_grownBy g3' (ownsRow_not_walk_a (r2.alloc _)))).trans (by rw[← hw4];exact KeepsWalks.setCell _ _ _)
 have l4s:l<w4.heap.size:=(Array.getElem?_eq_some_iff.1 l4).1
 clear hw4
 refine⟨_,_,run_endRound none l4,rfl,⟨⟨_,(World.putObj_heap_other hBl).trans v4,?_,by simp⟩,World.putObj_heap_same l4s,(World.putObj_heap_other hDl).trans d4,b4.grown (grownBy_putObj_a _ _ _) b4.size (fun k e=>by cases e;exact h0l)⟩,k4.trans (KeepsWalks.putObj _ l4 rfl)⟩
 have:=r4.kept (grownBy_putObj_a w4 l (.loop { { recU fn sv Bs D .ready none with state:=.busy } with state:=if (none:Option Code).isNone then .ready else .done,pending:=none })) (ownsRow_ne_a r4 l4 (hnl _))
 simpa [encU] using this
set_option maxRecDepth 100000 in
set_option maxHeartbeats 2000000 in
theorem appendU (n:Nat) (hn:2≤n) (g:Nat) (lb:Array Value) (eg:∀ args w,(callFunc g args).run Tryz.prog w=.ok (.enter g args) w) (S:List Int→Prop) (N:Nat) (hN:N≤1000000) (w:World) (hseq:SeqGives Fence.wide (n-1) Tryz.prog g lb encU S N w) :
  CallsIn Fence.wide n Tryz.prog 188 #[.slice none 0 0,.func (.func g) #[] lb] w fun e w'=>∃ (v:Value) (ss:List Int),e=.returned v∧S ss∧w'.ownsRow w.heap.size 30 1 v ss.length (ss.map encU)∧(v=.slice none 0 0 ↔ ss=[])∧Below w.heap.size w w':=by
 have h1:1≤n:=by omega
 have hne:∀ (v:Value) (cur:Array Value),(Obj.cells #[v] 22 (0,0)) ≠ .cells cur 30 (0,0):=fun v cur e=>by cases e
 have hnl:∀ (L:Loop) (cur:Array Value),(Obj.loop L) ≠ .cells cur 30 (0,0):=fun v cur e=>by cases e
 have hnd:∀ (L:Option (List Deferred)) (cur:Array Value),(Obj.deferred L) ≠ .cells cur 30 (0,0):=fun v cur e=>by cases e
 refine callsIn_of_wp_marks Tryz.func188 rfl trivial ?_ rfl
 simp only[Tryz.ntmps188,List.size_toArray,List.length_cons,List.length_nil,Nat.reduceAdd,Nat.reduceSub,Array.replicate_succ,Array.replicate_zero,List.push_toArray,List.append_toArray,List.nil_append,List.cons_append]
 gi_wp2
 refine wpIn_rangeFunc ?_
 intro fn hfn
 obtain⟨W0,hW0⟩:∃ W0,w.alloc (.cells #[.slice none 0 0] 22)=W0:=⟨_,rfl⟩
 have s0:W0.heap.size=w.heap.size+1:=by rw[← hW0];simp
 have v0:W0.heap[w.heap.size]?=some (.cells #[.slice none 0 0] 22 (0,0)):=by rw[← hW0];exact World.alloc_heap_new w _
 have b0:Below w.heap.size w W0:=by rw[← hW0];exact (Below.refl _ w).alloc (Nat.le_refl _) _
 rw[hW0]
 obtain⟨W1,hW1⟩:∃ W1,(W0.alloc (.deferred (some []))).alloc (.loop (recU fn (.func (.func g) #[] lb) w.heap.size W0.heap.size .ready none))=W1:=⟨_,rfl⟩
 have old:∀ k,k<W0.heap.size→W1.heap[k]?=W0.heap[k]?:=fun k hk=>by
  rw[← hW1];exact (Below.heap_alloc _ _ k (by simp;omega)).trans (Below.heap_alloc _ _ k hk)
 have sb:=b0.size
 have b1:Below w.heap.size w W1:=by rw[← hW1];exact (b0.alloc b0.size _).alloc (by simp;omega) _
 have hA:ApU w fn (.func (.func g) #[] lb) w.heap.size (W0.heap.size+1) W0.heap.size [] W1:=by
  refine⟨⟨_,(old w.heap.size (by omega)).trans v0,⟨rfl,.inl ⟨rfl,rfl⟩⟩,by simp⟩,?_,?_,b1⟩
  ·rw[← hW1]
   have:=World.alloc_heap_new (W0.alloc (.deferred (some []))) (.loop (recU fn (.func (.func g) #[] lb) w.heap.size W0.heap.size .ready none))
   rwa [World.size_alloc]at this
  ·rw[← hW1]
   exact (Below.heap_alloc _ _ _ (by simp)).trans (World.alloc_heap_new W0 _)
 refine⟨W0.heap.size+1,[{ target:=.collected W0.heap.size,args:=#[] }],W1,{ target:=.fn (.func g) lb,args:=#[.func (.yield (W0.heap.size+1)) #[] #[]] },W1,g,#[.func (.yield (W0.heap.size+1)) #[] #[]] ++ lb,W1,?_,?_,?_,?_,fun _=>h1,?_⟩
 ·rw[← hW1];exact run_enterLoop_outer _ _ _ _ _
 ·simp[resolve,go_sem]
 ·intro f' _;trivial
 ·simp[invoke,go_sem,eg]
 ·refine (hseq (W0.heap.size+1) (ApU w fn (.func (.func g) #[] lb) w.heap.size (W0.heap.size+1) W0.heap.size) W1 b1 (ApU.abides _ _ _ _ _ _ _ b1.size)
   (fun pre x W hJ hl=>ApU.yield (n-1-1) w fn _ w.heap.size (W0.heap.size+1) W0.heap.size (by omega) (by omega) (by omega) (Nat.le_refl _) (by omega) N hN pre x W hJ hl) hA).mono ?_
  rintro e W2 ⟨⟨u,rfl⟩,ss,hS,h2⟩
  obtain⟨v,hv,hrow,hnil⟩:=h2.box
  have hend:=run_endLoop (P:=Tryz.prog) h2.lop (by simp[AnyZ.apRec])
  obtain⟨W3,hW3⟩:∃ W3,W2.putObj (W0.heap.size+1) (.loop { recU fn (.func (.func g) #[] lb) w.heap.size W0.heap.size .ready none with state:=.exhausted })=W3:=⟨_,rfl⟩
  rw[hW3]at hend
  have g3:W2.grownBy W3 (some (W0.heap.size+1)):=by rw[← hW3];exact grownBy_putObj_a _ _ _
  have v3:W3.heap[w.heap.size]?=some (.cells #[v] 22 (0,0)):=by rw[← hW3];exact (World.putObj_heap_other (by omega)).trans hv
  have d3:W3.heap[W0.heap.size]?=some (.deferred (some [])):=by rw[← hW3];exact (World.putObj_heap_other (by omega)).trans h2.dfr
  have r3:=hrow.kept g3 (ownsRow_ne_a hrow h2.lop (hnl _))
  have b3:Below w.heap.size w W3:=h2.bel.grown g3 h2.bel.size (fun k e=>by cases e;omega)
  obtain⟨c3,f3⟩:=cell_of_box_a v3
  clear hW3
  refine⟨none,W3,hend,?_⟩
  gi_wp2
  rw[← s0]
  refine⟨by simp,.inl ⟨_,_,rfl,run_takeDeferred d3,?_⟩⟩
  exact⟨_,results_tmp rfl _ _ _,v,ss,rfl,hS,r3.kept (grownBy_putObj_a _ _ _) (ownsRow_ne_a r3 d3 (hnd _)),hnil,b3.grown (grownBy_putObj_a _ _ _) b3.size (fun k e=>by cases e;omega)⟩
theorem collectU (n:Nat) (hn:3≤n) (g:Nat) (lb:Array Value) (eg:∀ args w,(callFunc g args).run Tryz.prog w=.ok (.enter g args) w) (S:List Int→Prop) (N:Nat) (hN:N≤1000000) (w:World) (hseq:SeqGives Fence.wide (n-1-1) Tryz.prog g lb encU S N w) :
  CallsIn Fence.wide n Tryz.prog 130 #[.func (.func g) #[] lb] w fun e w'=>∃ (v:Value) (ss:List Int),e=.returned v∧S ss∧w'.ownsRow w.heap.size 30 1 v ss.length (ss.map encU)∧(v=.slice none 0 0 ↔ ss=[])∧Below w.heap.size w w':=by
 have hA:=appendU (n-1) (by omega) g lb eg S N hN w hseq
 have hf:Fence.wide.fn 188:=trivial
 have h1:1≤n:=by omega
 refine callsIn_of_wp Tryz.func130 rfl trivial ?_ rfl
 simp only[Tryz.ntmps130,List.size_toArray,List.length_cons,List.length_nil,Nat.reduceAdd,Nat.reduceSub,Array.replicate_succ,Array.replicate_zero,List.push_toArray,List.append_toArray,List.nil_append,List.cons_append]
 gi_wp2_with (gi_at_call 188;refine hA.mono ?_;rintro e w' ⟨v,ss,rfl,hS,hrow,hnil,hb⟩)
 go_ret
 exact⟨v,ss,rfl,hS,hrow,hnil,hb⟩
theorem old_allocU {w:World} {o:Obj} {r:Nat} (h:r<w.heap.size):(w.alloc o).heap[r]?=w.heap[r]?:=(Off.alloc [] w o).block r h (by simp)
def natU:Value→Nat
 | .int _ x=>x.toNat
 | _=>0
def RowU (w:World) (a:Option Addr) (l:List Int):Prop:=∀ i (h:i<l.length),∃ b o,a=some ⟨b,o,none⟩∧w.cell? ⟨b,o+i,none⟩=some (.int .u32 (l[i]))
theorem RowU.off {w w':World} {a:Option Addr} {l:List Int} {q:List Nat} (h:RowU w a l) (o:Off q w w') (hq:∀ x,a=some x→x.block ∉ q):RowU w' a l:=fun i hi=>by
 obtain⟨b,p,e,hc⟩:=h i hi
 refine⟨b,p,e,?_⟩
 exact (World.cell?_of_block (a:=⟨b,p+i,none⟩) (o.block b (World.block_lt_of_cell? w _ hc) (hq _ e))).trans hc
theorem RowU.below {w w':World} {a:Option Addr} {l:List Int} (h:RowU w a l) (o:Below w.heap.size w w'):RowU w' a l:=h.off (Off.of_below (l:=[]) o) (by simp)
theorem own_rowU {w:World} {B:Nat} {v:Value} {l:List Int} (h:w.ownsRow B 30 1 v l.length (l.map encU)):∃ a cap,v=.slice a l.length cap∧RowU w a l∧(∀ x,a=some x→B≤x.block∧v.ownBlock=some x.block):=by
 rcases h.2 with ⟨rfl,hn⟩ | ⟨g,cap,cur,rfl,hB,hg,h1,h2,h3,h4⟩
 ·refine⟨none,0,by rw[hn],fun i hi=>by omega,fun x hx=>by cases hx⟩
 ·refine⟨some ⟨g,0,none⟩,cap,rfl,fun i hi=>⟨g,0,rfl,?_⟩,fun x hx=>by cases hx;exact⟨hB,rfl⟩⟩
  have h5:cur[0+i]?=some (.int .u32 (l[i])):=by
   have e:(cur.toList.take (l.length*1))[i]?=(l.map encU)[i]?:=by rw[h4]
   rw[List.getElem?_take_of_lt (by omega)]at e
   simp[hi,encU]at e
   simpa using e
  exact (cell_of_row w g (0+i) cur _ _ hg).trans h5
set_option maxHeartbeats 400000 in
theorem equalU (a1 a2:Option Addr) (c1 c2:Nat) (l:List Int) (w:World) (h1:RowU w a1 l) (h2:RowU w a2 l) (hlen:l.length≤1000000000) :
  Calls Tryz.prog 29 #[.slice a1 l.length c1,.slice a2 l.length c2] w fun e w'=>e=.returned (.bool true)∧∃ m,w'=w.drewN m:=by
 obtain⟨n,hn⟩:∃ n,n=l.length:=⟨_,rfl⟩
 have HN:Hid (n=l.length):=hn
 rw[← hn]at hlen ⊢
 clear hn
 go_enter Tryz.func29,Tryz.ntmps29
 go_wp2_with fail
 go_loopw [4,5,13] (fun _ _ c wr=>∃ i m,i≤n∧c=.int .i64 ((i:Nat):Int)∧wr=w.drewN m) (fun _ _ c _=>n-natU c)
 case atStart=>exact⟨0,0,by omega,rfl,rfl⟩
 case round=>
  obtain⟨i,m,hi,rfl,rfl⟩:=hrel
  by_cases hlt:i<n
  ·obtain⟨b1,o1,rfl,q1⟩:=h1 i (by rw[← HN.out];exact hlt)
   obtain⟨b2,o2,rfl,q2⟩:=h2 i (by rw[← HN.out];exact hlt)
   have e1:(w.drewN m).cell? ⟨b1,o1+i,none⟩=some (.int .u32 (l[i]'(by rw[← HN.out];exact hlt))):=q1
   have e2:(w.drewN m).cell? ⟨b2,o2+i,none⟩=some (.int .u32 (l[i]'(by rw[← HN.out];exact hlt))):=q2
   clear q1 q2 h1 h2
   generalize l[i]'(by rw[← HN.out];exact hlt)=x at *
   generalize hwm:w.drewN m=wm at *
   go_wp2_with fail
   go_quiet (fail)
   go_wp2_with fail
   go_roundw
   case rel=>exact⟨i+1,m+nq,by omega,by go_num,by rw[← hwm,World.drewN_drewN]⟩
   case measure=>simp[natU] <;> omega
  ·clear h1 h2
   go_wp2_with fail
   go_ret
   exact⟨rfl,m,rfl⟩
open Go.RowKit
def insU (x:Int):List Int→List Int
 | []=>[x]
 | y :: l=>if y<x then y :: insU x l else x :: y :: l
def riseU (l:List Int):List Int:=l.foldl (fun acc x=>insU x acc) []
theorem insU_perm (x:Int) (l:List Int):(insU x l).Perm (x :: l):=by
 induction l with
 | nil=>exact List.Perm.refl _
 | cons y l ih=>
  unfold insU
  split
  ·exact (ih.cons y).trans (List.Perm.swap x y l)
  ·exact List.Perm.refl _
theorem insU_up (x:Int) (l:List Int) (h:l.Pairwise (· ≤ ·)):(insU x l).Pairwise (· ≤ ·):=by
 induction l with
 | nil=>simp[insU]
 | cons y l ih=>
  obtain⟨h1,h2⟩:=List.pairwise_cons.1 h
  unfold insU
  split
  ·rename_i hlt
   refine List.pairwise_cons.2 ⟨fun z hz=>?_,ih h2⟩
   rcases List.mem_cons.1 ((insU_perm x l).mem_iff.1 hz) with rfl | hz
   ·omega
   ·exact h1 z hz
  ·rename_i hge
   refine List.pairwise_cons.2 ⟨fun z hz=>?_,h⟩
   rcases List.mem_cons.1 hz with rfl | hz
   ·omega
   ·have:=h1 z hz;omega
theorem foldU (l acc:List Int) (h:acc.Pairwise (· ≤ ·)):(l.foldl (fun a x=>insU x a) acc).Pairwise (· ≤ ·)∧(l.foldl (fun a x=>insU x a) acc).Perm (acc ++ l):=by
 induction l generalizing acc with
 | nil=>simpa using h
 | cons x l ih=>
  obtain⟨h1,h2⟩:=ih (insU x acc) (insU_up x acc h)
  refine⟨h1,h2.trans ?_⟩
  have h3:(insU x acc ++ l).Perm (x :: acc ++ l):=(insU_perm x acc).append_right l
  exact h3.trans (by simpa using (List.perm_middle (a:=x) (l₁:=acc) (l₂:=l)).symm)
theorem riseU_up (l:List Int):(riseU l).Pairwise (· ≤ ·):=(foldU l [] List.Pairwise.nil).1
theorem riseU_perm (l:List Int):(riseU l).Perm l:=(foldU l [] List.Pairwise.nil).2
theorem riseU_snoc (l:List Int) (x:Int):riseU (l ++ [x])=insU x (riseU l):=by simp[riseU]
theorem up_one {l m:List Int} (h:l.Perm m) (hl:l.Pairwise (· ≤ ·)) (hm:m.Pairwise (· ≤ ·)):l=m:=List.Perm.eq_of_pairwise (fun a b _ _ h1 h2=>by omega) hl hm h
theorem insU_at (x:Int) (l:List Int) (k:Nat) (hk:k≤l.length) (h1:∀ i (h:i<l.length),i<k→l[i]<x) (h2:∀ h:k<l.length,¬ l[k]<x):insU x l=l.take k ++ x :: l.drop k:=by
 induction l generalizing k with
 | nil=>simp[insU]
 | cons y l ih=>
  cases k with
  | zero=>
   unfold insU
   rw[if_neg (show ¬ y<x from h2 (by simp))]
   rfl
  | succ k=>
   unfold insU
   rw[if_pos (show y<x from h1 0 (by simp) (by omega))]
   simp only[List.take_succ_cons,List.drop_succ_cons,List.cons_append]
   congr 1
   refine ih k (by simpa using hk) (fun i hi hik=>?_) (fun h=>?_)
   ·exact h1 (i+1) (by simp;omega) (by omega)
   ·exact h2 (by simp;omega)
end Go.Proofs.YtffehehghpafdaaGreat
