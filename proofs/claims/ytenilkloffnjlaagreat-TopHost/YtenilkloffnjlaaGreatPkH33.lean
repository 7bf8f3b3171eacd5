/- Part 34: contracts that the proof rests on. -/
import Derived.Test.YtenilkloffnjlaaGreatPkH32
set_option maxHeartbeats 64000000
set_option maxRecDepth 100000
namespace Go.Proofs.YtenilkloffnjlaaGreat
open Tryz
open Go.RowKit
theorem lT (b off len cap x0 x1 x2 x3:Nat) (w:World) (hlen:(3:Int) < (len:Int)) (h0:x0<256) (h1:x1<256) (h2:x2<256) (h3:x3<256)
  (c0:w.cell? ⟨b,off,none⟩=some (.int .u8 x0)) (c1:w.cell? ⟨b,off+1,none⟩=some (.int .u8 x1)) (c2:w.cell? ⟨b,off+2,none⟩=some (.int .u8 x2)) (c3:w.cell? ⟨b,off+3,none⟩=some (.int .u8 x3)) :
  Calls prog 66 #[.slice (af b off) len cap] w fun e w'=>e=.returned (.int .u32 ((x0*16777216+x1*65536+x2*256+x3:Nat):Int))∧∃ m,w'=w.drewN m:=by
 have hn:=lG x0 x1 x2 x3 h0 h1 h2 h3
 have l0:(0:Int) < (len:Int):=by omega
 have l1:(1:Int) < (len:Int):=by omega
 have l2:(2:Int) < (len:Int):=by omega
 generalize x0*16777216+x1*65536+x2*256+x3=y at *
 go_enter func66,ntmps66
 go_wp2_with fail
 go_quiet (fail)
 go_wp2
 go_ret
 exact⟨rfl,_,rfl⟩
theorem fu (b off len cap i L C:Nat) (bs:Nat→Nat) (w:World) (hr:Row8 w (af b off) len cap bs) (h:i+4≤len) (hL:4≤L) :
  Calls prog 66 #[.slice (af b (off+i)) L C] w fun e w'=>e=.returned (.int .u32 (aC bs i:Nat))∧∃ m,w'=w.drewN m:=by
 have s:=hr.src _ rfl
 have q:=hr.byte
 have t0:=s i (by omega);have t1:=s (i+1) (by omega);have t2:=s (i+2) (by omega);have t3:=s (i+3) (by omega)
 rw[Go.WideShapes.add_plain]at t0 t1 t2 t3
 exact lT b (off+i) L C _ _ _ _ w (by omega) (q i (by omega)) (q (i+1) (by omega)) (q (i+2) (by omega)) (q (i+3) (by omega)) t0 t1 t2 t3
theorem cJ {w0 w:World} (h:Below w0.heap.size w0 w) (o:Obj):Below w0.heap.size w0 (w.alloc o):=h.alloc h.size o
theorem zn {w2:World} {g:Nat} {k0:Int} {c0 s0 n0:Nat} {f0:Int} {v0:Value} (h:Box w2 g k0 c0 s0 n0 f0 v0) (k:Int) (c s n:Nat) (f:Int) (v:Value) :
  Box ((((((w2.setCell ⟨g,0,none⟩ (.int .i64 k)).setCell ⟨g,1,none⟩ (.int .u32 c)).setCell ⟨g,2,none⟩ (.int .u32 s)).setCell ⟨g,3,none⟩ (.int .u32 n)).setCell ⟨g,4,none⟩ (.int .i64 f)).setCell ⟨g,5,none⟩ v) g k c s n f v:=by
 obtain⟨h0,h1,h2,h3,h4,h5⟩:=h
 have ne:∀ i j:Nat,i≠j→(⟨g,i,none⟩:Addr) ≠ ⟨g,j,none⟩:=fun i j hij e=>hij (congrArg Addr.off e)
 refine⟨?_,?_,?_,?_,?_,?_⟩
 ·rw[World.cell?_setCell_other _ _ _ _ (ne 5 0 (by omega)),World.cell?_setCell_other _ _ _ _ (ne 4 0 (by omega)),World.cell?_setCell_other _ _ _ _ (ne 3 0 (by omega)),World.cell?_setCell_other _ _ _ _ (ne 2 0 (by omega)),World.cell?_setCell_other _ _ _ _ (ne 1 0 (by omega))];exact World.cell?_setCell_same _ _ _ h0
 ·rw[World.cell?_setCell_other _ _ _ _ (ne 5 1 (by omega)),World.cell?_setCell_other _ _ _ _ (ne 4 1 (by omega)),World.cell?_setCell_other _ _ _ _ (ne 3 1 (by omega)),World.cell?_setCell_other _ _ _ _ (ne 2 1 (by omega))];exact World.cell?_setCell_same _ _ _ ((World.cell?_setCell_other _ _ _ _ (ne 0 1 (by omega))).trans h1)
 ·rw[World.cell?_setCell_other _ _ _ _ (ne 5 2 (by omega)),World.cell?_setCell_other _ _ _ _ (ne 4 2 (by omega)),World.cell?_setCell_other _ _ _ _ (ne 3 2 (by omega))];exact World.cell?_setCell_same _ _ _ (((World.cell?_setCell_other _ _ _ _ (ne 1 2 (by omega))).trans (World.cell?_setCell_other _ _ _ _ (ne 0 2 (by omega)))).trans h2)
 ·rw[World.cell?_setCell_other _ _ _ _ (ne 5 3 (by omega)),World.cell?_setCell_other _ _ _ _ (ne 4 3 (by omega))]
  refine World.cell?_setCell_same _ _ _ (u:=.int .u32 n0) ?_
  rw[World.cell?_setCell_other _ _ _ _ (ne 2 3 (by omega)),World.cell?_setCell_other _ _ _ _ (ne 1 3 (by omega)),World.cell?_setCell_other _ _ _ _ (ne 0 3 (by omega))];exact h3
 ·rw[World.cell?_setCell_other _ _ _ _ (ne 5 4 (by omega))]
  refine World.cell?_setCell_same _ _ _ (u:=.int .i64 f0) ?_
  rw[World.cell?_setCell_other _ _ _ _ (ne 3 4 (by omega)),World.cell?_setCell_other _ _ _ _ (ne 2 4 (by omega)),World.cell?_setCell_other _ _ _ _ (ne 1 4 (by omega)),World.cell?_setCell_other _ _ _ _ (ne 0 4 (by omega))];exact h4
 ·refine World.cell?_setCell_same _ _ _ (u:=v0) ?_
  rw[World.cell?_setCell_other _ _ _ _ (ne 4 5 (by omega)),World.cell?_setCell_other _ _ _ _ (ne 3 5 (by omega)),World.cell?_setCell_other _ _ _ _ (ne 2 5 (by omega)),World.cell?_setCell_other _ _ _ _ (ne 1 5 (by omega)),World.cell?_setCell_other _ _ _ _ (ne 0 5 (by omega))];exact h5
theorem uQ {w2:World} {g:Nat} {k:Int} {c s n:Nat} {f:Int} {v:Value} (h:Box w2 g k c s n f v) (v':Value):Box (w2.setCell ⟨g,5,none⟩ v') g k c s n f v':=by
 obtain⟨h0,h1,h2,h3,h4,h5⟩:=h
 have ne:∀ i j:Nat,i≠j→(⟨g,i,none⟩:Addr) ≠ ⟨g,j,none⟩:=fun i j hij e=>hij (congrArg Addr.off e)
 exact⟨(World.cell?_setCell_other _ _ _ _ (ne 5 0 (by omega))).trans h0,(World.cell?_setCell_other _ _ _ _ (ne 5 1 (by omega))).trans h1,(World.cell?_setCell_other _ _ _ _ (ne 5 2 (by omega))).trans h2,(World.cell?_setCell_other _ _ _ _ (ne 5 3 (by omega))).trans h3,(World.cell?_setCell_other _ _ _ _ (ne 5 4 (by omega))).trans h4,World.cell?_setCell_same _ _ _ h5⟩
theorem Box.below {wa wx:World} {g:Nat} {k:Int} {c s n:Nat} {f:Int} {v:Value} (h:Box wa g k c s n f v) (hg:g<wa.heap.size) (hb:Below wa.heap.size wa wx):Box wx g k c s n f v:=by
 have h':∀ i,wx.cell? ⟨g,i,none⟩=wa.cell? ⟨g,i,none⟩:=fun i=>hb.cell (p:=⟨g,i,none⟩) hg
 exact⟨(h' 0).trans h.c0,(h' 1).trans h.c1,(h' 2).trans h.c2,(h' 3).trans h.c3,(h' 4).trans h.c4,(h' 5).trans h.c5⟩
end Go.Proofs.YtenilkloffnjlaaGreat
