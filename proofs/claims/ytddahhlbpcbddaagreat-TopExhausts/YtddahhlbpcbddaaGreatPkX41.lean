/- Part 42: contracts that the proof rests on. -/
import Derived.Deep.DeepCutAuto
import Derived.Deep.CutBlock
import Derived.Deep.RegionWith
import Derived.Test.YtddahhlbpcbddaaGreatPkX40
set_option maxHeartbeats 64000000
set_option maxRecDepth 100000
namespace Go.Proofs.YtddahhlbpcbddaaGreat
open Tryz
open Go.RowKit Go.Maps
set_option linter.unusedVariables false
theorem us (S:Ws) (m:Mv):(S.play m).S.n=S.n:=by
 unfold Ws.play
 split
 ·rfl
 ·exact yZ _ _
def Ws.actDF (S:Ws) (m:Mv):Sd:=if m.k=1 then (if m.s=1 then S.ds m.c.toNat else dP (S.PD m.c.toNat) (S.ds m.c.toNat) m.l m.b m.h) else if m.k=2 then S.ds m.c.toNat else if m.k=3∨m.k=4 then (if m.s=1 then S.ds m.c.toNat else (au (S.PD m.c.toNat) S.mx 16 (S.ds m.c.toNat) (S.fr m).1 (S.fr m).2).s) else if m.k=5 then (if m.s=1 then S.ds m.c.toNat else eK (S.PD m.c.toNat) (S.ds m.c.toNat) m.n) else if m.k=6 then (if m.s=1 then S.ds m.c.toNat else gq (S.ds m.c.toNat)) else if m.k=7 then (if m.s=1 then S.ds m.c.toNat else cG S.mx 16 (S.ds m.c.toNat) m.n) else { S.ds m.c.toNat with ms:=lG (S.ds m.c.toNat).ms m.n }
def Ws.actHF (S:Ws) (m:Mv):Sh:=if m.k=1 then (if m.s=1 then dK (S.PH m.c.toNat) (S.hs m.c.toNat) m.l m.b m.h else S.hs m.c.toNat) else if m.k=2 then aZ (S.PH m.c.toNat) (S.hs m.c.toNat) else if m.k=3∨m.k=4 then (if m.s=1 then bT (S.PH m.c.toNat) (S.hs m.c.toNat) (S.fr m).1 (S.fr m).2 else S.hs m.c.toNat) else if m.k=5 then (if m.s=1 then eM (S.PH m.c.toNat) (S.hs m.c.toNat) m.n else S.hs m.c.toNat) else if m.k=6 then (if m.s=1 then jG (S.hs m.c.toNat) else S.hs m.c.toNat) else if m.k=7 then (if m.s=1 then gp (S.hs m.c.toNat) else S.hs m.c.toNat) else S.hs m.c.toNat
def Ws.actEF (S:Ws) (m:Mv):Int:=if m.k=1 then (if m.s=1 then ie (S.PH m.c.toNat) m.l else gS (S.PD m.c.toNat) (S.ds m.c.toNat) m.l) else if m.k=2 then jk (S.hs m.c.toNat) else if m.k=3∨m.k=4 then (if m.s=1 then cI (S.PH m.c.toNat) (S.hs m.c.toNat) (S.fr m).1 (S.fr m).2 else (au (S.PD m.c.toNat) S.mx 16 (S.ds m.c.toNat) (S.fr m).1 (S.fr m).2).e) else if m.k=5 then (if m.s=1 then eY m.n else fi (S.ds m.c.toNat) m.n) else if m.k=6 then (if m.s=1 then gK (S.hs m.c.toNat) else gI (S.ds m.c.toNat)) else if m.k=7 then (if m.s=1 then 0 else fZ S.mx 16 (S.ds m.c.toNat) m.n) else arE m.n
theorem dB (S:Ws) (k:Nat) (f:Fm):(S.toD2 k f).ds=cj S.ds k (au (S.PD k) S.mx 16 (S.ds k) f.1 f.2).s:=by
 unfold Ws.toD2
 split <;> rfl
theorem dC (S:Ws) (k:Nat) (f:Fm):(S.toD2 k f).hs=S.hs:=by
 unfold Ws.toD2
 split <;> rfl
theorem ab9 (S:Ws) (m:Mv):(S.act m).S.ds m.c.toNat=S.actDF m:=by
 unfold Ws.act Ws.actDF
 dsimp only
 by_cases h1:m.k=1
 ·rw[if_pos h1,if_pos h1]
  by_cases hs:m.s=1
  ·rw[if_pos hs,if_pos hs]
   first | rfl | exact ai _ _ _ | (unfold Ws.snd;dsimp only;rw[(aS _ _ _ _).2.1];rfl) | (unfold Ws.toH;dsimp only;split <;> rfl) | (unfold Ws.toD;dsimp only;rw[(aS _ _ _ _).2.1,dB];exact ai _ _ _)
  ·rw[if_neg hs,if_neg hs]
   first | rfl | exact ai _ _ _ | (unfold Ws.snd;dsimp only;rw[(aS _ _ _ _).2.1];rfl) | (unfold Ws.toH;dsimp only;split <;> rfl) | (unfold Ws.toD;dsimp only;rw[(aS _ _ _ _).2.1,dB];exact ai _ _ _)
 rw[if_neg h1,if_neg h1]
 by_cases h2:m.k=2
 ·rw[if_pos h2,if_pos h2]
  first | rfl | exact ai _ _ _ | (unfold Ws.snd;dsimp only;rw[(aS _ _ _ _).2.1];rfl) | (unfold Ws.toH;dsimp only;split <;> rfl) | (unfold Ws.toD;dsimp only;rw[(aS _ _ _ _).2.1,dB];exact ai _ _ _)
 rw[if_neg h2,if_neg h2]
 by_cases h3:m.k=3∨m.k=4
 ·rw[if_pos h3,if_pos h3]
  by_cases hs:m.s=1
  ·rw[if_pos hs,if_pos hs]
   first | rfl | exact ai _ _ _ | (unfold Ws.snd;dsimp only;rw[(aS _ _ _ _).2.1];rfl) | (unfold Ws.toH;dsimp only;split <;> rfl) | (unfold Ws.toD;dsimp only;rw[(aS _ _ _ _).2.1,dB];exact ai _ _ _)
  ·rw[if_neg hs,if_neg hs]
   first | rfl | exact ai _ _ _ | (unfold Ws.snd;dsimp only;rw[(aS _ _ _ _).2.1];rfl) | (unfold Ws.toH;dsimp only;split <;> rfl) | (unfold Ws.toD;dsimp only;rw[(aS _ _ _ _).2.1,dB];exact ai _ _ _)
 rw[if_neg h3,if_neg h3]
 by_cases h5:m.k=5
 ·rw[if_pos h5,if_pos h5]
  by_cases hs:m.s=1
  ·rw[if_pos hs,if_pos hs]
   first | rfl | exact ai _ _ _ | (unfold Ws.snd;dsimp only;rw[(aS _ _ _ _).2.1];rfl) | (unfold Ws.toH;dsimp only;split <;> rfl) | (unfold Ws.toD;dsimp only;rw[(aS _ _ _ _).2.1,dB];exact ai _ _ _)
  ·rw[if_neg hs,if_neg hs]
   first | rfl | exact ai _ _ _ | (unfold Ws.snd;dsimp only;rw[(aS _ _ _ _).2.1];rfl) | (unfold Ws.toH;dsimp only;split <;> rfl) | (unfold Ws.toD;dsimp only;rw[(aS _ _ _ _).2.1,dB];exact ai _ _ _)
 rw[if_neg h5,if_neg h5]
 by_cases h6:m.k=6
 ·rw[if_pos h6,if_pos h6]
  by_cases hs:m.s=1
  ·rw[if_pos hs,if_pos hs]
   first | rfl | exact ai _ _ _ | (unfold Ws.snd;dsimp only;rw[(aS _ _ _ _).2.1];rfl) | (unfold Ws.toH;dsimp only;split <;> rfl) | (unfold Ws.toD;dsimp only;rw[(aS _ _ _ _).2.1,dB];exact ai _ _ _)
  ·rw[if_neg hs,if_neg hs]
   first | rfl | exact ai _ _ _ | (unfold Ws.snd;dsimp only;rw[(aS _ _ _ _).2.1];rfl) | (unfold Ws.toH;dsimp only;split <;> rfl) | (unfold Ws.toD;dsimp only;rw[(aS _ _ _ _).2.1,dB];exact ai _ _ _)
 rw[if_neg h6,if_neg h6]
 by_cases h7:m.k=7
 ·rw[if_pos h7,if_pos h7]
  by_cases hs:m.s=1
  ·rw[if_pos hs,if_pos hs]
   first | rfl | exact ai _ _ _ | (unfold Ws.snd;dsimp only;rw[(aS _ _ _ _).2.1];rfl) | (unfold Ws.toH;dsimp only;split <;> rfl) | (unfold Ws.toD;dsimp only;rw[(aS _ _ _ _).2.1,dB];exact ai _ _ _)
  ·rw[if_neg hs,if_neg hs]
   first | rfl | exact ai _ _ _ | (unfold Ws.snd;dsimp only;rw[(aS _ _ _ _).2.1];rfl) | (unfold Ws.toH;dsimp only;split <;> rfl) | (unfold Ws.toD;dsimp only;rw[(aS _ _ _ _).2.1,dB];exact ai _ _ _)
 rw[if_neg h7,if_neg h7]
 first | rfl | exact ai _ _ _ | (unfold Ws.snd;dsimp only;rw[(aS _ _ _ _).2.1];rfl) | (unfold Ws.toH;dsimp only;split <;> rfl) | (unfold Ws.toD;dsimp only;rw[(aS _ _ _ _).2.1,dB];exact ai _ _ _)
theorem abX (S:Ws) (m:Mv):(S.act m).S.hs m.c.toNat=S.actHF m:=by
 unfold Ws.act Ws.actHF
 dsimp only
 by_cases h1:m.k=1
 ·rw[if_pos h1,if_pos h1]
  by_cases hs:m.s=1
  ·rw[if_pos hs,if_pos hs]
   first | rfl | exact ai _ _ _ | (unfold Ws.snd;dsimp only;rw[(aS _ _ _ _).2.2.1];exact ai _ _ _) | (unfold Ws.toH;dsimp only;split <;> exact ai _ _ _) | (unfold Ws.toD;dsimp only;rw[(aS _ _ _ _).2.2.1,dC])
  ·rw[if_neg hs,if_neg hs]
   first | rfl | exact ai _ _ _ | (unfold Ws.snd;dsimp only;rw[(aS _ _ _ _).2.2.1];exact ai _ _ _) | (unfold Ws.toH;dsimp only;split <;> exact ai _ _ _) | (unfold Ws.toD;dsimp only;rw[(aS _ _ _ _).2.2.1,dC])
 rw[if_neg h1,if_neg h1]
 by_cases h2:m.k=2
 ·rw[if_pos h2,if_pos h2]
  first | rfl | exact ai _ _ _ | (unfold Ws.snd;dsimp only;rw[(aS _ _ _ _).2.2.1];exact ai _ _ _) | (unfold Ws.toH;dsimp only;split <;> exact ai _ _ _) | (unfold Ws.toD;dsimp only;rw[(aS _ _ _ _).2.2.1,dC])
 rw[if_neg h2,if_neg h2]
 by_cases h3:m.k=3∨m.k=4
 ·rw[if_pos h3,if_pos h3]
  by_cases hs:m.s=1
  ·rw[if_pos hs,if_pos hs]
   first | rfl | exact ai _ _ _ | (unfold Ws.snd;dsimp only;rw[(aS _ _ _ _).2.2.1];exact ai _ _ _) | (unfold Ws.toH;dsimp only;split <;> exact ai _ _ _) | (unfold Ws.toD;dsimp only;rw[(aS _ _ _ _).2.2.1,dC])
  ·rw[if_neg hs,if_neg hs]
   first | rfl | exact ai _ _ _ | (unfold Ws.snd;dsimp only;rw[(aS _ _ _ _).2.2.1];exact ai _ _ _) | (unfold Ws.toH;dsimp only;split <;> exact ai _ _ _) | (unfold Ws.toD;dsimp only;rw[(aS _ _ _ _).2.2.1,dC])
 rw[if_neg h3,if_neg h3]
 by_cases h5:m.k=5
 ·rw[if_pos h5,if_pos h5]
  by_cases hs:m.s=1
  ·rw[if_pos hs,if_pos hs]
   first | rfl | exact ai _ _ _ | (unfold Ws.snd;dsimp only;rw[(aS _ _ _ _).2.2.1];exact ai _ _ _) | (unfold Ws.toH;dsimp only;split <;> exact ai _ _ _) | (unfold Ws.toD;dsimp only;rw[(aS _ _ _ _).2.2.1,dC])
  ·rw[if_neg hs,if_neg hs]
   first | rfl | exact ai _ _ _ | (unfold Ws.snd;dsimp only;rw[(aS _ _ _ _).2.2.1];exact ai _ _ _) | (unfold Ws.toH;dsimp only;split <;> exact ai _ _ _) | (unfold Ws.toD;dsimp only;rw[(aS _ _ _ _).2.2.1,dC])
 rw[if_neg h5,if_neg h5]
 by_cases h6:m.k=6
 ·rw[if_pos h6,if_pos h6]
  by_cases hs:m.s=1
  ·rw[if_pos hs,if_pos hs]
   first | rfl | exact ai _ _ _ | (unfold Ws.snd;dsimp only;rw[(aS _ _ _ _).2.2.1];exact ai _ _ _) | (unfold Ws.toH;dsimp only;split <;> exact ai _ _ _) | (unfold Ws.toD;dsimp only;rw[(aS _ _ _ _).2.2.1,dC])
  ·rw[if_neg hs,if_neg hs]
   first | rfl | exact ai _ _ _ | (unfold Ws.snd;dsimp only;rw[(aS _ _ _ _).2.2.1];exact ai _ _ _) | (unfold Ws.toH;dsimp only;split <;> exact ai _ _ _) | (unfold Ws.toD;dsimp only;rw[(aS _ _ _ _).2.2.1,dC])
 rw[if_neg h6,if_neg h6]
 by_cases h7:m.k=7
 ·rw[if_pos h7,if_pos h7]
  by_cases hs:m.s=1
  ·rw[if_pos hs,if_pos hs]
   first | rfl | exact ai _ _ _ | (unfold Ws.snd;dsimp only;rw[(aS _ _ _ _).2.2.1];exact ai _ _ _) | (unfold Ws.toH;dsimp only;split <;> exact ai _ _ _) | (unfold Ws.toD;dsimp only;rw[(aS _ _ _ _).2.2.1,dC])
  ·rw[if_neg hs,if_neg hs]
   first | rfl | exact ai _ _ _ | (unfold Ws.snd;dsimp only;rw[(aS _ _ _ _).2.2.1];exact ai _ _ _) | (unfold Ws.toH;dsimp only;split <;> exact ai _ _ _) | (unfold Ws.toD;dsimp only;rw[(aS _ _ _ _).2.2.1,dC])
 rw[if_neg h7,if_neg h7]
 first | rfl | exact ai _ _ _ | (unfold Ws.snd;dsimp only;rw[(aS _ _ _ _).2.2.1];exact ai _ _ _) | (unfold Ws.toH;dsimp only;split <;> exact ai _ _ _) | (unfold Ws.toD;dsimp only;rw[(aS _ _ _ _).2.2.1,dC])
theorem acc (S:Ws) (m:Mv):(S.act m).e=S.actEF m:=by
 unfold Ws.act Ws.actEF
 dsimp only
 by_cases h1:m.k=1
 ·rw[if_pos h1,if_pos h1]
  by_cases hs:m.s=1
  ·rw[if_pos hs,if_pos hs]
   try rfl
  ·rw[if_neg hs,if_neg hs]
   try rfl
 rw[if_neg h1,if_neg h1]
 by_cases h2:m.k=2
 ·rw[if_pos h2,if_pos h2]
  try rfl
 rw[if_neg h2,if_neg h2]
 by_cases h3:m.k=3∨m.k=4
 ·rw[if_pos h3,if_pos h3]
  by_cases hs:m.s=1
  ·rw[if_pos hs,if_pos hs]
   try rfl
  ·rw[if_neg hs,if_neg hs]
   try rfl
 rw[if_neg h3,if_neg h3]
 by_cases h5:m.k=5
 ·rw[if_pos h5,if_pos h5]
  by_cases hs:m.s=1
  ·rw[if_pos hs,if_pos hs]
   try rfl
  ·rw[if_neg hs,if_neg hs]
   try rfl
 rw[if_neg h5,if_neg h5]
 by_cases h6:m.k=6
 ·rw[if_pos h6,if_pos h6]
  by_cases hs:m.s=1
  ·rw[if_pos hs,if_pos hs]
   try rfl
  ·rw[if_neg hs,if_neg hs]
   try rfl
 rw[if_neg h6,if_neg h6]
 by_cases h7:m.k=7
 ·rw[if_pos h7,if_pos h7]
  by_cases hs:m.s=1
  ·rw[if_pos hs,if_pos hs]
   try rfl
  ·rw[if_neg hs,if_neg hs]
   try rfl
 rw[if_neg h7,if_neg h7]
 try rfl
theorem jA (S:Ws) {m:Mv} (hb:S.bad m=0):(S.play m).S.ds m.c.toNat=S.actDF m∧(S.play m).S.hs m.c.toNat=S.actHF m∧(S.play m).e=S.actEF m:=by
 have hp:S.play m=⟨(S.up.act m).e,(S.up.act m).i,(S.up.act m).S.note [oH (S.up.act m).S m.c.toNat,oD (S.up.act m).S m.c.toNat]⟩:=by
  unfold Ws.play
  rw[if_neg (fun q=>q hb)]
  rfl
 rw[hp]
 exact⟨ab9 S.up m,abX S.up m,acc S.up m⟩
theorem sU {S:Ws} (I:S.In) (K:S.Kn) {m:Mv} (hb:S.bad m=0) {j:Nat} (hj:j≠m.c.toNat):(S.play m).S.ds j=S.ds j∧(S.play m).S.hs j=S.hs j:=by
 have l:=Ws.Law.of hb
 have K':S.up.Kn:=⟨K.ph,K.pd,K.ha,K.da,K.mo,K.fb⟩
 have q:=kP K' (I.ih _ l.kn) (I.iv _ l.kn) l
 have hp:S.play m=⟨(S.up.act m).e,(S.up.act m).i,(S.up.act m).S.note [oH (S.up.act m).S m.c.toNat,oD (S.up.act m).S m.c.toNat]⟩:=by
  unfold Ws.play
  rw[if_neg (fun q=>q hb)]
  rfl
 rw[hp]
 exact⟨q.ds j hj,q.hs j hj⟩
theorem kS {S:Ws} (I:S.In) (K:S.Kn) (m:Mv):(S.play m).S.PH=S.PH∧(S.play m).S.PD=S.PD∧(S.play m).S.mx=S.mx:=by
 by_cases hb:S.bad m=0
 ·have l:=Ws.Law.of hb
  have K':S.up.Kn:=⟨K.ph,K.pd,K.ha,K.da,K.mo,K.fb⟩
  have q:=kP K' (I.ih _ l.kn) (I.iv _ l.kn) l
  have hp:S.play m=⟨(S.up.act m).e,(S.up.act m).i,(S.up.act m).S.note [oH (S.up.act m).S m.c.toNat,oD (S.up.act m).S m.c.toNat]⟩:=by
   unfold Ws.play
   rw[if_neg (fun q=>q hb)]
   rfl
  rw[hp]
  exact⟨q.PH,q.PD,q.mx⟩
 ·have hp:(S.play m).S=S:=by
   unfold Ws.play
   rw[if_pos hb]
  rw[hp]
  exact⟨rfl,rfl,rfl⟩
section
variable {P:Pm} {mx n:Nat} {s s':Sd}
end
end Go.Proofs.YtddahhlbpcbddaaGreat
namespace Go.Proofs.YtddahhlbpcbddaaGreat
open Tryz
open Go.RowKit Go.Maps
set_option linter.unusedVariables false
structure Enc (A:Array Value) (st ss nm sn dc:Nat) (lat:Int) (rq on:Bool):Prop where
 c0:A.toList[0]?=some (.int .i64 (st:Nat))
 c1:A.toList[1]?=some (.int .u32 (ss:Nat))
 c2:A.toList[2]?=some (.int .u32 (nm:Nat))
 c3:A.toList[3]?=some (.int .u32 (sn:Nat))
 c4:A.toList[4]?=some (.int .i64 (dc:Nat))
 c5:A.toList[5]?=some (.int .i64 lat)
 c6:A.toList[6]?=some (.bool rq)
 c7:A.toList[7]?=some (.bool on)
theorem tl (w:World) {A B:Array Value} (hs:A.size=9) (ho:A.all (·.oneCell')=true) (hs':B.size=9) (ho':B.all (·.oneCell')=true):∃ wy wz,(storeCells ⟨w.heap.size,0,none⟩ A.toList).run prog ((w.alloc (.cells dA 43)).alloc (.cells dA 43))=.ok () wy∧(storeCells ⟨w.heap.size+1,0,none⟩ B.toList).run prog wy=.ok () wz∧wz.rangeAt w.heap.size 0 A.toList∧wz.rangeAt (w.heap.size+1) 0 B.toList∧Below w.heap.size w wz:=by
 have z1:=iy w (.cells dA 43)
 have kq:=ay (w.alloc (.cells dA 43)) (.cells dA 43)
 have kp:((w.alloc (.cells dA 43)).alloc (.cells dA 43)).heap[w.heap.size]?=some (.cells dA 43 (0,0)):=(Below.heap_alloc _ _ _ (by omega)).trans (ay w _)
 have bW:Below w.heap.size w ((w.alloc (.cells dA 43)).alloc (.cells dA 43)):=az (az (Below.refl _ w) _) _
 rw[z1]at kq
 obtain⟨W,hW⟩:∃ z,(w.alloc (.cells dA 43)).alloc (.cells dA 43)=z:=⟨_,rfl⟩
 rw[hW]at kp kq bW ⊢
 have h1:W.there w.heap.size 0 A.size:=bJ kp (by rw[hs];rfl)
 have o1:=cE W w.heap.size 0 A.toList
 have r1:=World.rangeAt_setCells_same W w.heap.size 0 A.toList (by simpa using h1)
 have k1:=(o1.block (w.heap.size+1) (Array.getElem?_eq_some_iff.1 kq).1 (by simp)).trans kq
 have h2:(W.setCells w.heap.size 0 A.toList).there (w.heap.size+1) 0 B.size:=bJ k1 (by rw[hs'];rfl)
 have o2:=cE (W.setCells w.heap.size 0 A.toList) (w.heap.size+1) 0 B.toList
 have r2:=World.rangeAt_setCells_same (W.setCells w.heap.size 0 A.toList) (w.heap.size+1) 0 B.toList (by simpa using h2)
 have b1:=o1.below bW (by simp) bW.size
 refine⟨_,_,it h1 ho,it h2 ho',fun j v hv=>(World.cell?_of_block (a:=⟨w.heap.size,0+j,none⟩) (o2.block w.heap.size (Nat.lt_of_lt_of_le (Array.getElem?_eq_some_iff.1 kp).1 o1.size) (by simp))).trans (r1 j v hv),r2,o2.below b1 (fun k hk=>by simp at hk;omega) b1.size⟩
open Go.RowKit Go.Maps Go.Sort
section
variable {P:Pm}
end
end Go.Proofs.YtddahhlbpcbddaaGreat
namespace Go.Proofs.YtddahhlbpcbddaaGreat
open Tryz
open Go.RowKit Go.Maps
set_option linter.unusedVariables false
abbrev aca (A:Array Value) (s:Sh):Prop:=Enc A s.st s.ss s.nm s.sn s.dc s.v.lat (aq s.v) (aE s.v)
abbrev abZ (A:Array Value) (s:Sd):Prop:=Enc A s.st s.ss s.nm s.sn s.dc s.v.lat (aq s.v) (aE s.v)
def RwC (A hV dV:Array Value) (S:Ws) (m:Mv):Prop:=hV.size=9∧hV.all (·.oneCell')=true∧dV.size=9∧dV.all (·.oneCell')=true∧aca hV ((S.play m).S.hs m.c.toNat)∧abZ dV ((S.play m).S.ds m.c.toNat)∧A.toList[9]?=some (.int .i64 (S.play m).e)∧(∀ j v,hV.toList[j]?=some v→A.toList[11+j]?=some v)∧∀ j v,dV.toList[j]?=some v→A.toList[20+j]?=some v
theorem at9 {A:Array Value} {n:Nat} {v0 v1 v2 v3 v4 v5 v6 v7 v8:Value} (h0:A.toList[n+0]?=some v0) (h1:A.toList[n+1]?=some v1) (h2:A.toList[n+2]?=some v2) (h3:A.toList[n+3]?=some v3) (h4:A.toList[n+4]?=some v4) (h5:A.toList[n+5]?=some v5) (h6:A.toList[n+6]?=some v6) (h7:A.toList[n+7]?=some v7) (h8:A.toList[n+8]?=some v8):∀ j v,(#[v0,v1,v2,v3,v4,v5,v6,v7,v8]:Array Value).toList[j]?=some v→A.toList[n+j]?=some v:=fun j v hv=>by
 have hj:j<9:=(List.getElem?_eq_some_iff.1 hv).1
 have:j=0∨j=1∨j=2∨j=3∨j=4∨j=5∨j=6∨j=7∨j=8:=by omega
 rcases this with rfl | rfl | rfl | rfl | rfl | rfl | rfl | rfl | rfl
 ·exact h0.trans hv
 ·exact h1.trans hv
 ·exact h2.trans hv
 ·exact h3.trans hv
 ·exact h4.trans hv
 ·exact h5.trans hv
 ·exact h6.trans hv
 ·exact h7.trans hv
 ·exact h8.trans hv
theorem zQ {w0 w:World} {t:Nat→Thing} {L:Pw} {S:Ws} {i:Nat} (m:Mv) (d:Option Addr) (c:Nat) (h:PWn ev w0 t L w S) (F:Fre ev t i) (I:S.In) (ok:m.Ok) (hn:0<S.n) (R:Row8 w d m.l c m.b) (hd:∀ y,d=some y→0<m.l→y.block≠L.x) (hl:m.l≤140737488351232):Calls prog 12 #[ac L.x 0,.agg (aj m m.c d c)] w fun r w'=>∃ (A:Array Value) (E:Int),r=.returned (.tuple #[.agg A,.int .i64 E])∧A.size=29∧A.all (·.oneCell')=true∧Hid (E=S.bad m∧PWn ev w0 t L w' (S.play m).S∧(S.bad m=0→∃ hV dV,RwC A hV dV S m)):=by
 obtain⟨t1,L1,h1,hs,hx,he⟩:=h
 subst hs
 have F1:=F.els he
 have hP:=rP ev w0 w t1 L1 i m d c h1 F1 I ok hn R (fun y hy h0=>by rw[hx.x];exact hd y hy h0) hl
 rw[hx.x]at hP
 refine hP.mono ?_
 rintro r w' (⟨hb,rfl,H⟩ | ⟨hb,a',c',ah,ch,ad,cd,rfl,H⟩)
 ·refine⟨_,_,rfl,rfl,by kernel_rfl,rfl,?_,fun q=>absurd q hb⟩
  have hp:(L1.S.play m).S=L1.S:=by
   unfold Ws.play
   rw[if_pos hb]
  rw[hp]
  exact PWn.bind hx he H.out.1.n
 ·exact⟨_,_,rfl,rfl,by kernel_rfl,hb.symm,PWn.bind hx he (H.out.dropR F1),fun _=>⟨#[_,_,_,_,_,_,_,_,.slice ah _ ch],#[_,_,_,_,_,_,_,_,.slice ad _ cd],rfl,by kernel_rfl,rfl,by kernel_rfl,⟨rfl,rfl,rfl,rfl,rfl,rfl,rfl,rfl⟩,⟨rfl,rfl,rfl,rfl,rfl,rfl,rfl,rfl⟩,rfl,at9 (n:=11) rfl rfl rfl rfl rfl rfl rfl rfl rfl,at9 (n:=20) rfl rfl rfl rfl rfl rfl rfl rfl rfl⟩⟩
def Ek (F:Fm):Prop:=F.1=0∨DE F.2 F.1=0
theorem jv:Ek cV:=.inl rfl
theorem jn {k c s n f len:Nat} {bs:Nat→Nat} (hc:c<4294967296) (hs:s<4294967296) (hn:n<4294967296):Ek (cR k c s n f len bs):=by
 by_cases h:LW k c s n f len len=0
 ·right
  have hl:len≤8:=by have:=(fX h).2.2.2.1;omega
  have e:=(nE k c s n f len bs hc hs hn hl h).1
  have hF:cR k c s n f len bs=(15+len+4,PM.sl (fr k c s n f len bs) (15+len)):=if_pos h
  rw[hF]
  exact e
 ·left
  have hF:cR k c s n f len bs=cV:=if_neg h
  rw[hF]
  rfl
section
variable {P:Pm} {mx n:Nat} {s:Sd}
theorem gi (hP:Pok P) (hs:s.ss<4294967296) (k num fl len:Nat) (bs:Nat→Nat) (hn:num<4294967296):Ek (dI P s k num fl len bs):=jn hP.c hs hn
theorem ik (h:s.ss<4294967296):(bP s).ss<4294967296:=by
 unfold bP
 split
 ·split
  ·exact h
  ·show 0<4294967296
   decide
 ·exact h
theorem wl (hP:Pok P) (M:Mo mx n s) (hu:s.st≠6):Ek (bj P mx n s).f:=by
 have hv:=t7 (mx:=mx) (n:=n) (s:=s.ms) M.n10 (M.off hu) M.l0 M.mxl
 have hm:=M.mxl
 unfold bj
 generalize nx mx n s.ms.bs false s.ms=X at *
 split
 ·exact gi hP (by show 0<4294967296;decide) _ _ _ _ _ (by decide)
 ·split
  ·exact jv
  ·next e0=>
   have e0:X.e=0:=by simpa using e0
   refine gi hP ?_ _ _ _ _ _ (by decide)
   show X.v<4294967296
   have:=hv.1 e0
   omega
theorem ye (hP:Pok P) (M:Mo mx n s) (hs:s.ss<4294967296) (hu:s.st≠6):Ek (bV P mx n s).f:=by
 unfold bV
 split
 ·exact gi hP (ik hs) _ _ _ _ _ (by decide)
 ·split
  ·exact gi hP (ik hs) _ _ _ _ _ (by decide)
  ·exact wl hP M.odd (j3 hu)
theorem xx (hP:Pok P) (iv:Iv P s) (M:Mo mx n s) (hu:s.st≠6) (k ss num fl len:Nat) (bs:Nat→Nat):Ek (aR P mx n s k ss num fl len bs).f:=by
 have r:∀ x:Int,Ek (aN P s x).f:=fun x=>gi hP (ik iv.ss) _ _ _ _ _ (by decide)
 unfold aR
 split
 ·split
  ·exact ye hP M iv.ss hu
  ·exact r _
 ·split
  ·split
   ·refine gi hP ?_ _ _ _ _ _ (by decide)
    unfold bI
    split <;> exact iv.ss
   ·exact r _
  ·split
   ·refine gi hP ?_ _ _ _ _ _ (by decide)
    unfold cz
    split <;> exact iv.ss
   ·split
    ·next q=>
     refine gi hP iv.ss _ _ _ _ _ ?_
     have h1:=(iv.run q.2.1.2.1)
     have:=hP.n
     omega
    ·split
     ·refine gi hP ?_ _ _ _ _ _ hP.n
      show (aG (jh { s with nm:=P.n }) 80).ss<4294967296
      rw[(ej _ _).2.1]
      exact iv.ss
     ·exact r _
theorem yp (hP:Pok P) (iv:Iv P s) (M:Mo mx n s) (len:Nat) (bs:Nat→Nat):Ek (au P mx n s len bs).f:=by
 have hh:s.st≠6→Ek (bF P mx n s len bs).f:=by
  intro hu
  unfold bF
  split
  ·exact jv
  ·split
   ·exact jv
   ·split
    ·exact jv
    ·exact xx hP iv M hu _ _ _ _ _ _
 unfold au
 split
 ·exact jv
 ·next hu=>
  split
  ·exact hh hu
  ·exact hh hu
end
theorem uB (s:Sh):(aY s).ss=s.ss∧(((aY s).st=s.st∧(aY s).sn=s.sn)∨(aY s).st=1):=by
 unfold aY
 split
 ·exact⟨rfl,.inl ⟨rfl,rfl⟩⟩
 ·split
  ·exact⟨rfl,.inl ⟨rfl,rfl⟩⟩
  ·refine⟨?_,.inr rfl⟩
   show (if s.st=4 then bf { s with ms:=s.ms+1 } 131 else { s with ms:=s.ms+1 }).ss=s.ss
   split
   ·exact (cX _ _).2.1
   ·rfl
theorem xo {P:Pm} {s:Sh} (hP:Pok P) (ih:Ih P s):Ek (aJ P s):=by
 unfold aJ
 split
 ·exact jv
 ·next h5=>
  obtain⟨e1,e2⟩:=uB s
  have hs:(aY s).ss<4294967296:=by rw[e1];exact ih.ss
  unfold bD
  split
  ·exact jn hP.c (by decide) (by decide)
  ·split
   ·exact jn hP.c hs (by decide)
   ·split
    ·exact jn hP.c hs (by decide)
    ·next h1 h2 h3=>
     have hsn:(aY s).sn+1<4294967296:=by
      rcases e2 with ⟨a,b⟩ | a
      ·rw[b]
       have q1:=ih.st1
       have q5:=ih.st5
       exact ih.sentY hP (by omega)
      ·exact absurd a h1
     split
     ·exact jn hP.c hs hsn
     ·exact jn hP.c hs hsn
def Ws.Bv (S:Ws):Prop:=∀ f,f ∈ S.bg→DE f.2 f.1=0
theorem zr {S:Ws} (h:S.Bv) (k s:Nat) {f:Fm} (hf:Ek f):(S.put k s f).Bv:=by
 unfold Ws.put
 split
 ·exact h
 ·next h0=>
  intro g hg
  rcases List.mem_append.1 hg with q | q
  ·exact h g q
  ·obtain rfl:=List.mem_singleton.1 q
   rcases hf with e | e
   ·exact absurd e h0
   ·exact e
theorem su (S:Ws) (k:Nat) (f:Fm):(S.toD2 k f).bg=S.bg:=by
 unfold Ws.toD2
 split <;> rfl
structure Ws.In' (S:Ws):Prop where
 ih:∀ k,k<S.n→Ih (S.PH k) (S.hs k)
 iv:∀ k,k<S.n→Iv (S.PD k) (S.ds k)
theorem abx {S:Ws} {m:Mv} (h:S.Bv) (K:S.Kn) (I:S.In') (hk:m.c.toNat<S.n):(S.act m).S.Bv:=by
 unfold Ws.act
 dsimp only
 split
 ·split
  ·exact h
  ·exact h
 ·split
  ·exact zr (S:=S.setH _ _) h _ _ (xo (K.ph _ hk) (I.ih _ hk))
  ·split
   ·split
    ·unfold Ws.toH
     dsimp only
     split
     ·exact h
     ·exact h
    ·unfold Ws.toD
     dsimp only
     refine zr (S:=S.toD2 _ _) (fun f hf=>h f ?_) _ _ (yp (K.pd _ hk) (I.iv _ hk) (K.mo _ hk) _ _)
     rw[su]at hf
     exact hf
   ·split
    ·split
     ·exact h
     ·exact h
    ·split
     ·split
      ·exact h
      ·exact h
     ·split
      ·split
       ·exact h
       ·exact h
      ·exact h
theorem aap {S:Ws} {m:Mv} (h:S.Bv) (K:S.Kn) (I:S.In):(S.play m).S.Bv:=by
 by_cases hb:S.bad m=0
 ·have l:=Ws.Law.of hb
  have hp:(S.play m).S=(S.up.act m).S.note [oH (S.up.act m).S m.c.toNat,oD (S.up.act m).S m.c.toNat]:=by
   unfold Ws.play
   rw[if_neg (fun q=>q hb)]
   rfl
  rw[hp]
  have K':S.up.Kn:=⟨K.ph,K.pd,K.ha,K.da,K.mo,K.fb⟩
  have h':S.up.Bv:=h
  have hk:m.c.toNat<S.up.n:=l.kn
  have I':S.up.In':=⟨I.ih,I.iv⟩
  exact abx (m:=m) h' K' I' hk
 ·have hp:(S.play m).S=S:=by
   unfold Ws.play
   rw[if_pos hb]
  rw[hp]
  exact h
end Go.Proofs.YtddahhlbpcbddaaGreat
namespace Go.Proofs.YtddahhlbpcbddaaGreat
open Tryz
open Go.RowKit Go.Maps
theorem lQ (w:World) (o:Array Value) (wx:World) (hb:Below (w.alloc (.cells o 39)).heap.size (w.alloc (.cells o 39)) wx) (i:Nat):wx.cell? ⟨w.heap.size,i,none⟩=o[i]?:=by
 rw[hb.cell (p:=⟨w.heap.size,i,none⟩) (by simp)]
 exact ae _ _ _ _ _ _ (ay _ _)
theorem kE (w:World) (o:Array Value) (i:Nat) (wx:World) (hb:Below (w.alloc (.cells o 39)).heap.size (w.alloc (.cells o 39)) wx):wx.frozen? ⟨w.heap.size,i,none⟩=false:=by
 rw[hb.frozen (p:=⟨w.heap.size,i,none⟩) (by simp)]
 simp
theorem vh (m:Mv) (d:Option Addr) (e:Nat) (w:World) (hr:Row8 w d m.l e m.b) (hlen:m.l≤140737488351232):Calls prog 11 #[.agg (aj m m.c d e)] w fun r w'=>∃ a' c',r=.returned (.agg (aj m m.c a' c'))∧Hid (Row8 w' a' m.l c' m.b∧Below w.heap.size w w'∧∀ y,a'=some y→0<m.l→w.heap.size≤y.block):=by
 obtain⟨i0,hi,hz0,hz1,hz2⟩:=info_parts co
 have hbd:=yK
 have hX:=fun wx hb=>lQ w (aj m m.c d e) wx hb
 have hXf:=fun i wx hb=>kE w (aj m m.c d e) i wx hb
 obtain⟨wa,hwa⟩:∃ x,x=w.alloc (.cells (aj m m.c d e) 39):=⟨_,rfl⟩
 rw[← hwa]at hX hXf
 have hA:Below w.heap.size w wa:=by rw[hwa];exact (Below.refl _ _).alloc (Nat.le_refl _) _
 have hAs:wa.heap.size=w.heap.size+1:=by rw[hwa];simp
 have hY:=fun wx hb=>lQ wa #[.int .i64 0,.int .i64 0,.int .i64 0,.int .i64 0,.int .i64 0,.int .u32 0,.int .i64 0,.bool false,.slice none 0 0] wx hb
 have hYf:=fun i wx hb=>kE wa #[.int .i64 0,.int .i64 0,.int .i64 0,.int .i64 0,.int .i64 0,.int .u32 0,.int .i64 0,.bool false,.slice none 0 0] i wx hb
 obtain⟨wb,hwb⟩:∃ x,x=wa.alloc (.cells #[.int .i64 0,.int .i64 0,.int .i64 0,.int .i64 0,.int .i64 0,.int .u32 0,.int .i64 0,.bool false,.slice none 0 0] 39):=⟨_,rfl⟩
 rw[← hwb]at hY hYf
 have hB:Below wa.heap.size wa wb:=by rw[hwb];exact (Below.refl _ _).alloc (Nat.le_refl _) _
 have hBs:wb.heap.size=w.heap.size+1+1:=by rw[hwb,hwa];simp
 have hC:Below wb.heap.size wb (wb.alloc (.cells #[] 5)):=(Below.refl _ _).alloc (Nat.le_refl _) _
 have O0:(wb.alloc (.cells #[] 5)).ownsRow wb.heap.size 5 1 (.slice (af wb.heap.size 0) 0 0) 0 (CB m.b 0):=World.ownsRow_made wb #[] 0 (Nat.le_refl _) (Nat.zero_le _) rfl
 have hszC:=hC.size
 have R0:=((hr.below hA).below hB).below hC
 rw[hAs]at hY hYf
 go_enter func11,ntmps11
 go_upto_region 1 with fail
 try rw[← hwa]
 try rw[← hwb]
 have H0:Hid (_):=And.intro hwa (And.intro hwb (And.intro hAs hBs))
 clear hwa hwb
 have x8:(wb.alloc (.cells #[] 5)).cell? ⟨w.heap.size,8,none⟩=some (.slice d m.l e):=hX (wb.alloc (.cells #[] 5)) (hB.trans (hC.mono (by omega))) 8
 clear hAs hBs
 go_wp2_with (at_builtin;refine aM rfl (.tmp 3) (.tmp 5) 37 rfl wb.heap.size 5 i0 (.int .u8 0) underlying37 hi hz0 hz1 hz2 rfl _ 0 _ rfl O0 d m.l e m.b rfl R0 (by unfold maxLen;omega) (by omega) hszC ?_)
 intro v2 w2 hown2 hgrow2
 have hbel2:Below wb.heap.size wb w2:=hC.grown hgrow2 hszC (fun j hj=>(O0.lt j hj).1)
 rw[show CB m.b 0=[] from rfl,List.nil_append]at hown2
 have hlt:w.heap.size<wb.heap.size∧w.heap.size+1<wb.heap.size:=by have:=H0.out;omega
 have hbelA:Below wa.heap.size wa w2:=hB.trans (hbel2.mono (by have:=H0.out;omega))
 have x0:w2.cell? ⟨w.heap.size,0,none⟩=some ((.int .i64 m.k)):=hX w2 hbelA 0
 have x1:w2.cell? ⟨w.heap.size,1,none⟩=some ((.int .i64 m.c)):=hX w2 hbelA 1
 have x2:w2.cell? ⟨w.heap.size,2,none⟩=some ((.int .i64 m.s)):=hX w2 hbelA 2
 have x3:w2.cell? ⟨w.heap.size,3,none⟩=some ((.int .i64 m.f)):=hX w2 hbelA 3
 have x4:w2.cell? ⟨w.heap.size,4,none⟩=some ((.int .i64 m.a)):=hX w2 hbelA 4
 have x5:w2.cell? ⟨w.heap.size,5,none⟩=some ((.int .u32 (m.w:Nat))):=hX w2 hbelA 5
 have x6:w2.cell? ⟨w.heap.size,6,none⟩=some ((.int .i64 m.n)):=hX w2 hbelA 6
 have x7:w2.cell? ⟨w.heap.size,7,none⟩=some ((.bool m.h)):=hX w2 hbelA 7
 have x8:w2.cell? ⟨w.heap.size,8,none⟩=some ((.slice d m.l e)):=hX w2 hbelA 8
 have y0:w2.cell? ⟨w.heap.size+1,0,none⟩=some (.int .i64 0):=hY w2 hbel2 0
 have y1:w2.cell? ⟨w.heap.size+1,1,none⟩=some (.int .i64 0):=hY w2 hbel2 1
 have y2:w2.cell? ⟨w.heap.size+1,2,none⟩=some (.int .i64 0):=hY w2 hbel2 2
 have y3:w2.cell? ⟨w.heap.size+1,3,none⟩=some (.int .i64 0):=hY w2 hbel2 3
 have y4:w2.cell? ⟨w.heap.size+1,4,none⟩=some (.int .i64 0):=hY w2 hbel2 4
 have y5:w2.cell? ⟨w.heap.size+1,5,none⟩=some (.int .u32 0):=hY w2 hbel2 5
 have y6:w2.cell? ⟨w.heap.size+1,6,none⟩=some (.int .i64 0):=hY w2 hbel2 6
 have y7:w2.cell? ⟨w.heap.size+1,7,none⟩=some (.bool false):=hY w2 hbel2 7
 have y8:w2.cell? ⟨w.heap.size+1,8,none⟩=some (.slice none 0 0):=hY w2 hbel2 8
 have xf:=fun i=>hXf i w2 hbelA
 have yf:=fun i=>hYf i w2 hbel2
 obtain⟨a2,c2,rfl,R2⟩:=bc hown2 hr.byte
 have HR:Hid (w2.ownsRow wb.heap.size 5 1 (.slice a2 m.l c2) m.l (CB m.b m.l)∧Below wb.heap.size wb w2):=⟨hown2,hbel2⟩
 clear hgrow2 O0 R0 hC hszC hX hY hXf hYf hown2 R2 hbel2 hbelA hbd
 go_wp2_with fail
 refine bodyPost_ret (v:=.agg (aj m m.c a2 c2)) (by simp[results,results11,go_sem,y0,y1,y2,y3,y4,y5,y6,y7,y8]) rfl ⟨a2,c2,rfl,?_,?_,?_⟩
 ·obtain⟨a3,c3,e,R3⟩:=bc (ownsRow_setCell_below (ownsRow_setCell_below (ownsRow_setCell_below (ownsRow_setCell_below (ownsRow_setCell_below (ownsRow_setCell_below (ownsRow_setCell_below (ownsRow_setCell_below (ownsRow_setCell_below (ownsRow_setCell_below HR.out.1 (a:=⟨w.heap.size,8,none⟩) hlt.1 _) (a:=⟨w.heap.size+1,0,none⟩) hlt.2 _) (a:=⟨w.heap.size+1,1,none⟩) hlt.2 _) (a:=⟨w.heap.size+1,2,none⟩) hlt.2 _) (a:=⟨w.heap.size+1,3,none⟩) hlt.2 _) (a:=⟨w.heap.size+1,4,none⟩) hlt.2 _) (a:=⟨w.heap.size+1,5,none⟩) hlt.2 _) (a:=⟨w.heap.size+1,6,none⟩) hlt.2 _) (a:=⟨w.heap.size+1,7,none⟩) hlt.2 _) (a:=⟨w.heap.size+1,8,none⟩) hlt.2 _) hr.byte
  simp only[Value.slice.injEq,true_and]at e
  obtain⟨rfl,rfl⟩:=e
  exact R3
 ·have hb:Below w.heap.size w w2:=(hA.trans (hB.mono (by have:=H0.out;omega))).trans (HR.out.2.mono (by omega))
  exact ((((((((((hb.setCell (p:=⟨w.heap.size,8,none⟩) (Nat.le_refl _) _).setCell (p:=⟨w.heap.size+1,0,none⟩) (Nat.le_succ _) _).setCell (p:=⟨w.heap.size+1,1,none⟩) (Nat.le_succ _) _).setCell (p:=⟨w.heap.size+1,2,none⟩) (Nat.le_succ _) _).setCell (p:=⟨w.heap.size+1,3,none⟩) (Nat.le_succ _) _).setCell (p:=⟨w.heap.size+1,4,none⟩) (Nat.le_succ _) _).setCell (p:=⟨w.heap.size+1,5,none⟩) (Nat.le_succ _) _).setCell (p:=⟨w.heap.size+1,6,none⟩) (Nat.le_succ _) _).setCell (p:=⟨w.heap.size+1,7,none⟩) (Nat.le_succ _) _).setCell (p:=⟨w.heap.size+1,8,none⟩) (Nat.le_succ _) _)
 ·intro y hy hn
  rcases HR.out.1.2 with ⟨e,_⟩ | ⟨g,cap,cur,e,hg,_⟩
  ·simp only[Value.slice.injEq]at e
   rw[e.1]at hy
   cases hy
  ·simp only[Value.slice.injEq]at e
   rw[e.1]at hy
   cases hy
   have:=hlt.1
   show w.heap.size≤g
   omega
set_option linter.unusedVariables false
theorem yH (S:Ws) (l:List Fa):(S.note l).bg=S.bg:=rfl
theorem wZ (S:Ws) (l:List Fa):(S.note l).mv=S.mv:=rfl
theorem cT {P:Program} {ops:Array Oper} {rest:List Oper} {op:Oper} {a:Act} {w:World} {Q:Exit→Act→World→Prop} (hw:Region.wanted op (yielded ops a.tmps)=true) (ty:TypeId) (x:Operand) (ho:op.op=.load ty x)
  (b o:Nat) (hx:a.eval x=ac b o) (A:Array Value) (d:TypeDesc) (hc:w.rangeAt b o A.toList)
  (hu:P.underlying ty=some d) (hd:d.isRow=true) (hi:(P.info? ty).map (·.size)=some A.size)
  (h:wpList P ops Q rest (a.put op.dst (.agg A)) w):wpList P ops Q (op :: rest) a w:=
 jC hw ty x ho b o hx A.toList d hc hu hd (by simpa using hi) (by simpa using h)
theorem un {w:World} {q:Nat} (h:w.heap[q]?=some (.cells aT 90 (0,0))):PqRow w (af q 0) 1 (fun _=>P0.q):=fun i hi=>by
 obtain rfl:i=0:=by omega
 refine⟨q,0,rfl,fun j u hu=>?_⟩
 rw[show 0+0*5+j=j by omega,ae w q j _ _ _ h]
 have e:(P0.q).cs.toArray=aT:=by rfl
 rw[← e]
 simpa using hu
theorem aby:ckE 1 1 50 (fun _=>P0.q) (fun _=>P0.q)=0:=by decide
theorem aan (q0 q1:Nat) (w:World) (h0:w.heap[q0]?=some (.cells aT 90 (0,0))) (h1:w.heap[q1]?=some (.cells aT 90 (0,0))):Calls prog 8 #[.agg #[.slice (af q0 0) 1 1,.slice (af q1 0) 1 1,.int .u32 50]] w fun r w'=>∃ L:Pw,r=.returned (.tuple #[ac L.x 0,.int .i64 0])∧Hid (PW ev w w' (iB L) L∧L.S=s0 P0 P0 50):=
 wC (fun _=>P0) (fun _=>P0) q0 0 1 q1 0 1 1 50 (fun _ _=>oK) (fun _ _=>oK) (by decide) (by decide) (by decide) (by decide) (by decide) (by decide) w (un h0) (un h1) aby
theorem iP (w:World) {A:Array Value} (hs:A.size=29) (ho:A.all (·.oneCell')=true):∃ wz,(storeCells ⟨w.heap.size,0,none⟩ A.toList).run prog (w.alloc (.cells dw 45))=.ok () wz∧wz.rangeAt w.heap.size 0 A.toList∧Below w.heap.size w wz:=by
 have kr:=ay w (.cells dw 45)
 have hth:(w.alloc (.cells dw 45)).there w.heap.size 0 A.size:=bJ kr (by rw[hs];rfl)
 exact⟨_,it hth ho,World.rangeAt_setCells_same _ w.heap.size 0 A.toList (by simpa using hth),(cE _ w.heap.size 0 A.toList).below (az (Below.refl _ _) _) (by simp) (by rw[iy];omega)⟩
theorem pB (w:World):Calls prog 10 #[] w fun r w'=>r=.returned (.bool true)∧Below w.heap.size w w':=by
 have hLo:=aaU w
 go_enter func10,ntmps10
 go_wp2_with fail
 refine hLo.mono ?_
 rintro r w1 ⟨q0,q1,rfl,H1⟩
 clear hLo
 have hN:Calls prog 8 #[.agg #[.slice (af q0 0) 1 1,.slice (af q1 0) 1 1,.int .u32 50]] w1 fun r w'=>∃ L:Pw,r=.returned (.tuple #[ac L.x 0,.int .i64 0])∧Hid (PW ev w1 w' (iB L) L∧L.S=s0 P0 P0 50):=aan q0 q1 w1 H1.out.1 H1.out.2.1
 go_wp2_with fail
 refine hN.mono ?_
 rintro r w2 ⟨L,rfl,H2⟩
 clear hN
 have hP1:=aw1 H2.out.1 (gR L) H2.out.2
 obtain⟨X,hX⟩:∃ y,L.x=y:=⟨_,rfl⟩
 rw[hX]at hP1 ⊢
 have HX:Hid (L.x=X):=hX
 clear hX
 go_wp2_with fail
 refine hP1.mono ?_
 rintro r w3 ⟨A,rfl,hsA,hoA,hA10,H3⟩
 clear hP1
 obtain⟨wz,hst1,hrg1,hbl1⟩:=iP w3 hsA hoA
 have cb:wz.cell? ⟨w3.heap.size,10,none⟩=some (.int .i64 0):=hrg1 10 _ hA10
 have lb:=World.block_lt_of_cell? wz _ cb
 obtain⟨ob,hob⟩:∃ ob,wz.heap[w3.heap.size]?=some ob:=⟨_,Array.getElem?_eq_getElem lb⟩
 have F0:=gR L
 have hp2:=H3.out.layL hbl1 (i:=2*0+1) (F0 0 (Nat.le_refl _)).1 (l:=[(w3.heap.size,ob)]) (fun p hp=>by
  simp only[List.mem_cons,List.not_mem_nil,or_false]at hp
  subst hp
  exact hob) (fun p hp=>by
  simp only[List.mem_cons,List.not_mem_nil,or_false]at hp
  subst hp
  exact Nat.le_refl _)
 have F1:Fre ev (aV (iB L) (2*0+1) (fI [(w3.heap.size,ob)])) 1:=F0.put _
 have hP2:=aw2 (T:=aS1) a1.2.2 hp2 F1
 rw[HX.out]at hP2
 have HB:Hid (_):=And.intro cb (And.intro hob (And.intro hbl1 F0))
 clear hrg1 hbl1 cb lb hob hp2 F1 F0
 go_wp2_with fail
 refine hP2.mono ?_
 rintro r w4 ⟨A2,rfl,hsA2,hoA2,hB10,hB20,H4⟩
 clear hP2 hst1
 obtain⟨wy,hst2,hrg2,hbl2⟩:=iP w4 hsA2 hoA2
 have c1:wy.cell? ⟨w4.heap.size,10,none⟩=some (.int .i64 1):=hrg2 10 _ hB10
 have c2:wy.cell? ⟨w4.heap.size,20,none⟩=some (.int .i64 2):=hrg2 20 _ hB20
 obtain⟨cb,hob,hbl1,F0⟩:=HB.out
 have hb4:=H4.out.box (q:=2*0+1) (F0 0 (Nat.le_refl _)).1 (al _ _ _) _ (List.mem_cons_self ..)
 have hb5:=(hbl2.block w3.heap.size (Array.getElem?_eq_some_iff.1 hb4).1).trans hb4
 have c0:wy.cell? ⟨w3.heap.size,10,none⟩=some (.int .i64 0):=(World.cell?_of_block (w:=wz) (a:=⟨w3.heap.size,10,none⟩) (hb5.trans hob.symm)).trans cb
 have hp5:=H4.out.below hbl2
 have hFr:=sb hp5
 have hMo:=zC hp5
 obtain⟨_,_,e1,e2,_⟩:=a3 (T:=aS1) a1.2.2
 rw[HX.out,yH,e1]at hFr
 rw[HX.out,wZ,e2]at hMo
 have hbw:Below w1.heap.size w1 wy:=by
  obtain⟨t9,L9,h9,_⟩:=hp5
  exact h9.1.bel
 have HE:Hid (Below w.heap.size w wy):=H1.out.2.2.trans (hbw.mono H1.out.2.2.size)
 clear hrg2 hbl2 cb hob hbl1 F0 hb4 hb5 hp5 e1 e2 hbw HB H4 H3 H2 HX
 go_wp2_with fail
 refine hFr.mono ?_
 rintro r w6 ⟨rfl,rfl⟩
 go_wp2_with fail
 refine hMo.mono ?_
 rintro r w6 ⟨rfl,rfl⟩
 go_wp2_with fail
 go_ret
 exact⟨rfl,HE.out⟩
def je:Value→Nat
 | .int _ i=>i.toNat
 | _=>0
theorem PWn.lay2 {e:Nat→Nat} {w0 w w1:World} {t:Nat→Thing} {L:Pw} {S:Ws} (h:PWn e w0 t L w1 S) (b:Below w1.heap.size w1 w) {i j:Nat} (hi:∀ q,i≠e q) (hj:∀ q,j≠e q) (hij:i≠j) {a a':Option Addr} {n n' c c':Nat} {bs bs':Nat→Nat} (R:Row8 w a n c bs) (R':Row8 w a' n' c' bs') (na:∀ y,a=some y→0<n→w1.heap.size≤y.block) (nb:∀ y,a'=some y→0<n'→w1.heap.size≤y.block) (ap:∀ y z,a=some y→a'=some z→0<n→0<n'→y.block≠z.block):PWn e w0 (aV (aV t i (eV a n c bs)) j (eV a' n' c' bs')) L w S:=by
 obtain⟨t1,L1,h1,hs,hx,he⟩:=h
 have h2:=h1.lay b hi R na
 have h3:=h2.layD hj R' (fun y hy h0=>Nat.le_trans h1.1.bel.size (nb y hy h0)) (fun y hy h0 k hk hm=>by
  by_cases z:k=i
  ·subst z
   rw[al]at hm
   have hm:y.block ∈ (if 0<n then a.toList.map (·.block) else []):=hm
   split at hm
   ·next q=>
    simp only[List.mem_map,Option.mem_toList]at hm
    obtain⟨y',hy',e'⟩:=hm
    exact ap y' y hy' hy q h0 e'
   ·cases hm
  ·rw[ak _ _ z]at hm
   have:=h1.1.lt k _ hm
   have:=nb y hy h0
   omega)
 exact⟨_,L1,h3,hs,hx,(he.putB _ _).putB _ _⟩
theorem qR (x:Int):0≤IntKind.u64.wrap x:=by
 have e:IntKind.u64.wrap x=x % 18446744073709551616:=by simp[IntKind.wrap,IntKind.signed,IntKind.bits]
 rw[e]
 omega
theorem wn (x:Int):∃ y:Nat,wrap64 (1+wrap64 ((IntKind.u64.wrap x).tmod 2))=((y:Nat):Int)∧(y=1∨y=2):=by
 have h:=qR x
 generalize IntKind.u64.wrap x=u at *
 rw[Int.tmod_eq_emod_of_nonneg h]
 exact⟨(1+u % 2).toNat,by unfold wrap64;omega,by omega⟩
theorem aaE {n:Nat} (h:n≤300):IntKind.u64.wrap ((n:Nat):Int)=((n:Nat):Int):=by
 have e:IntKind.u64.wrap ((n:Nat):Int)=((n:Nat):Int) % 18446744073709551616:=by simp[IntKind.wrap,IntKind.signed,IntKind.bits]
 rw[e]
 omega
theorem xg (x:Int) {n:Nat} (h0:0<n) (h:n≤300):0≤IntKind.i64.wrap ((IntKind.u64.wrap x).tmod ((n:Nat):Int))∧IntKind.i64.wrap ((IntKind.u64.wrap x).tmod ((n:Nat):Int)) < ((n:Nat):Int):=by
 have hu:=qR x
 generalize IntKind.u64.wrap x=u at *
 rw[Int.tmod_eq_emod_of_nonneg hu]
 have h1:=Int.emod_nonneg u (b:=((n:Nat):Int)) (by omega)
 have h2:=Int.emod_lt_of_pos u (b:=((n:Nat):Int)) (by omega)
 generalize u % ((n:Nat):Int)=v at *
 have e:IntKind.i64.wrap v=v:=by
  have q:v % 18446744073709551616=v:=by omega
  simp[IntKind.wrap,IntKind.signed,IntKind.bits,q]
  omega
 rw[e]
 exact⟨h1,h2⟩
theorem yd {S:Ws} {k:Nat} (I:S.In) (K:S.Kn) {m:Mv} (h:S.mv≤k):(S.play m).S.mv≤k+1:=by
 by_cases hb:S.bad m=0
 ·have l:=Ws.Law.of hb
  have K':S.up.Kn:=⟨K.ph,K.pd,K.ha,K.da,K.mo,K.fb⟩
  have q:=(kP K' (I.ih _ l.kn) (I.iv _ l.kn) l).mv
  have hp:(S.play m).S.mv=(S.up.act m).S.mv:=by
   unfold Ws.play
   rw[if_neg (fun q=>q hb)]
   rfl
  rw[hp,q]
  show S.mv+1≤k+1
  omega
 ·have hp:(S.play m).S=S:=by
   unfold Ws.play
   rw[if_pos hb]
  rw[hp]
  omega
theorem uS {w0 w:World} {t:Nat→Thing} {L:Pw} {S:Ws} {i:Nat} (m:Mv) (d:Option Addr) (c:Nat) (h:PWn ev w0 t L w S) (F:Fre ev t i) (I:S.In) (ok:m.Ok) (hn:0<S.n) (R:Row8 w d m.l c m.b) (hd:∀ y,d=some y→0<m.l→y.block≠L.x) (hl:m.l≤140737488351232):Calls prog 12 #[ac L.x 0,.agg (aj m m.c d c)] w fun r w'=>∃ (A:Array Value) (E:Int),r=.returned (.tuple #[.agg A,.int .i64 E])∧A.size=29∧A.all (·.oneCell')=true∧Hid (E=S.bad m∧PWn ev w0 t L w' (S.play m).S∧(S.bad m=0→A.toList[9]?=some (.int .i64 (S.play m).e)∧A.toList[10]?=some (.int .i64 (S.play m).i)∧∃ (hV dV:Array Value) (ah:Option Addr) (ch:Nat) (ad:Option Addr) (cd:Nat),hV=#[Value.int .i64 (((S.play m).S.hs m.c.toNat).st:Nat),Value.int .u32 (((S.play m).S.hs m.c.toNat).ss:Nat),Value.int .u32 (((S.play m).S.hs m.c.toNat).nm:Nat),Value.int .u32 (((S.play m).S.hs m.c.toNat).sn:Nat),Value.int .i64 (((S.play m).S.hs m.c.toNat).dc:Nat),Value.int .i64 ((S.play m).S.hs m.c.toNat).v.lat,Value.bool (aq ((S.play m).S.hs m.c.toNat).v),Value.bool (aE ((S.play m).S.hs m.c.toNat).v),Value.slice ah ((S.play m).S.PH m.c.toNat).i ch]∧dV=#[Value.int .i64 (((S.play m).S.ds m.c.toNat).st:Nat),Value.int .u32 (((S.play m).S.ds m.c.toNat).ss:Nat),Value.int .u32 (((S.play m).S.ds m.c.toNat).nm:Nat),Value.int .u32 (((S.play m).S.ds m.c.toNat).sn:Nat),Value.int .i64 (((S.play m).S.ds m.c.toNat).dc:Nat),Value.int .i64 ((S.play m).S.ds m.c.toNat).v.lat,Value.bool (aq ((S.play m).S.ds m.c.toNat).v),Value.bool (aE ((S.play m).S.ds m.c.toNat).v),Value.slice ad ((S.play m).S.PD m.c.toNat).o cd]∧(∀ j v,hV.toList[j]?=some v→A.toList[11+j]?=some v)∧(∀ j v,dV.toList[j]?=some v→A.toList[20+j]?=some v)∧Row8 w' ah ((S.play m).S.PH m.c.toNat).i ch (dy ((S.play m).S.hs m.c.toNat).v)∧Row8 w' ad ((S.play m).S.PD m.c.toNat).o cd (dy ((S.play m).S.ds m.c.toNat).v))):=by
 obtain⟨t1,L1,h1,hs,hx,he⟩:=h
 subst hs
 have F1:=F.els he
 have hP:=rP ev w0 w t1 L1 i m d c h1 F1 I ok hn R (fun y hy h0=>by rw[hx.x];exact hd y hy h0) hl
 rw[hx.x]at hP
 refine hP.mono ?_
 rintro r w' (⟨hb,rfl,H⟩ | ⟨hb,a',c',ah,ch,ad,cd,rfl,H⟩)
 ·refine⟨_,_,rfl,rfl,by kernel_rfl,rfl,?_,fun q=>absurd q hb⟩
  have hp:(L1.S.play m).S=L1.S:=by
   unfold Ws.play
   rw[if_pos hb]
  rw[hp]
  exact PWn.bind hx he H.out.1.n
 ·have r1:=H.out.rowq (q:=2 * (i+2)+1) (fun j=>by unfold ev;omega) (by unfold yo;rw[ak _ _ (by omega)];exact al _ _ _)
  have r2:=H.out.rowq (q:=2 * (i+3)+1) (fun j=>by unfold ev;omega) (by unfold yo;exact al _ _ _)
  exact⟨_,_,rfl,rfl,by kernel_rfl,hb.symm,PWn.bind hx he (H.out.dropR F1),fun _=>⟨rfl,rfl,_,_,ah,ch,ad,cd,rfl,rfl,at9 (n:=11) rfl rfl rfl rfl rfl rfl rfl rfl rfl,at9 (n:=20) rfl rfl rfl rfl rfl rfl rfl rfl rfl,r1,r2⟩⟩
end Go.Proofs.YtddahhlbpcbddaaGreat
