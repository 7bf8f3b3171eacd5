/- Part 37: contracts that the proof rests on. -/
import Derived.Test.YtfgnmadnmjdbiaaGreatPkU35
set_option maxHeartbeats 64000000
set_option maxRecDepth 100000
namespace Go.Proofs.YtfgnmadnmjdbiaaGreat
open Go.RowKit Go.Maps
set_option linter.unusedVariables false
theorem wG (S:Ws) (m:Mv):(S.play m).S.n=S.n:=by
 unfold Ws.play
 split
 ·rfl
 ·exact wi _ _
def Ws.actDF (S:Ws) (m:Mv):Sd:=if m.k=1 then (if m.s=1 then S.ds m.c.toNat else cZ (S.PD m.c.toNat) (S.ds m.c.toNat) m.l m.b m.h) else if m.k=2 then S.ds m.c.toNat else if m.k=3∨m.k=4 then (if m.s=1 then S.ds m.c.toNat else (au (S.PD m.c.toNat) S.mx 16 (S.ds m.c.toNat) (S.fr m).1 (S.fr m).2).s) else if m.k=5 then (if m.s=1 then S.ds m.c.toNat else eG (S.PD m.c.toNat) (S.ds m.c.toNat) m.n) else if m.k=6 then (if m.s=1 then S.ds m.c.toNat else cQ (S.ds m.c.toNat)) else if m.k=7 then (if m.s=1 then S.ds m.c.toNat else cC S.mx 16 (S.ds m.c.toNat) m.n) else { S.ds m.c.toNat with ms:=jZ (S.ds m.c.toNat).ms m.n }
def Ws.actHF (S:Ws) (m:Mv):Sh:=if m.k=1 then (if m.s=1 then cX (S.PH m.c.toNat) (S.hs m.c.toNat) m.l m.b m.h else S.hs m.c.toNat) else if m.k=2 then aB (S.PH m.c.toNat) (S.hs m.c.toNat) else if m.k=3∨m.k=4 then (if m.s=1 then cw (S.PH m.c.toNat) (S.hs m.c.toNat) (S.fr m).1 (S.fr m).2 else S.hs m.c.toNat) else if m.k=5 then (if m.s=1 then eu (S.PH m.c.toNat) (S.hs m.c.toNat) m.n else S.hs m.c.toNat) else if m.k=6 then (if m.s=1 then fc (S.hs m.c.toNat) else S.hs m.c.toNat) else if m.k=7 then (if m.s=1 then fF (S.hs m.c.toNat) else S.hs m.c.toNat) else S.hs m.c.toNat
def Ws.actEF (S:Ws) (m:Mv):Int:=if m.k=1 then (if m.s=1 then eJ (S.PH m.c.toNat) m.l else eM (S.PD m.c.toNat) (S.ds m.c.toNat) m.l) else if m.k=2 then gh (S.hs m.c.toNat) else if m.k=3∨m.k=4 then (if m.s=1 then di (S.PH m.c.toNat) (S.hs m.c.toNat) (S.fr m).1 (S.fr m).2 else (au (S.PD m.c.toNat) S.mx 16 (S.ds m.c.toNat) (S.fr m).1 (S.fr m).2).e) else if m.k=5 then (if m.s=1 then eA m.n else ej (S.ds m.c.toNat) m.n) else if m.k=6 then (if m.s=1 then fG (S.hs m.c.toNat) else fI (S.ds m.c.toNat)) else if m.k=7 then (if m.s=1 then 0 else fA S.mx 16 (S.ds m.c.toNat) m.n) else xQ m.n
theorem cY (S:Ws) (k:Nat) (f:Fm):(S.toD2 k f).ds=ep S.ds k (au (S.PD k) S.mx 16 (S.ds k) f.1 f.2).s:=by
 unfold Ws.toD2
 split <;> rfl
theorem dh (S:Ws) (k:Nat) (f:Fm):(S.toD2 k f).hs=S.hs:=by
 unfold Ws.toD2
 split <;> rfl
theorem zS (S:Ws) (m:Mv):(S.act m).S.ds m.c.toNat=S.actDF m:=by
 unfold Ws.act Ws.actDF
 dsimp only
 by_cases h1:m.k=1
 ·rw[if_pos h1,if_pos h1]
  by_cases hs:m.s=1
  ·rw[if_pos hs,if_pos hs]
   first | rfl | exact ai _ _ _ | (unfold Ws.snd;dsimp only;rw[(aM _ _ _ _).2.1];rfl) | (unfold Ws.toH;dsimp only;split <;> rfl) | (unfold Ws.toD;dsimp only;rw[(aM _ _ _ _).2.1,cY];exact ai _ _ _)
  ·rw[if_neg hs,if_neg hs]
   first | rfl | exact ai _ _ _ | (unfold Ws.snd;dsimp only;rw[(aM _ _ _ _).2.1];rfl) | (unfold Ws.toH;dsimp only;split <;> rfl) | (unfold Ws.toD;dsimp only;rw[(aM _ _ _ _).2.1,cY];exact ai _ _ _)
 rw[if_neg h1,if_neg h1]
 by_cases h2:m.k=2
 ·rw[if_pos h2,if_pos h2]
  first | rfl | exact ai _ _ _ | (unfold Ws.snd;dsimp only;rw[(aM _ _ _ _).2.1];rfl) | (unfold Ws.toH;dsimp only;split <;> rfl) | (unfold Ws.toD;dsimp only;rw[(aM _ _ _ _).2.1,cY];exact ai _ _ _)
 rw[if_neg h2,if_neg h2]
 by_cases h3:m.k=3∨m.k=4
 ·rw[if_pos h3,if_pos h3]
  by_cases hs:m.s=1
  ·rw[if_pos hs,if_pos hs]
   first | rfl | exact ai _ _ _ | (unfold Ws.snd;dsimp only;rw[(aM _ _ _ _).2.1];rfl) | (unfold Ws.toH;dsimp only;split <;> rfl) | (unfold Ws.toD;dsimp only;rw[(aM _ _ _ _).2.1,cY];exact ai _ _ _)
  ·rw[if_neg hs,if_neg hs]
   first | rfl | exact ai _ _ _ | (unfold Ws.snd;dsimp only;rw[(aM _ _ _ _).2.1];rfl) | (unfold Ws.toH;dsimp only;split <;> rfl) | (unfold Ws.toD;dsimp only;rw[(aM _ _ _ _).2.1,cY];exact ai _ _ _)
 rw[if_neg h3,if_neg h3]
 by_cases h5:m.k=5
 ·rw[if_pos h5,if_pos h5]
  by_cases hs:m.s=1
  ·rw[if_pos hs,if_pos hs]
   first | rfl | exact ai _ _ _ | (unfold Ws.snd;dsimp only;rw[(aM _ _ _ _).2.1];rfl) | (unfold Ws.toH;dsimp only;split <;> rfl) | (unfold Ws.toD;dsimp only;rw[(aM _ _ _ _).2.1,cY];exact ai _ _ _)
  ·rw[if_neg hs,if_neg hs]
   first | rfl | exact ai _ _ _ | (unfold Ws.snd;dsimp only;rw[(aM _ _ _ _).2.1];rfl) | (unfold Ws.toH;dsimp only;split <;> rfl) | (unfold Ws.toD;dsimp only;rw[(aM _ _ _ _).2.1,cY];exact ai _ _ _)
 rw[if_neg h5,if_neg h5]
 by_cases h6:m.k=6
 ·rw[if_pos h6,if_pos h6]
  by_cases hs:m.s=1
  ·rw[if_pos hs,if_pos hs]
   first | rfl | exact ai _ _ _ | (unfold Ws.snd;dsimp only;rw[(aM _ _ _ _).2.1];rfl) | (unfold Ws.toH;dsimp only;split <;> rfl) | (unfold Ws.toD;dsimp only;rw[(aM _ _ _ _).2.1,cY];exact ai _ _ _)
  ·rw[if_neg hs,if_neg hs]
   first | rfl | exact ai _ _ _ | (unfold Ws.snd;dsimp only;rw[(aM _ _ _ _).2.1];rfl) | (unfold Ws.toH;dsimp only;split <;> rfl) | (unfold Ws.toD;dsimp only;rw[(aM _ _ _ _).2.1,cY];exact ai _ _ _)
 rw[if_neg h6,if_neg h6]
 by_cases h7:m.k=7
 ·rw[if_pos h7,if_pos h7]
  by_cases hs:m.s=1
  ·rw[if_pos hs,if_pos hs]
   first | rfl | exact ai _ _ _ | (unfold Ws.snd;dsimp only;rw[(aM _ _ _ _).2.1];rfl) | (unfold Ws.toH;dsimp only;split <;> rfl) | (unfold Ws.toD;dsimp only;rw[(aM _ _ _ _).2.1,cY];exact ai _ _ _)
  ·rw[if_neg hs,if_neg hs]
   first | rfl | exact ai _ _ _ | (unfold Ws.snd;dsimp only;rw[(aM _ _ _ _).2.1];rfl) | (unfold Ws.toH;dsimp only;split <;> rfl) | (unfold Ws.toD;dsimp only;rw[(aM _ _ _ _).2.1,cY];exact ai _ _ _)
 rw[if_neg h7,if_neg h7]
 first | rfl | exact ai _ _ _ | (unfold Ws.snd;dsimp only;rw[(aM _ _ _ _).2.1];rfl) | (unfold Ws.toH;dsimp only;split <;> rfl) | (unfold Ws.toD;dsimp only;rw[(aM _ _ _ _).2.1,cY];exact ai _ _ _)
theorem zt (S:Ws) (m:Mv):(S.act m).S.hs m.c.toNat=S.actHF m:=by
 unfold Ws.act Ws.actHF
 dsimp only
 by_cases h1:m.k=1
 ·rw[if_pos h1,if_pos h1]
  by_cases hs:m.s=1
  ·rw[if_pos hs,if_pos hs]
   first | rfl | exact ai _ _ _ | (unfold Ws.snd;dsimp only;rw[(aM _ _ _ _).2.2.1];exact ai _ _ _) | (unfold Ws.toH;dsimp only;split <;> exact ai _ _ _) | (unfold Ws.toD;dsimp only;rw[(aM _ _ _ _).2.2.1,dh])
  ·rw[if_neg hs,if_neg hs]
   first | rfl | exact ai _ _ _ | (unfold Ws.snd;dsimp only;rw[(aM _ _ _ _).2.2.1];exact ai _ _ _) | (unfold Ws.toH;dsimp only;split <;> exact ai _ _ _) | (unfold Ws.toD;dsimp only;rw[(aM _ _ _ _).2.2.1,dh])
 rw[if_neg h1,if_neg h1]
 by_cases h2:m.k=2
 ·rw[if_pos h2,if_pos h2]
  first | rfl | exact ai _ _ _ | (unfold Ws.snd;dsimp only;rw[(aM _ _ _ _).2.2.1];exact ai _ _ _) | (unfold Ws.toH;dsimp only;split <;> exact ai _ _ _) | (unfold Ws.toD;dsimp only;rw[(aM _ _ _ _).2.2.1,dh])
 rw[if_neg h2,if_neg h2]
 by_cases h3:m.k=3∨m.k=4
 ·rw[if_pos h3,if_pos h3]
  by_cases hs:m.s=1
  ·rw[if_pos hs,if_pos hs]
   first | rfl | exact ai _ _ _ | (unfold Ws.snd;dsimp only;rw[(aM _ _ _ _).2.2.1];exact ai _ _ _) | (unfold Ws.toH;dsimp only;split <;> exact ai _ _ _) | (unfold Ws.toD;dsimp only;rw[(aM _ _ _ _).2.2.1,dh])
  ·rw[if_neg hs,if_neg hs]
   first | rfl | exact ai _ _ _ | (unfold Ws.snd;dsimp only;rw[(aM _ _ _ _).2.2.1];exact ai _ _ _) | (unfold Ws.toH;dsimp only;split <;> exact ai _ _ _) | (unfold Ws.toD;dsimp only;rw[(aM _ _ _ _).2.2.1,dh])
 rw[if_neg h3,if_neg h3]
 by_cases h5:m.k=5
 ·rw[if_pos h5,if_pos h5]
  by_cases hs:m.s=1
  ·rw[if_pos hs,if_pos hs]
   first | rfl | exact ai _ _ _ | (unfold Ws.snd;dsimp only;rw[(aM _ _ _ _).2.2.1];exact ai _ _ _) | (unfold Ws.toH;dsimp only;split <;> exact ai _ _ _) | (unfold Ws.toD;dsimp only;rw[(aM _ _ _ _).2.2.1,dh])
  ·rw[if_neg hs,if_neg hs]
   first | rfl | exact ai _ _ _ | (unfold Ws.snd;dsimp only;rw[(aM _ _ _ _).2.2.1];exact ai _ _ _) | (unfold Ws.toH;dsimp only;split <;> exact ai _ _ _) | (unfold Ws.toD;dsimp only;rw[(aM _ _ _ _).2.2.1,dh])
 rw[if_neg h5,if_neg h5]
 by_cases h6:m.k=6
 ·rw[if_pos h6,if_pos h6]
  by_cases hs:m.s=1
  ·rw[if_pos hs,if_pos hs]
   first | rfl | exact ai _ _ _ | (unfold Ws.snd;dsimp only;rw[(aM _ _ _ _).2.2.1];exact ai _ _ _) | (unfold Ws.toH;dsimp only;split <;> exact ai _ _ _) | (unfold Ws.toD;dsimp only;rw[(aM _ _ _ _).2.2.1,dh])
  ·rw[if_neg hs,if_neg hs]
   first | rfl | exact ai _ _ _ | (unfold Ws.snd;dsimp only;rw[(aM _ _ _ _).2.2.1];exact ai _ _ _) | (unfold Ws.toH;dsimp only;split <;> exact ai _ _ _) | (unfold Ws.toD;dsimp only;rw[(aM _ _ _ _).2.2.1,dh])
 rw[if_neg h6,if_neg h6]
 by_cases h7:m.k=7
 ·rw[if_pos h7,if_pos h7]
  by_cases hs:m.s=1
  ·rw[if_pos hs,if_pos hs]
   first | rfl | exact ai _ _ _ | (unfold Ws.snd;dsimp only;rw[(aM _ _ _ _).2.2.1];exact ai _ _ _) | (unfold Ws.toH;dsimp only;split <;> exact ai _ _ _) | (unfold Ws.toD;dsimp only;rw[(aM _ _ _ _).2.2.1,dh])
  ·rw[if_neg hs,if_neg hs]
   first | rfl | exact ai _ _ _ | (unfold Ws.snd;dsimp only;rw[(aM _ _ _ _).2.2.1];exact ai _ _ _) | (unfold Ws.toH;dsimp only;split <;> exact ai _ _ _) | (unfold Ws.toD;dsimp only;rw[(aM _ _ _ _).2.2.1,dh])
 rw[if_neg h7,if_neg h7]
 first | rfl | exact ai _ _ _ | (unfold Ws.snd;dsimp only;rw[(aM _ _ _ _).2.2.1];exact ai _ _ _) | (unfold Ws.toH;dsimp only;split <;> exact ai _ _ _) | (unfold Ws.toD;dsimp only;rw[(aM _ _ _ _).2.2.1,dh])
theorem zJ (S:Ws) (m:Mv):(S.act m).e=S.actEF m:=by
 unfold Ws.act Ws.actEF
 dsimp only
 by_cases h1:m.k=1
 ·rw[if_pos h1,if_pos h1]
  by_cases hs:m.s=1
  ·rw[if_pos hs,if_pos hs]
   try rfl
  ·rw[if_neg hs,if_neg hs]
   try rfl
 rw[if_neg h1,if_neg h1]
 by_cases h2:m.k=2
 ·rw[if_pos h2,if_pos h2]
  try rfl
 rw[if_neg h2,if_neg h2]
 by_cases h3:m.k=3∨m.k=4
 ·rw[if_pos h3,if_pos h3]
  by_cases hs:m.s=1
  ·rw[if_pos hs,if_pos hs]
   try rfl
  ·rw[if_neg hs,if_neg hs]
   try rfl
 rw[if_neg h3,if_neg h3]
 by_cases h5:m.k=5
 ·rw[if_pos h5,if_pos h5]
  by_cases hs:m.s=1
  ·rw[if_pos hs,if_pos hs]
   try rfl
  ·rw[if_neg hs,if_neg hs]
   try rfl
 rw[if_neg h5,if_neg h5]
 by_cases h6:m.k=6
 ·rw[if_pos h6,if_pos h6]
  by_cases hs:m.s=1
  ·rw[if_pos hs,if_pos hs]
   try rfl
  ·rw[if_neg hs,if_neg hs]
   try rfl
 rw[if_neg h6,if_neg h6]
 by_cases h7:m.k=7
 ·rw[if_pos h7,if_pos h7]
  by_cases hs:m.s=1
  ·rw[if_pos hs,if_pos hs]
   try rfl
  ·rw[if_neg hs,if_neg hs]
   try rfl
 rw[if_neg h7,if_neg h7]
 try rfl
theorem dI (S:Ws) {m:Mv} (hb:S.bad m=0):(S.play m).S.ds m.c.toNat=S.actDF m∧(S.play m).S.hs m.c.toNat=S.actHF m∧(S.play m).e=S.actEF m:=by
 have hp:S.play m=⟨(S.up.act m).e,(S.up.act m).i,(S.up.act m).S.note [oH (S.up.act m).S m.c.toNat,oD (S.up.act m).S m.c.toNat]⟩:=by
  unfold Ws.play
  rw[if_neg (fun q=>q hb)]
  rfl
 rw[hp]
 exact⟨zS S.up m,zt S.up m,zJ S.up m⟩
theorem tT {S:Ws} (I:S.In) (K:S.Kn) (m:Mv):(S.play m).S.PH=S.PH∧(S.play m).S.PD=S.PD∧(S.play m).S.mx=S.mx:=by
 by_cases hb:S.bad m=0
 ·have l:=Ws.Law.of hb
  have K':S.up.Kn:=⟨K.ph,K.pd,K.ha,K.da,K.mo,K.fb⟩
  have q:=lp K' (I.ih _ l.kn) (I.iv _ l.kn) l
  have hp:S.play m=⟨(S.up.act m).e,(S.up.act m).i,(S.up.act m).S.note [oH (S.up.act m).S m.c.toNat,oD (S.up.act m).S m.c.toNat]⟩:=by
   unfold Ws.play
   rw[if_neg (fun q=>q hb)]
   rfl
  rw[hp]
  exact⟨q.PH,q.PD,q.mx⟩
 ·have hp:(S.play m).S=S:=by
   unfold Ws.play
   rw[if_pos hb]
  rw[hp]
  exact⟨rfl,rfl,rfl⟩
section
variable {P:Pm} {mx n:Nat} {s s':Sd}
end
end Go.Proofs.YtfgnmadnmjdbiaaGreat
namespace Go.Proofs.YtfgnmadnmjdbiaaGreat
open Go.RowKit Go.Maps
set_option linter.unusedVariables false
section
variable {P:Pm} {mx n:Nat} {s:Sd}
end
theorem uB (S:Ws) (k:Nat) (f:Fm):(S.toD2 k f).bg=S.bg:=by
 unfold Ws.toD2
 split <;> rfl
end Go.Proofs.YtfgnmadnmjdbiaaGreat
namespace Go.Proofs.YtfgnmadnmjdbiaaGreat
open Go.RowKit
theorem yD {c:Nat} (hc:c≠0):LW ((1:Nat):Int) c (0:Nat) (0:Nat) (0:Nat) (4:Nat) (4:Nat)=0:=by
 unfold LW
 rw[if_neg (by decide),if_neg (by omega),if_neg (by decide),if_neg (by decide),if_neg (by decide),if_neg (by decide)]
theorem yB {c s:Nat} (hc:c≠0) (hs:s≠0):LW ((2:Nat):Int) c s (0:Nat) (0:Nat) (4:Nat) (4:Nat)=0:=by
 unfold LW
 rw[if_neg (by decide),if_neg (by omega),if_neg (by decide),if_neg ?_,if_neg (by decide),if_neg (by decide)]
 show ¬ cR 2 s=false
 unfold cR
 simp
 exact hs
theorem yg {c s:Nat} (hc:c≠0) (hs:s≠0):LW ((3:Nat):Int) c s (0:Nat) (0:Nat) (0:Nat) (0:Nat)=0:=by
 unfold LW
 rw[if_neg (by decide),if_neg (by omega),if_neg (by decide),if_neg ?_,if_neg (by decide),if_neg (by decide)]
 show ¬ cR 3 s=false
 unfold cR
 simp
 exact hs
theorem yQ {c s n f len:Nat} (hc:c≠0) (hs:s≠0) (hn:n≠0) (hf:f≤15) (h1:1≤len) (h8:len≤8):LW ((4:Nat):Int) c s n f len len=0:=by
 have e1:uo ((4:Nat):Int)=15:=by decide
 have e2:j9 ((4:Nat):Int)=true:=by decide
 have e3:eo ((4:Nat):Int) len=decide ((1:Int)≤len∧(len:Int)≤8):=rfl
 unfold LW
 rw[if_neg (by decide),if_neg (by omega),if_neg ?_,if_neg ?_,if_neg ?_,if_neg ?_]
 ·rw[e1];omega
 ·rw[e2];simp;exact hn
 ·show ¬ cR 4 s=false
  unfold cR
  simp
  exact hs
 ·rw[e3];simp;omega
theorem rR (s:Sh):aS s≤15:=by
 unfold aS
 split <;> split <;> split <;> split <;> omega
structure Told (F:Fm) (k c s n f len:Nat) (bs:Nat→Nat):Prop where
 de:DE F.2 F.1=0
 ln:F.1-19=len
 k:F.2 0=k
 c:aT F.2 1=c
 s:aT F.2 5=s
 n:aT F.2 9=n
 f:F.2 13=f
 bs:∀ j,j<len→F.2 (15+j)=bs j
theorem dP {k c s n f len:Nat} {bs:Nat→Nat} (hc:c<4294967296) (hs:s<4294967296) (hn:n<4294967296) (h:LW k c s n f len len=0):Told (dj k c s n f len bs) k c s n f len bs:=by
 have hl:len≤8:=by have:=(gu h).2.2.2.1;omega
 obtain⟨e1,e2,e3,e4,e5,e6,e7⟩:=pR k c s n f len bs hc hs hn hl h
 have hF:dj k c s n f len bs=(15+len+4,PM.sl (fr k c s n f len bs) (15+len)):=if_pos h
 rw[hF]
 exact⟨e1,by show 15+len+4-19=len;omega,e2,e3,e4,e5,e6,e7⟩
section
variable {P:Pm} {s:Sh}
end
end Go.Proofs.YtfgnmadnmjdbiaaGreat
namespace Go.Proofs.YtfgnmadnmjdbiaaGreat
open Go.RowKit Go.Maps
set_option linter.unusedVariables false
section
variable {P:Pm} {mx n:Nat} {s:Sd}
end
end Go.Proofs.YtfgnmadnmjdbiaaGreat
namespace Go.Proofs.YtfgnmadnmjdbiaaGreat
open Go.RowKit
theorem wF {c s:Nat} (hc:c≠0) (hs:s≠0):LW ((17:Nat):Int) c s (0:Nat) (0:Nat) (4:Nat) (4:Nat)=0:=by
 unfold LW
 rw[if_neg (by decide),if_neg (by omega),if_neg (by decide),if_neg ?_,if_neg (by decide),if_neg (by decide)]
 show ¬ cR 17 s=false
 unfold cR
 simp
 exact hs
theorem xy {c s:Nat} (hc:c≠0) (hs:s≠0):LW ((18:Nat):Int) c s (0:Nat) (0:Nat) (0:Nat) (0:Nat)=0:=by
 unfold LW
 rw[if_neg (by decide),if_neg (by omega),if_neg (by decide),if_neg ?_,if_neg (by decide),if_neg (by decide)]
 show ¬ cR 18 s=false
 unfold cR
 simp
 exact hs
theorem wV {c s:Nat} (hc:c≠0) (hs:s≠0):LW ((19:Nat):Int) c s (0:Nat) (0:Nat) (0:Nat) (0:Nat)=0:=by
 unfold LW
 rw[if_neg (by decide),if_neg (by omega),if_neg (by decide),if_neg ?_,if_neg (by decide),if_neg (by decide)]
 show ¬ cR 19 s=false
 unfold cR
 simp
 exact hs
theorem xB {c s n f len:Nat} (hc:c≠0) (hs:s≠0) (hn:n≠0) (hf:f≤15) (h1:1≤len) (h8:len≤8):LW ((20:Nat):Int) c s n f len len=0:=by
 have e1:uo ((20:Nat):Int)=15:=by decide
 have e2:j9 ((20:Nat):Int)=true:=by decide
 have e3:eo ((20:Nat):Int) len=decide ((1:Int)≤len∧(len:Int)≤8):=rfl
 unfold LW
 rw[if_neg (by decide),if_neg (by omega),if_neg ?_,if_neg ?_,if_neg ?_,if_neg ?_]
 ·rw[e1];omega
 ·rw[e2];simp;exact hn
 ·show ¬ cR 20 s=false
  unfold cR
  simp
  exact hs
 ·rw[e3];simp;omega
theorem gn {P:Pm} {s:Sh} {F:Fm} {k c S n f len:Nat} {bs:Nat→Nat} (t:Told F k c S n f len bs):di P s F.1 F.2=cL P s k c S n len (fun i=>F.2 (15+i)) ∧
  (cL P s k c S n len (fun i=>F.2 (15+i))=0→cw P s F.1 F.2=bE s k S n f (fun i=>F.2 (15+i)))∧(cL P s k c S n len (fun i=>F.2 (15+i))≠0→cw P s F.1 F.2=eI s (cL P s k c S n len (fun i=>F.2 (15+i)))):=by
 have e:di P s F.1 F.2=cL P s k c S n len (fun i=>F.2 (15+i)):=by unfold di;rw[if_neg (by rw[t.de];omega),t.k,t.c,t.s,t.n,t.ln]
 refine⟨e,fun h=>?_,fun h=>?_⟩
 ·unfold cw;rw[e,if_neg (by omega),t.k,t.s,t.n,t.f]
 ·unfold cw;rw[e,if_pos h]
open Go.RowKit Go.Maps
set_option linter.unusedVariables false
theorem fq {P:Pm} {mx n:Nat} {s:Sd} {F:Fm} {k S num f len:Nat} {bs:Nat→Nat} (t:Told F k P.c S num f len bs) (hk:fH k=true) (hu:s.st≠6) (he:(aL P mx n s k S num f len (fun i=>F.2 (15+i))).e=0):au P mx n s F.1 F.2=aL P mx n s k S num f len (fun i=>F.2 (15+i)):=by
 have hh:bu P mx n s F.1 F.2=aL P mx n s k S num f len (fun i=>F.2 (15+i)):=by
  unfold bu
  rw[if_neg (by rw[t.de];omega),if_neg (by rw[t.k,hk];simp),if_neg (by rw[t.c];omega),t.k,t.s,t.n,t.f,t.ln]
 unfold au
 rw[if_neg hu,hh,if_neg (by rintro ⟨e,_⟩;exact e he)]
theorem jW {P:Pm} {F:Fm} {k c S n f:Nat} (t:Told F k c S n f 4 (iY P)):aN P 4 (fun i=>F.2 (15+i))=true:=decide_eq_true (ic _ _ 4 t.bs)
structure Pj (h:Sh) (d:Sd) (k a:Nat):Prop where
 hst:h.st=k
 dst:d.st=k
 hss:h.ss=if k=1 then 0 else 1
 dss:d.ss=if k=1 then 0 else 1
 hnm:h.nm=a
 hsn:h.sn=a
 dnm:d.nm=a
 dsn:d.sn=a
 wt:h.wt=false
 m0:k=1→d.ms=M0
structure Ex (P:Pm) (mx:Nat) (h:Sh) (d:Sd) (F:Fm) (R:Rs) (h2:Sh) (k a:Nat):Prop where
 f1:F.1≠0
 re:R.e=0
 rf:R.f.1≠0
 he:di P (aB P h) R.f.1 R.f.2=0
 pj:Pj h2 R.s (if k=4 then 4 else k+1) (if k=4 then a+1 else a)
 hl:h2.v.lat=h.v.lat
 dl:R.s.v.lat=d.v.lat
 hv:h2.v.fr=(h.v.lat != 0)
 dv:2≤k→R.s.v.fr=(d.v.lat != 0)
 ha:h2.ap=h.ap∧h2.hd=h.hd
 da:R.s.ap=d.ap∧R.s.hd=d.hd
 on:k=4→∃ fh fd:Nat→Nat,(∀ i,i<P.o→fh i=h.ap i)∧(∀ i,i<P.i→fd i=d.ap i)∧R.s.v=bH (cJ (bk d.v) (decide (8≤aS h))) fh∧h2.v=bH (cJ (bk h.v) (decide (8≤cr R.s))) fd
 hdc:h2.dc=0
 ddc:2≤k→R.s.dc=0
theorem eQ {F:Fm} {k c s n f len:Nat} {bs:Nat→Nat} (t:Told F k c s n f len bs):F.1≠0:=fun e=>by
 have h:=t.de
 unfold DE at h
 rw[if_pos (by omega)]at h
 cases h
theorem pu {s:Sh} (h:s.hd=false):decide (8≤aS s)=false:=by
 unfold aS
 rw[h]
 apply decide_eq_false
 split <;> split <;> split <;> simp
theorem oG {s:Sd} (h:s.hd=false):decide (8≤cr s)=false:=by
 unfold cr
 rw[h]
 apply decide_eq_false
 split <;> split <;> split <;> simp
theorem qX (s:Sd):cr s≤15:=by
 unfold cr
 split <;> split <;> split <;> split <;> omega
theorem gT (v:Vs) (bs:Nat→Nat):(bH v bs).lat=v.lat:=by unfold bH;split <;> rfl
section
variable {P:Pm} {mx:Nat} {h:Sh} {d:Sd}
theorem nh {s:Sh} (h:s.wt=false):bT s=s:=by
 unfold bT
 rw[if_pos (.inr h)]
theorem xn (hP:Pok P) (hmx:mx≠0) (hmx2:mx<4294967296) {k a:Nat} (J:Pj h d k a) (hk:k=1∨k=2∨k=3∨k=4) (ha:if k=4 then a+1<P.n else a=0) :
  gh h=0∧Ex P mx h d (az P h) (au P mx 16 d (az P h).1 (az P h).2) (cw P (aB P h) (au P mx 16 d (az P h).1 (az P h).2).f.1 (au P mx 16 d (az P h).1 (az P h).2).f.2) k a:=by
 have hc:=hP.c
 have c0:=hP.c0
 have h5:h.st≠5:=by rw[J.hst];omega
 have hn:=hP.n
 refine⟨by unfold gh;rw[if_neg h5],?_⟩
 have eS:aB P h={ (a7 P h).1 with wt:=true }:=by unfold aB;rw[if_neg h5,nh J.wt]
 have eF:az P h=(a7 P h).2:=by unfold az;rw[if_neg h5,nh J.wt]
 have hu:d.st≠6:=by rw[J.dst];omega
 rcases hk with rfl | rfl | rfl | rfl
 ·-- the wish,and the offer
  have en:a7 P h=(h,dj 1 P.c 0 0 0 4 (iY P)):=by unfold a7;rw[if_pos J.hst]
  have t:Told (az P h) 1 P.c 0 0 0 4 (iY P):=by rw[eF,en];exact dP hc (by omega) (by omega) (yD c0)
  obtain⟨n1,n2⟩:=wv mx hmx
  have hb:bI P mx 16 d=⟨{ ck { d with ms:=(nx mx 16 M0.bs false M0).s } 2 with ss:=1 },eY P { ck { d with ms:=(nx mx 16 M0.bs false M0).s } 2 with ss:=1 },0⟩:=by
   rw[oR P mx 16 J.dst]
   unfold bi
   rw[J.m0 rfl,if_neg (by rw[n1];decide),if_neg (by rw[n1];decide),n2]
  have ht:aL P mx 16 d 1 0 0 0 4 (fun i=>(az P h).2 (15+i))=⟨{ ck { d with ms:=(nx mx 16 M0.bs false M0).s } 2 with ss:=1 },eY P { ck { d with ms:=(nx mx 16 M0.bs false M0).s } 2 with ss:=1 },0⟩:=by
   unfold aL
   rw[if_pos rfl,if_pos (jW t),hb]
  have e:=fq (mx:=mx) (n:=16) t rfl hu (by rw[ht])
  rw[ht]at e
  rw[e]
  have t2:Told (eY P { ck { d with ms:=(nx mx 16 M0.bs false M0).s } 2 with ss:=1 }) 17 P.c 1 0 0 4 (iY P):=by
   have:=dP (k:=17) (f:=0) (bs:=iY P) hc (s:=1) (by omega) (n:=0) (by omega) (wF c0 (by omega))
   exact this
  obtain⟨r1,r2,_⟩:=gn (P:=P) (s:=aB P h) t2
  have hst:(aB P h).st=1:=by rw[eS,en];exact J.hst
  have hss:(aB P h).ss=0:=by rw[eS,en];exact J.hss
  have h0:cL P (aB P h) 17 P.c 1 0 4 (fun i=>(eY P { ck { d with ms:=(nx mx 16 M0.bs false M0).s } 2 with ss:=1 }).2 (15+i))=0:=by
   unfold cL iS
   rw[if_neg (by decide),if_neg (by omega),if_pos hst,hss,if_neg (by omega),if_pos (jW t2)]
  have r3:=r2 h0
  rw[r3]
  have eh:bE (aB P h) 17 1 0 0 (fun i=>(eY P { ck { d with ms:=(nx mx 16 M0.bs false M0).s } 2 with ss:=1 }).2 (15+i))=n6 { aB P h with st:=2,ss:=1 }:=if_pos rfl
  rw[eh,eS,en]
  have a0:a=0:=by simpa using ha
  exact⟨eQ t,rfl,eQ t2,by rw[r1];exact h0,⟨rfl,rfl,rfl,rfl,J.hnm,J.hsn,a0.symm,a0.symm,rfl,fun z=>by cases z⟩,rfl,ee _ _,rfl,fun z=>by omega,⟨rfl,rfl⟩,⟨rfl,rfl⟩,(fun z=>by cases z),rfl,fun z=>by omega⟩
 ·-- taken,and echoed
  have hss:h.ss=1:=J.hss
  have en:a7 P h=(h,dj 2 P.c 1 0 0 4 (iY P)):=by unfold a7;rw[if_neg (by rw[J.hst];omega),if_pos J.hst,hss]
  have t:Told (az P h) 2 P.c 1 0 0 4 (iY P):=by rw[eF,en];exact dP hc (by omega) (by omega) (yB c0 (by omega))
  have ht:aL P mx 16 d 2 1 0 0 4 (fun i=>(az P h).2 (15+i))=⟨a8 d,cj P (a8 d) 18 0 0 0 (fun _=>0),0⟩:=by
   unfold aL
   rw[if_neg (by omega),if_pos ⟨rfl,J.dss.symm,.inl J.dst⟩,if_pos (jW t)]
  have e:=fq (mx:=mx) (n:=16) t rfl hu (by rw[ht])
  rw[ht,show a8 d=gB { d with st:=3 } from if_pos J.dst]at e
  rw[e]
  have t2:Told (cj P (gB { d with st:=3 }) 18 0 0 0 (fun _=>0)) 18 P.c 1 0 0 0 (fun _=>0):=by
   have:=dP (k:=18) (f:=0) (bs:=fun _=>0) hc (s:=1) (by omega) (n:=0) (by omega) (xy c0 (by omega))
   unfold cj
   rw[show (gB { d with st:=3 }).ss=1 from J.dss]
   exact this
  obtain⟨r1,r2,_⟩:=gn (P:=P) (s:=aB P h) t2
  have hst:(aB P h).st=2:=by rw[eS,en];exact J.hst
  have hs2:(aB P h).ss=1:=by rw[eS,en];exact hss
  have h0:cL P (aB P h) 18 P.c 1 0 0 (fun i=>(cj P (gB { d with st:=3 }) 18 0 0 0 (fun _=>0)).2 (15+i))=0:=by
   have hw:bF P (aB P h) 18 0 0=true:=decide_eq_true (.inl ⟨rfl,hst⟩)
   unfold cL
   rw[if_neg (by decide),if_neg (by omega),if_neg (by omega),if_neg (by rintro (z | z);exact z hs2.symm;rw[hw]at z;cases z)]
  have r3:=r2 h0
  rw[r3]
  have eh:bE (aB P h) 18 1 0 0 (fun i=>(cj P (gB { d with st:=3 }) 18 0 0 0 (fun _=>0)).2 (15+i))=n6 { aB P h with st:=3 }:=by
   unfold bE
   rw[if_neg (by omega),if_pos rfl]
  rw[eh,eS,en]
  exact⟨eQ t,rfl,eQ t2,by rw[r1];exact h0,⟨rfl,rfl,hss,J.dss,J.hnm,J.hsn,J.dnm,J.dsn,rfl,fun z=>by cases z⟩,rfl,rfl,rfl,fun _=>rfl,⟨rfl,rfl⟩,⟨rfl,rfl⟩,(fun z=>by cases z),rfl,fun _=>rfl⟩
 ·-- begun
  have a0:a=0:=by simpa using ha
  have hss:h.ss=1:=J.hss
  have en:a7 P h=(h,dj 3 P.c 1 0 0 0 (fun _=>0)):=by unfold a7;rw[if_neg (by rw[J.hst];omega),if_neg (by rw[J.hst];omega),if_pos J.hst,hss]
  have t:Told (az P h) 3 P.c 1 0 0 0 (fun _=>0):=by rw[eF,en];exact dP hc (by omega) (by omega) (yg c0 (by omega))
  have ht:aL P mx 16 d 3 1 0 0 0 (fun i=>(az P h).2 (15+i))=⟨bZ d,cj P (bZ d) 19 0 0 0 (fun _=>0),0⟩:=by
   unfold aL
   rw[if_neg (by omega),if_neg (by omega),if_pos ⟨rfl,J.dss.symm,.inl J.dst⟩]
  have e:=fq (mx:=mx) (n:=16) t rfl hu (by rw[ht])
  rw[ht,show bZ d=gB { d with st:=4,v:=dx d.v true } from if_pos J.dst]at e
  rw[e]
  have t2:Told (cj P (gB { d with st:=4,v:=dx d.v true }) 19 0 0 0 (fun _=>0)) 19 P.c 1 0 0 0 (fun _=>0):=by
   have:=dP (k:=19) (f:=0) (bs:=fun _=>0) hc (s:=1) (by omega) (n:=0) (by omega) (wV c0 (by omega))
   unfold cj
   rw[show (gB { d with st:=4,v:=dx d.v true }).ss=1 from J.dss]
   exact this
  obtain⟨r1,r2,_⟩:=gn (P:=P) (s:=aB P h) t2
  have hst:(aB P h).st=3:=by rw[eS,en];exact J.hst
  have hs2:(aB P h).ss=1:=by rw[eS,en];exact hss
  have h0:cL P (aB P h) 19 P.c 1 0 0 (fun i=>(cj P (gB { d with st:=4,v:=dx d.v true }) 19 0 0 0 (fun _=>0)).2 (15+i))=0:=by
   have hw:bF P (aB P h) 19 0 0=true:=decide_eq_true (.inr (.inl ⟨rfl,hst⟩))
   unfold cL
   rw[if_neg (by decide),if_neg (by omega),if_neg (by omega),if_neg (by rintro (z | z);exact z hs2.symm;rw[hw]at z;cases z)]
  have r3:=r2 h0
  rw[r3]
  have eh:bE (aB P h) 19 1 0 0 (fun i=>(cj P (gB { d with st:=4,v:=dx d.v true }) 19 0 0 0 (fun _=>0)).2 (15+i))=n6 { aB P h with st:=4,v:=dx (aB P h).v true }:=by
   unfold bE
   rw[if_neg (by omega),if_neg (by omega),if_pos rfl]
  rw[eh,eS,en]
  refine⟨eQ t,rfl,eQ t2,by rw[r1];exact h0,⟨rfl,rfl,hss,J.dss,J.hnm,J.hsn,J.dnm,J.dsn,rfl,fun z=>by cases z⟩,ee _ _,ee _ _,?_,fun _=>?_,⟨rfl,rfl⟩,⟨rfl,rfl⟩,(fun z=>by cases z),rfl,fun _=>rfl⟩
  ·show ((dx h.v true).lat != 0)=_
   rw[ee]
  ·show ((dx d.v true).lat != 0)=_
   rw[ee]
 ·-- data
  have a1:a+1<P.n:=by simpa using ha
  have hss:h.ss=1:=J.hss
  have o1:=hP.o1
  have o8:=hP.o8
  have i1:=hP.i1
  have i8:=hP.i8
  have en:a7 P h=({ h with sn:=h.sn+1 },dj 4 P.c 1 (a+1) (aS h) P.o h.ap):=by unfold a7;rw[if_neg (by rw[J.hst];omega),if_neg (by rw[J.hst];omega),if_neg (by rw[J.hst];omega),if_neg (by rw[J.hsn];omega),hss,J.hsn]
  have t:Told (az P h) 4 P.c 1 (a+1) (aS h) P.o h.ap:=by rw[eF,en];exact dP hc (by omega) (by omega) (yQ c0 (by omega) (by omega) (rR h) o1 o8)
  have ht:aL P mx 16 d 4 1 (a+1) (aS h) P.o (fun i=>(az P h).2 (15+i))=⟨cz d (a+1) (aS h) (fun i=>(az P h).2 (15+i)),cj P (cz d (a+1) (aS h) (fun i=>(az P h).2 (15+i))) 20 (d.sn+1) (cr (cz d (a+1) (aS h) (fun i=>(az P h).2 (15+i)))) P.i d.ap,0⟩:=by
   unfold aL
   rw[if_neg (by omega),if_neg (by omega),if_neg (by omega),if_pos ⟨rfl,⟨J.dss.symm,J.dst,by rw[J.dnm];omega⟩,a1,rfl⟩]
  have e:=fq (mx:=mx) (n:=16) t rfl hu (by rw[ht])
  rw[ht]at e
  rw[e]
  obtain⟨D,hD⟩:∃ y,cz d (a+1) (aS h) (fun i=>(az P h).2 (15+i))=y:=⟨_,rfl⟩
  have dD:D.st=4∧D.ss=1∧D.nm=a+1∧D.sn=a+1∧D.v=bH (cJ (bk d.v) (decide (8≤aS h))) (fun i=>(az P h).2 (15+i))∧D.ap=d.ap∧D.hd=d.hd∧D.dc=0:=by
   rw[← hD]
   exact⟨J.dst,J.dss,rfl,by show d.sn+1=a+1;rw[J.dsn],rfl,rfl,rfl,rfl⟩
  rw[hD,J.dsn]
  obtain⟨d1,d2,d3,d4,d5,d6,d7,d8⟩:=dD
  have t2:Told (cj P D 20 (a+1) (cr D) P.i d.ap) 20 P.c 1 (a+1) (cr D) P.i d.ap:=by
   unfold cj
   rw[d2]
   exact dP hc (by omega) (by omega) (xB c0 (by omega) (by omega) (qX D) i1 i8)
  obtain⟨r1,r2,_⟩:=gn (P:=P) (s:=aB P h) t2
  have hst:(aB P h).st=4:=by rw[eS,en];exact J.hst
  have hs2:(aB P h).ss=1:=by rw[eS,en];exact hss
  have hs3:(aB P h).nm=a:=by rw[eS,en];exact J.hnm
  have h0:cL P (aB P h) 20 P.c 1 (a+1) P.i (fun i=>(cj P D 20 (a+1) (cr D) P.i d.ap).2 (15+i))=0:=by
   have hw:bF P (aB P h) 20 (a+1) P.i=true:=decide_eq_true (.inr (.inr (.inl ⟨rfl,⟨⟨hst,by omega⟩,a1⟩,rfl⟩)))
   unfold cL
   rw[if_neg (by decide),if_neg (by omega),if_neg (by omega),if_neg (by rintro (z | z);exact z hs2.symm;rw[hw]at z;cases z)]
  have r3:=r2 h0
  rw[r3]
  have eh:bE (aB P h) 20 1 (a+1) (cr D) (fun i=>(cj P D 20 (a+1) (cr D) P.i d.ap).2 (15+i))={ n6 { aB P h with nm:=a+1 } with v:=bH (cJ (bk (aB P h).v) (decide (8≤cr D))) (fun i=>(cj P D 20 (a+1) (cr D) P.i d.ap).2 (15+i)) }:=by
   unfold bE
   rw[if_neg (by omega),if_neg (by omega),if_neg (by omega),if_pos rfl]
  rw[eh,eS,en]
  have vf:∀ (v:Vs) (o:Bool) (b:Nat→Nat),(bH (cJ (bk v) o) b).fr=(v.lat != 0):=fun v o b=>by
   unfold bH
   split <;> rfl
  exact⟨eQ t,rfl,eQ t2,by rw[r1];exact h0,⟨J.hst,d1,hss,d2,rfl,by show h.sn+1=a+1;rw[J.hsn],d3,d4,rfl,fun z=>by cases z⟩,gT _ _,by show D.v.lat=_;rw[d5];exact gT _ _,vf _ _ _,fun _=>by show D.v.fr=_;rw[d5];exact vf _ _ _,⟨rfl,rfl⟩,⟨d6,d7⟩,fun _=>⟨_,_,t.bs,t2.bs,d5,rfl⟩,rfl,fun _=>d8⟩
end
end Go.Proofs.YtfgnmadnmjdbiaaGreat
namespace Go.Proofs.YtfgnmadnmjdbiaaGreat
open Go.RowKit Go.Maps
set_option linter.unusedVariables false
def cS (c:Nat):Mv:=⟨2,(c:Nat),0,0,0,0,0,false,0,fun _=>0⟩
def be (c s f:Nat):Mv:=⟨3,(c:Nat),(s:Nat),(f:Nat),0,0,0,false,0,fun _=>0⟩
def cW (c s:Nat):Mv:=⟨6,(c:Nat),(s:Nat),0,0,0,0,false,0,fun _=>0⟩
def cK (c s l:Nat) (b:Nat→Nat):Mv:=⟨1,(c:Nat),(s:Nat),0,0,0,0,false,l,b⟩
section
variable {S:Ws} {c:Nat}
theorem lM {m:Mv} (kk:Int) (hk:m.k=kk) (hk2:1≤kk∧kk≤8∧kk≠4∧kk≠7∧kk≠8) (hm:S.mv<4096) (hc:m.c=(c:Nat)) (hn:c<S.n) (hs:kk=2∨m.s=1∨m.s=2) (h3:kk=3→0≤m.f∧m.f < ((S.bg.length:Nat):Int)) (h5:kk=5→0≤m.n∧m.n≤1048576):S.bad m=0:=by
 obtain⟨k1,k8,k4,k7,k88⟩:=hk2
 unfold Ws.bad
 rw[hk,if_neg (by omega),if_neg (by omega),if_neg (by omega),if_neg (by
  rintro ⟨q,q1,q2⟩
  rcases hs with y | y | y
  ·rw[y]at q
   cases q
  ·exact q1 y
  ·exact q2 y)]
 by_cases z3:kk=3
 ·rw[if_pos z3,if_neg (by have:=h3 z3;omega)]
 ·rw[if_neg z3,if_neg k4]
  by_cases z5:kk=5
  ·rw[if_pos z5,if_neg (by have:=h5 z5;omega)]
  ·rw[if_neg z5,if_neg k7,if_neg k88]
theorem ml {s:Nat} (hs:s=1∨s=2):((s:Nat):Int)=1∨((s:Nat):Int)=2:=by omega
theorem vG (hm:S.mv<4096) (hn:c<S.n):S.bad (cS c)=0:=lM (c:=c) 2 rfl (by decide) hm rfl hn (.inl rfl) (fun e=>by cases e) (fun e=>by cases e)
theorem qj {s f:Nat} (hm:S.mv<4096) (hn:c<S.n) (hs:s=1∨s=2) (hf:f<S.bg.length):S.bad (be c s f)=0:=lM (c:=c) 3 rfl (by decide) hm rfl hn (.inr (ml hs)) (fun _=>by show 0 ≤ ((f:Nat):Int)∧((f:Nat):Int)<_;omega) (fun e=>by cases e)
theorem mf {s:Nat} (hm:S.mv<4096) (hn:c<S.n) (hs:s=1∨s=2):S.bad (cW c s)=0:=lM (c:=c) 6 rfl (by decide) hm rfl hn (.inr (ml hs)) (fun e=>by cases e) (fun e=>by cases e)
theorem jk {s l:Nat} {b:Nat→Nat} (hm:S.mv<4096) (hn:c<S.n) (hs:s=1∨s=2):S.bad (cK c s l b)=0:=lM (c:=c) 1 rfl (by decide) hm rfl hn (.inr (ml hs)) (fun e=>by cases e) (fun e=>by cases e)
theorem iw {m:Mv} (hb:S.bad m=0):S.play m=⟨(S.up.act m).e,(S.up.act m).i,(S.up.act m).S.note [oH (S.up.act m).S m.c.toNat,oD (S.up.act m).S m.c.toNat]⟩:=by
 unfold Ws.play
 rw[if_neg (fun q=>q hb)]
 rfl
theorem qq (T:Ws) (k s:Nat) {F:Fm} (h:F.1≠0):T.putI F=((T.bg.length:Nat):Int)∧(T.put k s F).bg=T.bg ++ [F]:=by
 unfold Ws.putI Ws.put
 rw[if_neg h,if_neg h]
 exact⟨rfl,rfl⟩
structure Sm (S S':Ws) (k:Nat):Prop where
 I:S'.In
 n:S'.n=S.n
 ph:S'.PH=S.PH
 pd:S'.PD=S.PD
 mx:S'.mx=S.mx
 mv:S'.mv≤S.mv+k
theorem dM (I:S.In) (K:S.Kn) (m:Mv):Sm S (S.play m).S 1:=by
 obtain⟨f1,f2,f3⟩:=tT I K m
 refine⟨I.play K,wG S m,f1,f2,f3,?_⟩
 by_cases hb:S.bad m=0
 ·have l:=Ws.Law.of hb
  have K':S.up.Kn:=⟨K.ph,K.pd,K.ha,K.da,K.mo,K.fb⟩
  have q:=(lp K' (I.ih _ l.kn) (I.iv _ l.kn) l).mv
  rw[iw hb]
  show (S.up.act m).S.mv≤_
  rw[q]
  exact Nat.le_refl _
 ·have hp:(S.play m).S=S:=by
   unfold Ws.play
   rw[if_pos hb]
  rw[hp]
  omega
theorem Sm.refl (I:S.In):Sm S S 0:=⟨I,rfl,rfl,rfl,rfl,Nat.le_refl _⟩
theorem Sm.trans {S2 S3:Ws} {i j:Nat} (h:Sm S S2 i) (g:Sm S2 S3 j):Sm S S3 (i+j):=⟨g.I,g.n.trans h.n,g.ph.trans h.ph,g.pd.trans h.pd,g.mx.trans h.mx,by have:=h.mv;have:=g.mv;omega⟩
theorem sc (hb:S.bad (cS c)=0) (hf:(az (S.PH c) (S.hs c)).1≠0):(S.play (cS c)).i=((S.bg.length:Nat):Int)∧(S.play (cS c)).S.bg=S.bg ++ [az (S.PH c) (S.hs c)]∧(S.play (cS c)).S.hs c=aB (S.PH c) (S.hs c)∧(S.play (cS c)).S.ds c=S.ds c∧(S.play (cS c)).e=gh (S.hs c):=by
 obtain⟨e1,e2,e3⟩:=dI S hb
 have ec:(cS c).c.toNat=c:=Int.toNat_natCast c
 have h1:¬ (cS c).k=1:=by show ¬ (2:Int)=1;decide
 have a1:S.actDF (cS c)=S.ds c:=by
  unfold Ws.actDF
  rw[if_neg h1,if_pos (show (cS c).k=2 from rfl),ec]
 have a2:S.actHF (cS c)=aB (S.PH c) (S.hs c):=by
  unfold Ws.actHF
  rw[if_neg h1,if_pos (show (cS c).k=2 from rfl),ec]
 have a3:S.actEF (cS c)=gh (S.hs c):=by
  unfold Ws.actEF
  rw[if_neg h1,if_pos (show (cS c).k=2 from rfl),ec]
 rw[ec]at e1 e2
 have q:(S.up.act (cS c))=S.up.snd c:=by
  unfold Ws.act
  dsimp only
  rw[if_neg h1,if_pos (show (cS c).k=2 from rfl),ec]
 have p:=qq (S.up.setH c (aB (S.PH c) (S.hs c))) c 1 hf
 refine⟨?_,?_,e2.trans a2,e1.trans a1,e3.trans a3⟩
 ·rw[iw hb]
  show (S.up.act (cS c)).i=_
  rw[q]
  exact p.1
 ·rw[iw hb]
  show (S.up.act (cS c)).S.bg=_
  rw[q]
  exact p.2
theorem rZ {s f:Nat} {F:Fm} (hF:S.bg[f]?=some F):S.fr (be c s f)=F:=by
 unfold Ws.fr
 rw[if_neg (by show ¬ (3:Int)=4;decide)]
 show S.bg.getD ((f:Nat):Int).toNat dK=F
 rw[Int.toNat_natCast,List.getD_eq_getElem?_getD,hF]
 rfl
theorem rx {f:Nat} {F:Fm} (hb:S.bad (be c 2 f)=0) (hF:S.bg[f]?=some F) (hf:(au (S.PD c) S.mx 16 (S.ds c) F.1 F.2).f.1≠0):(S.play (be c 2 f)).i=((S.bg.length:Nat):Int)∧(S.play (be c 2 f)).S.bg=S.bg ++ [(au (S.PD c) S.mx 16 (S.ds c) F.1 F.2).f]∧(S.play (be c 2 f)).S.hs c=S.hs c∧(S.play (be c 2 f)).S.ds c=(au (S.PD c) S.mx 16 (S.ds c) F.1 F.2).s∧(S.play (be c 2 f)).e=(au (S.PD c) S.mx 16 (S.ds c) F.1 F.2).e:=by
 obtain⟨e1,e2,e3⟩:=dI S hb
 have ec:(be c 2 f).c.toNat=c:=Int.toNat_natCast c
 have h1:¬ (be c 2 f).k=1:=by show ¬ (3:Int)=1;decide
 have h2:¬ (be c 2 f).k=2:=by show ¬ (3:Int)=2;decide
 have h3:(be c 2 f).k=3∨(be c 2 f).k=4:=.inl rfl
 have hs:¬ (be c 2 f).s=1:=by show ¬ ((2:Nat):Int)=1;decide
 have hfr:=rZ (c:=c) (s:=2) hF
 have a1:S.actDF (be c 2 f)=(au (S.PD c) S.mx 16 (S.ds c) F.1 F.2).s:=by
  unfold Ws.actDF
  rw[if_neg h1,if_neg h2,if_pos h3,if_neg hs,ec,hfr]
 have a2:S.actHF (be c 2 f)=S.hs c:=by
  unfold Ws.actHF
  rw[if_neg h1,if_neg h2,if_pos h3,if_neg hs,ec]
 have a3:S.actEF (be c 2 f)=(au (S.PD c) S.mx 16 (S.ds c) F.1 F.2).e:=by
  unfold Ws.actEF
  rw[if_neg h1,if_neg h2,if_pos h3,if_neg hs,ec,hfr]
 rw[ec]at e1 e2
 have q:(S.up.act (be c 2 f))=S.up.toD c F:=by
  unfold Ws.act
  dsimp only
  rw[if_neg h1,if_neg h2,if_pos h3,if_neg hs,ec]
  show S.up.toD c (S.fr (be c 2 f))=_
  rw[hfr]
 have p:=qq (S.up.toD2 c F) c 2 hf
 rw[uB]at p
 refine⟨?_,?_,e2.trans a2,e1.trans a1,e3.trans a3⟩
 ·rw[iw hb]
  show (S.up.act (be c 2 f)).i=_
  rw[q]
  exact p.1
 ·rw[iw hb]
  show (S.up.act (be c 2 f)).S.bg=_
  rw[q]
  exact p.2
theorem rz {f:Nat} {F:Fm} (hb:S.bad (be c 1 f)=0) (hF:S.bg[f]?=some F):(S.play (be c 1 f)).S.hs c=cw (S.PH c) (S.hs c) F.1 F.2∧(S.play (be c 1 f)).S.ds c=S.ds c∧(S.play (be c 1 f)).e=di (S.PH c) (S.hs c) F.1 F.2:=by
 obtain⟨e1,e2,e3⟩:=dI S hb
 have ec:(be c 1 f).c.toNat=c:=Int.toNat_natCast c
 have h1:¬ (be c 1 f).k=1:=by show ¬ (3:Int)=1;decide
 have h2:¬ (be c 1 f).k=2:=by show ¬ (3:Int)=2;decide
 have h3:(be c 1 f).k=3∨(be c 1 f).k=4:=.inl rfl
 have hs:(be c 1 f).s=1:=rfl
 have hfr:=rZ (c:=c) (s:=1) hF
 rw[ec]at e1 e2
 refine⟨e2.trans ?_,e1.trans ?_,e3.trans ?_⟩
 ·unfold Ws.actHF
  rw[if_neg h1,if_neg h2,if_pos h3,if_pos hs,ec,hfr]
 ·unfold Ws.actDF
  rw[if_neg h1,if_neg h2,if_pos h3,if_pos hs,ec]
 ·unfold Ws.actEF
  rw[if_neg h1,if_neg h2,if_pos h3,if_pos hs,ec,hfr]
theorem rP (hb:S.bad (cW c 1)=0):(S.play (cW c 1)).S.hs c=fc (S.hs c)∧(S.play (cW c 1)).S.ds c=S.ds c∧(S.play (cW c 1)).e=fG (S.hs c):=by
 obtain⟨e1,e2,e3⟩:=dI S hb
 have ec:(cW c 1).c.toNat=c:=Int.toNat_natCast c
 have h:∀ x:Int,x≠6→¬ (cW c 1).k=x:=fun x hx e=>hx (by rw[← e];rfl)
 have h3:¬ ((cW c 1).k=3∨(cW c 1).k=4):=fun z=>by rcases z with z | z <;> cases z
 have hs:(cW c 1).s=1:=rfl
 rw[ec]at e1 e2
 refine⟨e2.trans ?_,e1.trans ?_,e3.trans ?_⟩
 ·unfold Ws.actHF
  rw[if_neg (h 1 (by decide)),if_neg (h 2 (by decide)),if_neg h3,if_neg (h 5 (by decide)),if_pos (show (cW c 1).k=6 from rfl),if_pos hs,ec]
 ·unfold Ws.actDF
  rw[if_neg (h 1 (by decide)),if_neg (h 2 (by decide)),if_neg h3,if_neg (h 5 (by decide)),if_pos (show (cW c 1).k=6 from rfl),if_pos hs,ec]
 ·unfold Ws.actEF
  rw[if_neg (h 1 (by decide)),if_neg (h 2 (by decide)),if_neg h3,if_neg (h 5 (by decide)),if_pos (show (cW c 1).k=6 from rfl),if_pos hs,ec]
theorem ko (hb:S.bad (cW c 2)=0):(S.play (cW c 2)).S.hs c=S.hs c∧(S.play (cW c 2)).S.ds c=cQ (S.ds c)∧(S.play (cW c 2)).e=fI (S.ds c):=by
 obtain⟨e1,e2,e3⟩:=dI S hb
 have ec:(cW c 2).c.toNat=c:=Int.toNat_natCast c
 have h:∀ x:Int,x≠6→¬ (cW c 2).k=x:=fun x hx e=>hx (by rw[← e];rfl)
 have h3:¬ ((cW c 2).k=3∨(cW c 2).k=4):=fun z=>by rcases z with z | z <;> cases z
 have hs:¬ (cW c 2).s=1:=by show ¬ ((2:Nat):Int)=1;decide
 rw[ec]at e1 e2
 refine⟨e2.trans ?_,e1.trans ?_,e3.trans ?_⟩
 ·unfold Ws.actHF
  rw[if_neg (h 1 (by decide)),if_neg (h 2 (by decide)),if_neg h3,if_neg (h 5 (by decide)),if_pos (show (cW c 2).k=6 from rfl),if_neg hs,ec]
 ·unfold Ws.actDF
  rw[if_neg (h 1 (by decide)),if_neg (h 2 (by decide)),if_neg h3,if_neg (h 5 (by decide)),if_pos (show (cW c 2).k=6 from rfl),if_neg hs,ec]
 ·unfold Ws.actEF
  rw[if_neg (h 1 (by decide)),if_neg (h 2 (by decide)),if_neg h3,if_neg (h 5 (by decide)),if_pos (show (cW c 2).k=6 from rfl),if_neg hs,ec]
theorem rJ {l:Nat} {b:Nat→Nat} (hb:S.bad (cK c 1 l b)=0):(S.play (cK c 1 l b)).S.hs c=cX (S.PH c) (S.hs c) l b false∧(S.play (cK c 1 l b)).S.ds c=S.ds c∧(S.play (cK c 1 l b)).e=eJ (S.PH c) l:=by
 obtain⟨e1,e2,e3⟩:=dI S hb
 have ec:(cK c 1 l b).c.toNat=c:=Int.toNat_natCast c
 have hs:(cK c 1 l b).s=1:=rfl
 rw[ec]at e1 e2
 refine⟨e2.trans ?_,e1.trans ?_,e3.trans ?_⟩
 ·unfold Ws.actHF
  rw[if_pos (show (cK c 1 l b).k=1 from rfl),if_pos hs,ec]
  rfl
 ·unfold Ws.actDF
  rw[if_pos (show (cK c 1 l b).k=1 from rfl),if_pos hs,ec]
 ·unfold Ws.actEF
  rw[if_pos (show (cK c 1 l b).k=1 from rfl),if_pos hs,ec]
  rfl
theorem rh {l:Nat} {b:Nat→Nat} (hb:S.bad (cK c 2 l b)=0):(S.play (cK c 2 l b)).S.hs c=S.hs c∧(S.play (cK c 2 l b)).S.ds c=cZ (S.PD c) (S.ds c) l b false∧(S.play (cK c 2 l b)).e=eM (S.PD c) (S.ds c) l:=by
 obtain⟨e1,e2,e3⟩:=dI S hb
 have ec:(cK c 2 l b).c.toNat=c:=Int.toNat_natCast c
 have hs:¬ (cK c 2 l b).s=1:=by show ¬ ((2:Nat):Int)=1;decide
 rw[ec]at e1 e2
 refine⟨e2.trans ?_,e1.trans ?_,e3.trans ?_⟩
 ·unfold Ws.actHF
  rw[if_pos (show (cK c 2 l b).k=1 from rfl),if_neg hs,ec]
 ·unfold Ws.actDF
  rw[if_pos (show (cK c 2 l b).k=1 from rfl),if_neg hs,ec]
  rfl
 ·unfold Ws.actEF
  rw[if_pos (show (cK c 2 l b).k=1 from rfl),if_neg hs,ec]
  rfl
end
end Go.Proofs.YtfgnmadnmjdbiaaGreat
namespace Go.Proofs.YtfgnmadnmjdbiaaGreat
open Go.RowKit Go.Maps
set_option linter.unusedVariables false
structure Pq where
 c:Nat
 o:Int
 i:Int
 t:Int
 n:Nat
end Go.Proofs.YtfgnmadnmjdbiaaGreat
