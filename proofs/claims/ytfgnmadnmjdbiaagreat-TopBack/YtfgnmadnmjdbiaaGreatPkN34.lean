/- Part 35: contracts that the proof rests on. -/
import Derived.Test.YtfgnmadnmjdbiaaGreatPkN33
set_option maxHeartbeats 64000000
set_option maxRecDepth 100000
namespace Go.Proofs.YtfgnmadnmjdbiaaGreat
open Go.RowKit Go.Maps
set_option linter.unusedVariables false
theorem xm (S:Ws) (m:Mv):(S.play m).S.n=S.n:=by
 unfold Ws.play
 split
 ·rfl
 ·exact wZ _ _
def Ws.actDF (S:Ws) (m:Mv):Sd:=if m.k=1 then (if m.s=1 then S.ds m.c.toNat else dz (S.PD m.c.toNat) (S.ds m.c.toNat) m.l m.b m.h) else if m.k=2 then S.ds m.c.toNat else if m.k=3∨m.k=4 then (if m.s=1 then S.ds m.c.toNat else (au (S.PD m.c.toNat) S.mx 16 (S.ds m.c.toNat) (S.fr m).1 (S.fr m).2).s) else if m.k=5 then (if m.s=1 then S.ds m.c.toNat else dk (S.PD m.c.toNat) (S.ds m.c.toNat) m.n) else if m.k=6 then (if m.s=1 then S.ds m.c.toNat else cY (S.ds m.c.toNat)) else if m.k=7 then (if m.s=1 then S.ds m.c.toNat else cK S.mx 16 (S.ds m.c.toNat) m.n) else { S.ds m.c.toNat with ms:=ks (S.ds m.c.toNat).ms m.n }
def Ws.actHF (S:Ws) (m:Mv):Sh:=if m.k=1 then (if m.s=1 then dx (S.PH m.c.toNat) (S.hs m.c.toNat) m.l m.b m.h else S.hs m.c.toNat) else if m.k=2 then aC (S.PH m.c.toNat) (S.hs m.c.toNat) else if m.k=3∨m.k=4 then (if m.s=1 then cC (S.PH m.c.toNat) (S.hs m.c.toNat) (S.fr m).1 (S.fr m).2 else S.hs m.c.toNat) else if m.k=5 then (if m.s=1 then dh (S.PH m.c.toNat) (S.hs m.c.toNat) m.n else S.hs m.c.toNat) else if m.k=6 then (if m.s=1 then fC (S.hs m.c.toNat) else S.hs m.c.toNat) else if m.k=7 then (if m.s=1 then fR (S.hs m.c.toNat) else S.hs m.c.toNat) else S.hs m.c.toNat
def Ws.actEF (S:Ws) (m:Mv):Int:=if m.k=1 then (if m.s=1 then eW (S.PH m.c.toNat) m.l else fc (S.PD m.c.toNat) (S.ds m.c.toNat) m.l) else if m.k=2 then gc (S.hs m.c.toNat) else if m.k=3∨m.k=4 then (if m.s=1 then dE (S.PH m.c.toNat) (S.hs m.c.toNat) (S.fr m).1 (S.fr m).2 else (au (S.PD m.c.toNat) S.mx 16 (S.ds m.c.toNat) (S.fr m).1 (S.fr m).2).e) else if m.k=5 then (if m.s=1 then eO m.n else eG (S.ds m.c.toNat) m.n) else if m.k=6 then (if m.s=1 then fS (S.hs m.c.toNat) else fF (S.ds m.c.toNat)) else if m.k=7 then (if m.s=1 then 0 else fQ S.mx 16 (S.ds m.c.toNat) m.n) else yr m.n
theorem dy (S:Ws) (k:Nat) (f:Fm):(S.toD2 k f).ds=eE S.ds k (au (S.PD k) S.mx 16 (S.ds k) f.1 f.2).s:=by
 unfold Ws.toD2
 split <;> rfl
theorem dA (S:Ws) (k:Nat) (f:Fm):(S.toD2 k f).hs=S.hs:=by
 unfold Ws.toD2
 split <;> rfl
theorem aau (S:Ws) (m:Mv):(S.act m).S.ds m.c.toNat=S.actDF m:=by
 unfold Ws.act Ws.actDF
 dsimp only
 by_cases h1:m.k=1
 ·rw[if_pos h1,if_pos h1]
  by_cases hs:m.s=1
  ·rw[if_pos hs,if_pos hs]
   first | rfl | exact aj _ _ _ | (unfold Ws.snd;dsimp only;rw[(aN _ _ _ _).2.1];rfl) | (unfold Ws.toH;dsimp only;split <;> rfl) | (unfold Ws.toD;dsimp only;rw[(aN _ _ _ _).2.1,dy];exact aj _ _ _)
  ·rw[if_neg hs,if_neg hs]
   first | rfl | exact aj _ _ _ | (unfold Ws.snd;dsimp only;rw[(aN _ _ _ _).2.1];rfl) | (unfold Ws.toH;dsimp only;split <;> rfl) | (unfold Ws.toD;dsimp only;rw[(aN _ _ _ _).2.1,dy];exact aj _ _ _)
 rw[if_neg h1,if_neg h1]
 by_cases h2:m.k=2
 ·rw[if_pos h2,if_pos h2]
  first | rfl | exact aj _ _ _ | (unfold Ws.snd;dsimp only;rw[(aN _ _ _ _).2.1];rfl) | (unfold Ws.toH;dsimp only;split <;> rfl) | (unfold Ws.toD;dsimp only;rw[(aN _ _ _ _).2.1,dy];exact aj _ _ _)
 rw[if_neg h2,if_neg h2]
 by_cases h3:m.k=3∨m.k=4
 ·rw[if_pos h3,if_pos h3]
  by_cases hs:m.s=1
  ·rw[if_pos hs,if_pos hs]
   first | rfl | exact aj _ _ _ | (unfold Ws.snd;dsimp only;rw[(aN _ _ _ _).2.1];rfl) | (unfold Ws.toH;dsimp only;split <;> rfl) | (unfold Ws.toD;dsimp only;rw[(aN _ _ _ _).2.1,dy];exact aj _ _ _)
  ·rw[if_neg hs,if_neg hs]
   first | rfl | exact aj _ _ _ | (unfold Ws.snd;dsimp only;rw[(aN _ _ _ _).2.1];rfl) | (unfold Ws.toH;dsimp only;split <;> rfl) | (unfold Ws.toD;dsimp only;rw[(aN _ _ _ _).2.1,dy];exact aj _ _ _)
 rw[if_neg h3,if_neg h3]
 by_cases h5:m.k=5
 ·rw[if_pos h5,if_pos h5]
  by_cases hs:m.s=1
  ·rw[if_pos hs,if_pos hs]
   first | rfl | exact aj _ _ _ | (unfold Ws.snd;dsimp only;rw[(aN _ _ _ _).2.1];rfl) | (unfold Ws.toH;dsimp only;split <;> rfl) | (unfold Ws.toD;dsimp only;rw[(aN _ _ _ _).2.1,dy];exact aj _ _ _)
  ·rw[if_neg hs,if_neg hs]
   first | rfl | exact aj _ _ _ | (unfold Ws.snd;dsimp only;rw[(aN _ _ _ _).2.1];rfl) | (unfold Ws.toH;dsimp only;split <;> rfl) | (unfold Ws.toD;dsimp only;rw[(aN _ _ _ _).2.1,dy];exact aj _ _ _)
 rw[if_neg h5,if_neg h5]
 by_cases h6:m.k=6
 ·rw[if_pos h6,if_pos h6]
  by_cases hs:m.s=1
  ·rw[if_pos hs,if_pos hs]
   first | rfl | exact aj _ _ _ | (unfold Ws.snd;dsimp only;rw[(aN _ _ _ _).2.1];rfl) | (unfold Ws.toH;dsimp only;split <;> rfl) | (unfold Ws.toD;dsimp only;rw[(aN _ _ _ _).2.1,dy];exact aj _ _ _)
  ·rw[if_neg hs,if_neg hs]
   first | rfl | exact aj _ _ _ | (unfold Ws.snd;dsimp only;rw[(aN _ _ _ _).2.1];rfl) | (unfold Ws.toH;dsimp only;split <;> rfl) | (unfold Ws.toD;dsimp only;rw[(aN _ _ _ _).2.1,dy];exact aj _ _ _)
 rw[if_neg h6,if_neg h6]
 by_cases h7:m.k=7
 ·rw[if_pos h7,if_pos h7]
  by_cases hs:m.s=1
  ·rw[if_pos hs,if_pos hs]
   first | rfl | exact aj _ _ _ | (unfold Ws.snd;dsimp only;rw[(aN _ _ _ _).2.1];rfl) | (unfold Ws.toH;dsimp only;split <;> rfl) | (unfold Ws.toD;dsimp only;rw[(aN _ _ _ _).2.1,dy];exact aj _ _ _)
  ·rw[if_neg hs,if_neg hs]
   first | rfl | exact aj _ _ _ | (unfold Ws.snd;dsimp only;rw[(aN _ _ _ _).2.1];rfl) | (unfold Ws.toH;dsimp only;split <;> rfl) | (unfold Ws.toD;dsimp only;rw[(aN _ _ _ _).2.1,dy];exact aj _ _ _)
 rw[if_neg h7,if_neg h7]
 first | rfl | exact aj _ _ _ | (unfold Ws.snd;dsimp only;rw[(aN _ _ _ _).2.1];rfl) | (unfold Ws.toH;dsimp only;split <;> rfl) | (unfold Ws.toD;dsimp only;rw[(aN _ _ _ _).2.1,dy];exact aj _ _ _)
theorem aaA (S:Ws) (m:Mv):(S.act m).S.hs m.c.toNat=S.actHF m:=by
 unfold Ws.act Ws.actHF
 dsimp only
 by_cases h1:m.k=1
 ·rw[if_pos h1,if_pos h1]
  by_cases hs:m.s=1
  ·rw[if_pos hs,if_pos hs]
   first | rfl | exact aj _ _ _ | (unfold Ws.snd;dsimp only;rw[(aN _ _ _ _).2.2.1];exact aj _ _ _) | (unfold Ws.toH;dsimp only;split <;> exact aj _ _ _) | (unfold Ws.toD;dsimp only;rw[(aN _ _ _ _).2.2.1,dA])
  ·rw[if_neg hs,if_neg hs]
   first | rfl | exact aj _ _ _ | (unfold Ws.snd;dsimp only;rw[(aN _ _ _ _).2.2.1];exact aj _ _ _) | (unfold Ws.toH;dsimp only;split <;> exact aj _ _ _) | (unfold Ws.toD;dsimp only;rw[(aN _ _ _ _).2.2.1,dA])
 rw[if_neg h1,if_neg h1]
 by_cases h2:m.k=2
 ·rw[if_pos h2,if_pos h2]
  first | rfl | exact aj _ _ _ | (unfold Ws.snd;dsimp only;rw[(aN _ _ _ _).2.2.1];exact aj _ _ _) | (unfold Ws.toH;dsimp only;split <;> exact aj _ _ _) | (unfold Ws.toD;dsimp only;rw[(aN _ _ _ _).2.2.1,dA])
 rw[if_neg h2,if_neg h2]
 by_cases h3:m.k=3∨m.k=4
 ·rw[if_pos h3,if_pos h3]
  by_cases hs:m.s=1
  ·rw[if_pos hs,if_pos hs]
   first | rfl | exact aj _ _ _ | (unfold Ws.snd;dsimp only;rw[(aN _ _ _ _).2.2.1];exact aj _ _ _) | (unfold Ws.toH;dsimp only;split <;> exact aj _ _ _) | (unfold Ws.toD;dsimp only;rw[(aN _ _ _ _).2.2.1,dA])
  ·rw[if_neg hs,if_neg hs]
   first | rfl | exact aj _ _ _ | (unfold Ws.snd;dsimp only;rw[(aN _ _ _ _).2.2.1];exact aj _ _ _) | (unfold Ws.toH;dsimp only;split <;> exact aj _ _ _) | (unfold Ws.toD;dsimp only;rw[(aN _ _ _ _).2.2.1,dA])
 rw[if_neg h3,if_neg h3]
 by_cases h5:m.k=5
 ·rw[if_pos h5,if_pos h5]
  by_cases hs:m.s=1
  ·rw[if_pos hs,if_pos hs]
   first | rfl | exact aj _ _ _ | (unfold Ws.snd;dsimp only;rw[(aN _ _ _ _).2.2.1];exact aj _ _ _) | (unfold Ws.toH;dsimp only;split <;> exact aj _ _ _) | (unfold Ws.toD;dsimp only;rw[(aN _ _ _ _).2.2.1,dA])
  ·rw[if_neg hs,if_neg hs]
   first | rfl | exact aj _ _ _ | (unfold Ws.snd;dsimp only;rw[(aN _ _ _ _).2.2.1];exact aj _ _ _) | (unfold Ws.toH;dsimp only;split <;> exact aj _ _ _) | (unfold Ws.toD;dsimp only;rw[(aN _ _ _ _).2.2.1,dA])
 rw[if_neg h5,if_neg h5]
 by_cases h6:m.k=6
 ·rw[if_pos h6,if_pos h6]
  by_cases hs:m.s=1
  ·rw[if_pos hs,if_pos hs]
   first | rfl | exact aj _ _ _ | (unfold Ws.snd;dsimp only;rw[(aN _ _ _ _).2.2.1];exact aj _ _ _) | (unfold Ws.toH;dsimp only;split <;> exact aj _ _ _) | (unfold Ws.toD;dsimp only;rw[(aN _ _ _ _).2.2.1,dA])
  ·rw[if_neg hs,if_neg hs]
   first | rfl | exact aj _ _ _ | (unfold Ws.snd;dsimp only;rw[(aN _ _ _ _).2.2.1];exact aj _ _ _) | (unfold Ws.toH;dsimp only;split <;> exact aj _ _ _) | (unfold Ws.toD;dsimp only;rw[(aN _ _ _ _).2.2.1,dA])
 rw[if_neg h6,if_neg h6]
 by_cases h7:m.k=7
 ·rw[if_pos h7,if_pos h7]
  by_cases hs:m.s=1
  ·rw[if_pos hs,if_pos hs]
   first | rfl | exact aj _ _ _ | (unfold Ws.snd;dsimp only;rw[(aN _ _ _ _).2.2.1];exact aj _ _ _) | (unfold Ws.toH;dsimp only;split <;> exact aj _ _ _) | (unfold Ws.toD;dsimp only;rw[(aN _ _ _ _).2.2.1,dA])
  ·rw[if_neg hs,if_neg hs]
   first | rfl | exact aj _ _ _ | (unfold Ws.snd;dsimp only;rw[(aN _ _ _ _).2.2.1];exact aj _ _ _) | (unfold Ws.toH;dsimp only;split <;> exact aj _ _ _) | (unfold Ws.toD;dsimp only;rw[(aN _ _ _ _).2.2.1,dA])
 rw[if_neg h7,if_neg h7]
 first | rfl | exact aj _ _ _ | (unfold Ws.snd;dsimp only;rw[(aN _ _ _ _).2.2.1];exact aj _ _ _) | (unfold Ws.toH;dsimp only;split <;> exact aj _ _ _) | (unfold Ws.toD;dsimp only;rw[(aN _ _ _ _).2.2.1,dA])
theorem aax (S:Ws) (m:Mv):(S.act m).e=S.actEF m:=by
 unfold Ws.act Ws.actEF
 dsimp only
 by_cases h1:m.k=1
 ·rw[if_pos h1,if_pos h1]
  by_cases hs:m.s=1
  ·rw[if_pos hs,if_pos hs]
   try rfl
  ·rw[if_neg hs,if_neg hs]
   try rfl
 rw[if_neg h1,if_neg h1]
 by_cases h2:m.k=2
 ·rw[if_pos h2,if_pos h2]
  try rfl
 rw[if_neg h2,if_neg h2]
 by_cases h3:m.k=3∨m.k=4
 ·rw[if_pos h3,if_pos h3]
  by_cases hs:m.s=1
  ·rw[if_pos hs,if_pos hs]
   try rfl
  ·rw[if_neg hs,if_neg hs]
   try rfl
 rw[if_neg h3,if_neg h3]
 by_cases h5:m.k=5
 ·rw[if_pos h5,if_pos h5]
  by_cases hs:m.s=1
  ·rw[if_pos hs,if_pos hs]
   try rfl
  ·rw[if_neg hs,if_neg hs]
   try rfl
 rw[if_neg h5,if_neg h5]
 by_cases h6:m.k=6
 ·rw[if_pos h6,if_pos h6]
  by_cases hs:m.s=1
  ·rw[if_pos hs,if_pos hs]
   try rfl
  ·rw[if_neg hs,if_neg hs]
   try rfl
 rw[if_neg h6,if_neg h6]
 by_cases h7:m.k=7
 ·rw[if_pos h7,if_pos h7]
  by_cases hs:m.s=1
  ·rw[if_pos hs,if_pos hs]
   try rfl
  ·rw[if_neg hs,if_neg hs]
   try rfl
 rw[if_neg h7,if_neg h7]
 try rfl
theorem cX (S:Ws) {m:Mv} (hb:S.bad m=0):(S.play m).S.ds m.c.toNat=S.actDF m∧(S.play m).S.hs m.c.toNat=S.actHF m∧(S.play m).e=S.actEF m:=by
 have hp:S.play m=⟨(S.up.act m).e,(S.up.act m).i,(S.up.act m).S.note [oH (S.up.act m).S m.c.toNat,oD (S.up.act m).S m.c.toNat]⟩:=by
  unfold Ws.play
  rw[if_neg (fun q=>q hb)]
  rfl
 rw[hp]
 exact⟨aau S.up m,aaA S.up m,aax S.up m⟩
theorem ti {S:Ws} (I:S.In) (K:S.Kn) (m:Mv):(S.play m).S.PH=S.PH∧(S.play m).S.PD=S.PD∧(S.play m).S.mx=S.mx:=by
 by_cases hb:S.bad m=0
 ·have l:=Ws.Law.of hb
  have K':S.up.Kn:=⟨K.ph,K.pd,K.ha,K.da,K.mo,K.fb⟩
  have q:=lT K' (I.ih _ l.kn) (I.iv _ l.kn) l
  have hp:S.play m=⟨(S.up.act m).e,(S.up.act m).i,(S.up.act m).S.note [oH (S.up.act m).S m.c.toNat,oD (S.up.act m).S m.c.toNat]⟩:=by
   unfold Ws.play
   rw[if_neg (fun q=>q hb)]
   rfl
  rw[hp]
  exact⟨q.PH,q.PD,q.mx⟩
 ·have hp:(S.play m).S=S:=by
   unfold Ws.play
   rw[if_pos hb]
  rw[hp]
  exact⟨rfl,rfl,rfl⟩
section
variable {P:Pm} {mx n:Nat} {s s':Sd}
end
end Go.Proofs.YtfgnmadnmjdbiaaGreat
namespace Go.Proofs.YtfgnmadnmjdbiaaGreat
open Go.RowKit Go.Maps
set_option linter.unusedVariables false
section
variable {P:Pm} {mx n:Nat} {s:Sd}
end
theorem vJ (S:Ws) (k:Nat) (f:Fm):(S.toD2 k f).bg=S.bg:=by
 unfold Ws.toD2
 split <;> rfl
end Go.Proofs.YtfgnmadnmjdbiaaGreat
namespace Go.Proofs.YtfgnmadnmjdbiaaGreat
open Go.RowKit
theorem yQ {c:Nat} (hc:c≠0):LW ((1:Nat):Int) c (0:Nat) (0:Nat) (0:Nat) (4:Nat) (4:Nat)=0:=by
 unfold LW
 rw[if_neg (by decide),if_neg (by omega),if_neg (by decide),if_neg (by decide),if_neg (by decide),if_neg (by decide)]
theorem zW {c s:Nat} (hc:c≠0) (hs:s≠0):LW ((2:Nat):Int) c s (0:Nat) (0:Nat) (4:Nat) (4:Nat)=0:=by
 unfold LW
 rw[if_neg (by decide),if_neg (by omega),if_neg (by decide),if_neg ?_,if_neg (by decide),if_neg (by decide)]
 show ¬ cZ 2 s=false
 unfold cZ
 simp
 exact hs
theorem zF {c s:Nat} (hc:c≠0) (hs:s≠0):LW ((3:Nat):Int) c s (0:Nat) (0:Nat) (0:Nat) (0:Nat)=0:=by
 unfold LW
 rw[if_neg (by decide),if_neg (by omega),if_neg (by decide),if_neg ?_,if_neg (by decide),if_neg (by decide)]
 show ¬ cZ 3 s=false
 unfold cZ
 simp
 exact hs
theorem zz {c s n f len:Nat} (hc:c≠0) (hs:s≠0) (hn:n≠0) (hf:f≤15) (h1:1≤len) (h8:len≤8):LW ((4:Nat):Int) c s n f len len=0:=by
 have e1:uR ((4:Nat):Int)=15:=by decide
 have e2:kF ((4:Nat):Int)=true:=by decide
 have e3:eI ((4:Nat):Int) len=decide ((1:Int)≤len∧(len:Int)≤8):=rfl
 unfold LW
 rw[if_neg (by decide),if_neg (by omega),if_neg ?_,if_neg ?_,if_neg ?_,if_neg ?_]
 ·rw[e1];omega
 ·rw[e2];simp;exact hn
 ·show ¬ cZ 4 s=false
  unfold cZ
  simp
  exact hs
 ·rw[e3];simp;omega
theorem rU (s:Sh):aW s≤15:=by
 unfold aW
 split <;> split <;> split <;> split <;> omega
structure Told (F:Fm) (k c s n f len:Nat) (bs:Nat→Nat):Prop where
 de:DE F.2 F.1=0
 ln:F.1-19=len
 k:F.2 0=k
 c:aV F.2 1=c
 s:aV F.2 5=s
 n:aV F.2 9=n
 f:F.2 13=f
 bs:∀ j,j<len→F.2 (15+j)=bs j
theorem dY {k c s n f len:Nat} {bs:Nat→Nat} (hc:c<4294967296) (hs:s<4294967296) (hn:n<4294967296) (h:LW k c s n f len len=0):Told (dC k c s n f len bs) k c s n f len bs:=by
 have hl:len≤8:=by have:=(gN h).2.2.2.1;omega
 obtain⟨e1,e2,e3,e4,e5,e6,e7⟩:=qo k c s n f len bs hc hs hn hl h
 have hF:dC k c s n f len bs=(15+len+4,PM.sl (fr k c s n f len bs) (15+len)):=if_pos h
 rw[hF]
 exact⟨e1,by show 15+len+4-19=len;omega,e2,e3,e4,e5,e6,e7⟩
section
variable {P:Pm} {s:Sh}
end
end Go.Proofs.YtfgnmadnmjdbiaaGreat
namespace Go.Proofs.YtfgnmadnmjdbiaaGreat
open Go.RowKit Go.Maps
set_option linter.unusedVariables false
section
variable {P:Pm} {mx n:Nat} {s:Sd}
end
end Go.Proofs.YtfgnmadnmjdbiaaGreat
namespace Go.Proofs.YtfgnmadnmjdbiaaGreat
open Go.RowKit
theorem yt {c s:Nat} (hc:c≠0) (hs:s≠0):LW ((17:Nat):Int) c s (0:Nat) (0:Nat) (4:Nat) (4:Nat)=0:=by
 unfold LW
 rw[if_neg (by decide),if_neg (by omega),if_neg (by decide),if_neg ?_,if_neg (by decide),if_neg (by decide)]
 show ¬ cZ 17 s=false
 unfold cZ
 simp
 exact hs
theorem ym {c s:Nat} (hc:c≠0) (hs:s≠0):LW ((18:Nat):Int) c s (0:Nat) (0:Nat) (0:Nat) (0:Nat)=0:=by
 unfold LW
 rw[if_neg (by decide),if_neg (by omega),if_neg (by decide),if_neg ?_,if_neg (by decide),if_neg (by decide)]
 show ¬ cZ 18 s=false
 unfold cZ
 simp
 exact hs
theorem xj {c s:Nat} (hc:c≠0) (hs:s≠0):LW ((19:Nat):Int) c s (0:Nat) (0:Nat) (0:Nat) (0:Nat)=0:=by
 unfold LW
 rw[if_neg (by decide),if_neg (by omega),if_neg (by decide),if_neg ?_,if_neg (by decide),if_neg (by decide)]
 show ¬ cZ 19 s=false
 unfold cZ
 simp
 exact hs
theorem yA {c s n f len:Nat} (hc:c≠0) (hs:s≠0) (hn:n≠0) (hf:f≤15) (h1:1≤len) (h8:len≤8):LW ((20:Nat):Int) c s n f len len=0:=by
 have e1:uR ((20:Nat):Int)=15:=by decide
 have e2:kF ((20:Nat):Int)=true:=by decide
 have e3:eI ((20:Nat):Int) len=decide ((1:Int)≤len∧(len:Int)≤8):=rfl
 unfold LW
 rw[if_neg (by decide),if_neg (by omega),if_neg ?_,if_neg ?_,if_neg ?_,if_neg ?_]
 ·rw[e1];omega
 ·rw[e2];simp;exact hn
 ·show ¬ cZ 20 s=false
  unfold cZ
  simp
  exact hs
 ·rw[e3];simp;omega
theorem gL {P:Pm} {s:Sh} {F:Fm} {k c S n f len:Nat} {bs:Nat→Nat} (t:Told F k c S n f len bs):dE P s F.1 F.2=cQ P s k c S n len (fun i=>F.2 (15+i)) ∧
  (cQ P s k c S n len (fun i=>F.2 (15+i))=0→cC P s F.1 F.2=bJ s k S n f (fun i=>F.2 (15+i)))∧(cQ P s k c S n len (fun i=>F.2 (15+i))≠0→cC P s F.1 F.2=eX s (cQ P s k c S n len (fun i=>F.2 (15+i)))):=by
 have e:dE P s F.1 F.2=cQ P s k c S n len (fun i=>F.2 (15+i)):=by unfold dE;rw[if_neg (by rw[t.de];omega),t.k,t.c,t.s,t.n,t.ln]
 refine⟨e,fun h=>?_,fun h=>?_⟩
 ·unfold cC;rw[e,if_neg (by omega),t.k,t.s,t.n,t.f]
 ·unfold cC;rw[e,if_pos h]
open Go.RowKit Go.Maps
set_option linter.unusedVariables false
theorem fK {P:Pm} {mx n:Nat} {s:Sd} {F:Fm} {k S num f len:Nat} {bs:Nat→Nat} (t:Told F k P.c S num f len bs) (hk:fT k=true) (hu:s.st≠6) (he:(aL P mx n s k S num f len (fun i=>F.2 (15+i))).e=0):au P mx n s F.1 F.2=aL P mx n s k S num f len (fun i=>F.2 (15+i)):=by
 have hh:bK P mx n s F.1 F.2=aL P mx n s k S num f len (fun i=>F.2 (15+i)):=by
  unfold bK
  rw[if_neg (by rw[t.de];omega),if_neg (by rw[t.k,hk];simp),if_neg (by rw[t.c];omega),t.k,t.s,t.n,t.f,t.ln]
 unfold au
 rw[if_neg hu,hh,if_neg (by rintro ⟨e,_⟩;exact e he)]
theorem ke {P:Pm} {F:Fm} {k c S n f:Nat} (t:Told F k c S n f 4 (jj P)):aO P 4 (fun i=>F.2 (15+i))=true:=decide_eq_true (iF _ _ 4 t.bs)
structure Pj (h:Sh) (d:Sd) (k a:Nat):Prop where
 hst:h.st=k
 dst:d.st=k
 hss:h.ss=if k=1 then 0 else 1
 dss:d.ss=if k=1 then 0 else 1
 hnm:h.nm=a
 hsn:h.sn=a
 dnm:d.nm=a
 dsn:d.sn=a
 wt:h.wt=false
 m0:k=1→d.ms=M0
structure Ex (P:Pm) (mx:Nat) (h:Sh) (d:Sd) (F:Fm) (R:Rs) (h2:Sh) (k a:Nat):Prop where
 f1:F.1≠0
 re:R.e=0
 rf:R.f.1≠0
 he:dE P (aC P h) R.f.1 R.f.2=0
 pj:Pj h2 R.s (if k=4 then 4 else k+1) (if k=4 then a+1 else a)
 hl:h2.v.lat=h.v.lat
 dl:R.s.v.lat=d.v.lat
 hv:h2.v.fr=(h.v.lat != 0)
 dv:2≤k→R.s.v.fr=(d.v.lat != 0)
 ha:h2.ap=h.ap∧h2.hd=h.hd
 da:R.s.ap=d.ap∧R.s.hd=d.hd
 on:k=4→∃ fh fd:Nat→Nat,(∀ i,i<P.o→fh i=h.ap i)∧(∀ i,i<P.i→fd i=d.ap i)∧R.s.v=bP (cP (bH d.v) (decide (8≤aW h))) fh∧h2.v=bP (cP (bH h.v) (decide (8≤cz R.s))) fd
 hdc:h2.dc=0
 ddc:2≤k→R.s.dc=0
theorem eT {F:Fm} {k c s n f len:Nat} {bs:Nat→Nat} (t:Told F k c s n f len bs):F.1≠0:=fun e=>by
 have h:=t.de
 unfold DE at h
 rw[if_pos (by omega)]at h
 cases h
theorem pp {s:Sh} (h:s.hd=false):decide (8≤aW s)=false:=by
 unfold aW
 rw[h]
 apply decide_eq_false
 split <;> split <;> split <;> simp
theorem pi {s:Sd} (h:s.hd=false):decide (8≤cz s)=false:=by
 unfold cz
 rw[h]
 apply decide_eq_false
 split <;> split <;> split <;> simp
theorem sg (s:Sd):cz s≤15:=by
 unfold cz
 split <;> split <;> split <;> split <;> omega
theorem gY (v:Vs) (bs:Nat→Nat):(bP v bs).lat=v.lat:=by unfold bP;split <;> rfl
section
variable {P:Pm} {mx:Nat} {h:Sh} {d:Sd}
theorem m5 {s:Sh} (h:s.wt=false):ck s=s:=by
 unfold ck
 rw[if_pos (.inr h)]
theorem xt (hP:Pok P) (hmx:mx≠0) (hmx2:mx<4294967296) {k a:Nat} (J:Pj h d k a) (hk:k=1∨k=2∨k=3∨k=4) (ha:if k=4 then a+1<P.n else a=0) :
  gc h=0∧Ex P mx h d (az P h) (au P mx 16 d (az P h).1 (az P h).2) (cC P (aC P h) (au P mx 16 d (az P h).1 (az P h).2).f.1 (au P mx 16 d (az P h).1 (az P h).2).f.2) k a:=by
 have hc:=hP.c
 have c0:=hP.c0
 have h5:h.st≠5:=by rw[J.hst];omega
 have hn:=hP.n
 refine⟨by unfold gc;rw[if_neg h5],?_⟩
 have eS:aC P h={ (bf P h).1 with wt:=true }:=by unfold aC;rw[if_neg h5,m5 J.wt]
 have eF:az P h=(bf P h).2:=by unfold az;rw[if_neg h5,m5 J.wt]
 have hu:d.st≠6:=by rw[J.dst];omega
 rcases hk with rfl | rfl | rfl | rfl
 ·-- the wish,and the offer
  have en:bf P h=(h,dC 1 P.c 0 0 0 4 (jj P)):=by unfold bf;rw[if_pos J.hst]
  have t:Told (az P h) 1 P.c 0 0 0 4 (jj P):=by rw[eF,en];exact dY hc (by omega) (by omega) (yQ c0)
  obtain⟨n1,n2⟩:=wV mx hmx
  have hb:bO P mx 16 d=⟨{ cy { d with ms:=(nx mx 16 M0.bs false M0).s } 2 with ss:=1 },ft P { cy { d with ms:=(nx mx 16 M0.bs false M0).s } 2 with ss:=1 },0⟩:=by
   rw[pO P mx 16 J.dst]
   unfold bG
   rw[J.m0 rfl,if_neg (by rw[n1];decide),if_neg (by rw[n1];decide),n2]
  have ht:aL P mx 16 d 1 0 0 0 4 (fun i=>(az P h).2 (15+i))=⟨{ cy { d with ms:=(nx mx 16 M0.bs false M0).s } 2 with ss:=1 },ft P { cy { d with ms:=(nx mx 16 M0.bs false M0).s } 2 with ss:=1 },0⟩:=by
   unfold aL
   rw[if_pos rfl,if_pos (ke t),hb]
  have e:=fK (mx:=mx) (n:=16) t rfl hu (by rw[ht])
  rw[ht]at e
  rw[e]
  have t2:Told (ft P { cy { d with ms:=(nx mx 16 M0.bs false M0).s } 2 with ss:=1 }) 17 P.c 1 0 0 4 (jj P):=by
   have:=dY (k:=17) (f:=0) (bs:=jj P) hc (s:=1) (by omega) (n:=0) (by omega) (yt c0 (by omega))
   exact this
  obtain⟨r1,r2,_⟩:=gL (P:=P) (s:=aC P h) t2
  have hst:(aC P h).st=1:=by rw[eS,en];exact J.hst
  have hss:(aC P h).ss=0:=by rw[eS,en];exact J.hss
  have h0:cQ P (aC P h) 17 P.c 1 0 4 (fun i=>(ft P { cy { d with ms:=(nx mx 16 M0.bs false M0).s } 2 with ss:=1 }).2 (15+i))=0:=by
   unfold cQ jg
   rw[if_neg (by decide),if_neg (by omega),if_pos hst,hss,if_neg (by omega),if_pos (ke t2)]
  have r3:=r2 h0
  rw[r3]
  have eh:bJ (aC P h) 17 1 0 0 (fun i=>(ft P { cy { d with ms:=(nx mx 16 M0.bs false M0).s } 2 with ss:=1 }).2 (15+i))=oy { aC P h with st:=2,ss:=1 }:=if_pos rfl
  rw[eh,eS,en]
  have a0:a=0:=by simpa using ha
  exact⟨eT t,rfl,eT t2,by rw[r1];exact h0,⟨rfl,rfl,rfl,rfl,J.hnm,J.hsn,a0.symm,a0.symm,rfl,fun z=>by cases z⟩,rfl,eC _ _,rfl,fun z=>by omega,⟨rfl,rfl⟩,⟨rfl,rfl⟩,(fun z=>by cases z),rfl,fun z=>by omega⟩
 ·-- taken,and echoed
  have hss:h.ss=1:=J.hss
  have en:bf P h=(h,dC 2 P.c 1 0 0 4 (jj P)):=by unfold bf;rw[if_neg (by rw[J.hst];omega),if_pos J.hst,hss]
  have t:Told (az P h) 2 P.c 1 0 0 4 (jj P):=by rw[eF,en];exact dY hc (by omega) (by omega) (zW c0 (by omega))
  have ht:aL P mx 16 d 2 1 0 0 4 (fun i=>(az P h).2 (15+i))=⟨bi d,cu P (bi d) 18 0 0 0 (fun _=>0),0⟩:=by
   unfold aL
   rw[if_neg (by omega),if_pos ⟨rfl,J.dss.symm,.inl J.dst⟩,if_pos (ke t)]
  have e:=fK (mx:=mx) (n:=16) t rfl hu (by rw[ht])
  rw[ht,show bi d=gy { d with st:=3 } from if_pos J.dst]at e
  rw[e]
  have t2:Told (cu P (gy { d with st:=3 }) 18 0 0 0 (fun _=>0)) 18 P.c 1 0 0 0 (fun _=>0):=by
   have:=dY (k:=18) (f:=0) (bs:=fun _=>0) hc (s:=1) (by omega) (n:=0) (by omega) (ym c0 (by omega))
   unfold cu
   rw[show (gy { d with st:=3 }).ss=1 from J.dss]
   exact this
  obtain⟨r1,r2,_⟩:=gL (P:=P) (s:=aC P h) t2
  have hst:(aC P h).st=2:=by rw[eS,en];exact J.hst
  have hs2:(aC P h).ss=1:=by rw[eS,en];exact hss
  have h0:cQ P (aC P h) 18 P.c 1 0 0 (fun i=>(cu P (gy { d with st:=3 }) 18 0 0 0 (fun _=>0)).2 (15+i))=0:=by
   have hw:bL P (aC P h) 18 0 0=true:=decide_eq_true (.inl ⟨rfl,hst⟩)
   unfold cQ
   rw[if_neg (by decide),if_neg (by omega),if_neg (by omega),if_neg (by rintro (z | z);exact z hs2.symm;rw[hw]at z;cases z)]
  have r3:=r2 h0
  rw[r3]
  have eh:bJ (aC P h) 18 1 0 0 (fun i=>(cu P (gy { d with st:=3 }) 18 0 0 0 (fun _=>0)).2 (15+i))=oy { aC P h with st:=3 }:=by
   unfold bJ
   rw[if_neg (by omega),if_pos rfl]
  rw[eh,eS,en]
  exact⟨eT t,rfl,eT t2,by rw[r1];exact h0,⟨rfl,rfl,hss,J.dss,J.hnm,J.hsn,J.dnm,J.dsn,rfl,fun z=>by cases z⟩,rfl,rfl,rfl,fun _=>rfl,⟨rfl,rfl⟩,⟨rfl,rfl⟩,(fun z=>by cases z),rfl,fun _=>rfl⟩
 ·-- begun
  have a0:a=0:=by simpa using ha
  have hss:h.ss=1:=J.hss
  have en:bf P h=(h,dC 3 P.c 1 0 0 0 (fun _=>0)):=by unfold bf;rw[if_neg (by rw[J.hst];omega),if_neg (by rw[J.hst];omega),if_pos J.hst,hss]
  have t:Told (az P h) 3 P.c 1 0 0 0 (fun _=>0):=by rw[eF,en];exact dY hc (by omega) (by omega) (zF c0 (by omega))
  have ht:aL P mx 16 d 3 1 0 0 0 (fun i=>(az P h).2 (15+i))=⟨cr d,cu P (cr d) 19 0 0 0 (fun _=>0),0⟩:=by
   unfold aL
   rw[if_neg (by omega),if_neg (by omega),if_pos ⟨rfl,J.dss.symm,.inl J.dst⟩]
  have e:=fK (mx:=mx) (n:=16) t rfl hu (by rw[ht])
  rw[ht,show cr d=gy { d with st:=4,v:=dI d.v true } from if_pos J.dst]at e
  rw[e]
  have t2:Told (cu P (gy { d with st:=4,v:=dI d.v true }) 19 0 0 0 (fun _=>0)) 19 P.c 1 0 0 0 (fun _=>0):=by
   have:=dY (k:=19) (f:=0) (bs:=fun _=>0) hc (s:=1) (by omega) (n:=0) (by omega) (xj c0 (by omega))
   unfold cu
   rw[show (gy { d with st:=4,v:=dI d.v true }).ss=1 from J.dss]
   exact this
  obtain⟨r1,r2,_⟩:=gL (P:=P) (s:=aC P h) t2
  have hst:(aC P h).st=3:=by rw[eS,en];exact J.hst
  have hs2:(aC P h).ss=1:=by rw[eS,en];exact hss
  have h0:cQ P (aC P h) 19 P.c 1 0 0 (fun i=>(cu P (gy { d with st:=4,v:=dI d.v true }) 19 0 0 0 (fun _=>0)).2 (15+i))=0:=by
   have hw:bL P (aC P h) 19 0 0=true:=decide_eq_true (.inr (.inl ⟨rfl,hst⟩))
   unfold cQ
   rw[if_neg (by decide),if_neg (by omega),if_neg (by omega),if_neg (by rintro (z | z);exact z hs2.symm;rw[hw]at z;cases z)]
  have r3:=r2 h0
  rw[r3]
  have eh:bJ (aC P h) 19 1 0 0 (fun i=>(cu P (gy { d with st:=4,v:=dI d.v true }) 19 0 0 0 (fun _=>0)).2 (15+i))=oy { aC P h with st:=4,v:=dI (aC P h).v true }:=by
   unfold bJ
   rw[if_neg (by omega),if_neg (by omega),if_pos rfl]
  rw[eh,eS,en]
  refine⟨eT t,rfl,eT t2,by rw[r1];exact h0,⟨rfl,rfl,hss,J.dss,J.hnm,J.hsn,J.dnm,J.dsn,rfl,fun z=>by cases z⟩,eC _ _,eC _ _,?_,fun _=>?_,⟨rfl,rfl⟩,⟨rfl,rfl⟩,(fun z=>by cases z),rfl,fun _=>rfl⟩
  ·show ((dI h.v true).lat != 0)=_
   rw[eC]
  ·show ((dI d.v true).lat != 0)=_
   rw[eC]
 ·-- data
  have a1:a+1<P.n:=by simpa using ha
  have hss:h.ss=1:=J.hss
  have o1:=hP.o1
  have o8:=hP.o8
  have i1:=hP.i1
  have i8:=hP.i8
  have en:bf P h=({ h with sn:=h.sn+1 },dC 4 P.c 1 (a+1) (aW h) P.o h.ap):=by unfold bf;rw[if_neg (by rw[J.hst];omega),if_neg (by rw[J.hst];omega),if_neg (by rw[J.hst];omega),if_neg (by rw[J.hsn];omega),hss,J.hsn]
  have t:Told (az P h) 4 P.c 1 (a+1) (aW h) P.o h.ap:=by rw[eF,en];exact dY hc (by omega) (by omega) (zz c0 (by omega) (by omega) (rU h) o1 o8)
  have ht:aL P mx 16 d 4 1 (a+1) (aW h) P.o (fun i=>(az P h).2 (15+i))=⟨cF d (a+1) (aW h) (fun i=>(az P h).2 (15+i)),cu P (cF d (a+1) (aW h) (fun i=>(az P h).2 (15+i))) 20 (d.sn+1) (cz (cF d (a+1) (aW h) (fun i=>(az P h).2 (15+i)))) P.i d.ap,0⟩:=by
   unfold aL
   rw[if_neg (by omega),if_neg (by omega),if_neg (by omega),if_pos ⟨rfl,⟨J.dss.symm,J.dst,by rw[J.dnm];omega⟩,a1,rfl⟩]
  have e:=fK (mx:=mx) (n:=16) t rfl hu (by rw[ht])
  rw[ht]at e
  rw[e]
  obtain⟨D,hD⟩:∃ y,cF d (a+1) (aW h) (fun i=>(az P h).2 (15+i))=y:=⟨_,rfl⟩
  have dD:D.st=4∧D.ss=1∧D.nm=a+1∧D.sn=a+1∧D.v=bP (cP (bH d.v) (decide (8≤aW h))) (fun i=>(az P h).2 (15+i))∧D.ap=d.ap∧D.hd=d.hd∧D.dc=0:=by
   rw[← hD]
   exact⟨J.dst,J.dss,rfl,by show d.sn+1=a+1;rw[J.dsn],rfl,rfl,rfl,rfl⟩
  rw[hD,J.dsn]
  obtain⟨d1,d2,d3,d4,d5,d6,d7,d8⟩:=dD
  have t2:Told (cu P D 20 (a+1) (cz D) P.i d.ap) 20 P.c 1 (a+1) (cz D) P.i d.ap:=by
   unfold cu
   rw[d2]
   exact dY hc (by omega) (by omega) (yA c0 (by omega) (by omega) (sg D) i1 i8)
  obtain⟨r1,r2,_⟩:=gL (P:=P) (s:=aC P h) t2
  have hst:(aC P h).st=4:=by rw[eS,en];exact J.hst
  have hs2:(aC P h).ss=1:=by rw[eS,en];exact hss
  have hs3:(aC P h).nm=a:=by rw[eS,en];exact J.hnm
  have h0:cQ P (aC P h) 20 P.c 1 (a+1) P.i (fun i=>(cu P D 20 (a+1) (cz D) P.i d.ap).2 (15+i))=0:=by
   have hw:bL P (aC P h) 20 (a+1) P.i=true:=decide_eq_true (.inr (.inr (.inl ⟨rfl,⟨⟨hst,by omega⟩,a1⟩,rfl⟩)))
   unfold cQ
   rw[if_neg (by decide),if_neg (by omega),if_neg (by omega),if_neg (by rintro (z | z);exact z hs2.symm;rw[hw]at z;cases z)]
  have r3:=r2 h0
  rw[r3]
  have eh:bJ (aC P h) 20 1 (a+1) (cz D) (fun i=>(cu P D 20 (a+1) (cz D) P.i d.ap).2 (15+i))={ oy { aC P h with nm:=a+1 } with v:=bP (cP (bH (aC P h).v) (decide (8≤cz D))) (fun i=>(cu P D 20 (a+1) (cz D) P.i d.ap).2 (15+i)) }:=by
   unfold bJ
   rw[if_neg (by omega),if_neg (by omega),if_neg (by omega),if_pos rfl]
  rw[eh,eS,en]
  have vf:∀ (v:Vs) (o:Bool) (b:Nat→Nat),(bP (cP (bH v) o) b).fr=(v.lat != 0):=fun v o b=>by
   unfold bP
   split <;> rfl
  exact⟨eT t,rfl,eT t2,by rw[r1];exact h0,⟨J.hst,d1,hss,d2,rfl,by show h.sn+1=a+1;rw[J.hsn],d3,d4,rfl,fun z=>by cases z⟩,gY _ _,by show D.v.lat=_;rw[d5];exact gY _ _,vf _ _ _,fun _=>by show D.v.fr=_;rw[d5];exact vf _ _ _,⟨rfl,rfl⟩,⟨d6,d7⟩,fun _=>⟨_,_,t.bs,t2.bs,d5,rfl⟩,rfl,fun _=>d8⟩
end
end Go.Proofs.YtfgnmadnmjdbiaaGreat
namespace Go.Proofs.YtfgnmadnmjdbiaaGreat
open Go.RowKit Go.Maps
set_option linter.unusedVariables false
def di (c:Nat):Mv:=⟨2,(c:Nat),0,0,0,0,0,false,0,fun _=>0⟩
def bk (c s f:Nat):Mv:=⟨3,(c:Nat),(s:Nat),(f:Nat),0,0,0,false,0,fun _=>0⟩
def co (c s:Nat):Mv:=⟨6,(c:Nat),(s:Nat),0,0,0,0,false,0,fun _=>0⟩
def cS (c s l:Nat) (b:Nat→Nat):Mv:=⟨1,(c:Nat),(s:Nat),0,0,0,0,false,l,b⟩
def dq (c s n:Nat):Mv:=⟨5,(c:Nat),(s:Nat),0,0,0,(n:Nat),false,0,fun _=>0⟩
section
variable {S:Ws} {c:Nat}
theorem j9 {m:Mv} (kk:Int) (hk:m.k=kk) (hk2:1≤kk∧kk≤8∧kk≠4∧kk≠7∧kk≠8) (hm:S.mv<4096) (hc:m.c=(c:Nat)) (hn:c<S.n) (hs:kk=2∨m.s=1∨m.s=2) (h3:kk=3→0≤m.f∧m.f < ((S.bg.length:Nat):Int)) (h5:kk=5→0≤m.n∧m.n≤1048576):S.bad m=0:=by
 obtain⟨k1,k8,k4,k7,k88⟩:=hk2
 unfold Ws.bad
 rw[hk,if_neg (by omega),if_neg (by omega),if_neg (by omega),if_neg (by
  rintro ⟨q,q1,q2⟩
  rcases hs with y | y | y
  ·rw[y]at q
   cases q
  ·exact q1 y
  ·exact q2 y)]
 by_cases z3:kk=3
 ·rw[if_pos z3,if_neg (by have:=h3 z3;omega)]
 ·rw[if_neg z3,if_neg k4]
  by_cases z5:kk=5
  ·rw[if_pos z5,if_neg (by have:=h5 z5;omega)]
  ·rw[if_neg z5,if_neg k7,if_neg k88]
theorem jy {s:Nat} (hs:s=1∨s=2):((s:Nat):Int)=1∨((s:Nat):Int)=2:=by omega
theorem wG (hm:S.mv<4096) (hn:c<S.n):S.bad (di c)=0:=j9 (c:=c) 2 rfl (by decide) hm rfl hn (.inl rfl) (fun e=>by cases e) (fun e=>by cases e)
theorem pZ {s f:Nat} (hm:S.mv<4096) (hn:c<S.n) (hs:s=1∨s=2) (hf:f<S.bg.length):S.bad (bk c s f)=0:=j9 (c:=c) 3 rfl (by decide) hm rfl hn (.inr (jy hs)) (fun _=>by show 0 ≤ ((f:Nat):Int)∧((f:Nat):Int)<_;omega) (fun e=>by cases e)
theorem iy {s:Nat} (hm:S.mv<4096) (hn:c<S.n) (hs:s=1∨s=2):S.bad (co c s)=0:=j9 (c:=c) 6 rfl (by decide) hm rfl hn (.inr (jy hs)) (fun e=>by cases e) (fun e=>by cases e)
theorem jm {s l:Nat} {b:Nat→Nat} (hm:S.mv<4096) (hn:c<S.n) (hs:s=1∨s=2):S.bad (cS c s l b)=0:=j9 (c:=c) 1 rfl (by decide) hm rfl hn (.inr (jy hs)) (fun e=>by cases e) (fun e=>by cases e)
theorem qh {s n:Nat} (hm:S.mv<4096) (hn:c<S.n) (hs:s=1∨s=2) (hk:n≤1048576):S.bad (dq c s n)=0:=j9 (c:=c) 5 rfl (by decide) hm rfl hn (.inr (jy hs)) (fun e=>by cases e) (fun _=>by show 0 ≤ ((n:Nat):Int)∧((n:Nat):Int)≤1048576;omega)
theorem iz {m:Mv} (hb:S.bad m=0):S.play m=⟨(S.up.act m).e,(S.up.act m).i,(S.up.act m).S.note [oH (S.up.act m).S m.c.toNat,oD (S.up.act m).S m.c.toNat]⟩:=by
 unfold Ws.play
 rw[if_neg (fun q=>q hb)]
 rfl
theorem qq (T:Ws) (k s:Nat) {F:Fm} (h:F.1≠0):T.putI F=((T.bg.length:Nat):Int)∧(T.put k s F).bg=T.bg ++ [F]:=by
 unfold Ws.putI Ws.put
 rw[if_neg h,if_neg h]
 exact⟨rfl,rfl⟩
structure Sm (S S':Ws) (k:Nat):Prop where
 I:S'.In
 n:S'.n=S.n
 ph:S'.PH=S.PH
 pd:S'.PD=S.PD
 mx:S'.mx=S.mx
 mv:S'.mv≤S.mv+k
theorem cO (I:S.In) (K:S.Kn) (m:Mv):Sm S (S.play m).S 1:=by
 obtain⟨f1,f2,f3⟩:=ti I K m
 refine⟨I.play K,xm S m,f1,f2,f3,?_⟩
 by_cases hb:S.bad m=0
 ·have l:=Ws.Law.of hb
  have K':S.up.Kn:=⟨K.ph,K.pd,K.ha,K.da,K.mo,K.fb⟩
  have q:=(lT K' (I.ih _ l.kn) (I.iv _ l.kn) l).mv
  rw[iz hb]
  show (S.up.act m).S.mv≤_
  rw[q]
  exact Nat.le_refl _
 ·have hp:(S.play m).S=S:=by
   unfold Ws.play
   rw[if_pos hb]
  rw[hp]
  omega
theorem Sm.refl (I:S.In):Sm S S 0:=⟨I,rfl,rfl,rfl,rfl,Nat.le_refl _⟩
theorem Sm.trans {S2 S3:Ws} {i j:Nat} (h:Sm S S2 i) (g:Sm S2 S3 j):Sm S S3 (i+j):=⟨g.I,g.n.trans h.n,g.ph.trans h.ph,g.pd.trans h.pd,g.mx.trans h.mx,by have:=h.mv;have:=g.mv;omega⟩
theorem sX (hb:S.bad (di c)=0) (hf:(az (S.PH c) (S.hs c)).1≠0):(S.play (di c)).i=((S.bg.length:Nat):Int)∧(S.play (di c)).S.bg=S.bg ++ [az (S.PH c) (S.hs c)]∧(S.play (di c)).S.hs c=aC (S.PH c) (S.hs c)∧(S.play (di c)).S.ds c=S.ds c∧(S.play (di c)).e=gc (S.hs c):=by
 obtain⟨e1,e2,e3⟩:=cX S hb
 have ec:(di c).c.toNat=c:=Int.toNat_natCast c
 have h1:¬ (di c).k=1:=by show ¬ (2:Int)=1;decide
 have a1:S.actDF (di c)=S.ds c:=by
  unfold Ws.actDF
  rw[if_neg h1,if_pos (show (di c).k=2 from rfl),ec]
 have a2:S.actHF (di c)=aC (S.PH c) (S.hs c):=by
  unfold Ws.actHF
  rw[if_neg h1,if_pos (show (di c).k=2 from rfl),ec]
 have a3:S.actEF (di c)=gc (S.hs c):=by
  unfold Ws.actEF
  rw[if_neg h1,if_pos (show (di c).k=2 from rfl),ec]
 rw[ec]at e1 e2
 have q:(S.up.act (di c))=S.up.snd c:=by
  unfold Ws.act
  dsimp only
  rw[if_neg h1,if_pos (show (di c).k=2 from rfl),ec]
 have p:=qq (S.up.setH c (aC (S.PH c) (S.hs c))) c 1 hf
 refine⟨?_,?_,e2.trans a2,e1.trans a1,e3.trans a3⟩
 ·rw[iz hb]
  show (S.up.act (di c)).i=_
  rw[q]
  exact p.1
 ·rw[iz hb]
  show (S.up.act (di c)).S.bg=_
  rw[q]
  exact p.2
theorem tE {s f:Nat} {F:Fm} (hF:S.bg[f]?=some F):S.fr (bk c s f)=F:=by
 unfold Ws.fr
 rw[if_neg (by show ¬ (3:Int)=4;decide)]
 show S.bg.getD ((f:Nat):Int).toNat dX=F
 rw[Int.toNat_natCast,List.getD_eq_getElem?_getD,hF]
 rfl
theorem rP {f:Nat} {F:Fm} (hb:S.bad (bk c 2 f)=0) (hF:S.bg[f]?=some F) (hf:(au (S.PD c) S.mx 16 (S.ds c) F.1 F.2).f.1≠0):(S.play (bk c 2 f)).i=((S.bg.length:Nat):Int)∧(S.play (bk c 2 f)).S.bg=S.bg ++ [(au (S.PD c) S.mx 16 (S.ds c) F.1 F.2).f]∧(S.play (bk c 2 f)).S.hs c=S.hs c∧(S.play (bk c 2 f)).S.ds c=(au (S.PD c) S.mx 16 (S.ds c) F.1 F.2).s∧(S.play (bk c 2 f)).e=(au (S.PD c) S.mx 16 (S.ds c) F.1 F.2).e:=by
 obtain⟨e1,e2,e3⟩:=cX S hb
 have ec:(bk c 2 f).c.toNat=c:=Int.toNat_natCast c
 have h1:¬ (bk c 2 f).k=1:=by show ¬ (3:Int)=1;decide
 have h2:¬ (bk c 2 f).k=2:=by show ¬ (3:Int)=2;decide
 have h3:(bk c 2 f).k=3∨(bk c 2 f).k=4:=.inl rfl
 have hs:¬ (bk c 2 f).s=1:=by show ¬ ((2:Nat):Int)=1;decide
 have hfr:=tE (c:=c) (s:=2) hF
 have a1:S.actDF (bk c 2 f)=(au (S.PD c) S.mx 16 (S.ds c) F.1 F.2).s:=by
  unfold Ws.actDF
  rw[if_neg h1,if_neg h2,if_pos h3,if_neg hs,ec,hfr]
 have a2:S.actHF (bk c 2 f)=S.hs c:=by
  unfold Ws.actHF
  rw[if_neg h1,if_neg h2,if_pos h3,if_neg hs,ec]
 have a3:S.actEF (bk c 2 f)=(au (S.PD c) S.mx 16 (S.ds c) F.1 F.2).e:=by
  unfold Ws.actEF
  rw[if_neg h1,if_neg h2,if_pos h3,if_neg hs,ec,hfr]
 rw[ec]at e1 e2
 have q:(S.up.act (bk c 2 f))=S.up.toD c F:=by
  unfold Ws.act
  dsimp only
  rw[if_neg h1,if_neg h2,if_pos h3,if_neg hs,ec]
  show S.up.toD c (S.fr (bk c 2 f))=_
  rw[hfr]
 have p:=qq (S.up.toD2 c F) c 2 hf
 rw[vJ]at p
 refine⟨?_,?_,e2.trans a2,e1.trans a1,e3.trans a3⟩
 ·rw[iz hb]
  show (S.up.act (bk c 2 f)).i=_
  rw[q]
  exact p.1
 ·rw[iz hb]
  show (S.up.act (bk c 2 f)).S.bg=_
  rw[q]
  exact p.2
theorem rh {f:Nat} {F:Fm} (hb:S.bad (bk c 1 f)=0) (hF:S.bg[f]?=some F):(S.play (bk c 1 f)).S.hs c=cC (S.PH c) (S.hs c) F.1 F.2∧(S.play (bk c 1 f)).S.ds c=S.ds c∧(S.play (bk c 1 f)).e=dE (S.PH c) (S.hs c) F.1 F.2:=by
 obtain⟨e1,e2,e3⟩:=cX S hb
 have ec:(bk c 1 f).c.toNat=c:=Int.toNat_natCast c
 have h1:¬ (bk c 1 f).k=1:=by show ¬ (3:Int)=1;decide
 have h2:¬ (bk c 1 f).k=2:=by show ¬ (3:Int)=2;decide
 have h3:(bk c 1 f).k=3∨(bk c 1 f).k=4:=.inl rfl
 have hs:(bk c 1 f).s=1:=rfl
 have hfr:=tE (c:=c) (s:=1) hF
 rw[ec]at e1 e2
 refine⟨e2.trans ?_,e1.trans ?_,e3.trans ?_⟩
 ·unfold Ws.actHF
  rw[if_neg h1,if_neg h2,if_pos h3,if_pos hs,ec,hfr]
 ·unfold Ws.actDF
  rw[if_neg h1,if_neg h2,if_pos h3,if_pos hs,ec]
 ·unfold Ws.actEF
  rw[if_neg h1,if_neg h2,if_pos h3,if_pos hs,ec,hfr]
theorem kS (hb:S.bad (co c 1)=0):(S.play (co c 1)).S.hs c=fC (S.hs c)∧(S.play (co c 1)).S.ds c=S.ds c∧(S.play (co c 1)).e=fS (S.hs c):=by
 obtain⟨e1,e2,e3⟩:=cX S hb
 have ec:(co c 1).c.toNat=c:=Int.toNat_natCast c
 have h:∀ x:Int,x≠6→¬ (co c 1).k=x:=fun x hx e=>hx (by rw[← e];rfl)
 have h3:¬ ((co c 1).k=3∨(co c 1).k=4):=fun z=>by rcases z with z | z <;> cases z
 have hs:(co c 1).s=1:=rfl
 rw[ec]at e1 e2
 refine⟨e2.trans ?_,e1.trans ?_,e3.trans ?_⟩
 ·unfold Ws.actHF
  rw[if_neg (h 1 (by decide)),if_neg (h 2 (by decide)),if_neg h3,if_neg (h 5 (by decide)),if_pos (show (co c 1).k=6 from rfl),if_pos hs,ec]
 ·unfold Ws.actDF
  rw[if_neg (h 1 (by decide)),if_neg (h 2 (by decide)),if_neg h3,if_neg (h 5 (by decide)),if_pos (show (co c 1).k=6 from rfl),if_pos hs,ec]
 ·unfold Ws.actEF
  rw[if_neg (h 1 (by decide)),if_neg (h 2 (by decide)),if_neg h3,if_neg (h 5 (by decide)),if_pos (show (co c 1).k=6 from rfl),if_pos hs,ec]
theorem iW (hb:S.bad (co c 2)=0):(S.play (co c 2)).S.hs c=S.hs c∧(S.play (co c 2)).S.ds c=cY (S.ds c)∧(S.play (co c 2)).e=fF (S.ds c):=by
 obtain⟨e1,e2,e3⟩:=cX S hb
 have ec:(co c 2).c.toNat=c:=Int.toNat_natCast c
 have h:∀ x:Int,x≠6→¬ (co c 2).k=x:=fun x hx e=>hx (by rw[← e];rfl)
 have h3:¬ ((co c 2).k=3∨(co c 2).k=4):=fun z=>by rcases z with z | z <;> cases z
 have hs:¬ (co c 2).s=1:=by show ¬ ((2:Nat):Int)=1;decide
 rw[ec]at e1 e2
 refine⟨e2.trans ?_,e1.trans ?_,e3.trans ?_⟩
 ·unfold Ws.actHF
  rw[if_neg (h 1 (by decide)),if_neg (h 2 (by decide)),if_neg h3,if_neg (h 5 (by decide)),if_pos (show (co c 2).k=6 from rfl),if_neg hs,ec]
 ·unfold Ws.actDF
  rw[if_neg (h 1 (by decide)),if_neg (h 2 (by decide)),if_neg h3,if_neg (h 5 (by decide)),if_pos (show (co c 2).k=6 from rfl),if_neg hs,ec]
 ·unfold Ws.actEF
  rw[if_neg (h 1 (by decide)),if_neg (h 2 (by decide)),if_neg h3,if_neg (h 5 (by decide)),if_pos (show (co c 2).k=6 from rfl),if_neg hs,ec]
theorem r9 {l:Nat} {b:Nat→Nat} (hb:S.bad (cS c 1 l b)=0):(S.play (cS c 1 l b)).S.hs c=dx (S.PH c) (S.hs c) l b false∧(S.play (cS c 1 l b)).S.ds c=S.ds c∧(S.play (cS c 1 l b)).e=eW (S.PH c) l:=by
 obtain⟨e1,e2,e3⟩:=cX S hb
 have ec:(cS c 1 l b).c.toNat=c:=Int.toNat_natCast c
 have hs:(cS c 1 l b).s=1:=rfl
 rw[ec]at e1 e2
 refine⟨e2.trans ?_,e1.trans ?_,e3.trans ?_⟩
 ·unfold Ws.actHF
  rw[if_pos (show (cS c 1 l b).k=1 from rfl),if_pos hs,ec]
  rfl
 ·unfold Ws.actDF
  rw[if_pos (show (cS c 1 l b).k=1 from rfl),if_pos hs,ec]
 ·unfold Ws.actEF
  rw[if_pos (show (cS c 1 l b).k=1 from rfl),if_pos hs,ec]
  rfl
theorem rB {l:Nat} {b:Nat→Nat} (hb:S.bad (cS c 2 l b)=0):(S.play (cS c 2 l b)).S.hs c=S.hs c∧(S.play (cS c 2 l b)).S.ds c=dz (S.PD c) (S.ds c) l b false∧(S.play (cS c 2 l b)).e=fc (S.PD c) (S.ds c) l:=by
 obtain⟨e1,e2,e3⟩:=cX S hb
 have ec:(cS c 2 l b).c.toNat=c:=Int.toNat_natCast c
 have hs:¬ (cS c 2 l b).s=1:=by show ¬ ((2:Nat):Int)=1;decide
 rw[ec]at e1 e2
 refine⟨e2.trans ?_,e1.trans ?_,e3.trans ?_⟩
 ·unfold Ws.actHF
  rw[if_pos (show (cS c 2 l b).k=1 from rfl),if_neg hs,ec]
 ·unfold Ws.actDF
  rw[if_pos (show (cS c 2 l b).k=1 from rfl),if_neg hs,ec]
  rfl
 ·unfold Ws.actEF
  rw[if_pos (show (cS c 2 l b).k=1 from rfl),if_neg hs,ec]
  rfl
end
end Go.Proofs.YtfgnmadnmjdbiaaGreat
namespace Go.Proofs.YtfgnmadnmjdbiaaGreat
open Go.RowKit Go.Maps
set_option linter.unusedVariables false
structure Pq where
 c:Nat
 o:Int
 i:Int
 t:Int
 n:Nat
end Go.Proofs.YtfgnmadnmjdbiaaGreat
