/- A device's life as plain data: what every call makes of it, and what it answers. -/
import Derived.Test.YtmleiemlfogffaaGreatWv2
import Derived.Test.YtmleiemlfogffaaGreatCPl
import Derived.Test.YtmleiemlfogffaaGreatWatch
import Derived.Test.YtmleiemlfogffaaGreatDp
import Derived.Test.YtmleiemlfogffaaGreatPar
namespace Go.Proofs.YtmleiemlfogffaaGreat
set_option maxRecDepth 100000
open Go.RowKit

/-- A set. -/
structure Pm where
  c : Nat
  o : Nat
  i : Nat
  t : Nat
  n : Nat
structure Pok (P : Pm) : Prop where
  ok : okP P.c P.o P.i P.t P.n
  c : P.c < 4294967296
  n : P.n < 4294967296
theorem Pok.o1 {P : Pm} (h : Pok P) : 1 ≤ P.o := by have := h.ok.2.1; omega
theorem Pok.o8 {P : Pm} (h : Pok P) : P.o ≤ 8 := by have := h.ok.2.1; omega
theorem Pok.i1 {P : Pm} (h : Pok P) : 1 ≤ P.i := by have := h.ok.2.2.1; omega
theorem Pok.i8 {P : Pm} (h : Pok P) : P.i ≤ 8 := by have := h.ok.2.2.1; omega
theorem Pok.t1 {P : Pm} (h : Pok P) : 1 ≤ P.t := by have := h.ok.2.2.2.1; omega
theorem Pok.t2 {P : Pm} (h : Pok P) : P.t ≤ 1048576 := by have := h.ok.2.2.2.1; omega
theorem Pok.n2 {P : Pm} (h : Pok P) : 2 ≤ P.n := by have := h.ok.2.2.2.2; omega
theorem Pok.c0 {P : Pm} (h : Pok P) : P.c ≠ 0 := by have := h.ok.1; omega

/-- What a device holds beside its set: the memory, all that was noted, the watchdog's count, the valve, state, session, number, sent, odd, the application's value and hold. -/
structure Sd where
  ms : Ms
  L : List R4
  dc : Nat
  v : Vs
  st : Nat
  ss : Nat
  nm : Nat
  sn : Nat
  od : Nat
  ap : Nat → Nat
  hd : Bool

def dnote (s : Sd) (x : Int) : Sd := { s with L := s.L ++ [(((s.L.length + 1 : Nat) : Int), x, (s.ss : Int), (s.nm : Int))] }
def dlatch (s : Sd) (x : Int) : Sd := if vtripB s.v x = true then dnote { s with v := vtrip s.v x } x else { s with v := vtrip s.v x }
def don (s : Sd) : Sd := { s with od := 0, dc := 0, v := vfresh s.v }
def dleave (s : Sd) (k : Nat) : Sd := { s with v := vrun s.v false, ss := 0, nm := 0, sn := 0, od := 0, st := k }
def dlife (s : Sd) (k : Nat) : Sd := { s with dc := 0, v := vnew, st := k, ss := 0, nm := 0, sn := 0, od := 0, ap := fun _ => 0, hd := false }
def dbusy (s : Sd) : Bool := decide (s.st = 2 ∨ s.st = 3 ∨ s.st = 4)
def dodd (s : Sd) : Sd :=
  if dbusy s = true then
    (if s.od + 1 < 4 then { s with od := s.od + 1 } else dleave (if s.st = 4 then dlatch { s with od := s.od + 1 } 131 else { s with od := s.od + 1 }) 1)
  else s
def dflags (s : Sd) : Nat := (if von s.v = true then 0 else 1) + (if vreq s.v = true then 2 else 0) + (if s.v.lat = 0 then 0 else 4) + (if s.hd = true then 8 else 0)

/-- Bytes: how many, and which. -/
abbrev Fm := Nat × (Nat → Nat)
def fm0 : Fm := (0, fun _ => 0)
def encF (k c s n f len : Nat) (bs : Nat → Nat) : Fm := if LW k c s n f len len = 0 then (15 + len + 4, PM.sl (fr k c s n f len bs) (15 + len)) else fm0
def dsay (P : Pm) (s : Sd) (k num fl len : Nat) (bs : Nat → Nat) : Fm := encF k P.c s.ss num fl len bs
def dnone (P : Pm) (s : Sd) : Fm := dsay P s 22 0 0 0 (fun _ => 0)
/-- The signature. -/
def dsg (P : Pm) : Nat → Nat := PM.w4 (PM.K (pe P.c P.o P.i P.t P.n) 14)
def doffer (P : Pm) (s : Sd) : Fm := dsay P s 17 0 0 4 (dsg P)
/-- Are these bytes the signature? -/
def dsigned (P : Pm) (len : Nat) (bs : Nat → Nat) : Bool := decide (BA bs len = BA (dsg P) 4)

structure Rs where
  s : Sd
  f : Fm
  e : Int
def dbegin (P : Pm) (mx n : Nat) (s : Sd) : Rs :=
  if (nx mx n s.ms.bs false s.ms).e = 80 then ⟨dleave (dlatch { s with ms := (nx mx n s.ms.bs false s.ms).s } 80) 5, dnone P (dleave (dlatch { s with ms := (nx mx n s.ms.bs false s.ms).s } 80) 5), 80⟩
  else if (nx mx n s.ms.bs false s.ms).e ≠ 0 then ⟨dlife { s with ms := (nx mx n s.ms.bs false s.ms).s } 6, fm0, (nx mx n s.ms.bs false s.ms).e⟩
  else ⟨{ dleave { s with ms := (nx mx n s.ms.bs false s.ms).s } 2 with ss := (nx mx n s.ms.bs false s.ms).v }, doffer P { dleave { s with ms := (nx mx n s.ms.bs false s.ms).s } 2 with ss := (nx mx n s.ms.bs false s.ms).v }, 0⟩
def drefuse (P : Pm) (s : Sd) (e : Int) : Rs := ⟨dodd s, dnone P (dodd s), e⟩
def dwish (P : Pm) (mx n : Nat) (s : Sd) : Rs :=
  if (dodd s).st = 2 then ⟨dodd s, doffer P (dodd s), 130⟩ else if (dodd s).st = 3 ∨ (dodd s).st = 4 then ⟨dodd s, dnone P (dodd s), 130⟩ else dbegin P mx n (dodd s)
def dechoS (s : Sd) : Sd := if s.st = 2 then don { s with st := 3 } else s
def dstartS (s : Sd) : Sd := if s.st = 3 then don { s with st := 4, v := vrun s.v true } else s
def ddataS (s : Sd) (num fl : Nat) (bs : Nat → Nat) : Sd := { don { s with nm := num } with v := vtake (vhold (don { s with nm := num }).v (decide (8 ≤ fl))) bs, sn := s.sn + 1 }
def dlastS (P : Pm) (s : Sd) : Sd := { dlatch (don { s with nm := P.n }) 80 with sn := P.n }
def dendS (s : Sd) : Sd := { s with v := vrun s.v false, st := 5 }
def dtake (P : Pm) (mx n : Nat) (s : Sd) (k ss num fl len : Nat) (bs : Nat → Nat) : Rs :=
  if k = 1 then (if dsigned P len bs = true then dwish P mx n s else drefuse P s 91)
  else if k = 2 ∧ ss = s.ss ∧ (s.st = 2 ∨ s.st = 3) then (if dsigned P len bs = true then ⟨dechoS s, dsay P (dechoS s) 18 0 0 0 (fun _ => 0), 0⟩ else drefuse P s 91)
  else if k = 3 ∧ ss = s.ss ∧ (s.st = 3 ∨ s.st = 4 ∧ s.nm = 0) then ⟨dstartS s, dsay P (dstartS s) 19 0 0 0 (fun _ => 0), 0⟩
  else if k = 4 ∧ (ss = s.ss ∧ s.st = 4 ∧ s.nm < num) ∧ num < P.n ∧ len = P.o then ⟨ddataS s num fl bs, dsay P (ddataS s num fl bs) 20 (s.sn + 1) (dflags (ddataS s num fl bs)) P.i s.ap, 0⟩
  else if k = 5 ∧ (ss = s.ss ∧ s.st = 4 ∧ s.nm < num) ∧ num = P.n then ⟨dendS (dlastS P s), dsay P (dlastS P s) 21 P.n 0 0 (fun _ => 0), 0⟩
  else drefuse P s 130
def dhear (P : Pm) (mx n : Nat) (s : Sd) (len : Nat) (bs : Nat → Nat) : Rs :=
  if DE bs len ≠ 0 then ⟨s, fm0, DE bs len⟩ else if hostK (bs 0) = false then ⟨s, fm0, 43⟩ else if w4v bs 1 ≠ P.c then ⟨s, fm0, 44⟩
  else dtake P mx n s (bs 0) (w4v bs 5) (w4v bs 9) (bs 13) (len - 19) (fun i => bs (15 + i))
def drecv (P : Pm) (mx n : Nat) (s : Sd) (len : Nat) (bs : Nat → Nat) : Rs :=
  if s.st = 6 then ⟨s, fm0, 70⟩
  else if (dhear P mx n s len bs).e ≠ 0 ∧ (dhear P mx n s len bs).e ≠ 70 then ⟨dnote (dhear P mx n s len bs).s (dhear P mx n s len bs).e, (dhear P mx n s len bs).f, (dhear P mx n s len bs).e⟩
  else dhear P mx n s len bs

def dwriteE (P : Pm) (s : Sd) (len : Nat) : Int := if s.st = 6 then 70 else if len = P.i then 0 else 45
def dwriteS (P : Pm) (s : Sd) (len : Nat) (bs : Nat → Nat) (h : Bool) : Sd := if s.st = 6 then s else if len = P.i then { s with ap := bs, hd := h } else s
def dtickE (s : Sd) (k : Int) : Int := if s.st = 6 then 70 else if k < 0 then 2 else 0
def dtickS (P : Pm) (s : Sd) (k : Int) : Sd := if s.st = 6 then s else if k < 0 then s else
  if told P.t s.dc k.toNat = true then dlatch { s with dc := tk P.t s.dc k.toNat } 100 else { s with dc := tk P.t s.dc k.toNat }
def dackE (s : Sd) : Int := if s.st = 6 then 70 else vackE s.v
def dackS (s : Sd) : Sd := if s.st = 6 then s else { s with v := vack s.v }
/-- The memory that is told On, and armed with k - 1 if k is above 0. -/
def rsM (s : Ms) (k : Int) : Ms := if 0 < k then arS { s with off := false, ar := false } (k - 1) else { s with off := false, ar := false }
def dresetE (mx n : Nat) (s : Sd) (k : Int) : Int := if k < 0 then 2 else opE mx n (rsM s.ms k)
def dresetS (mx n : Nat) (s : Sd) (k : Int) : Sd := if k < 0 then s else dlife { s with ms := opS mx n (rsM s.ms k) } (if opE mx n (rsM s.ms k) = 0 then 1 else 6)

end Go.Proofs.YtmleiemlfogffaaGreat
