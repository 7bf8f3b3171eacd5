/- Part 23: contracts that the proof rests on. -/
import Derived.Deep.RegionLaw
import Derived.Maps.AppendAt
import Derived.Test.YtdpahjfekoikiaaGreatPkX20
import Derived.Test.YtdpahjfekoikiaaGreatPkX21
set_option maxHeartbeats 64000000
set_option maxRecDepth 100000
namespace Go.Proofs.YtdpahjfekoikiaaGreat
open Tryz
open Go.RowKit
theorem og (K c s n F len:Nat) (bs:Nat→Nat) (i:Nat) (_:i<15+len) :
  (if i<15 then (if i<13 then (if i<9 then (if i<5 then (if i=0 then K else PM.w4 c (i-1)) else PM.w4 s (i-5)) else PM.w4 n (i-9)) else (if i-13=0 then F else len)) else bs (i-15))=fr K c s n F len bs i:=by
 unfold fr
 by_cases h0:i=0
 ·simp (disch:=omega) only [if_pos]
 ·by_cases h1:i<5
  ·simp (disch:=omega) only [if_pos,if_neg]
  ·by_cases h2:i<9
   ·simp (disch:=omega) only [if_pos,if_neg]
   ·by_cases h3:i<13
    ·simp (disch:=omega) only [if_pos,if_neg]
    ·by_cases h4:i=13
     ·simp (disch:=omega) only [if_pos,if_neg]
     ·by_cases h5:i=14
      ·simp (disch:=omega) only [if_pos,if_neg]
      ·simp (disch:=omega) only [if_pos,if_neg]
theorem vE (w:World) (x y:Nat) (hx:x<256) (hy:y<256):Row8 (w.alloc (.cells #[.int .u8 (x:Int),.int .u8 (y:Int)] 5)) (ac w.heap.size 0) 2 2 (fun i=>if i=0 then x else y):=by
 refine ev w _ _ _ 2 (fun i _=>?_) (fun i hi=>?_)
 ·by_cases h:i=0
  ·rw[if_pos h];exact hx
  ·rw[if_neg h];exact hy
 ·rcases (show i=0∨i=1 by omega) with rfl | rfl <;> rfl
theorem iG (k:Int) (c s n:Nat) (f:Int) (a:Option Addr) (len cap:Nat) (w:World) (hE:LW k c s n f len len≠0) :
  Calls prog 95 #[.agg #[.int .i64 k,.int .u32 c,.int .u32 s,.int .u32 n,.int .i64 f,.slice a len cap]] w fun e w'=>e=.returned (.tuple #[.slice none 0 0,.int .i64 (LW k c s n f len len)])∧Below w.heap.size w w':=by
 have hb:Below w.heap.size w (w.alloc (.cells #[.int .i64 k,.int .u32 c,.int .u32 s,.int .u32 n,.int .i64 f,.slice a len cap] 103)):=(Below.refl _ _).alloc (Nat.le_refl _) _
 have hF:=eT k c s n f a len cap (w.alloc (.cells #[.int .i64 k,.int .u32 c,.int .u32 s,.int .u32 n,.int .i64 f,.slice a len cap] 103))
 generalize LW k c s n f len len=E at *
 have q:(E == 0)=false:=by simpa using hE
 go_enter func95,ntmps95
 go_wp2_with fail
 refine hF.mono ?_
 rintro e w1 ⟨rfl,hb1⟩
 have hb2:=aF hb hb.size hb1
 clear hb hF hb1
 go_wp2_with fail
 go_ret2
 exact⟨rfl,hb2⟩
theorem ic (K c s n F:Nat) (a:Option Addr) (len cap:Nat) (bs:Nat→Nat) (w:World) (hr:Row8 w a len cap bs) (hc:c<4294967296) (hs:s<4294967296) (hn:n<4294967296) (hE:LW K c s n F len len=0) :
  Calls prog 95 #[.agg #[.int .i64 K,.int .u32 c,.int .u32 s,.int .u32 n,.int .i64 F,.slice a len cap]] w fun e w'=>∃ v,e=.returned (.tuple #[v,.int .i64 0]) ∧
   Hid (w'.ownsRow w.heap.size 5 1 v (15+len+4) (CB (PM.sl (fr K c s n F len bs) (15+len)) (15+len+4))∧Below w.heap.size w w'):=by
 obtain⟨i0,hi,hz0,hz1,hz2⟩:=info_parts aS
 obtain⟨hkk,_,_,hll,hff⟩:=cR hE
 have hA:Below w.heap.size w (w.alloc (.cells #[.int .i64 K,.int .u32 c,.int .u32 s,.int .u32 n,.int .i64 F,.slice a len cap] 103)):=(Below.refl _ _).alloc (Nat.le_refl _) _
 have hL:=eT K c s n F a len cap (w.alloc (.cells #[.int .i64 K,.int .u32 c,.int .u32 s,.int .u32 n,.int .i64 F,.slice a len cap] 103))
 rw[hE]at hL
 have hX:=gi w K c s n F (.slice a len cap)
 have hAs:w.heap.size < (w.alloc (.cells #[.int .i64 K,.int .u32 c,.int .u32 s,.int .u32 n,.int .i64 F,.slice a len cap] 103)).heap.size:=by simp
 have hrA:=hr.below hA
 clear hE hr
 go_enter func95,ntmps95
 go_wp2_with fail
 refine hL.mono ?_
 rintro e w1 ⟨rfl,hb1⟩
 generalize w.alloc (.cells #[.int .i64 K,.int .u32 c,.int .u32 s,.int .u32 n,.int .i64 F,.slice a len cap] 103)=wa at *
 have hs1:=hb1.size
 have hb2:=hb1.alloc hs1 (.cells #[.int .u8 (K:Int)] 5)
 have O2:(w1.alloc (.cells #[.int .u8 (K:Int)] 5)).ownsRow wa.heap.size 5 1 (.slice (ac w1.heap.size 0) 1 1) 1 (CB (fun _=>K) 1):=⟨rfl,.inr ⟨w1.heap.size,1,_,rfl,hs1,aB w1 _,Nat.le_refl _,by unfold maxLen;omega,rfl,rfl⟩⟩
 have hKm:(K:Int) % 256=(K:Int):=by omega
 have hFm:(F:Int) % 256=(F:Int):=by omega
 have hlm:(len:Int) % 256=(len:Int):=by omega
 have x0:=(hX w1 hb1).c0
 have x1:=(hX _ hb2).c1
 clear hL
 go_wp2_with fail
 generalize w1.alloc (.cells #[.int .u8 (K:Int)] 5)=w2 at *
 refine (bD c _ hc).mono ?_
 rintro e u3 ⟨rfl,rfl⟩
 have R3:=qV w2 c hc
 have P3:=O2.alloc (.cells #[.int .u8 ((c:Int) / 16777216),.int .u8 ((c:Int) / 65536 % 256),.int .u8 ((c:Int) / 256 % 256),.int .u8 ((c:Int) % 256)] 5)
 have hs3:wa.heap.size≤w2.heap.size:=hb2.size
 have B3:=hb2.alloc hs3 (.cells #[.int .u8 ((c:Int) / 16777216),.int .u8 ((c:Int) / 65536 % 256),.int .u8 ((c:Int) / 256 % 256),.int .u8 ((c:Int) % 256)] 5)
 have ht3:=B3.size
 clear O2 hb2
 go_wp2_with (at_builtin;refine ae rfl (.tmp 15) (.tmp 18) 43 rfl wa.heap.size 5 i0 (.int .u8 0) underlying43 hi hz0 hz1 hz2 rfl _ 1 _ rfl P3 _ 4 4 (PM.w4 c) rfl R3 (by unfold maxLen;omega) (by omega) ht3 ?_)
 intro v3 w3 O3 G3
 have C3:Below wa.heap.size wa w3:=B3.grown G3 ht3 (fun j hj=>(P3.lt j hj).1)
 rw[aX]at O3
 clear R3 P3 B3 G3
 have x2:=(hX w3 C3).c2
 go_wp2_with fail
 refine (bD s _ hs).mono ?_
 rintro e u4 ⟨rfl,rfl⟩
 have R4:=qV (w3) s hs
 have P4:=O3.alloc (.cells #[.int .u8 ((s:Int) / 16777216),.int .u8 ((s:Int) / 65536 % 256),.int .u8 ((s:Int) / 256 % 256),.int .u8 ((s:Int) % 256)] 5)
 have hs4:wa.heap.size ≤ (w3).heap.size:=C3.size
 have B4:=C3.alloc hs4 (.cells #[.int .u8 ((s:Int) / 16777216),.int .u8 ((s:Int) / 65536 % 256),.int .u8 ((s:Int) / 256 % 256),.int .u8 ((s:Int) % 256)] 5)
 have ht4:=B4.size
 clear O3 C3
 go_wp2_with (at_builtin;refine ae rfl (.tmp 20) (.tmp 23) 43 rfl wa.heap.size 5 i0 (.int .u8 0) underlying43 hi hz0 hz1 hz2 rfl _ 5 _ rfl P4 _ 4 4 (PM.w4 s) rfl R4 (by unfold maxLen;omega) (by omega) ht4 ?_)
 intro v4 w4 O4 G4
 have C4:Below wa.heap.size wa w4:=B4.grown G4 ht4 (fun j hj=>(P4.lt j hj).1)
 rw[aX]at O4
 clear R4 P4 B4 G4
 have x3:=(hX w4 C4).c3
 go_wp2_with fail
 refine (bD n _ hn).mono ?_
 rintro e u5 ⟨rfl,rfl⟩
 have R5:=qV (w4) n hn
 have P5:=O4.alloc (.cells #[.int .u8 ((n:Int) / 16777216),.int .u8 ((n:Int) / 65536 % 256),.int .u8 ((n:Int) / 256 % 256),.int .u8 ((n:Int) % 256)] 5)
 have hs5:wa.heap.size ≤ (w4).heap.size:=C4.size
 have B5:=C4.alloc hs5 (.cells #[.int .u8 ((n:Int) / 16777216),.int .u8 ((n:Int) / 65536 % 256),.int .u8 ((n:Int) / 256 % 256),.int .u8 ((n:Int) % 256)] 5)
 have ht5:=B5.size
 clear O4 C4
 go_wp2_with (at_builtin;refine ae rfl (.tmp 25) (.tmp 28) 43 rfl wa.heap.size 5 i0 (.int .u8 0) underlying43 hi hz0 hz1 hz2 rfl _ 9 _ rfl P5 _ 4 4 (PM.w4 n) rfl R5 (by unfold maxLen;omega) (by omega) ht5 ?_)
 intro v5 w5 O5 G5
 have C5:Below wa.heap.size wa w5:=B5.grown G5 ht5 (fun j hj=>(P5.lt j hj).1)
 rw[aX]at O5
 clear R5 P5 B5 G5
 have x4:=(hX w5 C5).c4
 have x5:=(hX w5 C5).c5
 have R6:=vE w5 F len (by omega) (by omega)
 have P6:=O5.alloc (.cells #[.int .u8 (F:Int),.int .u8 (len:Int)] 5)
 have hs6:=C5.size
 have B6:=C5.alloc hs6 (.cells #[.int .u8 (F:Int),.int .u8 (len:Int)] 5)
 have ht6:=B6.size
 clear O5 C5
 go_wp2_with (at_builtin;refine ae rfl (.tmp 30) (.tmp 38) 43 rfl wa.heap.size 5 i0 (.int .u8 0) underlying43 hi hz0 hz1 hz2 rfl _ 13 _ rfl P6 _ 2 2 (fun i=>if i=0 then F else len) rfl R6 (by unfold maxLen;omega) (by omega) ht6 ?_)
 intro v6 w6 O6 G6
 have C6:Below wa.heap.size wa w6:=B6.grown G6 ht6 (fun j hj=>(P6.lt j hj).1)
 rw[aX]at O6
 clear R6 P6 B6 G6
 have x6:=(hX w6 C6).c5
 have R7:=hrA.below C6
 have ht7:=C6.size
 go_wp2_with (at_builtin;refine ae rfl (.tmp 40) (.tmp 42) 43 rfl wa.heap.size 5 i0 (.int .u8 0) underlying43 hi hz0 hz1 hz2 rfl _ 15 _ rfl O6 a len cap bs rfl R7 (by unfold maxLen;omega) (by omega) ht7 ?_)
 intro v7 w7 O7 G7
 have C7:Below wa.heap.size wa w7:=C6.grown G7 ht7 (fun j hj=>(O6.lt j hj).1)
 rw[aX,cn _ (fr K c s n F len bs) _ (fun j hj=>og K c s n F len bs j (by omega))]at O7
 have hby:∀ i,i<15+len→fr K c s n F len bs i<256:=pT (by omega) (by omega) (by omega) hrA.byte
 obtain⟨a8,c8,rfl,R8⟩:=aO O7 hby
 have hS:=ld a8 (15+len) c8 _ w7 R8 (by omega)
 have hs8:=C7.size
 have hBB:Below w.heap.size w w7:=hA.trans (C7.mono (Nat.le_of_lt hAs))
 clear O6 C6 R7 G7 O7 R8 hX x0 x1 x2 x3 x4 x5 x6 hrA
 go_wp2_with fail
 refine hS.mono ?_
 rintro e w9 ⟨v,rfl,own9,bel9⟩
 clear hS
 go_wp2_with fail
 go_ret2
 exact⟨v,rfl,ak own9 (by omega),aF hBB (by omega) bel9⟩
def ch (k c s n:Nat) (f:Int) (len:Nat) (bs:Nat→Nat):Fm:=if LW k c s n f len len=0 then (15+len+4,PM.sl (fr k c s n f.toNat len bs) (15+len)) else pR
theorem cL (k c s n:Nat) (f:Int) (a:Option Addr) (len cap:Nat) (bs:Nat→Nat) (w:World) (hr:Row8 w a len cap bs) (hc:c<4294967296) (hs:s<4294967296) (hn:n<4294967296) :
  Calls prog 52 #[.agg #[.int .i64 (k:Nat),.int .u32 (c:Nat),.int .u32 (s:Nat),.int .u32 (n:Nat),.int .i64 f,.slice a len cap]] w fun e w'=>∃ v,e=.returned v∧Hid (Fr w' w.heap.size v (ch k c s n f len bs)∧Below w.heap.size w w'):=by
 have b0:Below w.heap.size w (w.alloc (.cells #[.int .i64 (k:Nat),.int .u32 (c:Nat),.int .u32 (s:Nat),.int .u32 (n:Nat),.int .i64 f,.slice a len cap] 103)):=(Below.refl _ _).alloc (Nat.le_refl _) _
 have fin:Calls prog 95 #[.agg #[.int .i64 (k:Nat),.int .u32 (c:Nat),.int .u32 (s:Nat),.int .u32 (n:Nat),.int .i64 f,.slice a len cap]] (w.alloc (.cells #[.int .i64 (k:Nat),.int .u32 (c:Nat),.int .u32 (s:Nat),.int .u32 (n:Nat),.int .i64 f,.slice a len cap] 103)) fun e w'=>∃ v E,e=.returned (.tuple #[v,.int .i64 E])∧Hid (Fr w' w.heap.size v (ch k c s n f len bs)∧Below w.heap.size w w'):=by
  unfold ch
  by_cases hE:LW k c s n f len len=0
  ·rw[if_pos hE]
   have hf:=(cR hE).2.2.2.2
   obtain⟨F,rfl⟩:∃ F:Nat,f=(F:Int):=⟨f.toNat,by omega⟩
   refine (ic k c s n F a len cap bs _ (hr.below b0) hc hs hn hE).mono ?_
   rintro e w' ⟨v,rfl,h4⟩
   exact⟨v,0,rfl,ak h4.out.1 b0.size,b0.trans (h4.out.2.mono b0.size)⟩
  ·rw[if_neg hE]
   refine (iG k c s n f a len cap _ hE).mono ?_
   rintro e w' ⟨rfl,h4⟩
   exact⟨_,_,rfl,fu _ _ _,b0.trans (h4.mono b0.size)⟩
 clear hr hc hs hn b0
 go_enter func52,ntmps52
 go_wp2_with fail
 refine fin.mono ?_
 rintro e w4 ⟨v,E,rfl,h4⟩
 clear fin
 go_wp2_with fail
 go_ret
 exact⟨v,rfl,h4⟩
def P0:Pm:=⟨7,2,1,10,9⟩
theorem i7 (w:World):Calls prog 6 #[] w fun e w'=>e=.returned (.agg #[.int .u32 (P0.c:Nat),.int .i64 (P0.o:Nat),.int .i64 (P0.i:Nat),.int .i64 (P0.t:Nat),.int .u32 (P0.n:Nat)])∧Below w.heap.size w w':=by
 go_enter func6,ntmps6
 go_wp2_with fail
 refine bodyPost_ret (v:=.agg #[.int .u32 (P0.c:Nat),.int .i64 (P0.o:Nat),.int .i64 (P0.i:Nat),.int .i64 (P0.t:Nat),.int .u32 (P0.n:Nat)]) (by simp[results,results6,go_sem,P0]) rfl ⟨rfl,?_⟩
 exact (Below.refl _ _).alloc (Nat.le_refl _) _
def cA (P:Pm):Fm:=(23,PM.sl (fr 1 P.c 0 0 0 4 (bZ P)) 19)
theorem jn {c:Nat} (h:c≠0):LW 1 c 0 0 0 4 4=0:=by
 unfold LW
 rw[if_neg (by decide),if_neg (by omega),if_neg (by decide),if_neg (by decide),if_neg (by decide),if_neg (by decide)]
theorem rF (P:Pm) (h:Pok P):cH 1 P.c 0 0 0 4 (bZ P)=cA P:=by
 exact if_pos (jn h.c0)
theorem jV (f g:Nat→Nat) (n:Nat) (h:∀ i,i<n→f i=g i):BA f n=BA g n:=by
 unfold BA
 congr 1
 apply List.map_congr_left
 intro i hi
 rw[h i (List.mem_range.1 hi)]
theorem oj (P:Pm) (h:Pok P) (mx n:Nat) (s:Sd):bi P mx n s (cA P).1 (cA P).2=bk P mx n s:=by
 obtain⟨e1,e2,e3,e4,e5,e6,e7⟩:=jm 1 P.c 0 0 0 4 (bZ P) h.c (by omega) (by omega) (by omega) (jn h.c0)
 have hd:DE (cA P).2 (cA P).1=0:=e1
 have h0:(cA P).2 0=1:=e2
 have h1:aE (cA P).2 1=P.c:=e3
 unfold bi
 rw[if_neg (by omega),if_neg (by rw[h0];decide),if_neg (by omega),h0]
 unfold aw
 rw[if_pos rfl,if_pos]
 unfold au
 exact decide_eq_true (jV _ _ 4 (fun i hi=>e7 i hi))
def M0:Ms:=S0 fun _=>0
theorem qG (mx:Nat) (h:mx≠0):gc mx 16 M0=0∧iy mx 16 M0=M0:=by
 have hm:be M0.bs=[]:=by decide
 constructor
 ·unfold gc
  rw[if_neg (by omega),if_neg (by decide),hm]
  rfl
 ·unfold iy
  rw[if_neg (by omega),if_neg (by decide),hm]
  rfl
theorem tq (mx:Nat) (h:mx≠0):(nx mx 16 M0.bs false M0).e=0∧(nx mx 16 M0.bs false M0).v=1:=by
 have hv:vz M0.bs=0:=by decide
 have ht:tg M0.bs=0:=by decide
 unfold nx
 rw[if_neg (by decide),hv,if_neg (by omega),ht]
 rcases dN 16 (bp 0 (0+1)) M0 (fun x hx=>(dw _ _ 16 (by omega) (by omega) x hx).1) rfl (Int.le_refl _) with ⟨e,_⟩ | ⟨_,_,e,_⟩
 ·rw[if_pos e];exact⟨rfl,rfl⟩
 ·cases e
theorem lT (P:Pm) (h:Pok P) (mx:Nat) (hm:mx≠0) :
  (aI P mx 16 (bj M0) (cA P).1 (cA P).2).e=0∧(aI P mx 16 (bj M0) (cA P).1 (cA P).2).s.st=2∧(aI P mx 16 (bj M0) (cA P).1 (cA P).2).f=cH 17 P.c 1 0 0 4 (bZ P):=by
 obtain⟨n1,n2⟩:=tq mx hm
 have hw:bk P mx 16 (bj M0)=aZ P mx 16 (bj M0):=rfl
 have hb:aZ P mx 16 (bj M0)=⟨{ bB { bj M0 with ms:=(nx mx 16 M0.bs false M0).s } 2 with ss:=(nx mx 16 M0.bs false M0).v },dK P { bB { bj M0 with ms:=(nx mx 16 M0.bs false M0).s } 2 with ss:=(nx mx 16 M0.bs false M0).v },0⟩:=by
  unfold aZ
  have e1:(nx mx 16 (bj M0).ms.bs false (bj M0).ms).e=0:=n1
  rw[if_neg (by rw[e1];decide),if_neg (by rw[e1];decide)]
  rfl
 unfold aI
 rw[if_neg (by show (1:Nat)≠6;omega),oj P h,hw,hb,if_neg (by rintro ⟨e,_⟩;exact e rfl)]
 refine⟨rfl,rfl,?_⟩
 show cH 17 P.c (nx mx 16 M0.bs false M0).v 0 0 4 (bZ P)=_
 rw[n2]
theorem pt {c s:Nat} (h:c≠0) (hs:s≠0):LW 17 c s 0 0 4 4=0:=by
 unfold LW
 rw[if_neg (by decide),if_neg (by omega),if_neg (by decide),if_neg (by unfold aW;rw[if_neg (by omega),if_neg (by omega)];simp;omega),if_neg (by decide),if_neg (by decide)]
theorem Fr.row {w:World} {M:Nat} {v:Value} {f:Fm} (h:Fr w M v f) (hb:∀ i,i<f.1→f.2 i<256):∃ a cap,v=.slice a f.1 cap∧Row8 w a f.1 cap f.2:=aO h hb
theorem cu (k c s n f len:Nat) (bs:Nat→Nat) (hb:∀ i,i<len→bs i<256):∀ i,i < (cH k c s n f len bs).1→(cH k c s n f len bs).2 i<256:=by
 unfold cH
 by_cases h:LW k c s n f len len=0
 ·rw[if_pos h]
  have hz:=cR h
  intro i _
  have hfr:=pT (K:=k) (c:=c) (s:=s) (n:=n) (F:=f) (len:=len) (bs:=bs) (by omega) (by omega) (by omega) hb
  show PM.sl _ _ i<256
  unfold PM.sl PM.ct
  split
  ·rename_i h2;exact hfr i h2
  ·exact PM.w4_lt _ _
 ·rw[if_neg h];intro i hi;exact absurd hi (Nat.not_lt_zero i)
theorem du (P:Pm):∀ i,i<4→bZ P i<256:=fun i _=>PM.w4_lt _ i
theorem ni (m g n mx:Nat) (P:Pm) (hP:Pok P) (ms:Ms) (w:World) (hM:MR w m g n ms) (hx:mx<4294967296) (ht:ms.t<9223372036854774000) (h0:gc mx n ms=0) :
  Calls prog 8 #[.agg #[.int .u32 (P.c:Nat),.int .i64 (P.o:Nat),.int .i64 (P.i:Nat),.int .i64 (P.t:Nat),.int .u32 (P.n:Nat)],aa m 0,.int .u32 (mx:Nat)] w fun e w'=>∃ d,e=.returned (.tuple #[aa d 0,.int .i64 0])∧Hid (∃ U,Off [m,g] w w'∧DV w' d m g n mx P U (bj (iy mx n ms))∧∀ k,k ∈ U→k=m∨k=g∨w.heap.size≤k):=by
 refine (qA m g n mx P hP ms w hM hx ht).mono ?_
 rintro e w' ⟨p,rfl,h⟩
 obtain⟨o,_,hd,_⟩:=h.out
 obtain⟨d,U,rfl,D,hU⟩:=hd h0
 rw[h0]
 exact⟨d,rfl,U,o,D,hU⟩
theorem qY (d m g n mx:Nat) (P:Pm) (U:List Nat) (s:Sd) (w:World) (h:DV w d m g n mx P U s) :
  Calls prog 48 #[aa d 0] w fun e w'=>∃ a cap,e=.returned (.agg (gI s.st s.ss s.nm s.sn s.dc s.v.lat (bK s.v) (aL s.v) a P.o cap))∧Hid (Fr w' w.heap.size (.slice a P.o cap) (P.o,dy s.v)∧Row8 w' a P.o cap (dy s.v)∧Below w.heap.size w w'):=by
 obtain⟨B,x⟩:=id h
 refine (sW d m g n mx P U s w h).mono ?_
 rintro e w' ⟨v,rfl,h2⟩
 obtain⟨a,cap,hv,r⟩:=h2.out.1.row (fQ x.val)
 subst hv
 exact⟨a,cap,rfl,h2.out.1,r,h2.out.2⟩
theorem uI {mx n:Nat} {s:Ms} (hn:10≤n) (ho:s.off=false) (hl:0≤s.l) (hmx:mx<4294967296) :
  ((nx mx n s.bs false s).e=0→(nx mx n s.bs false s).v=vz s.bs+1∧vz (nx mx n s.bs false s).s.bs=vz s.bs+1∧vz s.bs<mx)∧((nx mx n s.bs false s).e≠0→vz (nx mx n s.bs false s).s.bs=vz s.bs):=by
 unfold nx
 rw[if_neg (by simp[ho])]
 by_cases hm:mx≤vz s.bs
 ·rw[if_pos hm]
  exact⟨fun e=>(by cases e),fun _=>rfl⟩
 ·rw[if_neg hm]
  rcases dN n (bp (tg s.bs) (vz s.bs+1)) s (fun x hx=>(dw _ _ n (io _) hn x hx).1) ho hl with ⟨h1,h2,_⟩ | ⟨h1,h2,_,h4⟩
  ·rw[if_pos h1]
   refine⟨fun _=>⟨rfl,?_,by omega⟩,fun e=>absurd rfl e⟩
   show vz (bO n (bp (tg s.bs) (vz s.bs+1)) s).bs=_
   rw[h2]
   exact tk _ _ (by omega) (by omega)
  ·rw[if_neg (by omega)]
   refine⟨fun e=>(by cases e),fun _=>?_⟩
   show vz (bO n (bp (tg s.bs) (vz s.bs+1)) s).bs=_
   rw[h2]
   refine ug _ _ _ ?_
   have:(bp (tg s.bs) (vz s.bs+1)).length=6:=rfl
   omega
theorem tZ {mx n:Nat} {s:Ms} (hl:0≤s.l) (hz:Bz s.bs):vz (iy mx n s).bs=vz s.bs:=by
 unfold iy
 by_cases h1:mx=0∨n<10
 ·rw[if_pos h1]
 ·rw[if_neg h1]
  by_cases h2:s.off=true
  ·rw[if_pos h2]
  ·rw[if_neg h2]
   rcases dN n (be s.bs) s (fun x hx=>(gn s.bs n (by omega) x hx).1) (by simpa using h2) hl with ⟨_,e,_⟩ | ⟨_,e,_⟩
   ·rw[e]
    have:=jP s.bs (be s.bs).length hz
    rwa [List.take_length]at this
   ·rw[e]
    exact jP s.bs _ hz
theorem nX {s:Sd} (h:s.st=1):aT s=s:=by
 unfold aT j8
 rw[h]
 rfl
theorem lR (P:Pm) (mx n:Nat) {s:Sd} (h:s.st=1):bk P mx n s=aZ P mx n s:=by
 unfold bk
 rw[nX h,h]
 rfl
theorem DV.facts {w:World} {d m g n mx:Nat} {P:Pm} {U:List Nat} {s:Sd} (h:DV w d m g n mx P U s):Bz s.ms.bs∧0≤s.ms.l∧10≤n∧mx≠0∧mx<4294967296∧(s.st≠6→s.ms.off=false):=by
 obtain⟨B,x⟩:=h
 exact⟨fun i hi=>x.mem.byte i (by have:=x.n10;omega),x.mem.l0,x.n10,x.mx0,x.mxl,fun hs=>(x.cel hs).2.2⟩
structure Vok (s:Vs):Prop where
 fr:s.lat=0→s.fr=false
 sm:s.sm=true→s.lat=0
theorem Vok.new:Vok ly:=⟨fun _=>rfl,fun h=>by cases h⟩
theorem Vok.trip {s:Vs} (h:Vok s) (x:Int):Vok (dH s x):=by
 unfold dH
 split
 ·exact h
 ·exact⟨fun _=>rfl,fun h=>by cases h⟩
theorem Vok.run {s:Vs} (h:Vok s) (o:Bool):Vok (cC s o):=by
 unfold cC
 split
 ·exact h
 ·exact⟨h.fr,fun h=>by cases h⟩
theorem Vok.hold {s:Vs} (h:Vok s) (o:Bool):Vok (cF s o):=⟨h.fr,h.sm⟩
theorem Vok.fresh {s:Vs} (h:Vok s):Vok (bJ s):=⟨fun e=>by show (s.lat != 0)=false;rw[show s.lat=0 from e];rfl,h.sm⟩
theorem Vok.take {s:Vs} (h:Vok s) (bs:Nat→Nat):Vok (bP s bs):=by
 unfold bP
 split
 ·rename_i k
  exact⟨h.fr,fun _=>k.2⟩
 ·exact h
def vm (P:Pm) (m mx:Nat) (cp lv vv:Value) (s:Sd) (av:Value):Array Value:=
 #[.int .u32 (P.c:Nat),.int .i64 (P.o:Nat),.int .i64 (P.i:Nat),.int .i64 (P.t:Nat),.int .u32 (P.n:Nat),aa m 0,.int .u32 (mx:Nat),cp,lv,.int .i64 (P.t:Nat),.int .i64 (s.dc:Nat),
  .int .i64 (P.o:Nat),.bool s.v.run,.bool s.v.held,.bool s.v.fr,.int .i64 s.v.lat,vv,.bool s.v.sm,.int .i64 (s.st:Nat),.int .u32 (s.ss:Nat),.int .u32 (s.nm:Nat),.int .u32 (s.sn:Nat),.int .i64 (s.od:Nat),av,.bool s.hd]
structure Bk2 where
 c:Nat
 M:List Nat
 cp:Value
 lv:Value
 vv:Value
 av:Value
 col:Nat→Nat
structure RB (w:World) (d m g n mx:Nat) (P:Pm) (U:List Nat) (s:Sd) (B:Bk2) (A:Prop):Prop where
 dev:w.heap[d]?=some (.cells (vm P m mx B.cp B.lv B.vv s B.av) 134 (0,0))
 mem:RR w m g n s.ms
 cel:A→B.cp=aa B.c 0∧RX w B.c m mx (vz s.ms.bs) false∧s.ms.off=false
 val:VV w B.M P.o s.v B.vv
 log:w.ownsRow 0 163 4 B.lv s.L.length (vV s.L)
 app:w.ownsRow 0 5 1 B.av P.i (CB s.ap P.i)
 apb:∀ i,i<P.i→s.ap i<256
 vok:Vok s.v
 dcl:s.dc≤P.t
 ltU:∀ k,k ∈ U→k<w.heap.size
 kd:B.col d=0∧d ∈ U
 km:B.col m=1∧m ∈ U
 kg:B.col g=1∧g ∈ U
 kc:B.col B.c=2∧B.c ∈ U
 kM:∀ k,k ∈ B.M→B.col k=4∧k ∈ U
 kl:∀ k,B.lv.ownBlock=some k→B.col k=5∧k ∈ U
 ka:∀ k,B.av.ownBlock=some k→B.col k=6∧k ∈ U
 pok:Pok P
 n10:10≤n
 mx0:mx≠0
 mxl:mx<4294967296
 nl:s.L.length=0→B.lv=.slice none 0 0
def RW (w:World) (d m g n mx:Nat) (P:Pm) (U:List Nat) (s:Sd):Prop:=∃ B,RB w d m g n mx P U s B (s.st≠6)
section
variable {w w':World} {d m g n mx:Nat} {P:Pm} {U:List Nat} {s s':Sd} {B:Bk2} {A A':Prop}
theorem RB.dlt (h:RB w d m g n mx P U s B A):d<w.heap.size:=h.ltU d h.kd.2
theorem RB.newd (h:RB w d m g n mx P U s B A) (q:Off [] w w'):RB w' d m g n mx P U s B A:=
 ⟨(q.block d h.dlt (by simp)).trans h.dev,h.mem.off q (by simp) (by simp),fun hs=>⟨(h.cel hs).1,(h.cel hs).2.1.off q (by simp),(h.cel hs).2.2⟩,h.val.off q (by simp),an h.log q (by simp),an h.app q (by simp),h.apb,h.vok,h.dcl,fun k hk=>Nat.lt_of_lt_of_le (h.ltU k hk) q.size,h.kd,h.km,h.kg,h.kc,h.kM,h.kl,h.ka,h.pok,h.n10,h.mx0,h.mxl,h.nl⟩
end
end Go.Proofs.YtdpahjfekoikiaaGreat
namespace Go.Proofs.YtdpahjfekoikiaaGreat
open Tryz
open Go.RowKit
structure Iv (P:Pm) (s:Sd):Prop where
 st1:1≤s.st
 st6:s.st≤6
 ss:s.ss<4294967296
 nm:s.nm<4294967296
 sn:s.sn<4294967296
 hs:s.st=2∨s.st=3→s.sn=0∧s.nm=0∧s.ss≠0
 run:s.st=4→s.sn≤s.nm∧s.nm<P.n∧s.ss≠0
 od:s.od<4
 vr:s.v.run=decide (s.st=4)
 vok:Vok s.v
 s0:s.ss=0→s.nm=0
 z:s.ss=0∨s.ss=vz s.ms.bs
 d6:s.st=6→s.ap=(fun _=>0)∧s.hd=false
structure Mo (mx n:Nat) (s:Sd):Prop where
 n10:10≤n
 mx0:mx≠0
 mxl:mx<4294967296
 l0:0≤s.ms.l
 bz:Bz s.ms.bs
 off:s.st≠6→s.ms.off=false
theorem Mo.of {w:World} {d m g n mx:Nat} {P:Pm} {U:List Nat} {s:Sd} (h:DV w d m g n mx P U s):Mo mx n s:=by
 obtain⟨a,b,c,e,f,g⟩:=h.facts
 exact⟨c,e,f,b,a,g⟩
section
variable {P:Pm} {mx n:Nat} {s:Sd}
theorem dz (v:Vs) (o:Bool):(cC v o).run=o:=by
 unfold cC
 split
 ·assumption
 ·rfl
theorem ji (v:Vs) (bs:Nat→Nat):(bP v bs).run=v.run:=by unfold bP;split <;> rfl
theorem gC (s:Sd) (x:Int):(aq s x).v=dH s.v x:=by unfold aq fs;split <;> rfl
theorem j9 (s:Sd) (x:Int):(aq s x).st=s.st∧(aq s x).ss=s.ss∧(aq s x).nm=s.nm∧(aq s x).sn=s.sn∧(aq s x).od=s.od∧(aq s x).ms=s.ms∧(aq s x).ap=s.ap∧(aq s x).hd=s.hd:=by unfold aq fs;split <;> exact⟨rfl,rfl,rfl,rfl,rfl,rfl,rfl,rfl⟩
theorem Iv.note (h:Iv P s) (x:Int):Iv P (fs s x):=⟨h.st1,h.st6,h.ss,h.nm,h.sn,h.hs,h.run,h.od,h.vr,h.vok,h.s0,h.z,h.d6⟩
theorem Iv.leave (hv:Vok s.v) {k:Nat} (h1:1≤k) (h5:k≤5) (h4:k≠4) (h2:k≠2) (h3:k≠3):Iv P (bB s k):=
 ⟨h1,Nat.le_succ_of_le h5,by show (0:Nat)<_;omega,by show (0:Nat)<_;omega,by show (0:Nat)<_;omega,fun e=>by have e:k=2∨k=3:=e;omega,fun e=>absurd e h4,by show (0:Nat)<4;omega,by
  show (cC s.v false).run=decide (k=4)
  rw[dz,decide_eq_false h4],hv.run false,fun _=>rfl,.inl rfl,fun e=>by have e:k=6:=e;omega⟩
theorem Iv.life {k:Nat} (h1:1≤k) (h6:k≤6) (h4:k≠4) (h2:k≠2) (h3:k≠3):Iv P (gD s k):=
 ⟨h1,h6,by show (0:Nat)<_;omega,by show (0:Nat)<_;omega,by show (0:Nat)<_;omega,fun e=>by have e:k=2∨k=3:=e;omega,fun e=>absurd e h4,by show (0:Nat)<4;omega,(decide_eq_false h4).symm,Vok.new,fun _=>rfl,.inl rfl,fun _=>⟨rfl,rfl⟩⟩
theorem Iv.odd (h:Iv P s):Iv P (aT s):=by
 unfold aT
 split
 ·split
  ·rename_i h4
   exact⟨h.st1,h.st6,h.ss,h.nm,h.sn,h.hs,h.run,h4,h.vr,h.vok,h.s0,h.z,h.d6⟩
  ·refine Iv.leave ?_ (by omega) (by omega) (by omega) (by omega) (by omega)
   split
   ·rw[gC];exact h.vok.trip _
   ·exact h.vok
 ·exact h
theorem Iv.begin_ (h:Iv P s) (M:Mo mx n s) (hu:s.st≠6):Iv P (aZ P mx n s).s:=by
 have hv:=uI (mx:=mx) (n:=n) (s:=s.ms) M.n10 (M.off hu) M.l0 M.mxl
 unfold aZ
 generalize nx mx n s.ms.bs false s.ms=X at *
 have hm:=M.mxl
 split
 ·refine Iv.leave ?_ (by omega) (by omega) (by omega) (by omega) (by omega)
  rw[gC];exact h.vok.trip _
 ·split
  ·exact Iv.life (by omega) (by omega) (by omega) (by omega) (by omega)
  ·rename_i e0
   have e0:X.e=0:=by simpa using e0
   obtain⟨v1,v2,v3⟩:=hv.1 e0
   refine⟨by show 1≤2;omega,by show 2≤6;omega,by show X.v<_;omega,by show (0:Nat)<_;omega,by show (0:Nat)<_;omega,fun _=>⟨rfl,rfl,by show X.v≠0;omega⟩,fun e=>by have e:(2:Nat)=4:=e;omega,by show (0:Nat)<4;omega,?_,h.vok.run false,fun _=>rfl,.inr ?_,fun e=>by have e:(2:Nat)=6:=e;omega⟩
   ·show (cC s.v false).run=decide ((2:Nat)=4)
    rw[dz];rfl
   ·show X.v=vz X.s.bs
    omega
theorem Mo.odd (M:Mo mx n s):Mo mx n (aT s):=by
 refine⟨M.n10,M.mx0,M.mxl,by rw[eD];exact M.l0,by rw[eD];exact M.bz,fun _=>?_⟩
 rw[eD]
 by_cases h6:s.st=6
 ·exfalso
  have:aT s=s:=by unfold aT j8;rw[h6];rfl
  rename_i hh
  rw[this]at hh
  exact hh h6
 ·exact M.off h6
theorem Iv.wish (h:Iv P s) (M:Mo mx n s) (hu:s.st≠6):Iv P (bk P mx n s).s:=by
 unfold bk
 split
 ·exact h.odd
 ·split
  ·exact h.odd
  ·exact h.odd.begin_ M.odd (mY hu)
theorem Iv.echo (h:Iv P s):Iv P (aM s):=by
 unfold aM
 split
 ·rename_i h2
  have hq:=h.hs (.inl h2)
  refine⟨by show 1≤3;omega,by show 3≤6;omega,h.ss,h.nm,h.sn,fun _=>hq,fun e=>by have e:(3:Nat)=4:=e;omega,by show (0:Nat)<4;omega,?_,h.vok.fresh,h.s0,h.z,fun e=>by have e:(3:Nat)=6:=e;omega⟩
  show s.v.run=decide ((3:Nat)=4)
  rw[h.vr,h2];rfl
 ·exact h
theorem Iv.start (h:Iv P s) (hP:Pok P):Iv P (bv s):=by
 unfold bv
 split
 ·rename_i h3
  have hq:=h.hs (.inr h3)
  have:=hP.n2
  refine⟨by show 1≤4;omega,by show 4≤6;omega,h.ss,h.nm,h.sn,fun e=>by have e:(4:Nat)=2∨(4:Nat)=3:=e;omega,fun _=>⟨by show s.sn≤s.nm;omega,by show s.nm<_;omega,hq.2.2⟩,by show (0:Nat)<4;omega,?_,(h.vok.run true).fresh,h.s0,h.z,fun e=>by have e:(4:Nat)=6:=e;omega⟩
  show (cC s.v true).run=decide ((4:Nat)=4)
  rw[dz];rfl
 ·exact h
theorem Iv.data (h:Iv P s) (hP:Pok P) {num fl:Nat} {bs:Nat→Nat} (h4:s.st=4) (hn:s.nm<num) (hc:num<P.n):Iv P (bF s num fl bs):=by
 have hq:=h.run h4
 have hp:=hP.n
 refine⟨h.st1,h.st6,h.ss,by show num<_;omega,by show s.sn+1<_;omega,fun e=>by have e:s.st=2∨s.st=3:=e;omega,fun _=>⟨by show s.sn+1≤num;omega,hc,hq.2.2⟩,by show (0:Nat)<4;omega,?_,(h.vok.fresh.hold _).take _,fun e=>absurd e hq.2.2,h.z,fun e=>by have e:s.st=6:=e;omega⟩
 show (bP (cF (bJ s.v) (decide (8≤fl))) bs).run=decide (s.st=4)
 rw[ji];exact h.vr
theorem Iv.last (h:Iv P s) (hP:Pok P) (h4:s.st=4):Iv P (iJ (dJ P s)):=by
 have hq:=h.run h4
 have hp:=hP.n
 obtain⟨l1,l2,l3,l4,l5,l6,l7,l8⟩:=j9 (eE { s with nm:=P.n }) 80
 refine⟨by show 1≤5;omega,by show 5≤6;omega,?_,?_,hp,fun e=>by have e:(5:Nat)=2∨(5:Nat)=3:=e;omega,fun e=>by have e:(5:Nat)=4:=e;omega,?_,?_,?_,?_,?_,fun e=>by have e:(5:Nat)=6:=e;omega⟩
 ·show (aq (eE { s with nm:=P.n }) 80).ss<_
  rw[l2];exact h.ss
 ·show (aq (eE { s with nm:=P.n }) 80).nm<_
  rw[l3];exact hp
 ·show (aq (eE { s with nm:=P.n }) 80).od<4
  rw[l5];show (0:Nat)<4;omega
 ·show (cC (aq (eE { s with nm:=P.n }) 80).v false).run=decide ((5:Nat)=4)
  rw[dz];rfl
 ·show Vok (cC (aq (eE { s with nm:=P.n }) 80).v false)
  rw[gC]
  exact (h.vok.fresh.trip _).run _
 ·intro e
  have e:(aq (eE { s with nm:=P.n }) 80).ss=0:=e
  rw[l2]at e
  exact absurd e hq.2.2
 ·show (aq (eE { s with nm:=P.n }) 80).ss=0∨(aq (eE { s with nm:=P.n }) 80).ss=vz (aq (eE { s with nm:=P.n }) 80).ms.bs
  rw[l2,l6];exact h.z
theorem Iv.take (h:Iv P s) (hP:Pok P) (M:Mo mx n s) (hu:s.st≠6) (k ss num fl len:Nat) (bs:Nat→Nat):Iv P (aw P mx n s k ss num fl len bs).s:=by
 unfold aw
 split
 ·split
  ·exact h.wish M hu
  ·exact h.odd
 ·split
  ·split
   ·exact h.echo
   ·exact h.odd
  ·split
   ·exact h.start hP
   ·split
    ·rename_i hh
     exact h.data hP hh.2.1.2.1 hh.2.1.2.2 hh.2.2.1
    ·split
     ·rename_i hh
      exact h.last hP hh.2.1.2.1
     ·exact h.odd
theorem Iv.hear (h:Iv P s) (hP:Pok P) (M:Mo mx n s) (hu:s.st≠6) (len:Nat) (bs:Nat→Nat):Iv P (bi P mx n s len bs).s:=by
 unfold bi
 split
 ·exact h
 ·split
  ·exact h
  ·split
   ·exact h
   ·exact h.take hP M hu _ _ _ _ _ _
theorem Iv.recv (h:Iv P s) (hP:Pok P) (M:Mo mx n s) (len:Nat) (bs:Nat→Nat):Iv P (aI P mx n s len bs).s:=by
 unfold aI
 split
 ·exact h
 ·rename_i hu
  split
  ·exact (h.hear hP M hu len bs).note _
  ·exact h.hear hP M hu len bs
theorem Iv.write (h:Iv P s) (len:Nat) (bs:Nat→Nat) (o:Bool):Iv P (eG P s len bs o):=by
 unfold eG
 split
 ·exact h
 ·rename_i h6
  split
  ·exact⟨h.st1,h.st6,h.ss,h.nm,h.sn,h.hs,h.run,h.od,h.vr,h.vok,h.s0,h.z,fun e=>absurd e h6⟩
  ·exact h
theorem Iv.new_ (ms:Ms):Iv P (bj ms):=
 ⟨by show 1≤1;omega,by show 1≤6;omega,by show (0:Nat)<_;omega,by show (0:Nat)<_;omega,by show (0:Nat)<_;omega,fun e=>by have e:(1:Nat)=2∨(1:Nat)=3:=e;omega,fun e=>by have e:(1:Nat)=4:=e;omega,by show (0:Nat)<4;omega,rfl,Vok.new,fun _=>rfl,.inl rfl,fun e=>by have e:(1:Nat)=6:=e;omega⟩
def Gw (a b:Sd):Prop:=b.L.length≤a.L.length+3∧b.ms.t≤a.ms.t+6
theorem pN (M:Mo mx n s):(aZ P mx n s).s.ms.t≤s.ms.t+6:=by
 have ht:=vy mx n s.ms.bs false s.ms M.n10 M.l0
 unfold aZ
 generalize nx mx n s.ms.bs false s.ms=X at *
 split
 ·show (aq { s with ms:=X.s } 80).ms.t≤_
  rw[fM];exact ht
 ·split
  ·exact ht
  ·exact ht
theorem sk (M:Mo mx n s):(bk P mx n s).s.ms.t≤s.ms.t+6:=by
 have e:=eD s
 unfold bk
 split
 ·show (aT s).ms.t≤_;rw[e];omega
 ·split
  ·show (aT s).ms.t≤_;rw[e];omega
  ·have:=pN (P:=P) M.odd
   rw[e]at this;exact this
theorem sf (M:Mo mx n s) (k ss num fl len:Nat) (bs:Nat→Nat):(aw P mx n s k ss num fl len bs).s.ms.t≤s.ms.t+6:=by
 have e:=eD s
 have r:∀ x:Int,(aA P s x).s.ms.t≤s.ms.t+6:=fun x=>by show (aT s).ms.t≤_;rw[e];omega
 unfold aw
 split
 ·split
  ·exact sk M
  ·exact r _
 ·split
  ·split
   ·show (aM s).ms.t≤_;unfold aM;split <;> (show s.ms.t≤_;omega)
   ·exact r _
  ·split
   ·show (bv s).ms.t≤_;unfold bv;split <;> (show s.ms.t≤_;omega)
   ·split
    ·show s.ms.t≤_;omega
    ·split
     ·show (aq (eE { s with nm:=P.n }) 80).ms.t≤_
      rw[fM];show s.ms.t≤_;omega
     ·exact r _
theorem sr (M:Mo mx n s) (len:Nat) (bs:Nat→Nat):Gw s (aI P mx n s len bs).s:=by
 have h1:=iL P mx n s len bs
 have h2:(bi P mx n s len bs).s.ms.t≤s.ms.t+6:=by
  unfold bi
  split
  ·show s.ms.t≤_;omega
  ·split
   ·show s.ms.t≤_;omega
   ·split
    ·show s.ms.t≤_;omega
    ·exact sf M _ _ _ _ _ _
 unfold aI
 split
 ·exact⟨by show s.L.length≤_;omega,by show s.ms.t≤_;omega⟩
 ·split
  ·exact⟨by show ((bi P mx n s len bs).s.L ++ [_]).length≤_;simp;omega,h2⟩
  ·exact⟨by omega,h2⟩
end
end Go.Proofs.YtdpahjfekoikiaaGreat
namespace Go.Proofs.YtdpahjfekoikiaaGreat
open Tryz
open Go.RowKit
section
variable {P:Pm} {s:Sh}
theorem pY (s:Sh) (x:Int):(aQ s x).v=dH s.v x:=by unfold aQ dR;split <;> rfl
theorem ep (s:Sh) (x:Int):(aQ s x).st=s.st∧(aQ s x).ss=s.ss∧(aQ s x).nm=s.nm∧(aQ s x).sn=s.sn∧(aQ s x).wt=s.wt∧(aQ s x).ms=s.ms∧(aQ s x).ap=s.ap∧(aQ s x).hd=s.hd∧(aQ s x).dc=s.dc:=by unfold aQ dR;split <;> exact⟨rfl,rfl,rfl,rfl,rfl,rfl,rfl,rfl,rfl⟩
theorem gN (s:Sh) (x:Int):(aQ s x).L.length≤s.L.length+1:=by unfold aQ dR;split <;> simp
theorem pi {v:Vs} {x:Int} (hx:x≠0):(dH v x).lat≠0:=by
 unfold dH
 rw[if_neg hx]
 show (if v.lat=0 then x else v.lat)≠0
 split <;> assumption
theorem dq (v:Vs) (o:Bool):(cC v o).lat=v.lat:=by unfold cC;split <;> rfl
theorem Ih.new_ (P:Pm):Ih P dY:=⟨by show 1≤1;omega,by show 1≤5;omega,by show 0<_;omega,by show 0<_;omega,by show 0<_;omega,by show 0<4;omega,fun e=>by have e:(1:Nat)=2∨(1:Nat)=3∨(1:Nat)=4:=e;omega,fun _ _=>⟨rfl,rfl⟩,fun e=>by have e:(1:Nat)=4:=e;omega,rfl,fun e=>by have e:(1:Nat)=5:=e;omega⟩
theorem Ih.note (h:Ih P s) (x:Int):Ih P (dR s x):=⟨h.st1,h.st5,h.ss,h.nm,h.sn,h.ms,h.s4,h.hs,h.run,h.vr,h.lat5⟩
theorem Ih.give_of (h:s.ss<4294967296):Ih P (ft s):=⟨by show 1≤1;omega,by show 1≤5;omega,h,by show 0<_;omega,by show 0<_;omega,by show 0<4;omega,fun e=>by have e:(1:Nat)=2∨(1:Nat)=3∨(1:Nat)=4:=e;omega,fun _ _=>⟨rfl,rfl⟩,fun e=>by have e:(1:Nat)=4:=e;omega,dz _ _,fun e=>by have e:(1:Nat)=5:=e;omega⟩
theorem Ih.miss (h:Ih P s):Ih P (br s):=by
 unfold br
 split
 ·exact h
 ·split
  ·rename_i h4
   exact⟨h.st1,h.st5,h.ss,h.nm,h.sn,h4,h.s4,h.hs,h.run,h.vr,h.lat5⟩
  ·refine Ih.give_of ?_
   split
   ·rw[(ep _ _).2.1];exact h.ss
   ·exact h.ss
theorem Ih.exh (h1:s.ss<4294967296) (h2:s.nm<4294967296) (h3:s.sn<4294967296) (h4:s.ms<4):Ih P (gK s):=by
 obtain⟨_,f2,f3,f4,_,f6,_⟩:=ep s 80
 refine⟨by show 1≤5;omega,by show 5≤5;omega,by show (aQ s 80).ss<_;omega,by show (aQ s 80).nm<_;omega,by show (aQ s 80).sn<_;omega,by show (aQ s 80).ms<4;omega,fun e=>by have e:(5:Nat)=2∨(5:Nat)=3∨(5:Nat)=4:=e;omega,fun _ e=>absurd rfl e,fun e=>by have e:(5:Nat)=4:=e;omega,dz _ _,fun _=>?_⟩
 show (cC (aQ s 80).v false).lat≠0
 rw[dq,pY]
 exact pi (by omega)
theorem Ih.next (hP:Pok P) (h:Ih P s) (h5:s.st≠5):Ih P (aN P s).1:=by
 unfold aN
 by_cases c1:s.st=1
 ·rw[if_pos c1];exact h
 ·rw[if_neg c1]
  by_cases c2:s.st=2
  ·rw[if_pos c2];exact h
  ·rw[if_neg c2]
   by_cases c3:s.st=3
   ·rw[if_pos c3];exact h
   ·rw[if_neg c3]
    have h4:s.st=4:=by have:=h.st1;have:=h.st5;omega
    have hr:=h.run h4
    have hn:=hP.n
    by_cases c4:s.sn+1=P.n
    ·rw[if_pos c4]
     exact Ih.exh (s:={ s with sn:=s.sn+1 }) h.ss h.nm (by show s.sn+1<_;omega) h.ms
    ·rw[if_neg c4]
     exact⟨h.st1,h.st5,h.ss,h.nm,by show s.sn+1<_;omega,h.ms,h.s4,fun e=>absurd h4 e,fun _=>⟨by show s.sn+1<P.n;omega,hr.2⟩,h.vr,h.lat5⟩
theorem ov (h:s.st≠5):(br s).st≠5:=by
 unfold br
 split
 ·exact h
 ·split
  ·exact h
  ·show (1:Nat)≠5;omega
theorem Ih.wait (h:Ih P s):Ih P { s with wt:=true }:=⟨h.st1,h.st5,h.ss,h.nm,h.sn,h.ms,h.s4,h.hs,h.run,h.vr,h.lat5⟩
theorem Ih.send (hP:Pok P) (h:Ih P s):Ih P (aj P s):=by
 unfold aj
 by_cases c:s.st=5
 ·rw[if_pos c];exact h
 ·rw[if_neg c];exact (h.miss.next hP (ov c)).wait
theorem Ih.on_ (h:Ih P s):Ih P (gP s):=⟨h.st1,h.st5,h.ss,h.nm,h.sn,by show 0<4;omega,h.s4,h.hs,h.run,h.vr,h.lat5⟩
theorem Ih.recv (hP:Pok P) (h:Ih P s) (len:Nat) (bs:Nat→Nat) (hb:∀ i,i<len→bs i<256):Ih P (cE P s len bs):=by
 unfold cE
 by_cases hE:cZ P s len bs≠0
 ·rw[if_pos hE];exact h.note _
 ·rw[if_neg hE]
  have hE:cZ P s len bs=0:=by omega
  unfold cZ at hE
  by_cases hD:DE bs len≠0
  ·rw[if_pos hD]at hE;exact absurd hE hD
  ·rw[if_neg hD]at hE
   have hD:DE bs len=0:=by omega
   have hl:19≤len:=(fc hD).1
   have hs5:aE bs 5<4294967296:=mL fun j hj=>hb _ (by omega)
   have hs9:aE bs 9<4294967296:=mL fun j hj=>hb _ (by omega)
   generalize aE bs 5=ss at *
   generalize aE bs 9=num at *
   generalize (fun i=>bs (15+i))=ds at *
   generalize bs 13=fl at *
   generalize bs 0=k at *
   have hn2:2≤P.n:=by have:=hP.ok.2.2.2.2;omega
   have hn:=hP.n
   unfold bS at hE
   by_cases hK:dB (k:Int)=false
   ·rw[if_pos hK]at hE;omega
   ·rw[if_neg hK]at hE
    by_cases hC:aE bs 1≠P.c
    ·rw[if_pos hC]at hE;omega
    ·rw[if_neg hC]at hE
     by_cases h1:s.st=1
     ·rw[if_pos h1]at hE
      unfold fU at hE
      by_cases hk:k≠17∨ss≤s.ss
      ·rw[if_pos hk]at hE;omega
      ·obtain rfl:k=17:=by omega
       have h0:=h.hs (by omega) (by omega)
       unfold a4
       rw[if_pos rfl]
       refine Ih.on_ ⟨by show 1≤2;omega,by show 2≤5;omega,hs5,h.nm,h.sn,h.ms,fun _=>by show ss≠0;omega,fun _ _=>h0,fun e=>by have e:(2:Nat)=4:=e;omega,?_,fun e=>by have e:(2:Nat)=5:=e;omega⟩
       show s.v.run=decide ((2:Nat)=4)
       rw[h.vr,h1];rfl
     ·rw[if_neg h1]at hE
      by_cases ha:ss≠s.ss∨bc P s k num (len-19)=false
      ·rw[if_pos ha]at hE;omega
      ·have ha2:bc P s k num (len-19)=true:=by
        cases hh:bc P s k num (len-19) with
        | true=>rfl
        | false=>exact absurd (.inr hh) ha
       unfold bc at ha2
       have ha3:=of_decide_eq_true ha2
       unfold a4
       rcases ha3 with ⟨rfl,h2⟩ | ⟨rfl,h3⟩ | ⟨rfl,⟨⟨h4,hm⟩,hp⟩,_⟩ | ⟨rfl,⟨h4,hm⟩,rfl⟩
       ·rw[if_neg (by omega),if_pos rfl]
        have h0:=h.hs (by omega) (by omega)
        refine Ih.on_ ⟨by show 1≤3;omega,by show 3≤5;omega,h.ss,h.nm,h.sn,h.ms,fun _=>h.s4 (.inl h2),fun _ _=>h0,fun e=>by have e:(3:Nat)=4:=e;omega,?_,fun e=>by have e:(3:Nat)=5:=e;omega⟩
        show s.v.run=decide ((3:Nat)=4)
        rw[h.vr,h2];rfl
       ·rw[if_neg (by omega),if_neg (by omega),if_pos rfl]
        have h0:=h.hs (by omega) (by omega)
        refine Ih.on_ ⟨by show 1≤4;omega,by show 4≤5;omega,h.ss,h.nm,h.sn,h.ms,fun _=>h.s4 (.inr (.inl h3)),fun e=>absurd rfl e,fun _=>⟨by show s.sn<P.n;omega,by show s.nm<P.n;omega⟩,dz _ _,fun e=>by have e:(4:Nat)=5:=e;omega⟩
       ·rw[if_neg (by omega),if_neg (by omega),if_neg (by omega),if_pos rfl]
        have hr:=h.run h4
        refine⟨h.st1,h.st5,h.ss,hs9,h.sn,by show 0<4;omega,h.s4,fun e=>absurd h4 e,fun _=>⟨hr.1,hp⟩,?_,fun e=>by have e:s.st=5:=e;omega⟩
        show (bP (cF (bJ s.v) (decide (8≤fl))) ds).run=decide (s.st=4)
        rw[ji];exact h.vr
       ·rw[if_neg (by omega),if_neg (by omega),if_neg (by omega),if_neg (by omega),if_pos rfl]
        exact Ih.exh (s:=gP { s with nm:=P.n }) h.ss (by show P.n<_;omega) h.sn (by show 0<4;omega)
theorem Ih.write (h:Ih P s) (len:Nat) (bs:Nat→Nat) (o:Bool):Ih P (eH P s len bs o):=by
 unfold eH
 split
 ·exact⟨h.st1,h.st5,h.ss,h.nm,h.sn,h.ms,h.s4,h.hs,h.run,h.vr,h.lat5⟩
 ·exact h
theorem kt (s:Sh):(gK s).L.length≤s.L.length+1:=gN s 80
theorem ou (s:Sh):(br s).L.length≤s.L.length+1:=by
 unfold br
 split
 ·omega
 ·split
  ·show s.L.length≤_;omega
  ·show (ft _).L.length≤_
   unfold ft
   split
   ·exact gN { s with ms:=s.ms+1 } 131
   ·show s.L.length≤_;omega
theorem oy (P:Pm) (s:Sh):(aN P s).1.L.length≤s.L.length+1:=by
 unfold aN
 by_cases c1:s.st=1
 ·rw[if_pos c1];show s.L.length≤_;omega
 ·rw[if_neg c1]
  by_cases c2:s.st=2
  ·rw[if_pos c2];show s.L.length≤_;omega
  ·rw[if_neg c2]
   by_cases c3:s.st=3
   ·rw[if_pos c3];show s.L.length≤_;omega
   ·rw[if_neg c3]
    by_cases c4:s.sn+1=P.n
    ·rw[if_pos c4];exact kt { s with sn:=s.sn+1 }
    ·rw[if_neg c4];show s.L.length≤_;omega
theorem iR (P:Pm) (s:Sh):(aj P s).L.length≤s.L.length+2:=by
 unfold aj
 by_cases c:s.st=5
 ·rw[if_pos c];omega
 ·rw[if_neg c]
  show (aN P (br s)).1.L.length≤_
  have:=oy P (br s)
  have:=ou s
  omega
end
end Go.Proofs.YtdpahjfekoikiaaGreat
namespace Go.Proofs.YtdpahjfekoikiaaGreat
open Tryz
open Go.RowKit
structure Lh (s:Sd) (a b:Nat):Prop where
 sa:a≤vz s.ms.bs
 nb:s.ss≠0→s.ss=a→b≤s.nm
theorem uE {c:Nat} (hc:c≠0):LW ((1:Nat):Int) c (0:Nat) (0:Nat) (0:Nat) (4:Nat) (4:Nat)=0:=by
 unfold LW
 rw[if_neg (by decide),if_neg (by omega),if_neg (by decide),if_neg (by decide),if_neg (by decide),if_neg (by decide)]
theorem uF {c s:Nat} (hc:c≠0) (hs:s≠0):LW ((2:Nat):Int) c s (0:Nat) (0:Nat) (4:Nat) (4:Nat)=0:=by
 unfold LW
 rw[if_neg (by decide),if_neg (by omega),if_neg (by decide),if_neg ?_,if_neg (by decide),if_neg (by decide)]
 show ¬ aW 2 s=false
 unfold aW
 simp
 exact hs
theorem uG {c s:Nat} (hc:c≠0) (hs:s≠0):LW ((3:Nat):Int) c s (0:Nat) (0:Nat) (0:Nat) (0:Nat)=0:=by
 unfold LW
 rw[if_neg (by decide),if_neg (by omega),if_neg (by decide),if_neg ?_,if_neg (by decide),if_neg (by decide)]
 show ¬ aW 3 s=false
 unfold aW
 simp
 exact hs
theorem uH {c s n f len:Nat} (hc:c≠0) (hs:s≠0) (hn:n≠0) (hf:f≤15) (h1:1≤len) (h8:len≤8):LW ((4:Nat):Int) c s n f len len=0:=by
 have e1:kO ((4:Nat):Int)=15:=by decide
 have e2:eo ((4:Nat):Int)=true:=by decide
 have e3:bT ((4:Nat):Int) len=decide ((1:Int)≤len∧(len:Int)≤8):=rfl
 unfold LW
 rw[if_neg (by decide),if_neg (by omega),if_neg ?_,if_neg ?_,if_neg ?_,if_neg ?_]
 ·rw[e1];omega
 ·rw[e2];simp;exact hn
 ·show ¬ aW 4 s=false
  unfold aW
  simp
  exact hs
 ·rw[e3];simp;omega
theorem ol (s:Sh):aD s≤15:=by
 unfold aD
 split <;> split <;> split <;> split <;> omega
structure Told (F:Fm) (k c s n f len:Nat) (bs:Nat→Nat):Prop where
 de:DE F.2 F.1=0
 ln:F.1-19=len
 k:F.2 0=k
 c:aE F.2 1=c
 s:aE F.2 5=s
 n:aE F.2 9=n
 f:F.2 13=f
 bs:∀ j,j<len→F.2 (15+j)=bs j
theorem cY {k c s n f len:Nat} {bs:Nat→Nat} (hc:c<4294967296) (hs:s<4294967296) (hn:n<4294967296) (h:LW k c s n f len len=0):Told (cH k c s n f len bs) k c s n f len bs:=by
 have hl:len≤8:=by have:=(cR h).2.2.2.1;omega
 obtain⟨e1,e2,e3,e4,e5,e6,e7⟩:=jm k c s n f len bs hc hs hn hl h
 have hF:cH k c s n f len bs=(15+len+4,PM.sl (fr k c s n f len bs) (15+len)):=if_pos h
 rw[hF]
 exact⟨e1,by show 15+len+4-19=len;omega,e2,e3,e4,e5,e6,e7⟩
section
variable {P:Pm} {s:Sh}
end
end Go.Proofs.YtdpahjfekoikiaaGreat
namespace Go.Proofs.YtdpahjfekoikiaaGreat
open Tryz
open Go.RowKit
theorem tO {c s:Nat} (hc:c≠0) (hs:s≠0):LW ((17:Nat):Int) c s (0:Nat) (0:Nat) (4:Nat) (4:Nat)=0:=by
 unfold LW
 rw[if_neg (by decide),if_neg (by omega),if_neg (by decide),if_neg ?_,if_neg (by decide),if_neg (by decide)]
 show ¬ aW 17 s=false
 unfold aW
 simp
 exact hs
theorem tP {c s:Nat} (hc:c≠0) (hs:s≠0):LW ((18:Nat):Int) c s (0:Nat) (0:Nat) (0:Nat) (0:Nat)=0:=by
 unfold LW
 rw[if_neg (by decide),if_neg (by omega),if_neg (by decide),if_neg ?_,if_neg (by decide),if_neg (by decide)]
 show ¬ aW 18 s=false
 unfold aW
 simp
 exact hs
theorem tQ {c s:Nat} (hc:c≠0) (hs:s≠0):LW ((19:Nat):Int) c s (0:Nat) (0:Nat) (0:Nat) (0:Nat)=0:=by
 unfold LW
 rw[if_neg (by decide),if_neg (by omega),if_neg (by decide),if_neg ?_,if_neg (by decide),if_neg (by decide)]
 show ¬ aW 19 s=false
 unfold aW
 simp
 exact hs
theorem tR {c s n f len:Nat} (hc:c≠0) (hs:s≠0) (hn:n≠0) (hf:f≤15) (h1:1≤len) (h8:len≤8):LW ((20:Nat):Int) c s n f len len=0:=by
 have e1:kO ((20:Nat):Int)=15:=by decide
 have e2:eo ((20:Nat):Int)=true:=by decide
 have e3:bT ((20:Nat):Int) len=decide ((1:Int)≤len∧(len:Int)≤8):=rfl
 unfold LW
 rw[if_neg (by decide),if_neg (by omega),if_neg ?_,if_neg ?_,if_neg ?_,if_neg ?_]
 ·rw[e1];omega
 ·rw[e2];simp;exact hn
 ·show ¬ aW 20 s=false
  unfold aW
  simp
  exact hs
 ·rw[e3];simp;omega
theorem eN {P:Pm} {s:Sh} {F:Fm} {k c S n f len:Nat} {bs:Nat→Nat} (t:Told F k c S n f len bs):cZ P s F.1 F.2=bS P s k c S n len (fun i=>F.2 (15+i)) ∧
  (bS P s k c S n len (fun i=>F.2 (15+i))=0→cE P s F.1 F.2=a4 s k S n f (fun i=>F.2 (15+i)))∧(bS P s k c S n len (fun i=>F.2 (15+i))≠0→cE P s F.1 F.2=dR s (bS P s k c S n len (fun i=>F.2 (15+i)))):=by
 have e:cZ P s F.1 F.2=bS P s k c S n len (fun i=>F.2 (15+i)):=by unfold cZ;rw[if_neg (by rw[t.de];omega),t.k,t.c,t.s,t.n,t.ln]
 refine⟨e,fun h=>?_,fun h=>?_⟩
 ·unfold cE;rw[e,if_neg (by omega),t.k,t.s,t.n,t.f]
 ·unfold cE;rw[e,if_pos h]
open Go.RowKit Go.Maps
set_option linter.unusedVariables false
theorem dW {P:Pm} {mx n:Nat} {s:Sd} {F:Fm} {k S num f len:Nat} {bs:Nat→Nat} (t:Told F k P.c S num f len bs) (hk:cz k=true) (hu:s.st≠6) (he:(aw P mx n s k S num f len (fun i=>F.2 (15+i))).e=0):aI P mx n s F.1 F.2=aw P mx n s k S num f len (fun i=>F.2 (15+i)):=by
 have hh:bi P mx n s F.1 F.2=aw P mx n s k S num f len (fun i=>F.2 (15+i)):=by
  unfold bi
  rw[if_neg (by rw[t.de];omega),if_neg (by rw[t.k,hk];simp),if_neg (by rw[t.c];omega),t.k,t.s,t.n,t.f,t.ln]
 unfold aI
 rw[if_neg hu,hh,if_neg (by rintro ⟨e,_⟩;exact e he)]
theorem ii {P:Pm} {F:Fm} {k c S n f:Nat} (t:Told F k c S n f 4 (bZ P)):au P 4 (fun i=>F.2 (15+i))=true:=decide_eq_true (jV _ _ 4 t.bs)
structure Pj (h:Sh) (d:Sd) (k a:Nat):Prop where
 hst:h.st=k
 dst:d.st=k
 hss:h.ss=if k=1 then 0 else 1
 dss:d.ss=if k=1 then 0 else 1
 hnm:h.nm=a
 hsn:h.sn=a
 dnm:d.nm=a
 dsn:d.sn=a
 wt:h.wt=false
 m0:k=1→d.ms=M0
structure Exm (P:Pm) (mx:Nat) (h:Sh) (d:Sd) (F:Fm) (R:Rs) (h2:Sh) (k a:Nat):Prop where
 f1:F.1≠0
 re:R.e=0
 rf:R.f.1≠0
 he:cZ P (aj P h) R.f.1 R.f.2=0
 pj:Pj h2 R.s (if k=4 then 4 else k+1) (if k=4 then a+1 else a)
 hl:h2.v.lat=h.v.lat
 dl:R.s.v.lat=d.v.lat
 hv:h2.v.fr=(h.v.lat != 0)
 dv:2≤k→R.s.v.fr=(d.v.lat != 0)
 ha:h2.ap=h.ap∧h2.hd=h.hd
 da:R.s.ap=d.ap∧R.s.hd=d.hd
 on:k=4→∃ fh fd:Nat→Nat,(∀ i,i<P.o→fh i=h.ap i)∧(∀ i,i<P.i→fd i=d.ap i)∧R.s.v=bP (cF (bJ d.v) (decide (8≤aD h))) fh∧h2.v=bP (cF (bJ h.v) (decide (8≤bG R.s))) fd
 hdc:h2.dc=0
 ddc:2≤k→R.s.dc=0
 fd:DE F.2 F.1=0∧aE F.2 1=P.c
 sm:k≤3→h.v.sm=false→d.v.sm=false→R.s.v.sm=false∧h2.v.sm=false
theorem dG {F:Fm} {k c s n f len:Nat} {bs:Nat→Nat} (t:Told F k c s n f len bs):F.1≠0:=fun e=>by
 have h:=t.de
 unfold DE at h
 rw[if_pos (by omega)]at h
 cases h
theorem mh {s:Sh} (h:s.hd=false):decide (8≤aD s)=false:=by
 unfold aD
 rw[h]
 apply decide_eq_false
 split <;> split <;> split <;> simp
theorem lQ {s:Sd} (h:s.hd=false):decide (8≤bG s)=false:=by
 unfold bG
 rw[h]
 apply decide_eq_false
 split <;> split <;> split <;> simp
theorem nV (s:Sd):bG s≤15:=by
 unfold bG
 split <;> split <;> split <;> split <;> omega
theorem it (v:Vs) (bs:Nat→Nat):(bP v bs).lat=v.lat:=by unfold bP;split <;> rfl
theorem ir {v:Vs} {o:Bool} (h:v.sm=false):(cC v o).sm=false:=by
 unfold cC
 split
 ·exact h
 ·rfl
section
variable {P:Pm} {mx:Nat} {h:Sh} {d:Sd}
theorem ku {s:Sh} (h:s.wt=false):br s=s:=by
 unfold br
 rw[if_pos (.inr h)]
theorem sp (hP:Pok P) (hmx:mx≠0) (hmx2:mx<4294967296) {k a:Nat} (J:Pj h d k a) (hk:k=1∨k=2∨k=3∨k=4) (ha:if k=4 then a+1<P.n else a=0) :
  gR h=0∧Exm P mx h d (af P h) (aI P mx 16 d (af P h).1 (af P h).2) (cE P (aj P h) (aI P mx 16 d (af P h).1 (af P h).2).f.1 (aI P mx 16 d (af P h).1 (af P h).2).f.2) k a:=by
 have hc:=hP.c
 have c0:=hP.c0
 have h5:h.st≠5:=by rw[J.hst];omega
 have hn:=hP.n
 refine⟨by unfold gR;rw[if_neg h5],?_⟩
 have eS:aj P h={ (aN P h).1 with wt:=true }:=by unfold aj;rw[if_neg h5,ku J.wt]
 have eF:af P h=(aN P h).2:=by unfold af;rw[if_neg h5,ku J.wt]
 have hu:d.st≠6:=by rw[J.dst];omega
 rcases hk with rfl | rfl | rfl | rfl
 ·-- the wish,and the offer
  have en:aN P h=(h,cH 1 P.c 0 0 0 4 (bZ P)):=by unfold aN;rw[if_pos J.hst]
  have t:Told (af P h) 1 P.c 0 0 0 4 (bZ P):=by rw[eF,en];exact cY hc (by omega) (by omega) (uE c0)
  obtain⟨n1,n2⟩:=tq mx hmx
  have hb:bk P mx 16 d=⟨{ bB { d with ms:=(nx mx 16 M0.bs false M0).s } 2 with ss:=1 },dK P { bB { d with ms:=(nx mx 16 M0.bs false M0).s } 2 with ss:=1 },0⟩:=by
   rw[lR P mx 16 J.dst]
   unfold aZ
   rw[J.m0 rfl,if_neg (by rw[n1];decide),if_neg (by rw[n1];decide),n2]
  have ht:aw P mx 16 d 1 0 0 0 4 (fun i=>(af P h).2 (15+i))=⟨{ bB { d with ms:=(nx mx 16 M0.bs false M0).s } 2 with ss:=1 },dK P { bB { d with ms:=(nx mx 16 M0.bs false M0).s } 2 with ss:=1 },0⟩:=by
   unfold aw
   rw[if_pos rfl,if_pos (ii t),hb]
  have e:=dW (mx:=mx) (n:=16) t rfl hu (by rw[ht])
  rw[ht]at e
  rw[e]
  have t2:Told (dK P { bB { d with ms:=(nx mx 16 M0.bs false M0).s } 2 with ss:=1 }) 17 P.c 1 0 0 4 (bZ P):=by
   have:=cY (k:=17) (f:=0) (bs:=bZ P) hc (s:=1) (by omega) (n:=0) (by omega) (tO c0 (by omega))
   exact this
  obtain⟨r1,r2,_⟩:=eN (P:=P) (s:=aj P h) t2
  have hst:(aj P h).st=1:=by rw[eS,en];exact J.hst
  have hss:(aj P h).ss=0:=by rw[eS,en];exact J.hss
  have h0:bS P (aj P h) 17 P.c 1 0 4 (fun i=>(dK P { bB { d with ms:=(nx mx 16 M0.bs false M0).s } 2 with ss:=1 }).2 (15+i))=0:=by
   unfold bS fU
   rw[if_neg (by decide),if_neg (by omega),if_pos hst,hss,if_neg (by omega),if_pos (ii t2)]
  have r3:=r2 h0
  rw[r3]
  have eh:a4 (aj P h) 17 1 0 0 (fun i=>(dK P { bB { d with ms:=(nx mx 16 M0.bs false M0).s } 2 with ss:=1 }).2 (15+i))=gP { aj P h with st:=2,ss:=1 }:=if_pos rfl
  rw[eh,eS,en]
  have a0:a=0:=by simpa using ha
  exact⟨dG t,rfl,dG t2,by rw[r1];exact h0,⟨rfl,rfl,rfl,rfl,J.hnm,J.hsn,a0.symm,a0.symm,rfl,fun z=>by cases z⟩,rfl,dq _ _,rfl,fun z=>by omega,⟨rfl,rfl⟩,⟨rfl,rfl⟩,(fun z=>by cases z),rfl,fun z=>by omega,⟨t.de,t.c⟩,fun _ a b=>⟨ir b,a⟩⟩
 ·-- taken,and echoed
  have hss:h.ss=1:=J.hss
  have en:aN P h=(h,cH 2 P.c 1 0 0 4 (bZ P)):=by unfold aN;rw[if_neg (by rw[J.hst];omega),if_pos J.hst,hss]
  have t:Told (af P h) 2 P.c 1 0 0 4 (bZ P):=by rw[eF,en];exact cY hc (by omega) (by omega) (uF c0 (by omega))
  have ht:aw P mx 16 d 2 1 0 0 4 (fun i=>(af P h).2 (15+i))=⟨aM d,bC P (aM d) 18 0 0 0 (fun _=>0),0⟩:=by
   unfold aw
   rw[if_neg (by omega),if_pos ⟨rfl,J.dss.symm,.inl J.dst⟩,if_pos (ii t)]
  have e:=dW (mx:=mx) (n:=16) t rfl hu (by rw[ht])
  rw[ht,show aM d=eE { d with st:=3 } from if_pos J.dst]at e
  rw[e]
  have t2:Told (bC P (eE { d with st:=3 }) 18 0 0 0 (fun _=>0)) 18 P.c 1 0 0 0 (fun _=>0):=by
   have:=cY (k:=18) (f:=0) (bs:=fun _=>0) hc (s:=1) (by omega) (n:=0) (by omega) (tP c0 (by omega))
   unfold bC
   rw[show (eE { d with st:=3 }).ss=1 from J.dss]
   exact this
  obtain⟨r1,r2,_⟩:=eN (P:=P) (s:=aj P h) t2
  have hst:(aj P h).st=2:=by rw[eS,en];exact J.hst
  have hs2:(aj P h).ss=1:=by rw[eS,en];exact hss
  have h0:bS P (aj P h) 18 P.c 1 0 0 (fun i=>(bC P (eE { d with st:=3 }) 18 0 0 0 (fun _=>0)).2 (15+i))=0:=by
   have hw:bc P (aj P h) 18 0 0=true:=decide_eq_true (.inl ⟨rfl,hst⟩)
   unfold bS
   rw[if_neg (by decide),if_neg (by omega),if_neg (by omega),if_neg (by rintro (z | z);exact z hs2.symm;rw[hw]at z;cases z)]
  have r3:=r2 h0
  rw[r3]
  have eh:a4 (aj P h) 18 1 0 0 (fun i=>(bC P (eE { d with st:=3 }) 18 0 0 0 (fun _=>0)).2 (15+i))=gP { aj P h with st:=3 }:=by
   unfold a4
   rw[if_neg (by omega),if_pos rfl]
  rw[eh,eS,en]
  exact⟨dG t,rfl,dG t2,by rw[r1];exact h0,⟨rfl,rfl,hss,J.dss,J.hnm,J.hsn,J.dnm,J.dsn,rfl,fun z=>by cases z⟩,rfl,rfl,rfl,fun _=>rfl,⟨rfl,rfl⟩,⟨rfl,rfl⟩,(fun z=>by cases z),rfl,fun _=>rfl,⟨t.de,t.c⟩,fun _ a b=>⟨b,a⟩⟩
 ·-- begun
  have a0:a=0:=by simpa using ha
  have hss:h.ss=1:=J.hss
  have en:aN P h=(h,cH 3 P.c 1 0 0 0 (fun _=>0)):=by unfold aN;rw[if_neg (by rw[J.hst];omega),if_neg (by rw[J.hst];omega),if_pos J.hst,hss]
  have t:Told (af P h) 3 P.c 1 0 0 0 (fun _=>0):=by rw[eF,en];exact cY hc (by omega) (by omega) (uG c0 (by omega))
  have ht:aw P mx 16 d 3 1 0 0 0 (fun i=>(af P h).2 (15+i))=⟨bv d,bC P (bv d) 19 0 0 0 (fun _=>0),0⟩:=by
   unfold aw
   rw[if_neg (by omega),if_neg (by omega),if_pos ⟨rfl,J.dss.symm,.inl J.dst⟩]
  have e:=dW (mx:=mx) (n:=16) t rfl hu (by rw[ht])
  rw[ht,show bv d=eE { d with st:=4,v:=cC d.v true } from if_pos J.dst]at e
  rw[e]
  have t2:Told (bC P (eE { d with st:=4,v:=cC d.v true }) 19 0 0 0 (fun _=>0)) 19 P.c 1 0 0 0 (fun _=>0):=by
   have:=cY (k:=19) (f:=0) (bs:=fun _=>0) hc (s:=1) (by omega) (n:=0) (by omega) (tQ c0 (by omega))
   unfold bC
   rw[show (eE { d with st:=4,v:=cC d.v true }).ss=1 from J.dss]
   exact this
  obtain⟨r1,r2,_⟩:=eN (P:=P) (s:=aj P h) t2
  have hst:(aj P h).st=3:=by rw[eS,en];exact J.hst
  have hs2:(aj P h).ss=1:=by rw[eS,en];exact hss
  have h0:bS P (aj P h) 19 P.c 1 0 0 (fun i=>(bC P (eE { d with st:=4,v:=cC d.v true }) 19 0 0 0 (fun _=>0)).2 (15+i))=0:=by
   have hw:bc P (aj P h) 19 0 0=true:=decide_eq_true (.inr (.inl ⟨rfl,hst⟩))
   unfold bS
   rw[if_neg (by decide),if_neg (by omega),if_neg (by omega),if_neg (by rintro (z | z);exact z hs2.symm;rw[hw]at z;cases z)]
  have r3:=r2 h0
  rw[r3]
  have eh:a4 (aj P h) 19 1 0 0 (fun i=>(bC P (eE { d with st:=4,v:=cC d.v true }) 19 0 0 0 (fun _=>0)).2 (15+i))=gP { aj P h with st:=4,v:=cC (aj P h).v true }:=by
   unfold a4
   rw[if_neg (by omega),if_neg (by omega),if_pos rfl]
  rw[eh,eS,en]
  refine⟨dG t,rfl,dG t2,by rw[r1];exact h0,⟨rfl,rfl,hss,J.dss,J.hnm,J.hsn,J.dnm,J.dsn,rfl,fun z=>by cases z⟩,dq _ _,dq _ _,?_,fun _=>?_,⟨rfl,rfl⟩,⟨rfl,rfl⟩,(fun z=>by cases z),rfl,fun _=>rfl,⟨t.de,t.c⟩,fun _ a b=>⟨ir b,ir a⟩⟩
  ·show ((cC h.v true).lat != 0)=_
   rw[dq]
  ·show ((cC d.v true).lat != 0)=_
   rw[dq]
 ·-- data
  have a1:a+1<P.n:=by simpa using ha
  have hss:h.ss=1:=J.hss
  have o1:=hP.o1
  have o8:=hP.o8
  have i1:=hP.i1
  have i8:=hP.i8
  have en:aN P h=({ h with sn:=h.sn+1 },cH 4 P.c 1 (a+1) (aD h) P.o h.ap):=by unfold aN;rw[if_neg (by rw[J.hst];omega),if_neg (by rw[J.hst];omega),if_neg (by rw[J.hst];omega),if_neg (by rw[J.hsn];omega),hss,J.hsn]
  have t:Told (af P h) 4 P.c 1 (a+1) (aD h) P.o h.ap:=by rw[eF,en];exact cY hc (by omega) (by omega) (uH c0 (by omega) (by omega) (ol h) o1 o8)
  have ht:aw P mx 16 d 4 1 (a+1) (aD h) P.o (fun i=>(af P h).2 (15+i))=⟨bF d (a+1) (aD h) (fun i=>(af P h).2 (15+i)),bC P (bF d (a+1) (aD h) (fun i=>(af P h).2 (15+i))) 20 (d.sn+1) (bG (bF d (a+1) (aD h) (fun i=>(af P h).2 (15+i)))) P.i d.ap,0⟩:=by
   unfold aw
   rw[if_neg (by omega),if_neg (by omega),if_neg (by omega),if_pos ⟨rfl,⟨J.dss.symm,J.dst,by rw[J.dnm];omega⟩,a1,rfl⟩]
  have e:=dW (mx:=mx) (n:=16) t rfl hu (by rw[ht])
  rw[ht]at e
  rw[e]
  obtain⟨D,hD⟩:∃ y,bF d (a+1) (aD h) (fun i=>(af P h).2 (15+i))=y:=⟨_,rfl⟩
  have dD:D.st=4∧D.ss=1∧D.nm=a+1∧D.sn=a+1∧D.v=bP (cF (bJ d.v) (decide (8≤aD h))) (fun i=>(af P h).2 (15+i))∧D.ap=d.ap∧D.hd=d.hd∧D.dc=0:=by
   rw[← hD]
   exact⟨J.dst,J.dss,rfl,by show d.sn+1=a+1;rw[J.dsn],rfl,rfl,rfl,rfl⟩
  rw[hD,J.dsn]
  obtain⟨d1,d2,d3,d4,d5,d6,d7,d8⟩:=dD
  have t2:Told (bC P D 20 (a+1) (bG D) P.i d.ap) 20 P.c 1 (a+1) (bG D) P.i d.ap:=by
   unfold bC
   rw[d2]
   exact cY hc (by omega) (by omega) (tR c0 (by omega) (by omega) (nV D) i1 i8)
  obtain⟨r1,r2,_⟩:=eN (P:=P) (s:=aj P h) t2
  have hst:(aj P h).st=4:=by rw[eS,en];exact J.hst
  have hs2:(aj P h).ss=1:=by rw[eS,en];exact hss
  have hs3:(aj P h).nm=a:=by rw[eS,en];exact J.hnm
  have h0:bS P (aj P h) 20 P.c 1 (a+1) P.i (fun i=>(bC P D 20 (a+1) (bG D) P.i d.ap).2 (15+i))=0:=by
   have hw:bc P (aj P h) 20 (a+1) P.i=true:=decide_eq_true (.inr (.inr (.inl ⟨rfl,⟨⟨hst,by omega⟩,a1⟩,rfl⟩)))
   unfold bS
   rw[if_neg (by decide),if_neg (by omega),if_neg (by omega),if_neg (by rintro (z | z);exact z hs2.symm;rw[hw]at z;cases z)]
  have r3:=r2 h0
  rw[r3]
  have eh:a4 (aj P h) 20 1 (a+1) (bG D) (fun i=>(bC P D 20 (a+1) (bG D) P.i d.ap).2 (15+i))={ gP { aj P h with nm:=a+1 } with v:=bP (cF (bJ (aj P h).v) (decide (8≤bG D))) (fun i=>(bC P D 20 (a+1) (bG D) P.i d.ap).2 (15+i)) }:=by
   unfold a4
   rw[if_neg (by omega),if_neg (by omega),if_neg (by omega),if_pos rfl]
  rw[eh,eS,en]
  have vf:∀ (v:Vs) (o:Bool) (b:Nat→Nat),(bP (cF (bJ v) o) b).fr=(v.lat != 0):=fun v o b=>by
   unfold bP
   split <;> rfl
  exact⟨dG t,rfl,dG t2,by rw[r1];exact h0,⟨J.hst,d1,hss,d2,rfl,by show h.sn+1=a+1;rw[J.hsn],d3,d4,rfl,fun z=>by cases z⟩,it _ _,by show D.v.lat=_;rw[d5];exact it _ _,vf _ _ _,fun _=>by show D.v.fr=_;rw[d5];exact vf _ _ _,⟨rfl,rfl⟩,⟨d6,d7⟩,fun _=>⟨_,_,t.bs,t2.bs,d5,rfl⟩,rfl,fun _=>d8,⟨t.de,t.c⟩,fun z=>absurd z (by omega)⟩
end
end Go.Proofs.YtdpahjfekoikiaaGreat
namespace Go.Proofs.YtdpahjfekoikiaaGreat
open Tryz
open Go.RowKit
set_option linter.unusedVariables false
theorem bH (P:Pm) (s:Sd) (k num fl len:Nat) (bs:Nat→Nat) (hb:∀ i,i<len→bs i<256):∀ i,i < (bC P s k num fl len bs).1→(bC P s k num fl len bs).2 i<256:=cu _ _ _ _ _ _ _ hb
theorem cW {bs:Nat→Nat}:∀ i,i<0→bs i<256:=fun i hi=>absurd hi (Nat.not_lt_zero i)
theorem dk:∀ i,i<pR.1→pR.2 i<256:=fun i hi=>absurd hi (Nat.not_lt_zero i)
theorem jt (P:Pm) (mx n:Nat) (s:Sd):∀ i,i < (aZ P mx n s).f.1→(aZ P mx n s).f.2 i<256:=by
 unfold aZ
 split
 ·exact bH _ _ _ _ _ _ _ cW
 ·split
  ·exact dk
  ·exact bH _ _ _ _ _ _ _ (du P)
theorem kn (P:Pm) (mx n:Nat) (s:Sd):∀ i,i < (bk P mx n s).f.1→(bk P mx n s).f.2 i<256:=by
 unfold bk
 split
 ·exact bH _ _ _ _ _ _ _ (du P)
 ·split
  ·exact bH _ _ _ _ _ _ _ cW
  ·exact jt P mx n _
theorem dL (P:Pm) (s:Sd) (e:Int):∀ i,i < (aA P s e).f.1→(aA P s e).f.2 i<256:=bH _ _ _ _ _ _ _ cW
theorem ki (P:Pm) (mx n:Nat) (s:Sd) (hap:∀ i,i<P.i→s.ap i<256) (k ss num fl len:Nat) (bs:Nat→Nat):∀ i,i < (aw P mx n s k ss num fl len bs).f.1→(aw P mx n s k ss num fl len bs).f.2 i<256:=by
 unfold aw
 split
 ·split
  ·exact kn P mx n s
  ·exact dL P s _
 ·split
  ·split
   ·exact bH _ _ _ _ _ _ _ cW
   ·exact dL P s _
  ·split
   ·exact bH _ _ _ _ _ _ _ cW
   ·split
    ·exact bH _ _ _ _ _ _ _ hap
    ·split
     ·exact bH _ _ _ _ _ _ _ cW
     ·exact dL P s _
theorem kh (P:Pm) (mx n:Nat) (s:Sd) (hap:∀ i,i<P.i→s.ap i<256) (len:Nat) (bs:Nat→Nat):∀ i,i < (aI P mx n s len bs).f.1→(aI P mx n s len bs).f.2 i<256:=by
 have hh:∀ i,i < (bi P mx n s len bs).f.1→(bi P mx n s len bs).f.2 i<256:=by
  unfold bi
  split
  ·exact dk
  ·split
   ·exact dk
   ·split
    ·exact dk
    ·exact ki P mx n s hap _ _ _ _ _ _
 unfold aI
 split
 ·exact dk
 ·split
  ·exact hh
  ·exact hh
theorem kx (P:Pm) (s:Sh) (hap:∀ i,i<P.o→s.ap i<256):∀ i,i < (aN P s).2.1→(aN P s).2.2 i<256:=by
 unfold aN
 split
 ·exact cu _ _ _ _ _ _ _ (du P)
 ·split
  ·exact cu _ _ _ _ _ _ _ (du P)
  ·split
   ·exact cu _ _ _ _ _ _ _ cW
   ·split
    ·exact cu _ _ _ _ _ _ _ cW
    ·exact cu _ _ _ _ _ _ _ hap
theorem ot (s:Sh):(br s).ap=s.ap:=by
 unfold br
 split
 ·rfl
 ·split
  ·rfl
  ·show (ft _).ap=_
   unfold ft
   split
   ·exact (ep _ _).2.2.2.2.2.2.1
   ·rfl
theorem kA (P:Pm) (s:Sh) (hap:∀ i,i<P.o→s.ap i<256):∀ i,i < (af P s).1→(af P s).2 i<256:=by
 unfold af
 split
 ·exact dk
 ·exact kx P _ (by rw[ot];exact hap)
theorem Ih.sentY {P:Pm} {s:Sh} (hP:Pok P) (h:Ih P s):s.st=4→s.sn+1<4294967296:=fun e=>by
 have:=(h.run e).1
 have:=hP.n
 omega
theorem mn (s:Sh) (k ss num fl:Nat) (bs:Nat→Nat):(a4 s k ss num fl bs).L.length≤s.L.length+1:=by
 unfold a4
 split
 ·show s.L.length≤_;omega
 ·split
  ·show s.L.length≤_;omega
  ·split
   ·show s.L.length≤_;omega
   ·split
    ·show s.L.length≤_;omega
    ·split
     ·exact kt (gP { s with nm:=num })
     ·show s.L.length≤_;omega
theorem mj (P:Pm) (s:Sh) (len:Nat) (bs:Nat→Nat):(cE P s len bs).L.length≤s.L.length+1:=by
 unfold cE
 split
 ·show (s.L ++ [_]).length≤_;simp
 ·exact mn _ _ _ _ _ _
open Go.RowKit Go.Maps
theorem jc {v:Vs} (hr:v.run=true) (hl:v.lat=0) (b:Nat→Nat):aL (bP (cF (bJ v) false) b)=true∧(bP (cF (bJ v) false) b).bs=b:=by
 have e:bP (cF (bJ v) false) b={ cF (bJ v) false with sm:=true,bs:=b }:=by
  unfold bP
  rw[if_pos ⟨hr,hl⟩]
 rw[e]
 refine⟨?_,rfl⟩
 unfold aL cF bJ
 dsimp only
 rw[hr]
 rfl
theorem ru {v:Vs} (h:v.sm=false):aL v=false:=by unfold aL;rw[h];simp
structure Tx (P:Pm) (h:Sh) (d:Sd) (c:Nat) (bh bd:Nat→Nat):Prop where
 pj:Pj h d (if c<3 then c+1 else 4) (c-3)
 ih:Ih P h
 iv:Iv P d
 hl:h.v.lat=0
 dl:d.v.lat=0
 ha:h.ap=bh∧h.hd=false
 da:d.ap=bd∧d.hd=false
 Lh:h.L.length≤3*c
 Ld:d.L.length≤3*c
 dt:d.ms.t≤6*c
 sm:c≤3→h.v.sm=false∧d.v.sm=false
 on:3<c→(aL h.v=true∧∀ i,i<P.i→h.v.bs i=bd i)∧aL d.v=true
variable {P:Pm} {mx:Nat} {h:Sh} {d:Sd} {c:Nat} {bh bd:Nat→Nat}
theorem Tx.vonh (T:Tx P h d c bh bd):aL h.v=decide (3<c):=by
 by_cases e:3<c
 ·rw[(T.on e).1.1];simp[e]
 ·rw[ru (T.sm (by omega)).1];simp[e]
theorem Tx.vond (T:Tx P h d c bh bd):aL d.v=decide (3<c):=by
 by_cases e:3<c
 ·rw[(T.on e).2];simp[e]
 ·rw[ru (T.sm (by omega)).2];simp[e]
theorem Tx.new_ (hP:Pok P):Tx P { dY with ap:=bh,hd:=false } { bj M0 with ap:=bd,hd:=false } 0 bh bd:=
 ⟨⟨rfl,rfl,rfl,rfl,rfl,rfl,rfl,rfl,rfl,fun _=>rfl⟩,by
  have q:=Ih.write (Ih.new_ P) P.o bh false
  unfold eH at q
  rw[if_pos rfl]at q
  exact q,by
  have q:=(Iv.new_ (P:=P) M0).write P.i bd false
  unfold eG at q
  rw[if_neg (show ¬ (bj M0).st=6 by decide),if_pos rfl]at q
  exact q,rfl,rfl,⟨rfl,rfl⟩,⟨rfl,rfl⟩,Nat.le_refl _,Nat.le_refl _,(by show (0:Int)≤6 * ((0:Nat):Int);decide),fun _=>⟨rfl,rfl⟩,fun e=>absurd e (by omega)⟩
theorem Tx.step (hP:Pok P) (M:Mo mx 16 d) (T:Tx P h d c bh bd) (h1:∀ i,i<P.o→bh i<256) (h2:∀ i,i<P.i→bd i<256) (hc:c<P.n) :
  gR h=0∧DE (af P h).2 (af P h).1=0∧aE (af P h).2 1=P.c∧(aI P mx 16 d (af P h).1 (af P h).2).e=0∧cZ P (aj P h) (aI P mx 16 d (af P h).1 (af P h).2).f.1 (aI P mx 16 d (af P h).1 (af P h).2).f.2=0∧(∀ i,i < (af P h).1→(af P h).2 i<256)∧(∀ i,i < (aI P mx 16 d (af P h).1 (af P h).2).f.1→(aI P mx 16 d (af P h).1 (af P h).2).f.2 i<256)∧Tx P (cE P (aj P h) (aI P mx 16 d (af P h).1 (af P h).2).f.1 (aI P mx 16 d (af P h).1 (af P h).2).f.2) (aI P mx 16 d (af P h).1 (af P h).2).s (c+1) bh bd:=by
 obtain⟨k,hk⟩:∃ y,(if c<3 then c+1 else 4)=y:=⟨_,rfl⟩
 obtain⟨a,ha⟩:∃ y,c-3=y:=⟨_,rfl⟩
 have J:=T.pj
 rw[hk,ha]at J
 have k4:k=1∨k=2∨k=3∨k=4:=by
  rw[← hk]
  split <;> omega
 have kc:(k=4 ↔ 3≤c)∧(c<3→k=c+1):=by
  rw[← hk]
  split <;> omega
 have n10:=hP.n
 have hq:if k=4 then a+1<P.n else a=0:=by
  by_cases e:k=4
  ·rw[if_pos e];have:=kc.1.1 e;omega
  ·rw[if_neg e];have:¬ 3≤c:=fun y=>e (kc.1.2 y);omega
 obtain⟨e1,X⟩:=sp hP M.mx0 M.mxl J k4 hq
 have f1:∀ i,i < (af P h).1→(af P h).2 i<256:=kA P h (by rw[T.ha.1];exact h1)
 have f2:∀ i,i < (aI P mx 16 d (af P h).1 (af P h).2).f.1→(aI P mx 16 d (af P h).1 (af P h).2).f.2 i<256:=kh P mx 16 d (by rw[T.da.1];exact h2) _ _
 have gw:=sr (P:=P) M (af P h).1 (af P h).2
 have iv:=T.iv.recv hP M (af P h).1 (af P h).2
 have ih:=(T.ih.send hP).recv hP _ _ f2
 have l1:=iR P h
 have l2:=mj P (aj P h) (aI P mx 16 d (af P h).1 (af P h).2).f.1 (aI P mx 16 d (af P h).1 (af P h).2).f.2
 have hr:=T.ih.vr
 have dr:=T.iv.vr
 have hrs:(cE P (aj P h) (aI P mx 16 d (af P h).1 (af P h).2).f.1 (aI P mx 16 d (af P h).1 (af P h).2).f.2).v.lat=0:=X.hl.trans T.hl
 generalize cE P (aj P h) (aI P mx 16 d (af P h).1 (af P h).2).f.1 (aI P mx 16 d (af P h).1 (af P h).2).f.2=h' at *
 refine⟨e1,X.fd.1,X.fd.2,X.re,X.he,f1,f2,⟨?_,ih,iv,hrs,X.dl.trans T.dl,⟨X.ha.1.trans T.ha.1,X.ha.2.trans T.ha.2⟩,⟨X.da.1.trans T.da.1,X.da.2.trans T.da.2⟩,by have:=T.Lh;omega,by have:=T.Ld;have:=gw.1;omega,by have:=T.dt;have:=gw.2;omega,fun y=>?_,fun y=>?_⟩⟩
 ·have q:=X.pj
  have z1:(if c+1<3 then c+1+1 else 4)=if k=4 then 4 else k+1:=by
   by_cases e:k=4
   ·rw[if_pos e,if_neg (by have:=kc.1.1 e;omega)]
   ·have e3:¬ 3≤c:=fun y=>e (kc.1.2 y)
    have e4:=kc.2 (by omega)
    rw[if_neg e]
    split <;> omega
  have z2:c+1-3=if k=4 then a+1 else a:=by
   by_cases e:k=4
   ·rw[if_pos e];have:=kc.1.1 e;omega
   ·rw[if_neg e];have:¬ 3≤c:=fun y=>e (kc.1.2 y);omega
  rw[z1,z2]
  exact q
 ·have s:=T.sm (by omega)
  have q:=X.sm (by have:=kc.2 (by omega);omega) s.1 s.2
  exact⟨q.2,q.1⟩
 ·have k4:k=4:=kc.1.2 (by omega)
  obtain⟨fh,fd,q1,q2,q3,q4⟩:=X.on k4
  have hst:h.st=4:=J.hst.trans k4
  have dst:d.st=4:=J.dst.trans k4
  rw[hst]at hr
  rw[dst]at dr
  rw[mh T.ha.2]at q3
  rw[lQ (X.da.2.trans T.da.2)]at q4
  obtain⟨a1,a2⟩:=jc hr T.hl fd
  obtain⟨b1,b2⟩:=jc dr T.dl fh
  rw[q3,q4]
  refine⟨⟨a1,fun i hi=>?_⟩,b1⟩
  rw[a2,q2 i hi,T.da.1]
end Go.Proofs.YtdpahjfekoikiaaGreat
namespace Go.Proofs.YtdpahjfekoikiaaGreat
open Tryz
open Go.RowKit
open Go.RowKit Go.Maps
section
variable {w wx w3:World} {d m g n mx:Nat} {P:Pm} {U:List Nat} {s:Sd} {B:Bk2} {A:Prop}
end
end Go.Proofs.YtdpahjfekoikiaaGreat
namespace Go.Proofs.YtdpahjfekoikiaaGreat
open Tryz
open Go.RowKit
theorem RW.ult {w:World} {d m g n mx:Nat} {P:Pm} {U:List Nat} {s:Sd} (h:RW w d m g n mx P U s) (k:Nat) (hk:k ∈ U):k<w.heap.size:=by
 obtain⟨B,h⟩:=h
 exact h.ltU k hk
theorem rY (w:World):(Instr.buildSlice 43 0 #[]).run prog w=.ok (.slice (ac w.heap.size 0) 0 0) (w.alloc (.cells #[] 5)):=by kernel_rfl
theorem uK (B:Nat) (bs:Nat→Nat) (w:World) (h:B≤w.heap.size):(w.alloc (.cells #[] 5)).ownsRow B 5 1 (.slice (ac w.heap.size 0) 0 0) 0 (CB bs 0):=World.ownsRow_made w #[] 0 h (Nat.zero_le _) rfl
end Go.Proofs.YtdpahjfekoikiaaGreat
