/- Part 12: contracts that the proof rests on. -/
import Derived.Test.YtdpahjfekoikiaaGreatPkX08
import Derived.Test.YtdpahjfekoikiaaGreatPkX09
import Derived.Test.YtdpahjfekoikiaaGreatPkX10
set_option maxHeartbeats 64000000
set_option maxRecDepth 100000
namespace Go.Proofs.YtdpahjfekoikiaaGreat
open Tryz
open Go.RowKit
theorem fN (c O I T n:Nat) (w:World) (hc:c<4294967296) (hn:n<4294967296) (hE:iY c O I T n) :
  Calls prog 107 #[.agg #[.int .u32 c,.int .i64 O,.int .i64 I,.int .i64 T,.int .u32 n]] w fun e w'=>e=.returned (.tuple #[.int .u32 (PM.K (pe c O I T n) 14:Nat),.int .i64 0])∧Below w.heap.size w w':=by
 have hb:Below w.heap.size w (w.alloc (.cells #[.int .u32 c,.int .i64 O,.int .i64 I,.int .i64 T,.int .u32 n] 29)):=(Below.refl _ _).alloc (Nat.le_refl _) _
 have hF:=jC c O I T n (w.alloc (.cells #[.int .u32 c,.int .i64 O,.int .i64 I,.int .i64 T,.int .u32 n] 29)) hc hn hE
 obtain⟨_,hO,hI,_,_⟩:=hE
 have hby:=qO (c:=c) (o:=O) (i:=I) (t:=T) (n:=n) (by omega) (by omega)
 clear hO hI
 go_enter func107,ntmps107
 go_wp2_with fail
 refine hF.mono ?_
 rintro e w1 ⟨g,rfl,H1⟩
 obtain⟨_,O1,hb1⟩:=H1.out
 have hb2:=aF hb hb.size hb1
 obtain⟨a1,c1,e1,R1⟩:=aO O1 (fun k _=>hby k)
 simp only[Value.slice.injEq,true_and]at e1
 obtain⟨rfl,rfl⟩:=e1
 have hB:=fH _ 14 14 (pe c O I T n) w1 R1 (by omega)
 clear hb hF hb1 H1 O1 R1 hby
 go_wp2_with fail
 refine hB.mono ?_
 rintro e w2 ⟨rfl,rfl⟩
 go_wp2_with fail
 go_ret2
 exact⟨rfl,hb2⟩
theorem lf (c:Nat) (o i t:Int) (n:Nat) (w:World) (D:Bool) (hD:decide (iY c o i t n)=D) :
  Calls prog 89 #[.agg #[.int .u32 c,.int .i64 o,.int .i64 i,.int .i64 t,.int .u32 n]] w fun e w'=>e=.returned (.bool D)∧Below w.heap.size w w':=by
 have hb:Below w.heap.size w (w.alloc (.cells #[.int .u32 c,.int .i64 o,.int .i64 i,.int .i64 t,.int .u32 n] 29)):=(Below.refl _ _).alloc (Nat.le_refl _) _
 have HB:Hid (_):=hb
 have HD:Hid (_):=hD
 clear hD hb
 by_cases h0:(0:Int) < (c:Int)
 rotate_left
 ·have q0:decide ((0:Int) < (c:Int))=false:=decide_eq_false h0
  have r0:c=0:=by omega
  subst r0
  have hD':D=false:=by rw[← HD.out];exact decide_eq_false (fun h=>by unfold iY at h;omega)
  subst hD'
  clear HD h0
  go_enter func89,ntmps89
  go_wp2_with fail
  go_ret
  exact⟨rfl,HB.out⟩
 have q0:decide ((0:Int) < (c:Int))=true:=decide_eq_true h0
 have r0:0<c:=by omega
 by_cases h1:1≤o
 rotate_left
 ·have q1:decide (1≤o)=false:=decide_eq_false h1
  have hD':D=false:=by rw[← HD.out];exact decide_eq_false (fun h=>by unfold iY at h;omega)
  subst hD'
  clear HD h0 h1
  go_enter func89,ntmps89
  go_wp2_with fail
  go_ret
  exact⟨rfl,HB.out⟩
 have q1:decide (1≤o)=true:=decide_eq_true h1
 by_cases h2:o≤8
 rotate_left
 ·have q2:decide (o≤8)=false:=decide_eq_false h2
  have hD':D=false:=by rw[← HD.out];exact decide_eq_false (fun h=>by unfold iY at h;omega)
  subst hD'
  clear HD h0 h1 h2
  go_enter func89,ntmps89
  go_wp2_with fail
  go_ret
  exact⟨rfl,HB.out⟩
 have q2:decide (o≤8)=true:=decide_eq_true h2
 by_cases h3:1≤i
 rotate_left
 ·have q3:decide (1≤i)=false:=decide_eq_false h3
  have hD':D=false:=by rw[← HD.out];exact decide_eq_false (fun h=>by unfold iY at h;omega)
  subst hD'
  clear HD h0 h1 h2 h3
  go_enter func89,ntmps89
  go_wp2_with fail
  go_ret
  exact⟨rfl,HB.out⟩
 have q3:decide (1≤i)=true:=decide_eq_true h3
 by_cases h4:i≤8
 rotate_left
 ·have q4:decide (i≤8)=false:=decide_eq_false h4
  have hD':D=false:=by rw[← HD.out];exact decide_eq_false (fun h=>by unfold iY at h;omega)
  subst hD'
  clear HD h0 h1 h2 h3 h4
  go_enter func89,ntmps89
  go_wp2_with fail
  go_ret
  exact⟨rfl,HB.out⟩
 have q4:decide (i≤8)=true:=decide_eq_true h4
 by_cases h5:1≤t
 rotate_left
 ·have q5:decide (1≤t)=false:=decide_eq_false h5
  have hD':D=false:=by rw[← HD.out];exact decide_eq_false (fun h=>by unfold iY at h;omega)
  subst hD'
  clear HD h0 h1 h2 h3 h4 h5
  go_enter func89,ntmps89
  go_wp2_with fail
  go_ret
  exact⟨rfl,HB.out⟩
 have q5:decide (1≤t)=true:=decide_eq_true h5
 by_cases h6:t≤1048576
 rotate_left
 ·have q6:decide (t≤1048576)=false:=decide_eq_false h6
  have hD':D=false:=by rw[← HD.out];exact decide_eq_false (fun h=>by unfold iY at h;omega)
  subst hD'
  clear HD h0 h1 h2 h3 h4 h5 h6
  go_enter func89,ntmps89
  go_wp2_with fail
  go_ret
  exact⟨rfl,HB.out⟩
 have q6:decide (t≤1048576)=true:=decide_eq_true h6
 by_cases h7:(2:Int) ≤ (n:Int)
 rotate_left
 ·have q7:decide ((2:Int) ≤ (n:Int))=false:=decide_eq_false h7
  have hD':D=false:=by rw[← HD.out];exact decide_eq_false (fun h=>by unfold iY at h;omega)
  subst hD'
  clear HD h0 h1 h2 h3 h4 h5 h6 h7
  go_enter func89,ntmps89
  go_wp2_with fail
  go_ret
  exact⟨rfl,HB.out⟩
 have q7:decide ((2:Int) ≤ (n:Int))=true:=decide_eq_true h7
 have hD':D=true:=by rw[← HD.out];exact decide_eq_true (by unfold iY;omega)
 subst hD'
 clear HD h0 h1 h2 h3 h4 h5 h6 h7
 go_enter func89,ntmps89
 go_wp2_with fail
 go_ret
 exact⟨rfl,HB.out⟩
theorem lJ (a b:Option Addr) (n ca m cb:Nat) (f g:Nat→Nat) (w:World) (ha:Row8 w a n ca f) (hb:Row8 w b m cb g) (D:Bool) (hD:decide (BA f n=BA g m)=D) :
  Calls prog 152 #[.slice a n ca,.slice b m cb] w fun e w'=>e=.returned (.bool D)∧w'=w:=by
 have h1:=j6 a n ca f w ha
 have h2:=j6 b m cb g w hb
 rw[nO]at hD
 generalize BA f n=X at *
 generalize BA g m=Y at *
 clear ha hb
 go_enter func152,ntmps152
 go_wp2_with fail
 go_ret
 exact⟨rfl,rfl⟩
theorem fW (c O I T n:Nat) (a:Option Addr) (len cap:Nat) (bs:Nat→Nat) (w:World) (hr:Row8 w a len cap bs) (hc:c<4294967296) (hn:n<4294967296) (hE:iY c O I T n) (D:Bool) (hD:decide (BA bs len=BA (PM.w4 (PM.K (pe c O I T n) 14)) 4)=D) :
  Calls prog 121 #[.agg #[.int .u32 c,.int .i64 O,.int .i64 I,.int .i64 T,.int .u32 n],.slice a len cap] w fun e w'=>e=.returned (.tuple #[.bool D,.int .i64 0])∧Below w.heap.size w w':=by
 have hb:Below w.heap.size w (w.alloc (.cells #[.int .u32 c,.int .i64 O,.int .i64 I,.int .i64 T,.int .u32 n] 29)):=(Below.refl _ _).alloc (Nat.le_refl _) _
 have hF:=fN c O I T n (w.alloc (.cells #[.int .u32 c,.int .i64 O,.int .i64 I,.int .i64 T,.int .u32 n] 29)) hc hn hE
 have hk:=PM.K_lt (pe c O I T n) 14
 clear hE
 generalize PM.K (pe c O I T n) 14=k at *
 go_enter func121,ntmps121
 go_wp2_with fail
 refine hF.mono ?_
 rintro e w1 ⟨rfl,hb1⟩
 have hb2:=aF hb hb.size hb1
 clear hb hF hb1
 go_wp2_with fail
 refine (cJ k _ hk).mono ?_
 rintro e w2 ⟨rfl,rfl⟩
 have hb3:=hb2.alloc hb2.size (.cells #[.int .u8 ((k:Int) / 16777216),.int .u8 ((k:Int) / 65536 % 256),.int .u8 ((k:Int) / 256 % 256),.int .u8 ((k:Int) % 256)] 5)
 have hQ:=lJ a _ len cap 4 4 bs (PM.w4 k) _ (hr.below hb3) (fA w1 k hk) D hD
 clear hr hb2 hk hD
 go_wp2_with fail
 refine hQ.mono ?_
 rintro e w3 ⟨rfl,rfl⟩
 have HB:Hid (_):=hb3
 clear hb3 hQ
 go_wp2_with fail
 go_ret2
 exact⟨rfl,HB.out⟩
theorem uT (w:World) (x y:Nat) (hx:x<256) (hy:y<256):Row8 (w.alloc (.cells #[.int .u8 (x:Int),.int .u8 (y:Int)] 5)) (ac w.heap.size 0) 2 2 (fun i=>if i=0 then x else y):=by
 refine ev w _ _ _ 2 (fun i _=>?_) (fun i hi=>?_)
 ·by_cases h:i=0
  ·rw[if_pos h];exact hx
  ·rw[if_neg h];exact hy
 ·rcases (show i=0∨i=1 by omega) with rfl | rfl <;> rfl
theorem qN (c O I T n k:Nat) (hk:k<14):(if k<10 then (if k<6 then (if k<4 then PM.w4 c k else (if k-4=0 then O else I)) else PM.w4 T (k-6)) else PM.w4 n (k-10))=pe c O I T n k:=by
 unfold pe
 by_cases h1:k<4
 ·rw[if_pos (by omega),if_pos (by omega),if_pos h1,if_pos h1]
 ·by_cases h2:k=4
  ·subst h2;rfl
  ·by_cases h3:k=5
   ·subst h3;rfl
   ·by_cases h4:k<10
    ·rw[if_pos h4,if_neg (by omega),if_neg h1,if_neg h2,if_neg h3,if_pos h4]
    ·rw[if_neg h4,if_neg h1,if_neg h2,if_neg h3,if_neg h4]
theorem jK (c O I T n:Nat) (w:World) (hc:c<4294967296) (hn:n<4294967296) (hE:iY c O I T n) :
  Calls prog 92 #[.agg #[.int .u32 c,.int .i64 O,.int .i64 I,.int .i64 T,.int .u32 n]] w fun e w'=>∃ a cap,e=.returned (.tuple #[.slice a 14 cap,.int .i64 0]) ∧
   Hid (w'.ownsRow w.heap.size 5 1 (.slice a 14 cap) 14 (CB (pe c O I T n) 14)∧Below w.heap.size w w'):=by
 obtain⟨i0,hi,hz0,hz1,hz2⟩:=info_parts aS
 obtain⟨_,hO,hI,hT,_⟩:=id hE
 have hA:Below w.heap.size w (w.alloc (.cells #[.int .u32 c,.int .i64 O,.int .i64 I,.int .i64 T,.int .u32 n] 29)):=(Below.refl _ _).alloc (Nat.le_refl _) _
 have hAs:w.heap.size < (w.alloc (.cells #[.int .u32 c,.int .i64 O,.int .i64 I,.int .i64 T,.int .u32 n] 29)).heap.size:=by simp
 have hL:=lf c O I T n (w.alloc (.cells #[.int .u32 c,.int .i64 O,.int .i64 I,.int .i64 T,.int .u32 n] 29)) true (decide_eq_true hE)
 have hX:=pI w c O I T n
 have hby:=qO (c:=c) (o:=O) (i:=I) (t:=T) (n:=n) (by omega) (by omega)
 have hOm:(O:Int) % 256=(O:Int):=by omega
 have hIm:(I:Int) % 256=(I:Int):=by omega
 have hTm:(T:Int) % 4294967296=(T:Int):=by omega
 have hT2:T<4294967296:=by omega
 have hO2:O<256:=by omega
 have hI2:I<256:=by omega
 clear hE hO hI hT
 go_enter func92,ntmps92
 go_wp2_with fail
 generalize w.alloc (.cells #[.int .u32 c,.int .i64 O,.int .i64 I,.int .i64 T,.int .u32 n] 29)=wa at *
 refine hL.mono ?_
 rintro e w1 ⟨rfl,hb1⟩
 have hs1:=hb1.size
 have hb2:=hb1.alloc hs1 (.cells #[] 5)
 have O2:(w1.alloc (.cells #[] 5)).ownsRow wa.heap.size 5 1 (.slice (ac w1.heap.size 0) 0 0) 0 (CB (fun _=>0) 0):=World.ownsRow_made w1 #[] 0 hs1 (Nat.zero_le _) rfl
 have x0:=(hX _ hb2).c0
 clear hL
 go_wp2_with fail
 generalize w1.alloc (.cells #[] 5)=w2 at *
 refine (bD c _ hc).mono ?_
 rintro e u3 ⟨rfl,rfl⟩
 have R3:=fA w2 c hc
 have P3:=O2.alloc (.cells #[.int .u8 ((c:Int) / 16777216),.int .u8 ((c:Int) / 65536 % 256),.int .u8 ((c:Int) / 256 % 256),.int .u8 ((c:Int) % 256)] 5)
 have hs3:wa.heap.size≤w2.heap.size:=hb2.size
 have B3:=hb2.alloc hs3 (.cells #[.int .u8 ((c:Int) / 16777216),.int .u8 ((c:Int) / 65536 % 256),.int .u8 ((c:Int) / 256 % 256),.int .u8 ((c:Int) % 256)] 5)
 have ht3:=B3.size
 clear O2 hb2
 go_wp2_with (at_builtin;refine ae rfl (.tmp 8) (.tmp 11) 43 rfl wa.heap.size 5 i0 (.int .u8 0) underlying43 hi hz0 hz1 hz2 rfl _ 0 _ rfl P3 _ 4 4 (PM.w4 c) rfl R3 (by unfold maxLen;omega) (by omega) ht3 ?_)
 intro v3 w3 O3 G3
 have C3:Below wa.heap.size wa w3:=B3.grown G3 ht3 (fun j hj=>(P3.lt j hj).1)
 rw[aX]at O3
 clear R3 P3 B3 G3
 rw[cn _ (PM.w4 c) _ (fun j _=>by rw[if_neg (by omega),Nat.sub_zero])]at O3
 have x1:=(hX w3 C3).c1
 have x2:=(hX w3 C3).c2
 have R4:=uT w3 O I hO2 hI2
 have P4:=O3.alloc (.cells #[.int .u8 (O:Int),.int .u8 (I:Int)] 5)
 have hs4:=C3.size
 have B4:=C3.alloc hs4 (.cells #[.int .u8 (O:Int),.int .u8 (I:Int)] 5)
 have ht4:=B4.size
 clear O3 C3
 go_wp2_with (at_builtin;refine ae rfl (.tmp 13) (.tmp 20) 43 rfl wa.heap.size 5 i0 (.int .u8 0) underlying43 hi hz0 hz1 hz2 rfl _ 4 _ rfl P4 _ 2 2 (fun i=>if i=0 then O else I) rfl R4 (by unfold maxLen;omega) (by omega) ht4 ?_)
 intro v4 w4 O4 G4
 have C4:Below wa.heap.size wa w4:=B4.grown G4 ht4 (fun j hj=>(P4.lt j hj).1)
 rw[aX]at O4
 clear R4 P4 B4 G4
 have x3:=(hX w4 C4).c3
 go_wp2_with fail
 refine (bD T _ hT2).mono ?_
 rintro e u5 ⟨rfl,rfl⟩
 have R5:=fA w4 T hT2
 have P5:=O4.alloc (.cells #[.int .u8 ((T:Int) / 16777216),.int .u8 ((T:Int) / 65536 % 256),.int .u8 ((T:Int) / 256 % 256),.int .u8 ((T:Int) % 256)] 5)
 have hs5:wa.heap.size≤w4.heap.size:=C4.size
 have B5:=C4.alloc hs5 (.cells #[.int .u8 ((T:Int) / 16777216),.int .u8 ((T:Int) / 65536 % 256),.int .u8 ((T:Int) / 256 % 256),.int .u8 ((T:Int) % 256)] 5)
 have ht5:=B5.size
 clear O4 C4
 go_wp2_with (at_builtin;refine ae rfl (.tmp 22) (.tmp 26) 43 rfl wa.heap.size 5 i0 (.int .u8 0) underlying43 hi hz0 hz1 hz2 rfl _ 6 _ rfl P5 _ 4 4 (PM.w4 T) rfl R5 (by unfold maxLen;omega) (by omega) ht5 ?_)
 intro v5 w5 O5 G5
 have C5:Below wa.heap.size wa w5:=B5.grown G5 ht5 (fun j hj=>(P5.lt j hj).1)
 rw[aX]at O5
 clear R5 P5 B5 G5
 have x4:=(hX w5 C5).c4
 go_wp2_with fail
 refine (bD n _ hn).mono ?_
 rintro e u6 ⟨rfl,rfl⟩
 have R6:=fA w5 n hn
 have P6:=O5.alloc (.cells #[.int .u8 ((n:Int) / 16777216),.int .u8 ((n:Int) / 65536 % 256),.int .u8 ((n:Int) / 256 % 256),.int .u8 ((n:Int) % 256)] 5)
 have hs6:wa.heap.size≤w5.heap.size:=C5.size
 have B6:=C5.alloc hs6 (.cells #[.int .u8 ((n:Int) / 16777216),.int .u8 ((n:Int) / 65536 % 256),.int .u8 ((n:Int) / 256 % 256),.int .u8 ((n:Int) % 256)] 5)
 have ht6:=B6.size
 clear O5 C5
 go_wp2_with (at_builtin;refine ae rfl (.tmp 28) (.tmp 31) 43 rfl wa.heap.size 5 i0 (.int .u8 0) underlying43 hi hz0 hz1 hz2 rfl _ 10 _ rfl P6 _ 4 4 (PM.w4 n) rfl R6 (by unfold maxLen;omega) (by omega) ht6 ?_)
 intro v6 w6 O6 G6
 have C6:Below wa.heap.size wa w6:=B6.grown G6 ht6 (fun j hj=>(P6.lt j hj).1)
 rw[aX]at O6
 clear R6 P6 B6 G6
 rw[cn _ (pe c O I T n) _ (fun j hj=>qN c O I T n j (by omega))]at O6
 obtain⟨a7,c7,rfl,_⟩:=aO O6 (fun k _=>hby k)
 have HB:Hid (_):=And.intro (ak O6 (Nat.le_of_lt hAs)) (hA.trans (C6.mono (Nat.le_of_lt hAs)))
 clear O6 C6 hX x0 x1 x2 x3 x4
 go_wp2_with fail
 go_ret2
 exact⟨a7,c7,rfl,HB.out⟩
theorem n7 (d m g n mx:Nat) (P:Pm) (U:List Nat) (s:Sd) (w:World) (h:DV w d m g n mx P U s) :
  Calls prog 183 #[aa d 9] w fun e w'=>e=.returned (.int .i64 (bG s:Nat))∧Below w.heap.size w w':=by
 obtain⟨B,h⟩:=h
 have c10:=h.cells.2.2.2.2.2.2.2.2.2.2.1
 have c17:=h.cells.2.2.2.2.2.2.2.2.2.2.2.2.2.2.2.2.2
 have H:Hid (_):=h
 clear h
 unfold bG
 cases h1:aL s.v <;> cases h2:bK s.v <;> by_cases h3:s.v.lat=0 <;> cases h4:s.hd
 all_goals
  rw[h4]at c17
  go_enter func183,ntmps183
  go_wp2_with fail
  refine (fD _ _ _ _ _ _ H.out.val).mono ?_
  rintro e w2 ⟨v2,rfl,h5⟩
  rw[h1]
  have hb:=h5.out.2
  have x2:=H.out.newd (Off.of_below hb)
  have e10:=x2.cells.2.2.2.2.2.2.2.2.2.2.1
  have e17:=x2.cells.2.2.2.2.2.2.2.2.2.2.2.2.2.2.2.2.2
  have q1:=fE _ _ _ _ _ _ x2.val
  have q2:=fC _ _ _ _ _ _ x2.val
  rw[h2]at q1
  rw[h4]at e17
  first
   | rw[h3]at q2
   | skip
  have HB:Hid (_):=hb
  clear H h5 hb x2 c10 c17
  go_wp2_with (first | (go_at_call 46;refine q1.mono ?_;rintro e w' ⟨rfl,hw⟩;have hw:=hw.symm;subst hw) | (go_at_call 45;refine q2.mono ?_;rintro e w' ⟨rfl,hw⟩;have hw:=hw.symm;subst hw))
  go_ret
  exact⟨by first | rfl | (simp[h3];done) | (simp[h3];rfl),HB.out⟩
def Fr (w:World) (M:Nat) (v:Value) (f:Fm):Prop:=w.ownsRow M 5 1 v f.1 (CB f.2 f.1)
theorem fu (w:World) (M e:Nat):w.ownsRow M e 1 (.slice none 0 0) 0 (CB (fun _=>0) 0):=World.ownsRow_nil w M e 1
theorem dF (d m g n mx:Nat) (P:Pm) (U:List Nat) (s:Sd) (k num fl:Nat) (a:Option Addr) (len cap:Nat) (bs:Nat→Nat) (w:World) (h:DV w d m g n mx P U s) (hr:Row8 w a len cap bs) :
  Calls prog 182 #[aa d 0,.agg #[.int .i64 (k:Nat),.int .u32 0,.int .u32 0,.int .u32 (num:Nat),.int .i64 (fl:Nat),.slice a len cap]] w fun e w'=>∃ v,e=.returned v∧Hid (Fr w' w.heap.size v (bC P s k num fl len bs)∧Below w.heap.size w w'):=by
 obtain⟨B,h⟩:=h
 obtain⟨c0,_,_,_,_,_,_,_,_,_,_,_,c12,_⟩:=h.cells
 have hlt:=h.dlt
 have hne:¬ d=w.heap.size:=by omega
 have hne':¬ w.heap.size=d:=by omega
 clear h
 have fin:∀ w3,Below w.heap.size w w3→Calls prog 35 #[.agg #[.int .i64 (k:Nat),.int .u32 (P.c:Nat),.int .u32 (s.ss:Nat),.int .u32 (num:Nat),.int .i64 (fl:Nat),.slice a len cap]] w3 fun e w'=>∃ v E,e=.returned (.tuple #[v,.int .i64 E])∧Hid (Fr w' w.heap.size v (bC P s k num fl len bs)∧Below w.heap.size w w'):=by
  intro w3 h3
  unfold bC cH
  by_cases hE:LW k P.c s.ss num fl len len=0
  ·rw[if_pos hE]
   refine (fT k P.c s.ss num fl a len cap bs w3 (hr.below h3) hE).mono ?_
   rintro e w' ⟨v,rfl,h4⟩
   exact⟨v,0,rfl,ak h4.out.1 h3.size,h3.trans (h4.out.2.mono h3.size)⟩
  ·rw[if_neg hE]
   refine (gJ k P.c s.ss num fl a len cap w3 hE).mono ?_
   rintro e w' ⟨rfl,h4⟩
   exact⟨_,_,rfl,fu _ _ _,h3.trans (h4.mono h3.size)⟩
 clear hr
 go_enter func182,ntmps182
 go_wp2_with fail
 go_region_with fail
 all_goals
  go_wp2_with fail
  refine (fin _ ?_).mono ?_
  ·exact Below.drew ((Below.refl _ _).alloc (Nat.le_refl _) _)
  ·rintro e w4 ⟨v,E,rfl,h4⟩
   clear fin
   go_wp2_with fail
   go_ret
   exact⟨v,rfl,h4⟩
theorem bY (w:World) (bs:Nat→Nat):Row8 w none 0 0 bs:=⟨fun i hi=>by omega,fun _=>⟨rfl,rfl⟩,(fun x hx=>by cases hx),Nat.le_refl _⟩
theorem DV.below {w w':World} {d m g n mx:Nat} {P:Pm} {U:List Nat} {s:Sd} (h:DV w d m g n mx P U s) (hb:Below w.heap.size w w'):DV w' d m g n mx P U s:=by
 obtain⟨B,h⟩:=h
 exact⟨B,h.newd (Off.of_below hb)⟩
theorem gY (d m g n mx:Nat) (P:Pm) (U:List Nat) (s:Sd) (w:World) (h:DV w d m g n mx P U s) :
  Calls prog 179 #[aa d 0] w fun e w'=>∃ v,e=.returned v∧Hid (Fr w' w.heap.size v (fq P s)∧Below w.heap.size w w'):=by
 have hS:=dF d m g n mx P U s 22 0 0 none 0 0 (fun _=>0) w h (bY _ _)
 clear h
 go_enter func179,ntmps179
 go_wp2_with fail
 refine hS.mono ?_
 rintro e w2 ⟨v,rfl,h2⟩
 clear hS
 go_wp2_with fail
 go_ret
 exact⟨v,rfl,h2⟩
theorem iX (d m g n mx:Nat) (P:Pm) (U:List Nat) (s:Sd) (w:World) (h:DV w d m g n mx P U s) :
  Calls prog 178 #[aa d 0] w fun e w'=>∃ v,e=.returned v∧Hid (Fr w' w.heap.size v (dK P s)∧Below w.heap.size w w'):=by
 obtain⟨B,h0⟩:=id h
 obtain⟨c0,c1,c2,c3,c4,_⟩:=h0.cells
 have hG:=fN P.c P.o P.i P.t P.n w h0.pok.c h0.pok.n h0.pok.ok
 have H:Hid (_):=h
 clear h h0
 go_enter func178,ntmps178
 go_wp2_with fail
 refine hG.mono ?_
 rintro e w2 ⟨rfl,b2⟩
 have K:=PM.K_lt (pe P.c P.o P.i P.t P.n) 14
 have hr:=fA w2 (PM.K (pe P.c P.o P.i P.t P.n) 14) K
 have hB:=cJ (PM.K (pe P.c P.o P.i P.t P.n) 14) w2 K
 have b3:Below w2.heap.size w2 (w2.alloc (.cells #[.int .u8 ((PM.K (pe P.c P.o P.i P.t P.n) 14:Nat) / 16777216:Int),.int .u8 ((PM.K (pe P.c P.o P.i P.t P.n) 14:Nat) / 65536 % 256:Int),.int .u8 ((PM.K (pe P.c P.o P.i P.t P.n) 14:Nat) / 256 % 256:Int),.int .u8 ((PM.K (pe P.c P.o P.i P.t P.n) 14:Nat) % 256:Int)] 5)):=(Below.refl _ _).alloc (Nat.le_refl _) _
 have b4:=b2.trans (b3.mono b2.size)
 have hS:=dF d m g n mx P U s 17 0 0 (ac w2.heap.size 0) 4 4 (bZ P) _ (DV.below H.out b4) hr
 have HB:Hid (_):=b4
 clear hG b2 b3 b4 hr K c0 c1 c2 c3 c4 H
 generalize PM.K (pe P.c P.o P.i P.t P.n) 14=K at *
 go_wp2_with fail
 refine hB.mono ?_
 rintro e w3 ⟨rfl,rfl⟩
 clear hB
 go_wp2_with fail
 refine hS.mono ?_
 rintro e w4 ⟨v,rfl,h4⟩
 have H4:Hid (Fr w4 w.heap.size v (dK P s)∧Below w.heap.size w w4):=⟨ak h4.out.1 HB.out.size,HB.out.trans (h4.out.2.mono HB.out.size)⟩
 clear hS h4 HB
 go_wp2_with fail
 go_ret
 exact⟨v,rfl,H4⟩
theorem ij (d m g n mx:Nat) (P:Pm) (U:List Nat) (s:Sd) (a:Option Addr) (len cap:Nat) (bs:Nat→Nat) (w:World) (h:DV w d m g n mx P U s) (hr:Row8 w a len cap bs) :
  Calls prog 176 #[aa d 0,.slice a len cap] w fun e w'=>e=.returned (.bool (au P len bs))∧Below w.heap.size w w':=by
 obtain⟨B,h⟩:=h
 obtain⟨c0,c1,c2,c3,c4,_⟩:=h.cells
 have hG:=fW P.c P.o P.i P.t P.n a len cap bs w hr h.pok.c h.pok.n h.pok.ok (au P len bs) rfl
 clear h hr
 go_enter func176,ntmps176
 go_wp2_with fail
 refine hG.mono ?_
 rintro e w2 ⟨rfl,b2⟩
 clear hG
 go_wp2_with fail
 go_ret
 exact⟨rfl,b2⟩
def Out (U:List Nat) (w w':World) (d m g n mx:Nat) (P:Pm) (s:Sd) (f:Fm) (v:Value):Prop:=
 ∃ U',Gr U w U' w'∧DV w' d m g n mx P U' s∧Fr w' w.heap.size v f∧∀ k,v.ownBlock=some k→k ∉ U'
theorem DV.ult {w:World} {d m g n mx:Nat} {P:Pm} {U:List Nat} {s:Sd} (h:DV w d m g n mx P U s) (k:Nat) (hk:k ∈ U):k<w.heap.size:=by
 obtain⟨B,h⟩:=h
 exact h.ltU k hk
theorem Fr.ge {w:World} {M:Nat} {v:Value} {f:Fm} (h:Fr w M v f) (k:Nat) (hk:v.ownBlock=some k):M≤k:=by
 rcases h.2 with hn | ⟨g',cap',cur',rfl,hg',_⟩
 ·rw[hn.1]at hk;cases hk
 ·cases hk;exact hg'
theorem Out.mk {U U1:List Nat} {w w1 w2:World} {d m g n mx:Nat} {P:Pm} {s:Sd} {f:Fm} {v:Value} (h:Gr U w U1 w1) (x:DV w1 d m g n mx P U1 s) (hf:Fr w2 w1.heap.size v f) (hb:Below w1.heap.size w1 w2):Out U w w2 d m g n mx P s f v:=
 ⟨U1,h.trans (Gr.below hb),x.below hb,ak hf h.off.size,fun k hk hm=>by have:=x.ult k hm;have:=hf.ge k hk;omega⟩
theorem Out.pre {U U1:List Nat} {w w1 w2:World} {d m g n mx:Nat} {P:Pm} {s:Sd} {f:Fm} {v:Value} (h:Gr U w U1 w1) (x:Out U1 w1 w2 d m g n mx P s f v):Out U w w2 d m g n mx P s f v:=by
 obtain⟨U',g2,x2,f2,k2⟩:=x
 exact⟨U',h.trans g2,x2,ak f2 h.off.size,k2⟩
theorem Out.none_ {U U1:List Nat} {w w1:World} {d m g n mx:Nat} {P:Pm} {s:Sd} (h:Gr U w U1 w1) (x:DV w1 d m g n mx P U1 s):Out U w w1 d m g n mx P s pR (.slice none 0 0):=
 ⟨U1,h,x,fu _ _ _,fun k hk=>by cases hk⟩
theorem df (d m g n mx:Nat) (P:Pm) (U:List Nat) (s:Sd) (w:World) (h:DV w d m g n mx P U s) (hs:s.st≠6) (ho:s.od<4) (hL:s.L.length<900000) :
  Calls prog 177 #[aa d 0] w fun e w'=>e=.returned (.tuple #[])∧Hid (∃ U',Gr U w U' w'∧DV w' d m g n mx P U' (aT s)):=by
 obtain⟨B,h⟩:=h
 have c11:=h.cells.2.2.2.2.2.2.2.2.2.2.2.1
 have c15:=h.cells.2.2.2.2.2.2.2.2.2.2.2.2.2.2.2.1
 have z15:=h.fz 15
 have hI:=iD d s.st w c11
 unfold aT
 by_cases hb:j8 s=true
 ·rw[if_pos hb]
  rw[show decide (s.st=2∨s.st=3∨s.st=4)=true from hb]at hI
  obtain⟨od1,hod⟩:∃ k,s.od+1=k:=⟨_,rfl⟩
  rw[hod]
  have o1:=Off.setCell d 15 w (.int .i64 (od1:Int))
  have x1:=h.own o1 (s':={ s with od:=od1 }) (heap_setCell_same _ _ _ _ _ _ h.dev) rfl rfl rfl rfl rfl id
  have g1:Gr U w U (w.setCell ⟨d,15,none⟩ (.int .i64 (od1:Int))):=Gr.same o1 (by simp[h.kd.2])
  have e1:(s.od:Int)+1=(od1:Int):=by omega
  clear hod
  by_cases h4:od1<4
  ·rw[if_pos h4]
   have h4':(od1:Int)<4:=by omega
   have H:Hid (_):=And.intro g1 x1
   clear h hb o1 x1 g1 hL h4 hs
   go_enter func177,ntmps177
   go_wp2_with (go_at_call 205;refine hI.mono ?_;rintro e w' ⟨rfl,hw⟩;have hw:=hw.symm;subst hw)
   all_goals
    refine bodyPost_ret (results_none rfl _ _ _) rfl ?_
    exact⟨rfl,U,H.out.1,B,H.out.2⟩
  ·rw[if_neg h4]
   have h4':¬ (od1:Int)<4:=by omega
   by_cases hr:s.st=4
   ·rw[if_pos hr]
    have hr':((s.st:Nat):Int)=4:=by omega
    have hT:=ek d m g n mx P U { s with od:=od1 } 131 _ ⟨B,x1⟩ (by omega) (by decide) hL
    rw[hr]at c11
    have H:Hid (_):=g1
    have HS:Hid (_):=hs
    clear h hb o1 x1 g1 hL h4 hr' hs
    go_enter func177,ntmps177
    go_wp2_with (first | (go_at_call 205;refine hI.mono ?_;rintro e w' ⟨rfl,hw⟩;have hw:=hw.symm;subst hw) | (go_at_call 184;refine hT.mono ?_;rintro e w2 ⟨rfl,h2⟩))
    obtain⟨U2,g2,x2⟩:=h2.out
    have hst:(aq { s with od:=od1 } 131).st≠6:=by unfold aq;split <;> exact HS.out
    have hV:=eJ d m g n mx P U2 _ 1 w2 x2 hst
    have H2:Hid (_):=H.out.trans g2
    clear hT hI h2 g2 x2 c11 c15 z15 H HS hst
    go_wp2_with (go_at_call 206;refine hV.mono ?_;rintro e w3 ⟨rfl,h3⟩)
    go_end0
    obtain⟨U3,g3,x3⟩:=h3.out
    exact⟨rfl,U3,H2.out.trans g3,x3⟩
   ·rw[if_neg hr]
    have hr':(((s.st:Nat):Int) == 4)=false:=by simp;omega
    have hV:=eJ d m g n mx P U { s with od:=od1 } 1 _ ⟨B,x1⟩ hs
    have H:Hid (_):=g1
    clear h hb o1 x1 g1 hL h4 hr hs
    go_enter func177,ntmps177
    go_wp2_with (first | (go_at_call 205;refine hI.mono ?_;rintro e w' ⟨rfl,hw⟩;have hw:=hw.symm;subst hw) | (go_at_call 206;refine hV.mono ?_;rintro e w3 ⟨rfl,h3⟩))
    go_end0
    obtain⟨U3,g3,x3⟩:=h3.out
    exact⟨rfl,U3,H.out.trans g3,x3⟩
 ·rw[if_neg hb]
  have hb':j8 s=false:=by simpa using hb
  rw[show decide (s.st=2∨s.st=3∨s.st=4)=false from hb']at hI
  have H:Hid (_):=h
  clear h hb hb' c15 z15
  go_enter func177,ntmps177
  go_wp2_with (go_at_call 205;refine hI.mono ?_;rintro e w' ⟨rfl,hw⟩;have hw:=hw.symm;subst hw)
  all_goals
   refine bodyPost_ret (results_none rfl _ _ _) rfl ?_
   exact⟨rfl,U,Gr.refl _ _,B,H.out⟩
theorem cO (d m g n mx:Nat) (P:Pm) (U:List Nat) (s:Sd) (x:Int) (w:World) (h:DV w d m g n mx P U s) (hs:s.st≠6) (ho:s.od<4) (hL:s.L.length<900000) :
  Calls prog 150 #[aa d 0,.int .i64 x] w fun e w'=>∃ v,e=.returned (.tuple #[v,.int .i64 x])∧Hid (Out U w w' d m g n mx P (aT s) (fq P (aT s)) v):=by
 have hC:=df d m g n mx P U s w h hs ho hL
 clear h hs ho hL
 go_enter func150,ntmps150
 go_wp2_with (go_at_call 177;refine hC.mono ?_;rintro e w2 ⟨rfl,h2⟩)
 obtain⟨U2,g2,x2⟩:=h2.out
 have hN:=gY d m g n mx P U2 _ w2 x2
 have H:Hid (_):=And.intro g2 x2
 clear hC h2 g2 x2
 go_wp2_with (go_at_call 179;refine hN.mono ?_;rintro e w3 ⟨v,rfl,h3⟩)
 go_ret2
 exact⟨v,rfl,Out.mk H.out.1 H.out.2 h3.out.1 h3.out.2⟩
structure NL (w w':World) (P:Pm) (db vb vg ga:Nat):Prop where
 dog:DR w' db P.t 0
 val:VR w' vb vg [] P.o ly
 app:w'.ownsRow w.heap.size 5 1 (.slice (ac ga 0) P.i P.i) P.i (CB (fun _=>0) P.i)
 bel:Below w.heap.size w w'
 h1:w.heap.size≤db
 h2:db<vb
 h3:db<vg
 h4:vb<ga
 h5:vg<ga
 h6:ga<w'.heap.size
def nG:Array Value:=#[.pointer none,.pointer none,.int .i64 0,.int .u32 0,.int .u32 0,.int .u32 0,.int .i64 0,.slice none 0 0,.bool false]
theorem nz (w:World) (o p:Array Value) (t u:TypeId) (wx:World) (hb:Below ((w.alloc (.cells o t)).alloc (.cells p u)).heap.size ((w.alloc (.cells o t)).alloc (.cells p u)) wx) :
  wx.heap[w.heap.size]?=some (.cells o t (0,0))∧wx.heap[w.heap.size+1]?=some (.cells p u (0,0)):=by
 have s1:(w.alloc (.cells o t)).heap.size=w.heap.size+1:=by simp
 have s2:((w.alloc (.cells o t)).alloc (.cells p u)).heap.size=w.heap.size+2:=by simp
 constructor
 ·rw[hb.block _ (by omega),Below.heap_alloc _ _ _ (by omega)]
  exact aB w _
 ·rw[hb.block _ (by omega),← s1]
  exact aB _ _
theorem tV (b:Nat) (w:World) (x0 x1 x2 x3 x4 x5 x6 x7 x8:Value) :
  Off [b] w (((((((((w.setCell ⟨b,0,none⟩ x0).setCell ⟨b,1,none⟩ x1).setCell ⟨b,2,none⟩ x2).setCell ⟨b,3,none⟩ x3).setCell ⟨b,4,none⟩ x4).setCell ⟨b,5,none⟩ x5).setCell ⟨b,6,none⟩ x6).setCell ⟨b,7,none⟩ x7).setCell ⟨b,8,none⟩ x8):=
 ((((((((Off.setCell b 0 w x0).trans (Off.setCell b 1 _ x1)).trans (Off.setCell b 2 _ x2)).trans (Off.setCell b 3 _ x3)).trans (Off.setCell b 4 _ x4)).trans (Off.setCell b 5 _ x5)).trans (Off.setCell b 6 _ x6)).trans (Off.setCell b 7 _ x7)).trans (Off.setCell b 8 _ x8)
theorem fV (P:Pm) (hP:Pok P) (w:World) :
  Calls prog 28 #[.agg #[.int .u32 (P.c:Nat),.int .i64 (P.o:Nat),.int .i64 (P.i:Nat),.int .i64 (P.t:Nat),.int .u32 (P.n:Nat)]] w fun e w'=>∃ db vb vg ga,e=.returned (.agg #[aa db 0,aa vb 0,.int .i64 1,.int .u32 0,.int .u32 0,.int .u32 0,.int .i64 0,.slice (ac ga 0) P.i P.i,.bool false])∧Hid (NL w w' P db vb vg ga):=by
 obtain⟨i0,hi,hz0,hz1,hz2⟩:=info_parts aS
 have hX:=nz w #[.int .u32 (P.c:Nat),.int .i64 (P.o:Nat),.int .i64 (P.i:Nat),.int .i64 (P.t:Nat),.int .u32 (P.n:Nat)] nG 29 87
 have hA:Below w.heap.size w ((w.alloc (.cells #[.int .u32 (P.c:Nat),.int .i64 (P.o:Nat),.int .i64 (P.i:Nat),.int .i64 (P.t:Nat),.int .u32 (P.n:Nat)] 29)).alloc (.cells nG 87)):=((Below.refl _ _).alloc (Nat.le_refl _) _).alloc (by simp) _
 have hs:((w.alloc (.cells #[.int .u32 (P.c:Nat),.int .i64 (P.o:Nat),.int .i64 (P.i:Nat),.int .i64 (P.t:Nat),.int .u32 (P.n:Nat)] 29)).alloc (.cells nG 87)).heap.size=w.heap.size+2:=by simp
 have hW:=fun wx=>nC P.t wx hP.t1 hP.t2
 have hV:=fun wx=>nA P.o wx hP.o1 hP.o8
 have hi8:=hP.i8
 have hi1:=hP.i1
 have HW:Hid (_):=hW
 have HV:Hid (_):=hV
 have HA:Hid (_):=And.intro hA hs
 clear hA hs hW hV hP
 go_enter func28,ntmps28
 go_wp2_with fail
 refine (HW.out _).mono ?_
 rintro e w2 ⟨rfl,o2,d2⟩
 unfold nG at hX HA
 generalize hwa:(w.alloc (.cells #[.int .u32 (P.c:Nat),.int .i64 (P.o:Nat),.int .i64 (P.i:Nat),.int .i64 (P.t:Nat),.int .u32 (P.n:Nat)] 29)).alloc (.cells #[.pointer none,.pointer none,.int .i64 0,.int .u32 0,.int .u32 0,.int .u32 0,.int .i64 0,.slice none 0 0,.bool false] 87)=wa at *
 clear hwa
 have b2:Below wa.heap.size wa w2:=⟨o2.os,o2.tape,o2.output,o2.size,fun k hk=>o2.block k hk (by simp)⟩
 have p1:w2.cell? ⟨w.heap.size,1,none⟩=some (.int .i64 (P.o:Nat)):=ab w2 _ 1 _ _ _ (hX w2 b2).1
 have K2:Hid (_):=And.intro b2 d2
 have HX:Hid (_):=hX
 clear b2 d2 o2 HW hX
 go_wp2_with fail
 refine (HV.out _).mono ?_
 rintro e w3 ⟨vb,vg,rfl,h3⟩
 have o3:=h3.out.2.2.2.2.1
 have b3:Below wa.heap.size wa w3:=K2.out.1.trans ⟨o3.os,o3.tape,o3.output,o3.size,fun k hk=>o3.block k (Nat.lt_of_lt_of_le hk K2.out.1.size) (by simp)⟩
 have p2:w3.cell? ⟨w.heap.size,2,none⟩=some (.int .i64 (P.i:Nat)):=ab w3 _ 2 _ _ _ (HX.out w3 b3).1
 have K3:Hid (_):=And.intro b3 (And.intro (K2.out.2.off o3 (by simp)) (And.intro h3.out (Nat.lt_of_lt_of_le K2.out.2.lt (Nat.le_refl _))))
 have K4:Hid (_):=K2.out.2.lt
 clear b3 o3 h3 p1 HV K2
 go_wp2_with (at_make;refine aH _ rfl (.tmp 22) (.tmp 22) 43 rfl w3.heap.size 5 i0 underlying43 hi hz0 hz1 hz2 _ _ _ _ P.i P.i rfl rfl rfl rfl (Nat.le_refl _) (by omega) (Nat.le_refl _) ?_)
 intro w4 hown4 hbel4
 have b4:Below wa.heap.size wa w4:=K3.out.1.trans (hbel4.mono K3.out.1.size)
 have e4:=(HX.out w4 b4).2
 have y0:=ab w4 (w.heap.size+1) 0 _ _ _ e4
 have y1:=ab w4 (w.heap.size+1) 1 _ _ _ e4
 have y2:=ab w4 (w.heap.size+1) 2 _ _ _ e4
 have y3:=ab w4 (w.heap.size+1) 3 _ _ _ e4
 have y4:=ab w4 (w.heap.size+1) 4 _ _ _ e4
 have y5:=ab w4 (w.heap.size+1) 5 _ _ _ e4
 have y6:=ab w4 (w.heap.size+1) 6 _ _ _ e4
 have y7:=ab w4 (w.heap.size+1) 7 _ _ _ e4
 have y8:=ab w4 (w.heap.size+1) 8 _ _ _ e4
 have fz:=fun j=>frozen_of_row w4 (w.heap.size+1) j _ _ e4
 have f0:=fz 0
 have f1:=fz 1
 have f2:=fz 2
 have f3:=fz 3
 have f4:=fz 4
 have f5:=fz 5
 have f6:=fz 6
 have f7:=fz 7
 have f8:=fz 8
 have K5:Hid (_):=And.intro b4 (And.intro hown4 hbel4)
 clear e4 b4 hown4 hbel4 fz p2 HX
 go_wp2_with fail
 refine bodyPost_ret (v:=.agg #[aa wa.heap.size 0,aa vb 0,.int .i64 1,.int .u32 0,.int .u32 0,.int .u32 0,.int .i64 0,.slice (ac w3.heap.size 0) P.i P.i,.bool false]) (by simp[results,results28,go_sem,y0,y1,y2,y3,y4,y5,y6,y7,y8]) rfl ⟨wa.heap.size,vb,vg,w3.heap.size,rfl,?_⟩
 obtain⟨b4,hown4,hbel4⟩:=K5.out
 obtain⟨b3,d3,⟨v1,v2,v3,v4,o3,x3⟩,_⟩:=K3.out
 obtain⟨hA,hs⟩:=HA.out
 have hlt:=(hown4.lt _ rfl).2
 have k4:=K4.out
 have oo:Off [w.heap.size+1] w4 _:=tV (w.heap.size+1) w4 (aa wa.heap.size 0) (aa vb 0) (.int .i64 1) (.int .u32 0) (.int .u32 0) (.int .u32 0) (.int .i64 0) (.slice (ac w3.heap.size 0) P.i P.i) (.bool false)
 have q4:=Off.of_below (l:=[]) hbel4
 have sz:=oo.size
 have s3:=b3.size
 have s4:=b4.size
 have so:w4.ownsRow w.heap.size 5 1 (.slice (ac w3.heap.size 0) P.i P.i) P.i (CB (fun _=>0) P.i):=ak hown4 (by omega)
 have z6:w3.heap.size<w4.heap.size:=hlt
 have z2:wa.heap.size<vb:=by omega
 have z3:wa.heap.size<vg:=by omega
 refine⟨(d3.off q4 (by simp)).off oo (by simp;omega),((x3.off q4 (by simp) (by simp) (by simp)).off oo (by simp;omega) (by simp;omega) (by simp)),an so oo ?_,?_,by omega,z2,z3,v3,v4,Nat.lt_of_lt_of_le z6 sz⟩
 ·intro k hk
  cases hk
  have:=b3.size
  simp;omega
 ·have bo:=oo.below (B:=w.heap.size) (w0:=w) (hA.trans (b4.mono (by omega))) (by simp) (by have:=b4.size;omega)
  exact bo
end Go.Proofs.YtdpahjfekoikiaaGreat
