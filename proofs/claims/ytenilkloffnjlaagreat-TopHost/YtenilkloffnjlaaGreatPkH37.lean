/- Part 38: contracts that the proof rests on. -/
import Derived.Test.YtenilkloffnjlaaGreatPkH36
set_option maxHeartbeats 64000000
set_option maxRecDepth 100000
namespace Go.Proofs.YtenilkloffnjlaaGreat
open Tryz
open Go.RowKit Go.Maps
set_option linter.unusedVariables false
theorem pX (X b:Nat) (w:World) (cb:w.cell? ⟨X,4,none⟩=some (ac b 0)):Calls prog 47 #[ac X 0] w fun r w'=>r=.returned (.bool false)∧w'=w:=by
 go_enter func47,ntmps47
 go_wp2_with fail
 go_ret
 exact⟨rfl,rfl⟩
theorem acv (X:Nat) (m:Mv) (d:Option Addr) (c:Nat) (w:World) (h3:(m.k == 3)=false) (h4:(m.k == 4)=false) (h5:(m.k == 5)=false) (h7:(m.k == 7)=false) (h8:(m.k == 8)=false):Calls prog 52 #[ac X 0,.agg (aj m m.c d c)] w fun r w'=>r=.returned (.int .i64 0)∧Hid (Below w.heap.size w w'):=by
 have kA:=aB w (.cells (aj m m.c d c) 39)
 have bA:=aF (Below.refl _ w) (.cells (aj m m.c d c) 39)
 obtain⟨wa,hwa⟩:∃ y,w.alloc (.cells (aj m m.c d c) 39)=y:=⟨_,rfl⟩
 rw[hwa]at kA bA
 obtain⟨x,hx⟩:∃ y,w.heap.size=y:=⟨_,rfl⟩
 have HB:Hid (Below w.heap.size w wa):=bA
 have HS:Hid (w.heap.size=x):=hx
 rw[hx]at kA
 have q0:wa.cell? ⟨x,0,none⟩=some (.int .i64 m.k):=ae wa x 0 _ _ _ kA
 have q1:wa.cell? ⟨x,1,none⟩=some (.int .i64 m.c):=ae wa x 1 _ _ _ kA
 have q2:wa.cell? ⟨x,2,none⟩=some (.int .i64 m.s):=ae wa x 2 _ _ _ kA
 have q3:wa.cell? ⟨x,3,none⟩=some (.int .i64 m.f):=ae wa x 3 _ _ _ kA
 have q4:wa.cell? ⟨x,4,none⟩=some (.int .i64 m.a):=ae wa x 4 _ _ _ kA
 have q5:wa.cell? ⟨x,5,none⟩=some (.int .u32 (m.w:Nat)):=ae wa x 5 _ _ _ kA
 have q6:wa.cell? ⟨x,6,none⟩=some (.int .i64 m.n):=ae wa x 6 _ _ _ kA
 have q7:wa.cell? ⟨x,7,none⟩=some (.bool m.h):=ae wa x 7 _ _ _ kA
 have q8:wa.cell? ⟨x,8,none⟩=some (.slice d m.l c):=ae wa x 8 _ _ _ kA
 have HE:Hid (_=wa):=hwa
 clear kA hwa hx
 clear bA
 go_enter func52,ntmps52
 go_upto_region 1 with fail
 rw[HE.out,HS.out]
 go_wp2_with fail
 go_ret
 exact⟨rfl,HB⟩
theorem acw (X:Nat) (m:Mv) (d:Option Addr) (c:Nat) (w:World) (h3:(m.k == 3)=true) (K:Int) (hC:∀ w1,Below w.heap.size w w1→Calls prog 78 #[ac X 0,.agg (aj m m.c d c)] w1 fun r w'=>∃ a n cap,r=.returned (.tuple #[.slice a n cap,.int .i64 K])∧Hid (Below w1.heap.size w1 w')):Calls prog 52 #[ac X 0,.agg (aj m m.c d c)] w fun r w'=>r=.returned (.int .i64 K)∧Hid (Below w.heap.size w w'):=by
 have kA:=aB w (.cells (aj m m.c d c) 39)
 have bA:=aF (Below.refl _ w) (.cells (aj m m.c d c) 39)
 obtain⟨wa,hwa⟩:∃ y,w.alloc (.cells (aj m m.c d c) 39)=y:=⟨_,rfl⟩
 rw[hwa]at kA bA
 obtain⟨x,hx⟩:∃ y,w.heap.size=y:=⟨_,rfl⟩
 have HB:Hid (Below w.heap.size w wa):=bA
 have HS:Hid (w.heap.size=x):=hx
 rw[hx]at kA
 have q0:wa.cell? ⟨x,0,none⟩=some (.int .i64 m.k):=ae wa x 0 _ _ _ kA
 have q1:wa.cell? ⟨x,1,none⟩=some (.int .i64 m.c):=ae wa x 1 _ _ _ kA
 have q2:wa.cell? ⟨x,2,none⟩=some (.int .i64 m.s):=ae wa x 2 _ _ _ kA
 have q3:wa.cell? ⟨x,3,none⟩=some (.int .i64 m.f):=ae wa x 3 _ _ _ kA
 have q4:wa.cell? ⟨x,4,none⟩=some (.int .i64 m.a):=ae wa x 4 _ _ _ kA
 have q5:wa.cell? ⟨x,5,none⟩=some (.int .u32 (m.w:Nat)):=ae wa x 5 _ _ _ kA
 have q6:wa.cell? ⟨x,6,none⟩=some (.int .i64 m.n):=ae wa x 6 _ _ _ kA
 have q7:wa.cell? ⟨x,7,none⟩=some (.bool m.h):=ae wa x 7 _ _ _ kA
 have q8:wa.cell? ⟨x,8,none⟩=some (.slice d m.l c):=ae wa x 8 _ _ _ kA
 have HE:Hid (_=wa):=hwa
 clear kA hwa hx
 have hCc:=hC wa HB.out
 clear hC
 clear bA
 go_enter func52,ntmps52
 go_upto_region 1 with fail
 rw[HE.out,HS.out]
 go_wp2_with fail
 refine hCc.mono ?_
 rintro r w2 ⟨a,n,cap,rfl,H2⟩
 go_wp2_with fail
 go_ret
 exact⟨rfl,HB.out.trans (H2.out.mono HB.out.size)⟩
theorem acx (X:Nat) (m:Mv) (d:Option Addr) (c:Nat) (w:World) (h3:(m.k == 3)=false) (h4:(m.k == 4)=true) (K:Int) (hC:∀ w1,Below w.heap.size w w1→Calls prog 78 #[ac X 0,.agg (aj m m.c d c)] w1 fun r w'=>∃ a n cap,r=.returned (.tuple #[.slice a n cap,.int .i64 K])∧Hid (Below w1.heap.size w1 w')):Calls prog 52 #[ac X 0,.agg (aj m m.c d c)] w fun r w'=>r=.returned (.int .i64 K)∧Hid (Below w.heap.size w w'):=by
 have kA:=aB w (.cells (aj m m.c d c) 39)
 have bA:=aF (Below.refl _ w) (.cells (aj m m.c d c) 39)
 obtain⟨wa,hwa⟩:∃ y,w.alloc (.cells (aj m m.c d c) 39)=y:=⟨_,rfl⟩
 rw[hwa]at kA bA
 obtain⟨x,hx⟩:∃ y,w.heap.size=y:=⟨_,rfl⟩
 have HB:Hid (Below w.heap.size w wa):=bA
 have HS:Hid (w.heap.size=x):=hx
 rw[hx]at kA
 have q0:wa.cell? ⟨x,0,none⟩=some (.int .i64 m.k):=ae wa x 0 _ _ _ kA
 have q1:wa.cell? ⟨x,1,none⟩=some (.int .i64 m.c):=ae wa x 1 _ _ _ kA
 have q2:wa.cell? ⟨x,2,none⟩=some (.int .i64 m.s):=ae wa x 2 _ _ _ kA
 have q3:wa.cell? ⟨x,3,none⟩=some (.int .i64 m.f):=ae wa x 3 _ _ _ kA
 have q4:wa.cell? ⟨x,4,none⟩=some (.int .i64 m.a):=ae wa x 4 _ _ _ kA
 have q5:wa.cell? ⟨x,5,none⟩=some (.int .u32 (m.w:Nat)):=ae wa x 5 _ _ _ kA
 have q6:wa.cell? ⟨x,6,none⟩=some (.int .i64 m.n):=ae wa x 6 _ _ _ kA
 have q7:wa.cell? ⟨x,7,none⟩=some (.bool m.h):=ae wa x 7 _ _ _ kA
 have q8:wa.cell? ⟨x,8,none⟩=some (.slice d m.l c):=ae wa x 8 _ _ _ kA
 have HE:Hid (_=wa):=hwa
 clear kA hwa hx
 have hCc:=hC wa HB.out
 clear hC
 clear bA
 go_enter func52,ntmps52
 go_upto_region 1 with fail
 rw[HE.out,HS.out]
 go_wp2_with fail
 refine hCc.mono ?_
 rintro r w2 ⟨a,n,cap,rfl,H2⟩
 go_wp2_with fail
 go_ret
 exact⟨rfl,HB.out.trans (H2.out.mono HB.out.size)⟩
def rfE (v n:Nat) (m:Mv) (K:Int):Int:=if 4096≤v then 150 else if m.k<1∨8<m.k then 170 else if m.c<0∨((n:Nat):Int)≤m.c then 171 else if eZ m.k=true∧m.s≠1∧m.s≠2 then 172 else K
theorem qG (X b n cc v:Nat) (g:Option Addr) (m:Mv) (d:Option Addr) (c:Nat) (w:World) (K:Int) (cb:w.cell? ⟨X,4,none⟩=some (ac b 0)) (cm:w.cell? ⟨X,5,none⟩=some (.int .i64 (v:Nat))) (cv:w.cell? ⟨X,3,none⟩=some (.slice g n cc))
  (hK:v<4096→1≤m.k→m.k≤8→0≤m.c→m.c < ((n:Nat):Int)→(eZ m.k=true→m.s=1∨m.s=2)→∀ w1,Below w.heap.size w w1→Calls prog 52 #[ac X 0,.agg (aj m m.c d c)] w1 fun r w'=>r=.returned (.int .i64 K)∧Hid (Below w1.heap.size w1 w')) :
  Calls prog 26 #[ac X 0,.agg (aj m m.c d c)] w fun r w'=>r=.returned (.int .i64 (rfE v n m K))∧Hid (Below w.heap.size w w'):=by
 have kA:=aB w (.cells (aj m m.c d c) 39)
 have bA:=aF (Below.refl _ w) (.cells (aj m m.c d c) 39)
 obtain⟨wa,hwa⟩:∃ y,w.alloc (.cells (aj m m.c d c) 39)=y:=⟨_,rfl⟩
 rw[hwa]at kA bA
 obtain⟨x,hx⟩:∃ y,w.heap.size=y:=⟨_,rfl⟩
 have HB:Hid (Below w.heap.size w wa):=bA
 have HS:Hid (w.heap.size=x):=hx
 rw[hx]at kA
 have q0:wa.cell? ⟨x,0,none⟩=some (.int .i64 m.k):=ae wa x 0 _ _ _ kA
 have q1:wa.cell? ⟨x,1,none⟩=some (.int .i64 m.c):=ae wa x 1 _ _ _ kA
 have q2:wa.cell? ⟨x,2,none⟩=some (.int .i64 m.s):=ae wa x 2 _ _ _ kA
 have q3:wa.cell? ⟨x,3,none⟩=some (.int .i64 m.f):=ae wa x 3 _ _ _ kA
 have q4:wa.cell? ⟨x,4,none⟩=some (.int .i64 m.a):=ae wa x 4 _ _ _ kA
 have q5:wa.cell? ⟨x,5,none⟩=some (.int .u32 (m.w:Nat)):=ae wa x 5 _ _ _ kA
 have q6:wa.cell? ⟨x,6,none⟩=some (.int .i64 m.n):=ae wa x 6 _ _ _ kA
 have q7:wa.cell? ⟨x,7,none⟩=some (.bool m.h):=ae wa x 7 _ _ _ kA
 have q8:wa.cell? ⟨x,8,none⟩=some (.slice d m.l c):=ae wa x 8 _ _ _ kA
 have cb':=ag cb bA
 have cm':=ag cm bA
 have cv':=ag cv bA
 have HKK:Hid (_):=hK
 have hN:=pX X b wa cb'
 have hH:=ab6 X g n cc m.c wa cv'
 have hU:=ug m.k wa
 have hI:=sK m.s wa
 have HE:Hid (_=wa):=hwa
 clear kA hwa hx
 clear bA cb cm cv hK cb' cv'
 unfold rfE
 by_cases h1:4096≤v
 ·rw[if_pos h1]
  have h1':((v:Nat):Int) ≥ 4096:=by omega
  clear hH hU hI
  go_enter func26,ntmps26
  go_upto_region 1 with fail
  rw[HE.out,HS.out]
  go_wp2_with fail
  refine hN.mono ?_
  rintro r w2 ⟨rfl,rfl⟩
  go_wp2_with fail
  go_ret
  exact⟨rfl,HB⟩
 rw[if_neg h1]
 have h1':((v:Nat):Int)<4096:=by omega
 by_cases h2:m.k<1
 ·rw[if_pos (.inl h2)]
  clear hH hU hI
  go_enter func26,ntmps26
  go_upto_region 1 with fail
  rw[HE.out,HS.out]
  go_wp2_with fail
  refine hN.mono ?_
  rintro r w2 ⟨rfl,rfl⟩
  go_wp2_with fail
  go_ret
  exact⟨rfl,HB⟩
 by_cases h3:8<m.k
 ·rw[if_pos (.inr h3)]
  clear hH hU hI
  go_enter func26,ntmps26
  go_upto_region 1 with fail
  rw[HE.out,HS.out]
  go_wp2_with fail
  refine hN.mono ?_
  rintro r w2 ⟨rfl,rfl⟩
  go_wp2_with fail
  go_ret
  exact⟨rfl,HB⟩
 rw[if_neg (fun q=>q.elim h2 h3)]
 by_cases h4:m.c<0∨((n:Nat):Int)≤m.c
 ·rw[if_pos h4]
  rw[decide_eq_false (by omega)]at hH
  clear h4 hU hI
  go_enter func26,ntmps26
  go_upto_region 1 with fail
  rw[HE.out,HS.out]
  go_wp2_with fail
  refine hN.mono ?_
  rintro r w2 ⟨rfl,rfl⟩
  go_wp2_with fail
  refine hH.mono ?_
  rintro r w2 ⟨rfl,rfl⟩
  go_wp2_with fail
  go_ret
  exact⟨rfl,HB⟩
 rw[if_neg h4]
 rw[decide_eq_true (by omega)]at hH
 by_cases h5:eZ m.k=true
 ·rw[h5]at hU
  by_cases h6:m.s=1∨m.s=2
  ·rw[if_neg (fun q=>h6.elim q.2.1 q.2.2)]
   rw[show ((m.s == 1) || (m.s == 2))=true by simpa using h6]at hI
   have hKc:=HKK.out (by omega) (by omega) (by omega) (by omega) (by omega) (fun _=>h6) wa HB.out
   clear h4 h5 h6
   go_enter func26,ntmps26
   go_upto_region 1 with fail
   rw[HE.out,HS.out]
   go_wp2_with fail
   refine hN.mono ?_
   rintro r w2 ⟨rfl,rfl⟩
   go_wp2_with fail
   refine hH.mono ?_
   rintro r w2 ⟨rfl,rfl⟩
   go_wp2_with fail
   refine hU.mono ?_
   rintro r w2 ⟨rfl,rfl⟩
   go_wp2_with fail
   refine hI.mono ?_
   rintro r w2 ⟨rfl,rfl⟩
   go_wp2_with fail
   refine hKc.mono ?_
   rintro r w2 ⟨rfl,H2⟩
   go_wp2_with fail
   go_ret
   exact⟨rfl,HB.out.trans (H2.out.mono HB.out.size)⟩
  ·rw[if_pos ⟨h5,fun q=>h6 (.inl q),fun q=>h6 (.inr q)⟩]
   rw[show ((m.s == 1) || (m.s == 2))=false by simpa using h6]at hI
   clear h4 h5 h6
   go_enter func26,ntmps26
   go_upto_region 1 with fail
   rw[HE.out,HS.out]
   go_wp2_with fail
   refine hN.mono ?_
   rintro r w2 ⟨rfl,rfl⟩
   go_wp2_with fail
   refine hH.mono ?_
   rintro r w2 ⟨rfl,rfl⟩
   go_wp2_with fail
   refine hU.mono ?_
   rintro r w2 ⟨rfl,rfl⟩
   go_wp2_with fail
   refine hI.mono ?_
   rintro r w2 ⟨rfl,rfl⟩
   go_wp2_with fail
   go_ret
   exact⟨rfl,HB⟩
 ·rw[if_neg (fun q=>h5 q.1)]
  rw[show eZ m.k=false by simpa using h5]at hU
  have hKc:=HKK.out (by omega) (by omega) (by omega) (by omega) (by omega) (fun q=>absurd q h5) wa HB.out
  clear h4 h5 hI
  go_enter func26,ntmps26
  go_upto_region 1 with fail
  rw[HE.out,HS.out]
  go_wp2_with fail
  refine hN.mono ?_
  rintro r w2 ⟨rfl,rfl⟩
  go_wp2_with fail
  refine hH.mono ?_
  rintro r w2 ⟨rfl,rfl⟩
  go_wp2_with fail
  refine hU.mono ?_
  rintro r w2 ⟨rfl,rfl⟩
  go_wp2_with fail
  refine hKc.mono ?_
  rintro r w2 ⟨rfl,H2⟩
  go_wp2_with fail
  go_ret
  exact⟨rfl,HB.out.trans (H2.out.mono HB.out.size)⟩
end Go.Proofs.YtenilkloffnjlaaGreat
