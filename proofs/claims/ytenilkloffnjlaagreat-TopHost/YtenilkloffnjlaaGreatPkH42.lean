/- Part 43: contracts that the proof rests on. -/
import Derived.Test.YtenilkloffnjlaaGreatPkH40
import Derived.Test.YtenilkloffnjlaaGreatPkH41
set_option maxHeartbeats 64000000
set_option maxRecDepth 100000
namespace Go.Proofs.YtenilkloffnjlaaGreat
open Tryz
open Go.RowKit Go.Maps
set_option linter.unusedVariables false
theorem acS (X:Nat) (m:Mv) (d:Option Addr) (c:Nat) (w:World) (h3:(m.k == 3)=false) (h4:(m.k == 4)=false) (h5:(m.k == 5)=true):Calls prog 52 #[ac X 0,.agg (aj m m.c d c)] w fun r w'=>r=.returned (.int .i64 (if m.n<0∨xI m<m.n then 2 else 0))∧Hid (Below w.heap.size w w'):=by
 have kA:=aB w (.cells (aj m m.c d c) 39)
 have bA:=aF (Below.refl _ w) (.cells (aj m m.c d c) 39)
 obtain⟨wa,hwa⟩:∃ y,w.alloc (.cells (aj m m.c d c) 39)=y:=⟨_,rfl⟩
 rw[hwa]at kA bA
 obtain⟨x,hx⟩:∃ y,w.heap.size=y:=⟨_,rfl⟩
 have HB:Hid (Below w.heap.size w wa):=bA
 have HS:Hid (w.heap.size=x):=hx
 rw[hx]at kA
 have q0:wa.cell? ⟨x,0,none⟩=some (.int .i64 m.k):=ae wa x 0 _ _ _ kA
 have q1:wa.cell? ⟨x,1,none⟩=some (.int .i64 m.c):=ae wa x 1 _ _ _ kA
 have q2:wa.cell? ⟨x,2,none⟩=some (.int .i64 m.s):=ae wa x 2 _ _ _ kA
 have q3:wa.cell? ⟨x,3,none⟩=some (.int .i64 m.f):=ae wa x 3 _ _ _ kA
 have q4:wa.cell? ⟨x,4,none⟩=some (.int .i64 m.a):=ae wa x 4 _ _ _ kA
 have q5:wa.cell? ⟨x,5,none⟩=some (.int .u32 (m.w:Nat)):=ae wa x 5 _ _ _ kA
 have q6:wa.cell? ⟨x,6,none⟩=some (.int .i64 m.n):=ae wa x 6 _ _ _ kA
 have q7:wa.cell? ⟨x,7,none⟩=some (.bool m.h):=ae wa x 7 _ _ _ kA
 have q8:wa.cell? ⟨x,8,none⟩=some (.slice d m.l c):=ae wa x 8 _ _ _ kA
 have hS:∀ w',Below wa.heap.size wa w'→w'.cell? ⟨x,0,none⟩=some (Value.int .i64 m.k)∧w'.cell? ⟨x,1,none⟩=some (Value.int .i64 m.c)∧w'.cell? ⟨x,2,none⟩=some (Value.int .i64 m.s)∧w'.cell? ⟨x,3,none⟩=some (Value.int .i64 m.f)∧w'.cell? ⟨x,4,none⟩=some (Value.int .i64 m.a)∧w'.cell? ⟨x,5,none⟩=some (Value.int .u32 (m.w:Nat))∧w'.cell? ⟨x,6,none⟩=some (Value.int .i64 m.n)∧w'.cell? ⟨x,7,none⟩=some (Value.bool m.h)∧w'.cell? ⟨x,8,none⟩=some (Value.slice d m.l c):=fun w' b=>⟨ag q0 b,ag q1 b,ag q2 b,ag q3 b,ag q4 b,ag q5 b,ag q6 b,ag q7 b,ag q8 b⟩
 have HS0:=hS wa.drew (Below.drew (Below.refl _ _))
 have HSS:Hid (_):=hS
 have HBd:Hid (Below w.heap.size w wa.drew):=Below.drew bA
 have hGG:=jw m d c wa.drew
 obtain⟨G,hG⟩:∃ z,xI m=z:=⟨_,rfl⟩
 rw[hG]at hGG ⊢
 have HE:Hid (_=wa):=hwa
 clear kA hwa hx
 clear bA hS hG
 by_cases n0:m.n<0
 ·rw[if_pos (.inl n0)]
  go_enter func52,ntmps52
  go_upto_region 1 with fail
  rw[HE.out,HS.out]
  go_upto_region 9 with fail
  refine wp_region_held_drew (S:=fun w'=>w'.cell? ⟨x,0,none⟩=some (Value.int .i64 m.k)∧w'.cell? ⟨x,1,none⟩=some (Value.int .i64 m.c)∧w'.cell? ⟨x,2,none⟩=some (Value.int .i64 m.s)∧w'.cell? ⟨x,3,none⟩=some (Value.int .i64 m.f)∧w'.cell? ⟨x,4,none⟩=some (Value.int .i64 m.a)∧w'.cell? ⟨x,5,none⟩=some (Value.int .u32 (m.w:Nat))∧w'.cell? ⟨x,6,none⟩=some (Value.int .i64 m.n)∧w'.cell? ⟨x,7,none⟩=some (Value.bool m.h)∧w'.cell? ⟨x,8,none⟩=some (Value.slice d m.l c)) (by kernel_rfl) HS0 (fun _=>?_)
  refine aq (i:=0) (v:=ac x 6) ?_
  refine aq (i:=1) (v:=Value.int .i64 m.n) ?_
  refine aq (i:=2) (v:=Value.bool true) ?_
  refine aq (i:=3) (v:=Value.bool true) ?_
  refine wpAnyH_take (i:=4) (v:=undef) rfl (by kernel_rfl) (by kernel_rfl) (by kernel_rfl) (fun _ _ _ h=>h) (Or.inr ⟨by kernel_rfl,rfl⟩) (by assumption) ?_
  refine wpAnyH_take (i:=5) (v:=undef) rfl (by kernel_rfl) (by kernel_rfl) (by kernel_rfl) (fun _ _ _ h=>h) (Or.inr ⟨by kernel_rfl,rfl⟩) (by assumption) ?_
  refine wpAnyH_take (i:=6) (v:=undef) rfl (by kernel_rfl) (by kernel_rfl) (by kernel_rfl) (fun _ _ _ h=>h) (Or.inr ⟨by kernel_rfl,rfl⟩) (by assumption) ?_
  refine wpAnyH_take (i:=7) (v:=undef) rfl (by kernel_rfl) (by kernel_rfl) (by kernel_rfl) (fun _ _ _ h=>h) (Or.inr ⟨by kernel_rfl,rfl⟩) (by assumption) ?_
  refine wpAnyH_take (i:=8) (v:=undef) rfl (by kernel_rfl) (by kernel_rfl) (by kernel_rfl) (fun _ _ _ h=>h) (Or.inr ⟨by kernel_rfl,rfl⟩) (by assumption) ?_
  refine aq (i:=9) (v:=Value.bool true) ?_
  refine aK (a':={ tmps:=#[ac X 0,Value.agg (aj m m.c d c),undef,ac x 0,Value.int .i64 0,undef,undef,ac x 0,Value.int .i64 m.k,Value.bool false,Value.bool false,Value.bool false,undef,undef,undef,undef,undef,undef,undef,Value.bool true,Value.bool true,undef,undef,ac x 6,Value.int .i64 m.n,Value.bool true,Value.bool true,undef,undef,undef,undef,undef,Value.bool true],defers:=[] }) (l':=#[true,true,true,true,true,true,true,true,true,true]) (by kernel_rfl) (by kernel_rfl) ?_
  refine wpAnyH_done (by kernel_rfl) ?_ _
  go_wp2_with fail
  go_ret
  exact⟨rfl,HBd.out⟩
 ·by_cases n1:G<m.n
  ·rw[if_pos (.inr n1)]
   have n1':m.n > G:=n1
   go_enter func52,ntmps52
   go_upto_region 1 with fail
   rw[HE.out,HS.out]
   go_upto_region 9 with fail
   refine wp_region_held_drew (S:=fun w'=>w'.cell? ⟨x,0,none⟩=some (Value.int .i64 m.k)∧w'.cell? ⟨x,1,none⟩=some (Value.int .i64 m.c)∧w'.cell? ⟨x,2,none⟩=some (Value.int .i64 m.s)∧w'.cell? ⟨x,3,none⟩=some (Value.int .i64 m.f)∧w'.cell? ⟨x,4,none⟩=some (Value.int .i64 m.a)∧w'.cell? ⟨x,5,none⟩=some (Value.int .u32 (m.w:Nat))∧w'.cell? ⟨x,6,none⟩=some (Value.int .i64 m.n)∧w'.cell? ⟨x,7,none⟩=some (Value.bool m.h)∧w'.cell? ⟨x,8,none⟩=some (Value.slice d m.l c)) (by kernel_rfl) HS0 (fun _=>?_)
   refine aq (i:=0) (v:=ac x 6) ?_
   refine aq (i:=1) (v:=Value.int .i64 m.n) ?_
   refine aq (i:=2) (v:=Value.bool false) ?_
   refine aq (i:=3) (v:=Value.bool false) ?_
   refine aq (i:=4) (v:=ac x 6) ?_
   refine aq (i:=5) (v:=Value.int .i64 m.n) ?_
   refine aq (i:=6) (v:=Value.agg (aj m m.c d c)) ?_
   refine aI (i:=7) 79 #[Value.agg (aj m m.c d c)] (by kernel_rfl) rfl (by kernel_rfl) (by go_simp) ?_
   refine hGG.mono ?_
   rintro r w2 ⟨rfl,b2⟩
   clear hGG
   have HS2:=HSS.out w2 ((Below.drew (Below.refl wa.heap.size wa)).trans b2)
   refine⟨_,rfl,HS2,?_⟩
   refine aq (i:=8) (v:=Value.bool true) ?_
   refine aq (i:=9) (v:=Value.bool true) ?_
   refine aK (a':={ tmps:=#[ac X 0,Value.agg (aj m m.c d c),undef,ac x 0,Value.int .i64 0,undef,undef,ac x 0,Value.int .i64 m.k,Value.bool false,Value.bool false,Value.bool false,undef,undef,undef,undef,undef,undef,undef,Value.bool true,Value.bool true,undef,undef,ac x 6,Value.int .i64 m.n,Value.bool false,Value.bool false,ac x 6,Value.int .i64 m.n,Value.agg (aj m m.c d c),Value.int .i64 G,Value.bool true,Value.bool true],defers:=[] }) (l':=#[true,true,true,true,true,true,true,true,true,true]) (by kernel_rfl) (by kernel_rfl) ?_
   refine wpAnyH_done (by kernel_rfl) ?_ _
   have HF:Hid (Below w.heap.size w w2):=HBd.out.trans (b2.mono HBd.out.size)
   clear HS2 b2
   go_wp2_with fail
   go_ret
   exact⟨rfl,HF.out⟩
  ·rw[if_neg (fun q=>q.elim n0 n1)]
   have n1':¬ (m.n > G):=n1
   go_enter func52,ntmps52
   go_upto_region 1 with fail
   rw[HE.out,HS.out]
   go_upto_region 9 with fail
   refine wp_region_held_drew (S:=fun w'=>w'.cell? ⟨x,0,none⟩=some (Value.int .i64 m.k)∧w'.cell? ⟨x,1,none⟩=some (Value.int .i64 m.c)∧w'.cell? ⟨x,2,none⟩=some (Value.int .i64 m.s)∧w'.cell? ⟨x,3,none⟩=some (Value.int .i64 m.f)∧w'.cell? ⟨x,4,none⟩=some (Value.int .i64 m.a)∧w'.cell? ⟨x,5,none⟩=some (Value.int .u32 (m.w:Nat))∧w'.cell? ⟨x,6,none⟩=some (Value.int .i64 m.n)∧w'.cell? ⟨x,7,none⟩=some (Value.bool m.h)∧w'.cell? ⟨x,8,none⟩=some (Value.slice d m.l c)) (by kernel_rfl) HS0 (fun _=>?_)
   refine aq (i:=0) (v:=ac x 6) ?_
   refine aq (i:=1) (v:=Value.int .i64 m.n) ?_
   refine aq (i:=2) (v:=Value.bool false) ?_
   refine aq (i:=3) (v:=Value.bool false) ?_
   refine aq (i:=4) (v:=ac x 6) ?_
   refine aq (i:=5) (v:=Value.int .i64 m.n) ?_
   refine aq (i:=6) (v:=Value.agg (aj m m.c d c)) ?_
   refine aI (i:=7) 79 #[Value.agg (aj m m.c d c)] (by kernel_rfl) rfl (by kernel_rfl) (by go_simp) ?_
   refine hGG.mono ?_
   rintro r w2 ⟨rfl,b2⟩
   clear hGG
   have HS2:=HSS.out w2 ((Below.drew (Below.refl wa.heap.size wa)).trans b2)
   refine⟨_,rfl,HS2,?_⟩
   refine aq (i:=8) (v:=Value.bool false) ?_
   refine aq (i:=9) (v:=Value.bool false) ?_
   refine aK (a':={ tmps:=#[ac X 0,Value.agg (aj m m.c d c),undef,ac x 0,Value.int .i64 0,undef,undef,ac x 0,Value.int .i64 m.k,Value.bool false,Value.bool false,Value.bool false,undef,undef,undef,undef,undef,undef,undef,Value.bool true,Value.bool true,undef,undef,ac x 6,Value.int .i64 m.n,Value.bool false,Value.bool false,ac x 6,Value.int .i64 m.n,Value.agg (aj m m.c d c),Value.int .i64 G,Value.bool false,Value.bool false],defers:=[] }) (l':=#[true,true,true,true,true,true,true,true,true,true]) (by kernel_rfl) (by kernel_rfl) ?_
   refine wpAnyH_done (by kernel_rfl) ?_ _
   have HF:Hid (Below w.heap.size w w2):=HBd.out.trans (b2.mono HBd.out.size)
   clear HS2 b2
   go_wp2_with fail
   go_ret
   exact⟨rfl,HF.out⟩
theorem acT (X:Nat) (m:Mv) (d:Option Addr) (c:Nat) (w:World) (h3:(m.k == 3)=false) (h4:(m.k == 4)=false) (h5:(m.k == 5)=false) (h7:(m.k == 7)=true):Calls prog 52 #[ac X 0,.agg (aj m m.c d c)] w fun r w'=>r=.returned (.int .i64 (if m.n<0∨xI m<m.n then 2 else 0))∧Hid (Below w.heap.size w w'):=by
 have kA:=aB w (.cells (aj m m.c d c) 39)
 have bA:=aF (Below.refl _ w) (.cells (aj m m.c d c) 39)
 obtain⟨wa,hwa⟩:∃ y,w.alloc (.cells (aj m m.c d c) 39)=y:=⟨_,rfl⟩
 rw[hwa]at kA bA
 obtain⟨x,hx⟩:∃ y,w.heap.size=y:=⟨_,rfl⟩
 have HB:Hid (Below w.heap.size w wa):=bA
 have HS:Hid (w.heap.size=x):=hx
 rw[hx]at kA
 have q0:wa.cell? ⟨x,0,none⟩=some (.int .i64 m.k):=ae wa x 0 _ _ _ kA
 have q1:wa.cell? ⟨x,1,none⟩=some (.int .i64 m.c):=ae wa x 1 _ _ _ kA
 have q2:wa.cell? ⟨x,2,none⟩=some (.int .i64 m.s):=ae wa x 2 _ _ _ kA
 have q3:wa.cell? ⟨x,3,none⟩=some (.int .i64 m.f):=ae wa x 3 _ _ _ kA
 have q4:wa.cell? ⟨x,4,none⟩=some (.int .i64 m.a):=ae wa x 4 _ _ _ kA
 have q5:wa.cell? ⟨x,5,none⟩=some (.int .u32 (m.w:Nat)):=ae wa x 5 _ _ _ kA
 have q6:wa.cell? ⟨x,6,none⟩=some (.int .i64 m.n):=ae wa x 6 _ _ _ kA
 have q7:wa.cell? ⟨x,7,none⟩=some (.bool m.h):=ae wa x 7 _ _ _ kA
 have q8:wa.cell? ⟨x,8,none⟩=some (.slice d m.l c):=ae wa x 8 _ _ _ kA
 have hS:∀ w',Below wa.heap.size wa w'→w'.cell? ⟨x,0,none⟩=some (Value.int .i64 m.k)∧w'.cell? ⟨x,1,none⟩=some (Value.int .i64 m.c)∧w'.cell? ⟨x,2,none⟩=some (Value.int .i64 m.s)∧w'.cell? ⟨x,3,none⟩=some (Value.int .i64 m.f)∧w'.cell? ⟨x,4,none⟩=some (Value.int .i64 m.a)∧w'.cell? ⟨x,5,none⟩=some (Value.int .u32 (m.w:Nat))∧w'.cell? ⟨x,6,none⟩=some (Value.int .i64 m.n)∧w'.cell? ⟨x,7,none⟩=some (Value.bool m.h)∧w'.cell? ⟨x,8,none⟩=some (Value.slice d m.l c):=fun w' b=>⟨ag q0 b,ag q1 b,ag q2 b,ag q3 b,ag q4 b,ag q5 b,ag q6 b,ag q7 b,ag q8 b⟩
 have HS0:=hS wa.drew (Below.drew (Below.refl _ _))
 have HSS:Hid (_):=hS
 have HBd:Hid (Below w.heap.size w wa.drew):=Below.drew bA
 have hGG:=jw m d c wa.drew
 obtain⟨G,hG⟩:∃ z,xI m=z:=⟨_,rfl⟩
 rw[hG]at hGG ⊢
 have HE:Hid (_=wa):=hwa
 clear kA hwa hx
 clear bA hS hG
 by_cases n0:m.n<0
 ·rw[if_pos (.inl n0)]
  go_enter func52,ntmps52
  go_upto_region 1 with fail
  rw[HE.out,HS.out]
  go_upto_region 9 with fail
  refine wp_region_held_drew (S:=fun w'=>w'.cell? ⟨x,0,none⟩=some (Value.int .i64 m.k)∧w'.cell? ⟨x,1,none⟩=some (Value.int .i64 m.c)∧w'.cell? ⟨x,2,none⟩=some (Value.int .i64 m.s)∧w'.cell? ⟨x,3,none⟩=some (Value.int .i64 m.f)∧w'.cell? ⟨x,4,none⟩=some (Value.int .i64 m.a)∧w'.cell? ⟨x,5,none⟩=some (Value.int .u32 (m.w:Nat))∧w'.cell? ⟨x,6,none⟩=some (Value.int .i64 m.n)∧w'.cell? ⟨x,7,none⟩=some (Value.bool m.h)∧w'.cell? ⟨x,8,none⟩=some (Value.slice d m.l c)) (by kernel_rfl) HS0 (fun _=>?_)
  refine aq (i:=0) (v:=ac x 6) ?_
  refine aq (i:=1) (v:=Value.int .i64 m.n) ?_
  refine aq (i:=2) (v:=Value.bool true) ?_
  refine aq (i:=3) (v:=Value.bool true) ?_
  refine wpAnyH_take (i:=4) (v:=undef) rfl (by kernel_rfl) (by kernel_rfl) (by kernel_rfl) (fun _ _ _ h=>h) (Or.inr ⟨by kernel_rfl,rfl⟩) (by assumption) ?_
  refine wpAnyH_take (i:=5) (v:=undef) rfl (by kernel_rfl) (by kernel_rfl) (by kernel_rfl) (fun _ _ _ h=>h) (Or.inr ⟨by kernel_rfl,rfl⟩) (by assumption) ?_
  refine wpAnyH_take (i:=6) (v:=undef) rfl (by kernel_rfl) (by kernel_rfl) (by kernel_rfl) (fun _ _ _ h=>h) (Or.inr ⟨by kernel_rfl,rfl⟩) (by assumption) ?_
  refine wpAnyH_take (i:=7) (v:=undef) rfl (by kernel_rfl) (by kernel_rfl) (by kernel_rfl) (fun _ _ _ h=>h) (Or.inr ⟨by kernel_rfl,rfl⟩) (by assumption) ?_
  refine wpAnyH_take (i:=8) (v:=undef) rfl (by kernel_rfl) (by kernel_rfl) (by kernel_rfl) (fun _ _ _ h=>h) (Or.inr ⟨by kernel_rfl,rfl⟩) (by assumption) ?_
  refine aq (i:=9) (v:=Value.bool true) ?_
  refine aK (a':={ tmps:=#[ac X 0,Value.agg (aj m m.c d c),undef,ac x 0,Value.int .i64 0,undef,undef,ac x 0,Value.int .i64 m.k,Value.bool false,Value.bool false,Value.bool false,undef,undef,undef,undef,undef,undef,undef,Value.bool true,Value.bool false,Value.bool true,undef,ac x 6,Value.int .i64 m.n,Value.bool true,Value.bool true,undef,undef,undef,undef,undef,Value.bool true],defers:=[] }) (l':=#[true,true,true,true,true,true,true,true,true,true]) (by kernel_rfl) (by kernel_rfl) ?_
  refine wpAnyH_done (by kernel_rfl) ?_ _
  go_wp2_with fail
  go_ret
  exact⟨rfl,HBd.out⟩
 ·by_cases n1:G<m.n
  ·rw[if_pos (.inr n1)]
   have n1':m.n > G:=n1
   go_enter func52,ntmps52
   go_upto_region 1 with fail
   rw[HE.out,HS.out]
   go_upto_region 9 with fail
   refine wp_region_held_drew (S:=fun w'=>w'.cell? ⟨x,0,none⟩=some (Value.int .i64 m.k)∧w'.cell? ⟨x,1,none⟩=some (Value.int .i64 m.c)∧w'.cell? ⟨x,2,none⟩=some (Value.int .i64 m.s)∧w'.cell? ⟨x,3,none⟩=some (Value.int .i64 m.f)∧w'.cell? ⟨x,4,none⟩=some (Value.int .i64 m.a)∧w'.cell? ⟨x,5,none⟩=some (Value.int .u32 (m.w:Nat))∧w'.cell? ⟨x,6,none⟩=some (Value.int .i64 m.n)∧w'.cell? ⟨x,7,none⟩=some (Value.bool m.h)∧w'.cell? ⟨x,8,none⟩=some (Value.slice d m.l c)) (by kernel_rfl) HS0 (fun _=>?_)
   refine aq (i:=0) (v:=ac x 6) ?_
   refine aq (i:=1) (v:=Value.int .i64 m.n) ?_
   refine aq (i:=2) (v:=Value.bool false) ?_
   refine aq (i:=3) (v:=Value.bool false) ?_
   refine aq (i:=4) (v:=ac x 6) ?_
   refine aq (i:=5) (v:=Value.int .i64 m.n) ?_
   refine aq (i:=6) (v:=Value.agg (aj m m.c d c)) ?_
   refine aI (i:=7) 79 #[Value.agg (aj m m.c d c)] (by kernel_rfl) rfl (by kernel_rfl) (by go_simp) ?_
   refine hGG.mono ?_
   rintro r w2 ⟨rfl,b2⟩
   clear hGG
   have HS2:=HSS.out w2 ((Below.drew (Below.refl wa.heap.size wa)).trans b2)
   refine⟨_,rfl,HS2,?_⟩
   refine aq (i:=8) (v:=Value.bool true) ?_
   refine aq (i:=9) (v:=Value.bool true) ?_
   refine aK (a':={ tmps:=#[ac X 0,Value.agg (aj m m.c d c),undef,ac x 0,Value.int .i64 0,undef,undef,ac x 0,Value.int .i64 m.k,Value.bool false,Value.bool false,Value.bool false,undef,undef,undef,undef,undef,undef,undef,Value.bool true,Value.bool false,Value.bool true,undef,ac x 6,Value.int .i64 m.n,Value.bool false,Value.bool false,ac x 6,Value.int .i64 m.n,Value.agg (aj m m.c d c),Value.int .i64 G,Value.bool true,Value.bool true],defers:=[] }) (l':=#[true,true,true,true,true,true,true,true,true,true]) (by kernel_rfl) (by kernel_rfl) ?_
   refine wpAnyH_done (by kernel_rfl) ?_ _
   have HF:Hid (Below w.heap.size w w2):=HBd.out.trans (b2.mono HBd.out.size)
   clear HS2 b2
   go_wp2_with fail
   go_ret
   exact⟨rfl,HF.out⟩
  ·rw[if_neg (fun q=>q.elim n0 n1)]
   have n1':¬ (m.n > G):=n1
   go_enter func52,ntmps52
   go_upto_region 1 with fail
   rw[HE.out,HS.out]
   go_upto_region 9 with fail
   refine wp_region_held_drew (S:=fun w'=>w'.cell? ⟨x,0,none⟩=some (Value.int .i64 m.k)∧w'.cell? ⟨x,1,none⟩=some (Value.int .i64 m.c)∧w'.cell? ⟨x,2,none⟩=some (Value.int .i64 m.s)∧w'.cell? ⟨x,3,none⟩=some (Value.int .i64 m.f)∧w'.cell? ⟨x,4,none⟩=some (Value.int .i64 m.a)∧w'.cell? ⟨x,5,none⟩=some (Value.int .u32 (m.w:Nat))∧w'.cell? ⟨x,6,none⟩=some (Value.int .i64 m.n)∧w'.cell? ⟨x,7,none⟩=some (Value.bool m.h)∧w'.cell? ⟨x,8,none⟩=some (Value.slice d m.l c)) (by kernel_rfl) HS0 (fun _=>?_)
   refine aq (i:=0) (v:=ac x 6) ?_
   refine aq (i:=1) (v:=Value.int .i64 m.n) ?_
   refine aq (i:=2) (v:=Value.bool false) ?_
   refine aq (i:=3) (v:=Value.bool false) ?_
   refine aq (i:=4) (v:=ac x 6) ?_
   refine aq (i:=5) (v:=Value.int .i64 m.n) ?_
   refine aq (i:=6) (v:=Value.agg (aj m m.c d c)) ?_
   refine aI (i:=7) 79 #[Value.agg (aj m m.c d c)] (by kernel_rfl) rfl (by kernel_rfl) (by go_simp) ?_
   refine hGG.mono ?_
   rintro r w2 ⟨rfl,b2⟩
   clear hGG
   have HS2:=HSS.out w2 ((Below.drew (Below.refl wa.heap.size wa)).trans b2)
   refine⟨_,rfl,HS2,?_⟩
   refine aq (i:=8) (v:=Value.bool false) ?_
   refine aq (i:=9) (v:=Value.bool false) ?_
   refine aK (a':={ tmps:=#[ac X 0,Value.agg (aj m m.c d c),undef,ac x 0,Value.int .i64 0,undef,undef,ac x 0,Value.int .i64 m.k,Value.bool false,Value.bool false,Value.bool false,undef,undef,undef,undef,undef,undef,undef,Value.bool true,Value.bool false,Value.bool true,undef,ac x 6,Value.int .i64 m.n,Value.bool false,Value.bool false,ac x 6,Value.int .i64 m.n,Value.agg (aj m m.c d c),Value.int .i64 G,Value.bool false,Value.bool false],defers:=[] }) (l':=#[true,true,true,true,true,true,true,true,true,true]) (by kernel_rfl) (by kernel_rfl) ?_
   refine wpAnyH_done (by kernel_rfl) ?_ _
   have HF:Hid (Below w.heap.size w w2):=HBd.out.trans (b2.mono HBd.out.size)
   clear HS2 b2
   go_wp2_with fail
   go_ret
   exact⟨rfl,HF.out⟩
theorem acU (X:Nat) (m:Mv) (d:Option Addr) (c:Nat) (w:World) (h3:(m.k == 3)=false) (h4:(m.k == 4)=false) (h5:(m.k == 5)=false) (h7:(m.k == 7)=false) (h8:(m.k == 8)=true):Calls prog 52 #[ac X 0,.agg (aj m m.c d c)] w fun r w'=>r=.returned (.int .i64 (if m.n<0∨xI m<m.n then 2 else 0))∧Hid (Below w.heap.size w w'):=by
 have kA:=aB w (.cells (aj m m.c d c) 39)
 have bA:=aF (Below.refl _ w) (.cells (aj m m.c d c) 39)
 obtain⟨wa,hwa⟩:∃ y,w.alloc (.cells (aj m m.c d c) 39)=y:=⟨_,rfl⟩
 rw[hwa]at kA bA
 obtain⟨x,hx⟩:∃ y,w.heap.size=y:=⟨_,rfl⟩
 have HB:Hid (Below w.heap.size w wa):=bA
 have HS:Hid (w.heap.size=x):=hx
 rw[hx]at kA
 have q0:wa.cell? ⟨x,0,none⟩=some (.int .i64 m.k):=ae wa x 0 _ _ _ kA
 have q1:wa.cell? ⟨x,1,none⟩=some (.int .i64 m.c):=ae wa x 1 _ _ _ kA
 have q2:wa.cell? ⟨x,2,none⟩=some (.int .i64 m.s):=ae wa x 2 _ _ _ kA
 have q3:wa.cell? ⟨x,3,none⟩=some (.int .i64 m.f):=ae wa x 3 _ _ _ kA
 have q4:wa.cell? ⟨x,4,none⟩=some (.int .i64 m.a):=ae wa x 4 _ _ _ kA
 have q5:wa.cell? ⟨x,5,none⟩=some (.int .u32 (m.w:Nat)):=ae wa x 5 _ _ _ kA
 have q6:wa.cell? ⟨x,6,none⟩=some (.int .i64 m.n):=ae wa x 6 _ _ _ kA
 have q7:wa.cell? ⟨x,7,none⟩=some (.bool m.h):=ae wa x 7 _ _ _ kA
 have q8:wa.cell? ⟨x,8,none⟩=some (.slice d m.l c):=ae wa x 8 _ _ _ kA
 have hS:∀ w',Below wa.heap.size wa w'→w'.cell? ⟨x,0,none⟩=some (Value.int .i64 m.k)∧w'.cell? ⟨x,1,none⟩=some (Value.int .i64 m.c)∧w'.cell? ⟨x,2,none⟩=some (Value.int .i64 m.s)∧w'.cell? ⟨x,3,none⟩=some (Value.int .i64 m.f)∧w'.cell? ⟨x,4,none⟩=some (Value.int .i64 m.a)∧w'.cell? ⟨x,5,none⟩=some (Value.int .u32 (m.w:Nat))∧w'.cell? ⟨x,6,none⟩=some (Value.int .i64 m.n)∧w'.cell? ⟨x,7,none⟩=some (Value.bool m.h)∧w'.cell? ⟨x,8,none⟩=some (Value.slice d m.l c):=fun w' b=>⟨ag q0 b,ag q1 b,ag q2 b,ag q3 b,ag q4 b,ag q5 b,ag q6 b,ag q7 b,ag q8 b⟩
 have HS0:=hS wa.drew (Below.drew (Below.refl _ _))
 have HSS:Hid (_):=hS
 have HBd:Hid (Below w.heap.size w wa.drew):=Below.drew bA
 have hGG:=jw m d c wa.drew
 obtain⟨G,hG⟩:∃ z,xI m=z:=⟨_,rfl⟩
 rw[hG]at hGG ⊢
 have HE:Hid (_=wa):=hwa
 clear kA hwa hx
 clear bA hS hG
 by_cases n0:m.n<0
 ·rw[if_pos (.inl n0)]
  go_enter func52,ntmps52
  go_upto_region 1 with fail
  rw[HE.out,HS.out]
  go_upto_region 9 with fail
  refine wp_region_held_drew (S:=fun w'=>w'.cell? ⟨x,0,none⟩=some (Value.int .i64 m.k)∧w'.cell? ⟨x,1,none⟩=some (Value.int .i64 m.c)∧w'.cell? ⟨x,2,none⟩=some (Value.int .i64 m.s)∧w'.cell? ⟨x,3,none⟩=some (Value.int .i64 m.f)∧w'.cell? ⟨x,4,none⟩=some (Value.int .i64 m.a)∧w'.cell? ⟨x,5,none⟩=some (Value.int .u32 (m.w:Nat))∧w'.cell? ⟨x,6,none⟩=some (Value.int .i64 m.n)∧w'.cell? ⟨x,7,none⟩=some (Value.bool m.h)∧w'.cell? ⟨x,8,none⟩=some (Value.slice d m.l c)) (by kernel_rfl) HS0 (fun _=>?_)
  refine aq (i:=0) (v:=ac x 6) ?_
  refine aq (i:=1) (v:=Value.int .i64 m.n) ?_
  refine aq (i:=2) (v:=Value.bool true) ?_
  refine aq (i:=3) (v:=Value.bool true) ?_
  refine wpAnyH_take (i:=4) (v:=undef) rfl (by kernel_rfl) (by kernel_rfl) (by kernel_rfl) (fun _ _ _ h=>h) (Or.inr ⟨by kernel_rfl,rfl⟩) (by assumption) ?_
  refine wpAnyH_take (i:=5) (v:=undef) rfl (by kernel_rfl) (by kernel_rfl) (by kernel_rfl) (fun _ _ _ h=>h) (Or.inr ⟨by kernel_rfl,rfl⟩) (by assumption) ?_
  refine wpAnyH_take (i:=6) (v:=undef) rfl (by kernel_rfl) (by kernel_rfl) (by kernel_rfl) (fun _ _ _ h=>h) (Or.inr ⟨by kernel_rfl,rfl⟩) (by assumption) ?_
  refine wpAnyH_take (i:=7) (v:=undef) rfl (by kernel_rfl) (by kernel_rfl) (by kernel_rfl) (fun _ _ _ h=>h) (Or.inr ⟨by kernel_rfl,rfl⟩) (by assumption) ?_
  refine wpAnyH_take (i:=8) (v:=undef) rfl (by kernel_rfl) (by kernel_rfl) (by kernel_rfl) (fun _ _ _ h=>h) (Or.inr ⟨by kernel_rfl,rfl⟩) (by assumption) ?_
  refine aq (i:=9) (v:=Value.bool true) ?_
  refine aK (a':={ tmps:=#[ac X 0,Value.agg (aj m m.c d c),undef,ac x 0,Value.int .i64 0,undef,undef,ac x 0,Value.int .i64 m.k,Value.bool false,Value.bool false,Value.bool false,undef,undef,undef,undef,undef,undef,undef,Value.bool true,Value.bool false,Value.bool false,Value.bool true,ac x 6,Value.int .i64 m.n,Value.bool true,Value.bool true,undef,undef,undef,undef,undef,Value.bool true],defers:=[] }) (l':=#[true,true,true,true,true,true,true,true,true,true]) (by kernel_rfl) (by kernel_rfl) ?_
  refine wpAnyH_done (by kernel_rfl) ?_ _
  go_wp2_with fail
  go_ret
  exact⟨rfl,HBd.out⟩
 ·by_cases n1:G<m.n
  ·rw[if_pos (.inr n1)]
   have n1':m.n > G:=n1
   go_enter func52,ntmps52
   go_upto_region 1 with fail
   rw[HE.out,HS.out]
   go_upto_region 9 with fail
   refine wp_region_held_drew (S:=fun w'=>w'.cell? ⟨x,0,none⟩=some (Value.int .i64 m.k)∧w'.cell? ⟨x,1,none⟩=some (Value.int .i64 m.c)∧w'.cell? ⟨x,2,none⟩=some (Value.int .i64 m.s)∧w'.cell? ⟨x,3,none⟩=some (Value.int .i64 m.f)∧w'.cell? ⟨x,4,none⟩=some (Value.int .i64 m.a)∧w'.cell? ⟨x,5,none⟩=some (Value.int .u32 (m.w:Nat))∧w'.cell? ⟨x,6,none⟩=some (Value.int .i64 m.n)∧w'.cell? ⟨x,7,none⟩=some (Value.bool m.h)∧w'.cell? ⟨x,8,none⟩=some (Value.slice d m.l c)) (by kernel_rfl) HS0 (fun _=>?_)
   refine aq (i:=0) (v:=ac x 6) ?_
   refine aq (i:=1) (v:=Value.int .i64 m.n) ?_
   refine aq (i:=2) (v:=Value.bool false) ?_
   refine aq (i:=3) (v:=Value.bool false) ?_
   refine aq (i:=4) (v:=ac x 6) ?_
   refine aq (i:=5) (v:=Value.int .i64 m.n) ?_
   refine aq (i:=6) (v:=Value.agg (aj m m.c d c)) ?_
   refine aI (i:=7) 79 #[Value.agg (aj m m.c d c)] (by kernel_rfl) rfl (by kernel_rfl) (by go_simp) ?_
   refine hGG.mono ?_
   rintro r w2 ⟨rfl,b2⟩
   clear hGG
   have HS2:=HSS.out w2 ((Below.drew (Below.refl wa.heap.size wa)).trans b2)
   refine⟨_,rfl,HS2,?_⟩
   refine aq (i:=8) (v:=Value.bool true) ?_
   refine aq (i:=9) (v:=Value.bool true) ?_
   refine aK (a':={ tmps:=#[ac X 0,Value.agg (aj m m.c d c),undef,ac x 0,Value.int .i64 0,undef,undef,ac x 0,Value.int .i64 m.k,Value.bool false,Value.bool false,Value.bool false,undef,undef,undef,undef,undef,undef,undef,Value.bool true,Value.bool false,Value.bool false,Value.bool true,ac x 6,Value.int .i64 m.n,Value.bool false,Value.bool false,ac x 6,Value.int .i64 m.n,Value.agg (aj m m.c d c),Value.int .i64 G,Value.bool true,Value.bool true],defers:=[] }) (l':=#[true,true,true,true,true,true,true,true,true,true]) (by kernel_rfl) (by kernel_rfl) ?_
   refine wpAnyH_done (by kernel_rfl) ?_ _
   have HF:Hid (Below w.heap.size w w2):=HBd.out.trans (b2.mono HBd.out.size)
   clear HS2 b2
   go_wp2_with fail
   go_ret
   exact⟨rfl,HF.out⟩
  ·rw[if_neg (fun q=>q.elim n0 n1)]
   have n1':¬ (m.n > G):=n1
   go_enter func52,ntmps52
   go_upto_region 1 with fail
   rw[HE.out,HS.out]
   go_upto_region 9 with fail
   refine wp_region_held_drew (S:=fun w'=>w'.cell? ⟨x,0,none⟩=some (Value.int .i64 m.k)∧w'.cell? ⟨x,1,none⟩=some (Value.int .i64 m.c)∧w'.cell? ⟨x,2,none⟩=some (Value.int .i64 m.s)∧w'.cell? ⟨x,3,none⟩=some (Value.int .i64 m.f)∧w'.cell? ⟨x,4,none⟩=some (Value.int .i64 m.a)∧w'.cell? ⟨x,5,none⟩=some (Value.int .u32 (m.w:Nat))∧w'.cell? ⟨x,6,none⟩=some (Value.int .i64 m.n)∧w'.cell? ⟨x,7,none⟩=some (Value.bool m.h)∧w'.cell? ⟨x,8,none⟩=some (Value.slice d m.l c)) (by kernel_rfl) HS0 (fun _=>?_)
   refine aq (i:=0) (v:=ac x 6) ?_
   refine aq (i:=1) (v:=Value.int .i64 m.n) ?_
   refine aq (i:=2) (v:=Value.bool false) ?_
   refine aq (i:=3) (v:=Value.bool false) ?_
   refine aq (i:=4) (v:=ac x 6) ?_
   refine aq (i:=5) (v:=Value.int .i64 m.n) ?_
   refine aq (i:=6) (v:=Value.agg (aj m m.c d c)) ?_
   refine aI (i:=7) 79 #[Value.agg (aj m m.c d c)] (by kernel_rfl) rfl (by kernel_rfl) (by go_simp) ?_
   refine hGG.mono ?_
   rintro r w2 ⟨rfl,b2⟩
   clear hGG
   have HS2:=HSS.out w2 ((Below.drew (Below.refl wa.heap.size wa)).trans b2)
   refine⟨_,rfl,HS2,?_⟩
   refine aq (i:=8) (v:=Value.bool false) ?_
   refine aq (i:=9) (v:=Value.bool false) ?_
   refine aK (a':={ tmps:=#[ac X 0,Value.agg (aj m m.c d c),undef,ac x 0,Value.int .i64 0,undef,undef,ac x 0,Value.int .i64 m.k,Value.bool false,Value.bool false,Value.bool false,undef,undef,undef,undef,undef,undef,undef,Value.bool true,Value.bool false,Value.bool false,Value.bool true,ac x 6,Value.int .i64 m.n,Value.bool false,Value.bool false,ac x 6,Value.int .i64 m.n,Value.agg (aj m m.c d c),Value.int .i64 G,Value.bool false,Value.bool false],defers:=[] }) (l':=#[true,true,true,true,true,true,true,true,true,true]) (by kernel_rfl) (by kernel_rfl) ?_
   refine wpAnyH_done (by kernel_rfl) ?_ _
   have HF:Hid (Below w.heap.size w w2):=HBd.out.trans (b2.mono HBd.out.size)
   clear HS2 b2
   go_wp2_with fail
   go_ret
   exact⟨rfl,HF.out⟩
theorem mW (K:Int) (X b:Nat) (m:Mv) (d:Option Addr) (c:Nat) (f:Fm) (w:World) (Z:Option Addr→Nat→World→Prop)
  (cb:w.cell? ⟨X,4,none⟩=some (ac b 0))
  (hG:∀ wx,m.k=4→Below w.heap.size w wx→Calls prog 102 #[ac b 0,.int .i64 m.f,.int .i64 m.a,.int .u32 (m.w:Nat)] wx fun r w'=>∃ a cap,r=.returned (.tuple #[.slice a f.1 cap,.int .i64 K])∧Z a cap w'∧Below wx.heap.size wx w')
  (hT:∀ wx,m.k≠4→Below w.heap.size w wx→Calls prog 64 #[ac b 0,.int .i64 m.f] wx fun r w'=>∃ a cap,r=.returned (.tuple #[.slice a f.1 cap,.int .i64 K])∧Z a cap w'∧Below wx.heap.size wx w') :
  Calls prog 78 #[ac X 0,.agg (aj m m.c d c)] w fun r w'=>∃ a cap,r=.returned (.tuple #[.slice a f.1 cap,.int .i64 K])∧Hid (Z a cap w'):=by
 have kA:=aB w (.cells (aj m m.c d c) 39)
 have bA:=aF (Below.refl _ w) (.cells (aj m m.c d c) 39)
 obtain⟨wa,hwa⟩:∃ y,w.alloc (.cells (aj m m.c d c) 39)=y:=⟨_,rfl⟩
 rw[hwa]at kA bA
 obtain⟨x,hx⟩:∃ y,w.heap.size=y:=⟨_,rfl⟩
 have kB:wa.heap[x]?=some (.cells (aj m m.c d c) 39 (0,0)):=by
  rw[← hx]
  exact kA
 have bd:Below wa.heap.size wa wa.drew:=Below.drew (Below.refl _ _)
 have q0:wa.cell? ⟨x,0,none⟩=some (.int .i64 m.k):=ae wa x 0 _ _ _ kB
 have hs:∀ wx,Below wa.heap.size wa wx→wx.cell? ⟨X,4,none⟩=some (ac b 0)∧wx.cell? ⟨x,3,none⟩=some (Value.int .i64 m.f)∧wx.cell? ⟨x,4,none⟩=some (Value.int .i64 m.a)∧wx.cell? ⟨x,5,none⟩=some (Value.int .u32 (m.w:Nat)):=fun wx bx=>⟨ag (ag cb bA) bx,ag (ae wa x 3 _ _ _ kB) bx,ag (ae wa x 4 _ _ _ kB) bx,ag (ae wa x 5 _ _ _ kB) bx⟩
 have HSx:=hs wa.drew bd
 have hG:m.k=4→Calls prog 102 #[ac b 0,.int .i64 m.f,.int .i64 m.a,.int .u32 (m.w:Nat)] wa.drew fun r w'=>∃ a cap,r=.returned (.tuple #[.slice a f.1 cap,.int .i64 K])∧Hid (Hid (Z a cap w')∧w'.cell? ⟨X,4,none⟩=some (ac b 0)∧w'.cell? ⟨x,3,none⟩=some (Value.int .i64 m.f)∧w'.cell? ⟨x,4,none⟩=some (Value.int .i64 m.a)∧w'.cell? ⟨x,5,none⟩=some (Value.int .u32 (m.w:Nat))):=fun hk=>by
  refine (hG wa.drew hk (bA.trans (bd.mono bA.size))).mono ?_
  rintro r w' ⟨a,cap,rfl,hz,b2⟩
  exact⟨a,cap,rfl,hz,hs w' (bd.trans (b2.mono bd.size))⟩
 have hT:m.k≠4→Calls prog 64 #[ac b 0,.int .i64 m.f] wa.drew fun r w'=>∃ a cap,r=.returned (.tuple #[.slice a f.1 cap,.int .i64 K])∧Hid (Hid (Z a cap w')∧w'.cell? ⟨X,4,none⟩=some (ac b 0)∧w'.cell? ⟨x,3,none⟩=some (Value.int .i64 m.f)∧w'.cell? ⟨x,4,none⟩=some (Value.int .i64 m.a)∧w'.cell? ⟨x,5,none⟩=some (Value.int .u32 (m.w:Nat))):=fun hk=>by
  refine (hT wa.drew hk (bA.trans (bd.mono bA.size))).mono ?_
  rintro r w' ⟨a,cap,rfl,hz,b2⟩
  exact⟨a,cap,rfl,hz,hs w' (bd.trans (b2.mono bd.size))⟩
 have HE:Hid (_=wa):=hwa
 have HS:Hid (_=x):=hx
 clear kA kB bA bd hs hwa hx cb
 obtain⟨fl,fb⟩:=f
 by_cases hk:m.k=4
 ·have hG:=hG hk
  have q:(m.k == 4)=true:=by simpa using hk
  clear hT hk
  go_enter func78,ntmps78
  go_upto_region 1 with fail
  rw[HE.out,HS.out]
  go_wp2_with fail
  refine wp_region_held_drew (S:=fun w'=>w'.cell? ⟨X,4,none⟩=some (ac b 0)∧w'.cell? ⟨x,3,none⟩=some (Value.int .i64 m.f)∧w'.cell? ⟨x,4,none⟩=some (Value.int .i64 m.a)∧w'.cell? ⟨x,5,none⟩=some (Value.int .u32 (m.w:Nat))) (by kernel_rfl) HSx (fun _=>?_)
  refine aq (i:=0) (v:=ac X 0) ?_
  refine aq (i:=1) (v:=ac X 0) ?_
  refine aq (i:=2) (v:=ac X 4) ?_
  refine aq (i:=3) (v:=ac b 0) ?_
  refine aq (i:=4) (v:=ac x 3) ?_
  refine aq (i:=5) (v:=Value.int .i64 m.f) ?_
  refine aq (i:=6) (v:=ac x 4) ?_
  refine aq (i:=7) (v:=Value.int .i64 m.a) ?_
  refine aq (i:=8) (v:=ac x 5) ?_
  refine aq (i:=9) (v:=Value.int .u32 (m.w:Nat)) ?_
  refine aI (i:=10) 102 #[ac b 0,Value.int .i64 m.f,Value.int .i64 m.a,Value.int .u32 (m.w:Nat)] (by kernel_rfl) rfl (by kernel_rfl) (by go_simp) ?_
  refine hG.mono ?_
  rintro r w3 ⟨a,cap,rfl,H3⟩
  have HSy:w3.cell? ⟨X,4,none⟩=some (ac b 0)∧w3.cell? ⟨x,3,none⟩=some (Value.int .i64 m.f)∧w3.cell? ⟨x,4,none⟩=some (Value.int .i64 m.a)∧w3.cell? ⟨x,5,none⟩=some (Value.int .u32 (m.w:Nat)):=H3.out.2
  refine⟨_,rfl,HSy,?_⟩
  refine aq (i:=11) (v:=Value.slice a fl cap) ?_
  refine aq (i:=12) (v:=Value.int .i64 K) ?_
  refine aq (i:=13) (v:=Value.slice a fl cap) ?_
  refine aq (i:=14) (v:=Value.int .i64 K) ?_
  refine wpAnyH_done (by kernel_rfl) ?_ _
  clear HSx HSy
  go_wp2_with fail
  go_ret2
  exact⟨a,cap,by kernel_rfl,H3.out.1⟩
 ·have hT:=hT hk
  have q:(m.k == 4)=false:=by simpa using hk
  clear hG hk
  go_enter func78,ntmps78
  go_upto_region 1 with fail
  rw[HE.out,HS.out]
  go_wp2_with fail
  refine wp_region_held_drew (S:=fun w'=>w'.cell? ⟨X,4,none⟩=some (ac b 0)∧w'.cell? ⟨x,3,none⟩=some (Value.int .i64 m.f)∧w'.cell? ⟨x,4,none⟩=some (Value.int .i64 m.a)∧w'.cell? ⟨x,5,none⟩=some (Value.int .u32 (m.w:Nat))) (by kernel_rfl) HSx (fun _=>?_)
  refine aq (i:=0) (v:=ac X 0) ?_
  refine aq (i:=1) (v:=ac X 0) ?_
  refine aq (i:=2) (v:=ac X 4) ?_
  refine aq (i:=3) (v:=ac b 0) ?_
  refine aq (i:=4) (v:=ac x 3) ?_
  refine aq (i:=5) (v:=Value.int .i64 m.f) ?_
  refine aI (i:=6) 64 #[ac b 0,Value.int .i64 m.f] (by kernel_rfl) rfl (by kernel_rfl) (by go_simp) ?_
  refine hT.mono ?_
  rintro r w3 ⟨a,cap,rfl,H3⟩
  have HSy:w3.cell? ⟨X,4,none⟩=some (ac b 0)∧w3.cell? ⟨x,3,none⟩=some (Value.int .i64 m.f)∧w3.cell? ⟨x,4,none⟩=some (Value.int .i64 m.a)∧w3.cell? ⟨x,5,none⟩=some (Value.int .u32 (m.w:Nat)):=H3.out.2
  refine⟨_,rfl,HSy,?_⟩
  refine aq (i:=7) (v:=Value.slice a fl cap) ?_
  refine aq (i:=8) (v:=Value.int .i64 K) ?_
  refine aq (i:=9) (v:=Value.slice a fl cap) ?_
  refine aq (i:=10) (v:=Value.int .i64 K) ?_
  refine wpAnyH_done (by kernel_rfl) ?_ _
  clear HSx HSy
  go_wp2_with fail
  go_ret2
  exact⟨a,cap,by kernel_rfl,H3.out.1⟩
def Ws.carE (S:Ws) (m:Mv):Int:=if m.f<0∨((S.bg.length:Nat):Int)≤m.f then 151 else if m.k=4 then cF (S.bg.getD m.f.toNat cZ).1 m.a m.w else 0
theorem ab3 (e:Nat→Nat) (w0 w:World) (t:Nat→Thing) (L:Pw) (m:Mv) (d:Option Addr) (c:Nat) (h:PW e w0 w t L) (hw:m.w<4294967296) (ha : -9223372036854775808≤m.a∧m.a<9223372036854775808) :
  Calls prog 78 #[ac L.x 0,.agg (aj m m.c d c)] w fun r w'=>∃ a n cap,r=.returned (.tuple #[.slice a n cap,.int .i64 (L.S.carE m)])∧Hid (Below w.heap.size w w'):=by
 by_cases ho:m.f<0∨((L.S.bg.length:Nat):Int)≤m.f
 ·have e1:L.S.carE m=151:=if_pos ho
  rw[e1]
  refine (mW 151 L.x L.b m d c cZ w (fun a cap w'=>Below w.heap.size w w') (ae w L.x 4 _ _ _ (h.2.wb h.1).blk) (fun wx hk bx=>?_) (fun wx hk bx=>?_)).mono ?_
  ·have hp:=h.below bx
   refine (tj 0 L.b L.m L.bv L.bs L.bp L.S.bg m.f m.a m.w wx (hp.2.bg hp.1).1 ho).mono ?_
   rintro r w' ⟨rfl,rfl⟩
   exact⟨none,0,rfl,bx,Below.refl _ _⟩
  ·have hp:=h.below bx
   refine (ko 0 L.b L.m L.bv L.bs L.bp L.S.bg m.f wx (hp.2.bg hp.1).1 ho).mono ?_
   rintro r w' ⟨rfl,rfl⟩
   exact⟨none,0,rfl,bx,Below.refl _ _⟩
  ·rintro r w' ⟨a,cap,rfl,H⟩
   exact⟨a,_,cap,rfl,H⟩
 ·by_cases hb:m.k=4∧cF (((L.S.bg.getD m.f.toNat cZ).1:Nat):Int) m.a m.w≠0
  ·have e1:L.S.carE m=cF (((L.S.bg.getD m.f.toNat cZ).1:Nat):Int) m.a m.w:=by
    unfold Ws.carE
    rw[if_neg ho,if_pos hb.1]
   rw[e1]
   have hlt:m.f.toNat<L.S.bg.length:=by omega
   have hI:((m.f.toNat:Nat):Int)=m.f:=by omega
   obtain⟨f,hf⟩:∃ y,L.S.bg.getD m.f.toNat cZ=y:=⟨_,rfl⟩
   have hg:L.S.bg[m.f.toNat]?=some f:=by
    rw[← hf,List.getD_eq_getElem?_getD,List.getElem?_eq_getElem hlt]
    rfl
   rw[hf]at hb ⊢
   refine (mW (cF ((f.1:Nat):Int) m.a m.w) L.x L.b m d c cZ w (fun a cap w'=>Below w.heap.size w w') (ae w L.x 4 _ _ _ (h.2.wb h.1).blk) (fun wx hk bx=>?_) (fun wx hk bx=>absurd hb.1 hk)).mono ?_
   ·have hp:=h.below bx
    have:=ti 0 L.b L.m L.bv L.bs L.bp L.S.bg m.f.toNat f m.a m.w wx (hp.2.bg hp.1).1 hg hw ha hb.2
    rw[hI]at this
    refine this.mono ?_
    rintro r w' ⟨rfl,H⟩
    exact⟨none,0,rfl,bx.trans (H.out.mono bx.size),H.out⟩
   ·rintro r w' ⟨a,cap,rfl,H⟩
    exact⟨a,_,cap,rfl,H⟩
  ·have e1:L.S.carE m=0:=by
    unfold Ws.carE
    rw[if_neg ho]
    by_cases z:m.k=4
    ·rw[if_pos z]
     exact Classical.byContradiction (fun q=>hb ⟨z,q⟩)
    ·rw[if_neg z]
   rw[e1]
   exact wu e w0 w t L m d c h (by omega) (by omega) hw (fun z=>Classical.byContradiction (fun q=>hb ⟨z,q⟩))
def Ws.rkE (S:Ws) (m:Mv):Int:=if m.k=3∨m.k=4 then S.carE m else if m.k=5∨m.k=7∨m.k=8 then (if m.n<0∨xI m<m.n then 2 else 0) else 0
theorem xV {S:Ws} {m:Mv} (hn:m.n≤9223372036854775807):rfE S.mv S.n m (S.rkE m)=S.bad m:=by
 unfold rfE Ws.bad
 by_cases q1:4096≤S.mv
 ·rw[if_pos q1,if_pos q1]
 rw[if_neg q1,if_neg q1]
 by_cases q2:m.k<1∨8<m.k
 ·rw[if_pos q2,if_pos q2]
 rw[if_neg q2,if_neg q2]
 by_cases q3:m.c<0∨((S.n:Nat):Int)≤m.c
 ·rw[if_pos q3,if_pos q3]
 rw[if_neg q3,if_neg q3]
 by_cases q4:eZ m.k=true∧m.s≠1∧m.s≠2
 ·rw[if_pos q4,if_pos q4]
 rw[if_neg q4,if_neg q4]
 unfold Ws.rkE Ws.carE xI
 by_cases k3:m.k=3
 ·rw[if_pos (.inl k3),if_pos k3,if_neg (by omega:¬ m.k=4)]
 rw[if_neg k3]
 by_cases k4:m.k=4
 ·rw[if_pos (.inr k4),if_pos k4,if_pos k4]
 rw[if_neg (by omega:¬ (m.k=3∨m.k=4)),if_neg k4]
 by_cases k5:m.k=5
 ·rw[if_pos (.inl k5),if_pos k5,if_pos k5]
 rw[if_neg k5,if_neg k5]
 by_cases k7:m.k=7
 ·rw[if_pos (.inr (.inl k7)),if_pos k7]
  by_cases s1:m.s=1
  ·rw[if_pos (show m.k=7∧m.s=1 from ⟨k7,s1⟩)]
   by_cases z:m.n<0∨0<m.n
   ·rw[if_pos z,if_pos (z.elim .inl (fun q=>.inr ⟨s1,q⟩))]
   ·rw[if_neg z,if_neg (fun q=>z (q.elim .inl (fun y=>.inr y.2)))]
  ·rw[if_neg (show ¬ (m.k=7∧m.s=1) from fun q=>s1 q.2)]
   by_cases z:m.n<0
   ·rw[if_pos (.inl z),if_pos (.inl z)]
   ·rw[if_neg (by omega:¬ (m.n<0∨9223372036854775807<m.n)),if_neg (fun q=>q.elim z (fun y=>s1 y.1))]
 rw[if_neg k7]
 by_cases k8:m.k=8
 ·rw[if_pos (.inr (.inr k8)),if_pos k8,if_neg (show ¬ (m.k=7∧m.s=1) from fun q=>k7 q.1)]
  by_cases z:m.n<0
  ·rw[if_pos (.inl z),if_pos z]
  ·rw[if_neg (by omega:¬ (m.n<0∨9223372036854775807<m.n)),if_neg z]
 ·rw[if_neg (by omega:¬ (m.k=5∨m.k=7∨m.k=8)),if_neg k8]
theorem sO (e:Nat→Nat) (w0 w:World) (t:Nat→Thing) (L:Pw) (m:Mv) (d:Option Addr) (c:Nat) (h:PW e w0 w t L) (ok:m.Ok) (hn:0<L.S.n):∀ w1,Below w.heap.size w w1→Calls prog 26 #[ac L.x 0,.agg (aj m m.c d c)] w1 fun r w'=>r=.returned (.int .i64 (L.S.bad m))∧Hid (Below w1.heap.size w1 w'):=fun w1 b1=>by
 have hp:=h.below b1
 have hb:=(hp.2.wb hp.1).blk
 obtain⟨e1,_⟩:=(hp.2.wb hp.1).conn (k:=0) hn
 have cv:w1.cell? ⟨L.x,3,none⟩=some (.slice (af (fd L.vc) 0) L.S.n (ik L.vc)):=(ae w1 L.x 3 _ _ _ hb).trans (congrArg some e1)
 have:=qG L.x L.b L.S.n (ik L.vc) L.S.mv (af (fd L.vc) 0) m d c w1 (L.S.rkE m) (ae w1 L.x 4 _ _ _ hb) (ae w1 L.x 5 _ _ _ hb) cv (fun _ _ _ _ _ _ w2 b2=>by
  have hp2:=hp.below b2
  have hc:∀ w3,Below w2.heap.size w2 w3→_:=fun w3 b3=>ab3 e w0 w3 t L m d c (hp2.below b3) ok.w ⟨ok.a.1,by have:=ok.a.2;omega⟩
  unfold Ws.rkE
  by_cases q3:m.k=3
  ·rw[if_pos (.inl q3)]
   exact acw L.x m d c w2 (ck q3) _ hc
  by_cases q4:m.k=4
  ·rw[if_pos (.inr q4)]
   exact acx L.x m d c w2 (ax q3) (ck q4) _ hc
  rw[if_neg (fun q=>q.elim q3 q4)]
  by_cases q5:m.k=5
  ·rw[if_pos (.inl q5)]
   exact acS L.x m d c w2 (ax q3) (ax q4) (ck q5)
  by_cases q7:m.k=7
  ·rw[if_pos (.inr (.inl q7))]
   exact acT L.x m d c w2 (ax q3) (ax q4) (ax q5) (ck q7)
  by_cases q8:m.k=8
  ·rw[if_pos (.inr (.inr q8))]
   exact acU L.x m d c w2 (ax q3) (ax q4) (ax q5) (ax q7) (ck q8)
  rw[if_neg (fun q=>q.elim q5 (fun z=>z.elim q7 q8))]
  exact acv L.x m d c w2 (ax q3) (ax q4) (ax q5) (ax q7) (ax q8))
 rw[xV ok.n.2]at this
 exact this
theorem sp {e:Nat→Nat} {w0 w:World} {t:Nat→Thing} {L:Pw} {S:Ws} {k:Nat} (h:PWn e w0 t L w S) (hk:k<S.n) {Fn:FuncId} {u:Array Value} {E:Int} {s':Sh} (hc:∀ U,HV w (L.hd k) (S.PH k) U (S.hs k)→Calls prog Fn u w fun r w'=>r=.returned (.int .i64 E)∧Hid (∃ U',Gr U w U' w'∧HV w' (L.hd k) (S.PH k) U' s')):Calls prog Fn u w fun r w'=>r=.returned (.int .i64 E)∧Hid (PWn e w0 t L w' (S.setH k s')):=by
 obtain⟨t1,L1,h1,hs,hx,he⟩:=h
 subst hs
 have hv:=h1.2.hv h1.1 hk
 rw[hx.hd]at hv
 refine (hc _ hv).mono ?_
 rintro r w' ⟨rfl,H⟩
 exact⟨rfl,PWn.bind hx he (h1.stepH hk (by rw[hx.hd];exact H.out))⟩
theorem oN {e:Nat→Nat} {w0 w:World} {t:Nat→Thing} {L:Pw} {S:Ws} {k:Nat} (h:PWn e w0 t L w S) (hk:k<S.n) {Fn:FuncId} {u:Array Value} {E:Int} {s':Sd} (hc:∀ g U,DV w (L.dd k) (L.dm k) g 16 S.mx (S.PD k) U (S.ds k)→Calls prog Fn u w fun r w'=>r=.returned (.int .i64 E)∧Hid (∃ U',Gr U w U' w'∧DV w' (L.dd k) (L.dm k) g 16 S.mx (S.PD k) U' s')):Calls prog Fn u w fun r w'=>r=.returned (.int .i64 E)∧Hid (PWn e w0 t L w' (S.setD k s')):=by
 obtain⟨t1,L1,h1,hs,hx,he⟩:=h
 subst hs
 have dv:=h1.2.dv h1.1 hk
 rw[hx.dd,hx.dm]at dv
 refine (hc _ _ dv).mono ?_
 rintro r w' ⟨rfl,H⟩
 exact⟨rfl,PWn.bind hx he (h1.stepD hk (by rw[hx.dd,hx.dm];exact H.out))⟩
theorem iW {e:Nat→Nat} {w0 w:World} {t:Nat→Thing} {L:Pw} {S:Ws} (x:Int) (k c s ss nn:Nat) (h:PWn e w0 t L w S) (hF:S.fs.length≤100000):Calls prog 56 #[ac L.x 0,.int .i64 x,.agg #[.int .i64 (k:Nat),.int .i64 (c:Nat),.int .i64 (s:Nat),.int .u32 (ss:Nat),.int .u32 (nn:Nat),.bool false,.int .i64 0,.slice none 0 0]] w fun r w'=>r=.returned (.tuple #[])∧Hid (PWn e w0 t L w' (S.note (if x=0 then [⟨k,c,s,ss,nn,false,0,cZ⟩] else []))):=by
 obtain⟨t1,L1,h1,hs,hx,he⟩:=h
 subst hs
 have:=yW e w0 w t1 L1 x k c s ss nn h1 hF
 rw[hx.x]at this
 refine this.mono ?_
 rintro r w' ⟨rfl,H⟩
 exact⟨rfl,PWn.bind hx he H.out⟩
theorem sM {e:Nat→Nat} {w0 w:World} {t:Nat→Thing} {L:Pw} {S:Ws} (k c s ss nn:Nat) (h:PWn e w0 t L w S) (hF:S.fs.length≤100000):Calls prog 57 #[ac L.x 0,.agg #[.int .i64 (k:Nat),.int .i64 (c:Nat),.int .i64 (s:Nat),.int .u32 (ss:Nat),.int .u32 (nn:Nat),.bool false,.int .i64 0,.slice none 0 0]] w fun r w'=>r=.returned (.tuple #[])∧Hid (PWn e w0 t L w' (S.note [⟨k,c,s,ss,nn,false,0,cZ⟩])):=by
 obtain⟨t1,L1,h1,hs,hx,he⟩:=h
 subst hs
 have:=ld e w0 w t1 L1 k c s ss nn h1 hF
 rw[hx.x]at this
 refine this.mono ?_
 rintro r w' ⟨rfl,H⟩
 exact⟨rfl,PWn.bind hx he H.out⟩
theorem aaU {e:Nat→Nat} {w0 w:World} {t:Nat→Thing} {L:Pw} {S:Ws} (k i:Nat) (m:Mv) (d:Option Addr) (c:Nat) (h:PWn e w0 t L w S) (F:Fre e t i) (hk:k<S.n) (hs:m.s=1) (h1:m.k=1) (j:Nat) (hj:j<2*i+1) (hq:∀ q,j≠e q) (hr:t j=fi d m.l c m.b):Calls prog 28 #[ac L.x 0,.agg (aj m (k:Nat) d c)] w fun r w'=>r=.returned (.tuple #[.int .i64 (gX (S.PH k) m.l),.int .i64 (-1)])∧Hid (PWn e w0 t L w' (S.setH k (di (S.PH k) (S.hs k) m.l m.b m.h))):=by
 obtain⟨cv,c0,c1,c2⟩:=h.conn hk
 have i0:=F i (Nat.le_refl _)
 obtain⟨t2,ht2⟩:∃ y,aJ t (2*i+1) (fC [(w.heap.size,.cells (aj m (k:Nat) d c) 39 (0,0)),(w.heap.size+1,.cells (aA (L.hd k) (L.dd k) (L.dm k)) 80 (0,0))])=y:=⟨_,rfl⟩
 have e2:t2 (2*i+1)=fC [(w.heap.size,.cells (aj m (k:Nat) d c) 39 (0,0)),(w.heap.size+1,.cells (aA (L.hd k) (L.dd k) (L.dm k)) 80 (0,0))]:=by rw[← ht2,al]
 have hLay:∀ w1,Below w.heap.size w w1→w1.heap[w.heap.size]?=some (.cells (aj m (k:Nat) d c) 39 (0,0))→w1.heap[w.heap.size+1]?=some (.cells (aA (L.hd k) (L.dd k) (L.dm k)) 80 (0,0))→PWn e w0 t2 L w1 S:=fun w1 b k1 k2=>by
  rw[← ht2]
  refine h.layL b i0.1 (fun p hp=>?_) (fun p hp=>?_)
  ·simp only[List.mem_cons,List.not_mem_nil,or_false]at hp
   rcases hp with rfl | rfl
   ·exact k1
   ·exact k2
  ·simp only[List.mem_cons,List.not_mem_nil,or_false]at hp
   rcases hp with rfl | rfl
   ·exact Nat.le_refl _
   ·exact Nat.le_succ _
 have hX:∀ S2 w1,PWn e w0 t2 L w1 S2→w1.heap[w.heap.size]?=some (.cells (aj m (k:Nat) d c) 39 (0,0))∧w1.heap[w.heap.size+1]?=some (.cells (aA (L.hd k) (L.dd k) (L.dm k)) 80 (0,0)):=fun S2 w1 q=>⟨q.box i0.1 e2 _ (List.mem_cons_self ..),q.box i0.1 e2 _ (List.mem_cons_of_mem _ (List.mem_cons_self ..))⟩
 have hDrop:∀ S2 w1,PWn e w0 t2 L w1 S2→PWn e w0 t L w1 S2:=fun S2 w1 q=>by
  rw[← ht2]at q
  exact q.drop i0.1 i0.2
 have e3:t2 j=t j:=by rw[← ht2,an _ _ (by omega)]
 refine (aae L.x (fd L.vc) (ik L.vc) S.n k (L.hd k) (L.dd k) (L.dm k) m d c 76 258 (L.hd k) (gX (S.PH k) m.l) w (fun w1 => PWn e w0 t2 L w1 S) (fun w1 => PWn e w0 t2 L w1 (S.setH k (di (S.PH k) (S.hs k) m.l m.b m.h))) cv c0 c1 c2 (by omega) (ax (by omega)) (ax (by omega)) (ax (by omega)) (ck h1) (fun w1 => by rw [hs]; exact wo (L.hd k) (L.dd k) (L.dm k) w1) (fun w1 => (by kernel_rfl : (method 438 76 (.pointer (some ⟨L.hd k, 0, none⟩)) "Write").run prog w1 = .ok (258, .pointer (some ⟨L.hd k, 0, none⟩)) w1)) (fun u w1 => (by kernel_rfl : (callFunc 258 u).run prog w1 = .ok (.enter 258 u) w1)) hLay (fun _ _ q b => q.below b) (fun w1 q => sp q hk (fun U hv => rx (L.hd k) (S.PH k) U (S.hs k) d m.l c m.b m.h w1 hv (q.rowq hq (e3.trans hr)))) (fun w1 q => hX _ _ q.out)).mono ?_
 rintro r w' ⟨rfl,H⟩
 exact⟨rfl,hDrop _ _ H.out⟩
theorem aaT {e:Nat→Nat} {w0 w:World} {t:Nat→Thing} {L:Pw} {S:Ws} (k i:Nat) (m:Mv) (d:Option Addr) (c:Nat) (h:PWn e w0 t L w S) (F:Fre e t i) (hk:k<S.n) (hs:m.s=2) (h1:m.k=1) (j:Nat) (hj:j<2*i+1) (hq:∀ q,j≠e q) (hr:t j=fi d m.l c m.b):Calls prog 28 #[ac L.x 0,.agg (aj m (k:Nat) d c)] w fun r w'=>r=.returned (.tuple #[.int .i64 (gT (S.PD k) (S.ds k) m.l),.int .i64 (-1)])∧Hid (PWn e w0 t L w' (S.setD k (em (S.PD k) (S.ds k) m.l m.b m.h))):=by
 obtain⟨cv,c0,c1,c2⟩:=h.conn hk
 have i0:=F i (Nat.le_refl _)
 obtain⟨t2,ht2⟩:∃ y,aJ t (2*i+1) (fC [(w.heap.size,.cells (aj m (k:Nat) d c) 39 (0,0)),(w.heap.size+1,.cells (aA (L.hd k) (L.dd k) (L.dm k)) 80 (0,0))])=y:=⟨_,rfl⟩
 have e2:t2 (2*i+1)=fC [(w.heap.size,.cells (aj m (k:Nat) d c) 39 (0,0)),(w.heap.size+1,.cells (aA (L.hd k) (L.dd k) (L.dm k)) 80 (0,0))]:=by rw[← ht2,al]
 have hLay:∀ w1,Below w.heap.size w w1→w1.heap[w.heap.size]?=some (.cells (aj m (k:Nat) d c) 39 (0,0))→w1.heap[w.heap.size+1]?=some (.cells (aA (L.hd k) (L.dd k) (L.dm k)) 80 (0,0))→PWn e w0 t2 L w1 S:=fun w1 b k1 k2=>by
  rw[← ht2]
  refine h.layL b i0.1 (fun p hp=>?_) (fun p hp=>?_)
  ·simp only[List.mem_cons,List.not_mem_nil,or_false]at hp
   rcases hp with rfl | rfl
   ·exact k1
   ·exact k2
  ·simp only[List.mem_cons,List.not_mem_nil,or_false]at hp
   rcases hp with rfl | rfl
   ·exact Nat.le_refl _
   ·exact Nat.le_succ _
 have hX:∀ S2 w1,PWn e w0 t2 L w1 S2→w1.heap[w.heap.size]?=some (.cells (aj m (k:Nat) d c) 39 (0,0))∧w1.heap[w.heap.size+1]?=some (.cells (aA (L.hd k) (L.dd k) (L.dm k)) 80 (0,0)):=fun S2 w1 q=>⟨q.box i0.1 e2 _ (List.mem_cons_self ..),q.box i0.1 e2 _ (List.mem_cons_of_mem _ (List.mem_cons_self ..))⟩
 have hDrop:∀ S2 w1,PWn e w0 t2 L w1 S2→PWn e w0 t L w1 S2:=fun S2 w1 q=>by
  rw[← ht2]at q
  exact q.drop i0.1 i0.2
 have e3:t2 j=t j:=by rw[← ht2,an _ _ (by omega)]
 refine (aae L.x (fd L.vc) (ik L.vc) S.n k (L.hd k) (L.dd k) (L.dm k) m d c 77 267 (L.dd k) (gT (S.PD k) (S.ds k) m.l) w (fun w1 => PWn e w0 t2 L w1 S) (fun w1 => PWn e w0 t2 L w1 (S.setD k (em (S.PD k) (S.ds k) m.l m.b m.h))) cv c0 c1 c2 (by omega) (ax (by omega)) (ax (by omega)) (ax (by omega)) (ck h1) (fun w1 => by rw [hs]; exact wn (L.hd k) (L.dd k) (L.dm k) w1) (fun w1 => (by kernel_rfl : (method 438 77 (.pointer (some ⟨L.dd k, 0, none⟩)) "Write").run prog w1 = .ok (267, .pointer (some ⟨L.dd k, 0, none⟩)) w1)) (fun u w1 => (by kernel_rfl : (callFunc 267 u).run prog w1 = .ok (.enter 267 u) w1)) hLay (fun _ _ q b => q.below b) (fun w1 q => oN q hk (fun g U dv => oY (L.dd k) (L.dm k) g 16 S.mx (S.PD k) U (S.ds k) d m.l c m.b m.h w1 dv (q.rowq hq (e3.trans hr)))) (fun w1 q => hX _ _ q.out)).mono ?_
 rintro r w' ⟨rfl,H⟩
 exact⟨rfl,hDrop _ _ H.out⟩
theorem aaW {e:Nat→Nat} {w0 w:World} {t:Nat→Thing} {L:Pw} {S:Ws} (k i:Nat) (m:Mv) (d:Option Addr) (c:Nat) (h:PWn e w0 t L w S) (F:Fre e t i) (hk:k<S.n) (hs:m.s=1) (h5:m.k=5) (hn:0≤m.n∧m.n≤1048576) (hF:S.fs.length≤90000) (hL:(S.hs k).L.length<800000):Calls prog 28 #[ac L.x 0,.agg (aj m (k:Nat) d c)] w fun r w'=>r=.returned (.tuple #[.int .i64 (eY m.n),.int .i64 (-1)])∧Hid (PWn e w0 t L w' ((S.setH k (dP (S.PH k) (S.hs k) m.n)).note (if (eY m.n)=0 then [⟨5,k,1,0,m.n.toNat,false,0,cZ⟩] else []))):=by
 obtain⟨cv,c0,c1,c2⟩:=h.conn hk
 have i0:=F i (Nat.le_refl _)
 obtain⟨t2,ht2⟩:∃ y,aJ t (2*i+1) (fC [(w.heap.size,.cells (aj m (k:Nat) d c) 39 (0,0)),(w.heap.size+1,.cells (aA (L.hd k) (L.dd k) (L.dm k)) 80 (0,0))])=y:=⟨_,rfl⟩
 have e2:t2 (2*i+1)=fC [(w.heap.size,.cells (aj m (k:Nat) d c) 39 (0,0)),(w.heap.size+1,.cells (aA (L.hd k) (L.dd k) (L.dm k)) 80 (0,0))]:=by rw[← ht2,al]
 have hLay:∀ w1,Below w.heap.size w w1→w1.heap[w.heap.size]?=some (.cells (aj m (k:Nat) d c) 39 (0,0))→w1.heap[w.heap.size+1]?=some (.cells (aA (L.hd k) (L.dd k) (L.dm k)) 80 (0,0))→PWn e w0 t2 L w1 S:=fun w1 b k1 k2=>by
  rw[← ht2]
  refine h.layL b i0.1 (fun p hp=>?_) (fun p hp=>?_)
  ·simp only[List.mem_cons,List.not_mem_nil,or_false]at hp
   rcases hp with rfl | rfl
   ·exact k1
   ·exact k2
  ·simp only[List.mem_cons,List.not_mem_nil,or_false]at hp
   rcases hp with rfl | rfl
   ·exact Nat.le_refl _
   ·exact Nat.le_succ _
 have hX:∀ S2 w1,PWn e w0 t2 L w1 S2→w1.heap[w.heap.size]?=some (.cells (aj m (k:Nat) d c) 39 (0,0))∧w1.heap[w.heap.size+1]?=some (.cells (aA (L.hd k) (L.dd k) (L.dm k)) 80 (0,0)):=fun S2 w1 q=>⟨q.box i0.1 e2 _ (List.mem_cons_self ..),q.box i0.1 e2 _ (List.mem_cons_of_mem _ (List.mem_cons_self ..))⟩
 have hDrop:∀ S2 w1,PWn e w0 t2 L w1 S2→PWn e w0 t L w1 S2:=fun S2 w1 q=>by
  rw[← ht2]at q
  exact q.drop i0.1 i0.2
 have hN:m.n=((m.n.toNat:Nat):Int):=by omega
 refine (aaf L.x (fd L.vc) (ik L.vc) S.n k (L.hd k) (L.dd k) (L.dm k) m d c 76 257 (L.hd k) (eY m.n) w m.n.toNat hN (by omega) (fun w1 => PWn e w0 t2 L w1 S) (fun w1 => PWn e w0 t2 L w1 (S.setH k (dP (S.PH k) (S.hs k) m.n))) (fun w1 => PWn e w0 t2 L w1 ((S.setH k (dP (S.PH k) (S.hs k) m.n)).note (if (eY m.n) = 0 then [⟨5, k, 1, 0, m.n.toNat, false, 0, cZ⟩] else []))) cv c0 c1 c2 (by omega) (ax (by omega)) (ax (by omega)) (ax (by omega)) (ax (by omega)) (ck h5) (fun w1 => by rw [hs]; exact wo (L.hd k) (L.dd k) (L.dm k) w1) (fun w1 => (by kernel_rfl : (method 438 76 (.pointer (some ⟨L.hd k, 0, none⟩)) "Tick").run prog w1 = .ok (257, .pointer (some ⟨L.hd k, 0, none⟩)) w1)) (fun u w1 => (by kernel_rfl : (callFunc 257 u).run prog w1 = .ok (.enter 257 u) w1)) hLay (fun _ _ q b => q.below b) (fun w1 q => sp q hk (fun U hv => tQ (L.hd k) (S.PH k) U (S.hs k) m.n w1 hv (by omega) hL)) (fun w1 q => hX _ _ q.out) (fun w1 q => by rw [hs]; exact iW (eY m.n) 5 k 1 0 m.n.toNat q.out (by show S.fs.length ≤ 100000; omega))).mono ?_
 rintro r w' ⟨rfl,H⟩
 exact⟨rfl,hDrop _ _ H.out⟩
theorem aaV {e:Nat→Nat} {w0 w:World} {t:Nat→Thing} {L:Pw} {S:Ws} (k i:Nat) (m:Mv) (d:Option Addr) (c:Nat) (h:PWn e w0 t L w S) (F:Fre e t i) (hk:k<S.n) (hs:m.s=2) (h5:m.k=5) (hn:0≤m.n∧m.n≤1048576) (hF:S.fs.length≤90000) (hL:(S.ds k).L.length<800000):Calls prog 28 #[ac L.x 0,.agg (aj m (k:Nat) d c)] w fun r w'=>r=.returned (.tuple #[.int .i64 (eU (S.ds k) m.n),.int .i64 (-1)])∧Hid (PWn e w0 t L w' ((S.setD k (eV (S.PD k) (S.ds k) m.n)).note (if (eU (S.ds k) m.n)=0 then [⟨5,k,2,0,m.n.toNat,false,0,cZ⟩] else []))):=by
 obtain⟨cv,c0,c1,c2⟩:=h.conn hk
 have i0:=F i (Nat.le_refl _)
 obtain⟨t2,ht2⟩:∃ y,aJ t (2*i+1) (fC [(w.heap.size,.cells (aj m (k:Nat) d c) 39 (0,0)),(w.heap.size+1,.cells (aA (L.hd k) (L.dd k) (L.dm k)) 80 (0,0))])=y:=⟨_,rfl⟩
 have e2:t2 (2*i+1)=fC [(w.heap.size,.cells (aj m (k:Nat) d c) 39 (0,0)),(w.heap.size+1,.cells (aA (L.hd k) (L.dd k) (L.dm k)) 80 (0,0))]:=by rw[← ht2,al]
 have hLay:∀ w1,Below w.heap.size w w1→w1.heap[w.heap.size]?=some (.cells (aj m (k:Nat) d c) 39 (0,0))→w1.heap[w.heap.size+1]?=some (.cells (aA (L.hd k) (L.dd k) (L.dm k)) 80 (0,0))→PWn e w0 t2 L w1 S:=fun w1 b k1 k2=>by
  rw[← ht2]
  refine h.layL b i0.1 (fun p hp=>?_) (fun p hp=>?_)
  ·simp only[List.mem_cons,List.not_mem_nil,or_false]at hp
   rcases hp with rfl | rfl
   ·exact k1
   ·exact k2
  ·simp only[List.mem_cons,List.not_mem_nil,or_false]at hp
   rcases hp with rfl | rfl
   ·exact Nat.le_refl _
   ·exact Nat.le_succ _
 have hX:∀ S2 w1,PWn e w0 t2 L w1 S2→w1.heap[w.heap.size]?=some (.cells (aj m (k:Nat) d c) 39 (0,0))∧w1.heap[w.heap.size+1]?=some (.cells (aA (L.hd k) (L.dd k) (L.dm k)) 80 (0,0)):=fun S2 w1 q=>⟨q.box i0.1 e2 _ (List.mem_cons_self ..),q.box i0.1 e2 _ (List.mem_cons_of_mem _ (List.mem_cons_self ..))⟩
 have hDrop:∀ S2 w1,PWn e w0 t2 L w1 S2→PWn e w0 t L w1 S2:=fun S2 w1 q=>by
  rw[← ht2]at q
  exact q.drop i0.1 i0.2
 have hN:m.n=((m.n.toNat:Nat):Int):=by omega
 refine (aaf L.x (fd L.vc) (ik L.vc) S.n k (L.hd k) (L.dd k) (L.dm k) m d c 77 266 (L.dd k) (eU (S.ds k) m.n) w m.n.toNat hN (by omega) (fun w1 => PWn e w0 t2 L w1 S) (fun w1 => PWn e w0 t2 L w1 (S.setD k (eV (S.PD k) (S.ds k) m.n))) (fun w1 => PWn e w0 t2 L w1 ((S.setD k (eV (S.PD k) (S.ds k) m.n)).note (if (eU (S.ds k) m.n) = 0 then [⟨5, k, 2, 0, m.n.toNat, false, 0, cZ⟩] else []))) cv c0 c1 c2 (by omega) (ax (by omega)) (ax (by omega)) (ax (by omega)) (ax (by omega)) (ck h5) (fun w1 => by rw [hs]; exact wn (L.hd k) (L.dd k) (L.dm k) w1) (fun w1 => (by kernel_rfl : (method 438 77 (.pointer (some ⟨L.dd k, 0, none⟩)) "Tick").run prog w1 = .ok (266, .pointer (some ⟨L.dd k, 0, none⟩)) w1)) (fun u w1 => (by kernel_rfl : (callFunc 266 u).run prog w1 = .ok (.enter 266 u) w1)) hLay (fun _ _ q b => q.below b) (fun w1 q => oN q hk (fun g U dv => qW (L.dd k) (L.dm k) g 16 S.mx (S.PD k) U (S.ds k) m.n w1 dv (by omega) hL)) (fun w1 q => hX _ _ q.out) (fun w1 q => by rw [hs]; exact iW (eU (S.ds k) m.n) 5 k 2 0 m.n.toNat q.out (by show S.fs.length ≤ 100000; omega))).mono ?_
 rintro r w' ⟨rfl,H⟩
 exact⟨rfl,hDrop _ _ H.out⟩
theorem aaY {e:Nat→Nat} {w0 w:World} {t:Nat→Thing} {L:Pw} {S:Ws} (k i:Nat) (m:Mv) (d:Option Addr) (c:Nat) (h:PWn e w0 t L w S) (F:Fre e t i) (hk:k<S.n) (hs:m.s=1) (h6:m.k=6) (hF:S.fs.length≤90000):Calls prog 28 #[ac L.x 0,.agg (aj m (k:Nat) d c)] w fun r w'=>r=.returned (.tuple #[.int .i64 (gy (S.hs k)),.int .i64 (-1)])∧Hid (PWn e w0 t L w' ((S.setH k (jL (S.hs k))).note (if (gy (S.hs k))=0 then [dE 6 k 1] else []))):=by
 obtain⟨cv,c0,c1,c2⟩:=h.conn hk
 have i0:=F i (Nat.le_refl _)
 obtain⟨t2,ht2⟩:∃ y,aJ t (2*i+1) (fC [(w.heap.size,.cells (aj m (k:Nat) d c) 39 (0,0)),(w.heap.size+1,.cells (aA (L.hd k) (L.dd k) (L.dm k)) 80 (0,0))])=y:=⟨_,rfl⟩
 have e2:t2 (2*i+1)=fC [(w.heap.size,.cells (aj m (k:Nat) d c) 39 (0,0)),(w.heap.size+1,.cells (aA (L.hd k) (L.dd k) (L.dm k)) 80 (0,0))]:=by rw[← ht2,al]
 have hLay:∀ w1,Below w.heap.size w w1→w1.heap[w.heap.size]?=some (.cells (aj m (k:Nat) d c) 39 (0,0))→w1.heap[w.heap.size+1]?=some (.cells (aA (L.hd k) (L.dd k) (L.dm k)) 80 (0,0))→PWn e w0 t2 L w1 S:=fun w1 b k1 k2=>by
  rw[← ht2]
  refine h.layL b i0.1 (fun p hp=>?_) (fun p hp=>?_)
  ·simp only[List.mem_cons,List.not_mem_nil,or_false]at hp
   rcases hp with rfl | rfl
   ·exact k1
   ·exact k2
  ·simp only[List.mem_cons,List.not_mem_nil,or_false]at hp
   rcases hp with rfl | rfl
   ·exact Nat.le_refl _
   ·exact Nat.le_succ _
 have hX:∀ S2 w1,PWn e w0 t2 L w1 S2→w1.heap[w.heap.size]?=some (.cells (aj m (k:Nat) d c) 39 (0,0))∧w1.heap[w.heap.size+1]?=some (.cells (aA (L.hd k) (L.dd k) (L.dm k)) 80 (0,0)):=fun S2 w1 q=>⟨q.box i0.1 e2 _ (List.mem_cons_self ..),q.box i0.1 e2 _ (List.mem_cons_of_mem _ (List.mem_cons_self ..))⟩
 have hDrop:∀ S2 w1,PWn e w0 t2 L w1 S2→PWn e w0 t L w1 S2:=fun S2 w1 q=>by
  rw[← ht2]at q
  exact q.drop i0.1 i0.2
 refine (aag L.x (fd L.vc) (ik L.vc) S.n k (L.hd k) (L.dd k) (L.dm k) m d c 76 256 (L.hd k) (gy (S.hs k)) w (fun w1 => PWn e w0 t2 L w1 S) (fun w1 => PWn e w0 t2 L w1 (S.setH k (jL (S.hs k)))) (fun w1 => PWn e w0 t2 L w1 ((S.setH k (jL (S.hs k))).note (if (gy (S.hs k)) = 0 then [dE 6 k 1] else []))) cv c0 c1 c2 (by omega) (ax (by omega)) (ax (by omega)) (ax (by omega)) (ax (by omega)) (ax (by omega)) (ck h6) (fun w1 => by rw [hs]; exact wo (L.hd k) (L.dd k) (L.dm k) w1) (fun w1 => (by kernel_rfl : (method 438 76 (.pointer (some ⟨L.hd k, 0, none⟩)) "Ack").run prog w1 = .ok (256, .pointer (some ⟨L.hd k, 0, none⟩)) w1)) (fun u w1 => (by kernel_rfl : (callFunc 256 u).run prog w1 = .ok (.enter 256 u) w1)) hLay (fun _ _ q b => q.below b) (fun w1 q => sp q hk (fun U hv => vw (L.hd k) (S.PH k) U (S.hs k) w1 hv)) (fun w1 q => hX _ _ q.out) (fun w1 q => by rw [hs]; exact iW (gy (S.hs k)) 6 k 1 0 0 q.out (by show S.fs.length ≤ 100000; omega))).mono ?_
 rintro r w' ⟨rfl,H⟩
 exact⟨rfl,hDrop _ _ H.out⟩
theorem aaX {e:Nat→Nat} {w0 w:World} {t:Nat→Thing} {L:Pw} {S:Ws} (k i:Nat) (m:Mv) (d:Option Addr) (c:Nat) (h:PWn e w0 t L w S) (F:Fre e t i) (hk:k<S.n) (hs:m.s=2) (h6:m.k=6) (hF:S.fs.length≤90000):Calls prog 28 #[ac L.x 0,.agg (aj m (k:Nat) d c)] w fun r w'=>r=.returned (.tuple #[.int .i64 (gr (S.ds k)),.int .i64 (-1)])∧Hid (PWn e w0 t L w' ((S.setD k (gt (S.ds k))).note (if (gr (S.ds k))=0 then [dE 6 k 2] else []))):=by
 obtain⟨cv,c0,c1,c2⟩:=h.conn hk
 have i0:=F i (Nat.le_refl _)
 obtain⟨t2,ht2⟩:∃ y,aJ t (2*i+1) (fC [(w.heap.size,.cells (aj m (k:Nat) d c) 39 (0,0)),(w.heap.size+1,.cells (aA (L.hd k) (L.dd k) (L.dm k)) 80 (0,0))])=y:=⟨_,rfl⟩
 have e2:t2 (2*i+1)=fC [(w.heap.size,.cells (aj m (k:Nat) d c) 39 (0,0)),(w.heap.size+1,.cells (aA (L.hd k) (L.dd k) (L.dm k)) 80 (0,0))]:=by rw[← ht2,al]
 have hLay:∀ w1,Below w.heap.size w w1→w1.heap[w.heap.size]?=some (.cells (aj m (k:Nat) d c) 39 (0,0))→w1.heap[w.heap.size+1]?=some (.cells (aA (L.hd k) (L.dd k) (L.dm k)) 80 (0,0))→PWn e w0 t2 L w1 S:=fun w1 b k1 k2=>by
  rw[← ht2]
  refine h.layL b i0.1 (fun p hp=>?_) (fun p hp=>?_)
  ·simp only[List.mem_cons,List.not_mem_nil,or_false]at hp
   rcases hp with rfl | rfl
   ·exact k1
   ·exact k2
  ·simp only[List.mem_cons,List.not_mem_nil,or_false]at hp
   rcases hp with rfl | rfl
   ·exact Nat.le_refl _
   ·exact Nat.le_succ _
 have hX:∀ S2 w1,PWn e w0 t2 L w1 S2→w1.heap[w.heap.size]?=some (.cells (aj m (k:Nat) d c) 39 (0,0))∧w1.heap[w.heap.size+1]?=some (.cells (aA (L.hd k) (L.dd k) (L.dm k)) 80 (0,0)):=fun S2 w1 q=>⟨q.box i0.1 e2 _ (List.mem_cons_self ..),q.box i0.1 e2 _ (List.mem_cons_of_mem _ (List.mem_cons_self ..))⟩
 have hDrop:∀ S2 w1,PWn e w0 t2 L w1 S2→PWn e w0 t L w1 S2:=fun S2 w1 q=>by
  rw[← ht2]at q
  exact q.drop i0.1 i0.2
 refine (aag L.x (fd L.vc) (ik L.vc) S.n k (L.hd k) (L.dd k) (L.dm k) m d c 77 265 (L.dd k) (gr (S.ds k)) w (fun w1 => PWn e w0 t2 L w1 S) (fun w1 => PWn e w0 t2 L w1 (S.setD k (gt (S.ds k)))) (fun w1 => PWn e w0 t2 L w1 ((S.setD k (gt (S.ds k))).note (if (gr (S.ds k)) = 0 then [dE 6 k 2] else []))) cv c0 c1 c2 (by omega) (ax (by omega)) (ax (by omega)) (ax (by omega)) (ax (by omega)) (ax (by omega)) (ck h6) (fun w1 => by rw [hs]; exact wn (L.hd k) (L.dd k) (L.dm k) w1) (fun w1 => (by kernel_rfl : (method 438 77 (.pointer (some ⟨L.dd k, 0, none⟩)) "Ack").run prog w1 = .ok (265, .pointer (some ⟨L.dd k, 0, none⟩)) w1)) (fun u w1 => (by kernel_rfl : (callFunc 265 u).run prog w1 = .ok (.enter 265 u) w1)) hLay (fun _ _ q b => q.below b) (fun w1 q => oN q hk (fun g U dv => tz (L.dd k) (L.dm k) g 16 S.mx (S.PD k) U (S.ds k) w1 dv)) (fun w1 q => hX _ _ q.out) (fun w1 q => by rw [hs]; exact iW (gr (S.ds k)) 6 k 2 0 0 q.out (by show S.fs.length ≤ 100000; omega))).mono ?_
 rintro r w' ⟨rfl,H⟩
 exact⟨rfl,hDrop _ _ H.out⟩
theorem aa0 {e:Nat→Nat} {w0 w:World} {t:Nat→Thing} {L:Pw} {S:Ws} (k i:Nat) (m:Mv) (d:Option Addr) (c:Nat) (h:PWn e w0 t L w S) (F:Fre e t i) (hk:k<S.n) (hs:m.s=1) (h7:m.k=7) (hc:m.c=((k:Nat):Int)) (hF:S.fs.length≤90000):Calls prog 28 #[ac L.x 0,.agg (aj m (k:Nat) d c)] w fun r w'=>r=.returned (.tuple #[.int .i64 0,.int .i64 (-1)])∧Hid (PWn e w0 t L w' ((S.note [dE 7 k 1]).setH k (eW (S.hs k)))):=by
 obtain⟨cv,c0,c1,c2⟩:=h.conn hk
 have i0:=F i (Nat.le_refl _)
 obtain⟨t2,ht2⟩:∃ y,aJ t (2*i+1) (fC [(w.heap.size,.cells (aj m (k:Nat) d c) 39 (0,0)),(w.heap.size+1,.cells (aA (L.hd k) (L.dd k) (L.dm k)) 80 (0,0))])=y:=⟨_,rfl⟩
 have e2:t2 (2*i+1)=fC [(w.heap.size,.cells (aj m (k:Nat) d c) 39 (0,0)),(w.heap.size+1,.cells (aA (L.hd k) (L.dd k) (L.dm k)) 80 (0,0))]:=by rw[← ht2,al]
 have hLay:∀ w1,Below w.heap.size w w1→w1.heap[w.heap.size]?=some (.cells (aj m (k:Nat) d c) 39 (0,0))→w1.heap[w.heap.size+1]?=some (.cells (aA (L.hd k) (L.dd k) (L.dm k)) 80 (0,0))→PWn e w0 t2 L w1 S:=fun w1 b k1 k2=>by
  rw[← ht2]
  refine h.layL b i0.1 (fun p hp=>?_) (fun p hp=>?_)
  ·simp only[List.mem_cons,List.not_mem_nil,or_false]at hp
   rcases hp with rfl | rfl
   ·exact k1
   ·exact k2
  ·simp only[List.mem_cons,List.not_mem_nil,or_false]at hp
   rcases hp with rfl | rfl
   ·exact Nat.le_refl _
   ·exact Nat.le_succ _
 have hX:∀ S2 w1,PWn e w0 t2 L w1 S2→w1.heap[w.heap.size]?=some (.cells (aj m (k:Nat) d c) 39 (0,0))∧w1.heap[w.heap.size+1]?=some (.cells (aA (L.hd k) (L.dd k) (L.dm k)) 80 (0,0)):=fun S2 w1 q=>⟨q.box i0.1 e2 _ (List.mem_cons_self ..),q.box i0.1 e2 _ (List.mem_cons_of_mem _ (List.mem_cons_self ..))⟩
 have hDrop:∀ S2 w1,PWn e w0 t2 L w1 S2→PWn e w0 t L w1 S2:=fun S2 w1 q=>by
  rw[← ht2]at q
  exact q.drop i0.1 i0.2
 refine (aah L.x (fd L.vc) (ik L.vc) S.n k (L.hd k) (L.dd k) (L.dm k) m d c 0 w (fun w1=>PWn e w0 t2 L w1 S) (fun w1=>PWn e w0 t2 L w1 (S.note [dE 7 k 1])) (fun w1=>PWn e w0 t2 L w1 ((S.note [dE 7 k 1]).setH k (eW (S.hs k)))) cv c0 c1 c2 (by omega) (ax (by omega)) (ax (by omega)) (ax (by omega)) (ax (by omega)) (ax (by omega)) (ax (by omega)) (ck h7) hLay (fun _ _ q b=>q.below b) (fun w1 q=>by rw[hs];exact sM 7 k 1 0 0 q (by omega)) (fun w1 q=>hX _ _ q.out) (fun w1 q=>by
   have:=xF (L.hd k) (L.dd k) (L.dm k) m d c 0 w1 (fun w'=>PWn e w0 t2 L w' ((S.note [dE 7 k 1]).setH k (eW (S.hs k)))) (fun _ wx bx=>sp (q.out.below bx) hk (fun U hv=>rs (L.hd k) (S.PH k) U (S.hs k) wx hv)) (fun z=>absurd hs z)
   rw[hc]at this
   exact this)).mono ?_
 rintro r w' ⟨rfl,H⟩
 exact⟨rfl,hDrop _ _ H.out⟩
theorem aaZ {e:Nat→Nat} {w0 w:World} {t:Nat→Thing} {L:Pw} {S:Ws} (k i:Nat) (m:Mv) (d:Option Addr) (c:Nat) (h:PWn e w0 t L w S) (F:Fre e t i) (hk:k<S.n) (hs:m.s=2) (h7:m.k=7) (hc:m.c=((k:Nat):Int)) (hF:S.fs.length≤90000) (hn:0≤m.n∧m.n≤9223372036854775807) (ht:(S.ds k).ms.t<9223372036854774000):Calls prog 28 #[ac L.x 0,.agg (aj m (k:Nat) d c)] w fun r w'=>r=.returned (.tuple #[.int .i64 (fS S.mx 16 (S.ds k) m.n),.int .i64 (-1)])∧Hid (PWn e w0 t L w' ((S.note [dE 7 k 2]).setD k (cL S.mx 16 (S.ds k) m.n))):=by
 obtain⟨cv,c0,c1,c2⟩:=h.conn hk
 have i0:=F i (Nat.le_refl _)
 obtain⟨t2,ht2⟩:∃ y,aJ t (2*i+1) (fC [(w.heap.size,.cells (aj m (k:Nat) d c) 39 (0,0)),(w.heap.size+1,.cells (aA (L.hd k) (L.dd k) (L.dm k)) 80 (0,0))])=y:=⟨_,rfl⟩
 have e2:t2 (2*i+1)=fC [(w.heap.size,.cells (aj m (k:Nat) d c) 39 (0,0)),(w.heap.size+1,.cells (aA (L.hd k) (L.dd k) (L.dm k)) 80 (0,0))]:=by rw[← ht2,al]
 have hLay:∀ w1,Below w.heap.size w w1→w1.heap[w.heap.size]?=some (.cells (aj m (k:Nat) d c) 39 (0,0))→w1.heap[w.heap.size+1]?=some (.cells (aA (L.hd k) (L.dd k) (L.dm k)) 80 (0,0))→PWn e w0 t2 L w1 S:=fun w1 b k1 k2=>by
  rw[← ht2]
  refine h.layL b i0.1 (fun p hp=>?_) (fun p hp=>?_)
  ·simp only[List.mem_cons,List.not_mem_nil,or_false]at hp
   rcases hp with rfl | rfl
   ·exact k1
   ·exact k2
  ·simp only[List.mem_cons,List.not_mem_nil,or_false]at hp
   rcases hp with rfl | rfl
   ·exact Nat.le_refl _
   ·exact Nat.le_succ _
 have hX:∀ S2 w1,PWn e w0 t2 L w1 S2→w1.heap[w.heap.size]?=some (.cells (aj m (k:Nat) d c) 39 (0,0))∧w1.heap[w.heap.size+1]?=some (.cells (aA (L.hd k) (L.dd k) (L.dm k)) 80 (0,0)):=fun S2 w1 q=>⟨q.box i0.1 e2 _ (List.mem_cons_self ..),q.box i0.1 e2 _ (List.mem_cons_of_mem _ (List.mem_cons_self ..))⟩
 have hDrop:∀ S2 w1,PWn e w0 t2 L w1 S2→PWn e w0 t L w1 S2:=fun S2 w1 q=>by
  rw[← ht2]at q
  exact q.drop i0.1 i0.2
 refine (aah L.x (fd L.vc) (ik L.vc) S.n k (L.hd k) (L.dd k) (L.dm k) m d c (fS S.mx 16 (S.ds k) m.n) w (fun w1=>PWn e w0 t2 L w1 S) (fun w1=>PWn e w0 t2 L w1 (S.note [dE 7 k 2])) (fun w1=>PWn e w0 t2 L w1 ((S.note [dE 7 k 2]).setD k (cL S.mx 16 (S.ds k) m.n))) cv c0 c1 c2 (by omega) (ax (by omega)) (ax (by omega)) (ax (by omega)) (ax (by omega)) (ax (by omega)) (ax (by omega)) (ck h7) hLay (fun _ _ q b=>q.below b) (fun w1 q=>by rw[hs];exact sM 7 k 2 0 0 q (by omega)) (fun w1 q=>hX _ _ q.out) (fun w1 q=>by
   have:=xF (L.hd k) (L.dd k) (L.dm k) m d c (fS S.mx 16 (S.ds k) m.n) w1 (fun w'=>PWn e w0 t2 L w' ((S.note [dE 7 k 2]).setD k (cL S.mx 16 (S.ds k) m.n))) (fun z=>absurd z (by omega)) (fun _ wx bx=>oN (q.out.below bx) hk (fun g U dv=>oX (L.dd k) (L.dm k) g 16 S.mx (S.PD k) U (S.ds k) m.n wx dv hn.1 hn.2 ht))
   rw[hc]at this
   exact this)).mono ?_
 rintro r w' ⟨rfl,H⟩
 exact⟨rfl,hDrop _ _ H.out⟩
theorem ab2 {e:Nat→Nat} {w0 w:World} {t:Nat→Thing} {L:Pw} {S:Ws} (k i:Nat) (m:Mv) (d:Option Addr) (c:Nat) (h:PWn e w0 t L w S) (F:Fre e t i) (hk:k<S.n) (h8:m.k=8) (hn:m.n≤9223372036854775807):Calls prog 28 #[ac L.x 0,.agg (aj m (k:Nat) d c)] w fun r w'=>r=.returned (.tuple #[.int .i64 (arE m.n),.int .i64 (-1)])∧Hid (PWn e w0 t L w' (S.setD k { S.ds k with ms:=lK (S.ds k).ms m.n })):=by
 obtain⟨cv,c0,c1,c2⟩:=h.conn hk
 exact aco L.x (fd L.vc) (ik L.vc) S.n k (L.hd k) (L.dd k) (L.dm k) m d c (arE m.n) w (fun w1=>PWn e w0 t L w1 (S.setD k { S.ds k with ms:=lK (S.ds k).ms m.n })) cv c0 c1 c2 (by omega) (ax (by omega)) (ax (by omega)) (ax (by omega)) (ax (by omega)) (ax (by omega)) (ax (by omega)) (ax (by omega)) (fun w1 b1=>oN (h.below b1) hk (fun g U dv=>tA (L.dd k) (L.dm k) g 16 S.mx (S.PD k) U (S.ds k) m.n w1 dv hn))
end Go.Proofs.YtenilkloffnjlaaGreat
