/- Part 36: contracts that the proof rests on. -/
import Derived.Test.YtfgnmadnmjdbiaaGreatPkU33
import Derived.Test.YtfgnmadnmjdbiaaGreatPkU34
set_option maxHeartbeats 64000000
set_option maxRecDepth 100000
namespace Go.Proofs.YtfgnmadnmjdbiaaGreat
open Tryz
open Go.RowKit Go.Maps
set_option linter.unusedVariables false
theorem zw (X:Nat) (m:Mv) (d:Option Addr) (c:Nat) (w:World) (h3:(m.k == 3)=false) (h4:(m.k == 4)=false) (h5:(m.k == 5)=true):Calls prog 49 #[ac X 0,.agg (aj m m.c d c)] w fun r w'=>r=.returned (.int .i64 (if m.n<0∨uq m<m.n then 2 else 0))∧Hid (Below w.heap.size w w'):=by
 have kA:=aC w (.cells (aj m m.c d c) 51)
 have bA:=aJ (Below.refl _ w) (.cells (aj m m.c d c) 51)
 obtain⟨wa,hwa⟩:∃ y,w.alloc (.cells (aj m m.c d c) 51)=y:=⟨_,rfl⟩
 rw[hwa]at kA bA
 obtain⟨x,hx⟩:∃ y,w.heap.size=y:=⟨_,rfl⟩
 have HB:Hid (Below w.heap.size w wa):=bA
 have HS:Hid (w.heap.size=x):=hx
 rw[hx]at kA
 have q0:wa.cell? ⟨x,0,none⟩=some (.int .i64 m.k):=ae wa x 0 _ _ _ kA
 have q1:wa.cell? ⟨x,1,none⟩=some (.int .i64 m.c):=ae wa x 1 _ _ _ kA
 have q2:wa.cell? ⟨x,2,none⟩=some (.int .i64 m.s):=ae wa x 2 _ _ _ kA
 have q3:wa.cell? ⟨x,3,none⟩=some (.int .i64 m.f):=ae wa x 3 _ _ _ kA
 have q4:wa.cell? ⟨x,4,none⟩=some (.int .i64 m.a):=ae wa x 4 _ _ _ kA
 have q5:wa.cell? ⟨x,5,none⟩=some (.int .u32 (m.w:Nat)):=ae wa x 5 _ _ _ kA
 have q6:wa.cell? ⟨x,6,none⟩=some (.int .i64 m.n):=ae wa x 6 _ _ _ kA
 have q7:wa.cell? ⟨x,7,none⟩=some (.bool m.h):=ae wa x 7 _ _ _ kA
 have q8:wa.cell? ⟨x,8,none⟩=some (.slice d m.l c):=ae wa x 8 _ _ _ kA
 have hS:∀ w',Below wa.heap.size wa w'→w'.cell? ⟨x,0,none⟩=some (Value.int .i64 m.k)∧w'.cell? ⟨x,1,none⟩=some (Value.int .i64 m.c)∧w'.cell? ⟨x,2,none⟩=some (Value.int .i64 m.s)∧w'.cell? ⟨x,3,none⟩=some (Value.int .i64 m.f)∧w'.cell? ⟨x,4,none⟩=some (Value.int .i64 m.a)∧w'.cell? ⟨x,5,none⟩=some (Value.int .u32 (m.w:Nat))∧w'.cell? ⟨x,6,none⟩=some (Value.int .i64 m.n)∧w'.cell? ⟨x,7,none⟩=some (Value.bool m.h)∧w'.cell? ⟨x,8,none⟩=some (Value.slice d m.l c):=fun w' b=>⟨ag q0 b,ag q1 b,ag q2 b,ag q3 b,ag q4 b,ag q5 b,ag q6 b,ag q7 b,ag q8 b⟩
 have HS0:=hS wa.drew (Below.drew (Below.refl _ _))
 have HSS:Hid (_):=hS
 have HBd:Hid (Below w.heap.size w wa.drew):=Below.drew bA
 have hGG:=iP m d c wa.drew
 obtain⟨G,hG⟩:∃ z,uq m=z:=⟨_,rfl⟩
 rw[hG]at hGG ⊢
 have HE:Hid (_=wa):=hwa
 clear kA hwa hx
 clear bA hS hG
 by_cases n0:m.n<0
 ·rw[if_pos (.inl n0)]
  go_enter func49,ntmps49
  go_upto_region 1 with fail
  rw[HE.out,HS.out]
  go_upto_region 9 with fail
  refine wp_region_held_drew (S:=fun w'=>w'.cell? ⟨x,0,none⟩=some (Value.int .i64 m.k)∧w'.cell? ⟨x,1,none⟩=some (Value.int .i64 m.c)∧w'.cell? ⟨x,2,none⟩=some (Value.int .i64 m.s)∧w'.cell? ⟨x,3,none⟩=some (Value.int .i64 m.f)∧w'.cell? ⟨x,4,none⟩=some (Value.int .i64 m.a)∧w'.cell? ⟨x,5,none⟩=some (Value.int .u32 (m.w:Nat))∧w'.cell? ⟨x,6,none⟩=some (Value.int .i64 m.n)∧w'.cell? ⟨x,7,none⟩=some (Value.bool m.h)∧w'.cell? ⟨x,8,none⟩=some (Value.slice d m.l c)) (by kernel_rfl) HS0 (fun _=>?_)
  refine al (i:=0) (v:=ac x 6) ?_
  refine al (i:=1) (v:=Value.int .i64 m.n) ?_
  refine al (i:=2) (v:=Value.bool true) ?_
  refine al (i:=3) (v:=Value.bool true) ?_
  refine wpAnyH_take (i:=4) (v:=undef) rfl (by kernel_rfl) (by kernel_rfl) (by kernel_rfl) (fun _ _ _ h=>h) (Or.inr ⟨by kernel_rfl,rfl⟩) (by assumption) ?_
  refine wpAnyH_take (i:=5) (v:=undef) rfl (by kernel_rfl) (by kernel_rfl) (by kernel_rfl) (fun _ _ _ h=>h) (Or.inr ⟨by kernel_rfl,rfl⟩) (by assumption) ?_
  refine wpAnyH_take (i:=6) (v:=undef) rfl (by kernel_rfl) (by kernel_rfl) (by kernel_rfl) (fun _ _ _ h=>h) (Or.inr ⟨by kernel_rfl,rfl⟩) (by assumption) ?_
  refine wpAnyH_take (i:=7) (v:=undef) rfl (by kernel_rfl) (by kernel_rfl) (by kernel_rfl) (fun _ _ _ h=>h) (Or.inr ⟨by kernel_rfl,rfl⟩) (by assumption) ?_
  refine wpAnyH_take (i:=8) (v:=undef) rfl (by kernel_rfl) (by kernel_rfl) (by kernel_rfl) (fun _ _ _ h=>h) (Or.inr ⟨by kernel_rfl,rfl⟩) (by assumption) ?_
  refine al (i:=9) (v:=Value.bool true) ?_
  refine aF (a':={ tmps:=#[ac X 0,Value.agg (aj m m.c d c),undef,ac x 0,Value.int .i64 0,undef,undef,ac x 0,Value.int .i64 m.k,Value.bool false,Value.bool false,Value.bool false,undef,undef,undef,undef,undef,undef,undef,Value.bool true,Value.bool true,undef,undef,ac x 6,Value.int .i64 m.n,Value.bool true,Value.bool true,undef,undef,undef,undef,undef,Value.bool true],defers:=[] }) (l':=#[true,true,true,true,true,true,true,true,true,true]) (by kernel_rfl) (by kernel_rfl) ?_
  refine wpAnyH_done (by kernel_rfl) ?_ _
  go_wp2_with fail
  go_ret
  exact⟨rfl,HBd.out⟩
 ·by_cases n1:G<m.n
  ·rw[if_pos (.inr n1)]
   have n1':m.n > G:=n1
   go_enter func49,ntmps49
   go_upto_region 1 with fail
   rw[HE.out,HS.out]
   go_upto_region 9 with fail
   refine wp_region_held_drew (S:=fun w'=>w'.cell? ⟨x,0,none⟩=some (Value.int .i64 m.k)∧w'.cell? ⟨x,1,none⟩=some (Value.int .i64 m.c)∧w'.cell? ⟨x,2,none⟩=some (Value.int .i64 m.s)∧w'.cell? ⟨x,3,none⟩=some (Value.int .i64 m.f)∧w'.cell? ⟨x,4,none⟩=some (Value.int .i64 m.a)∧w'.cell? ⟨x,5,none⟩=some (Value.int .u32 (m.w:Nat))∧w'.cell? ⟨x,6,none⟩=some (Value.int .i64 m.n)∧w'.cell? ⟨x,7,none⟩=some (Value.bool m.h)∧w'.cell? ⟨x,8,none⟩=some (Value.slice d m.l c)) (by kernel_rfl) HS0 (fun _=>?_)
   refine al (i:=0) (v:=ac x 6) ?_
   refine al (i:=1) (v:=Value.int .i64 m.n) ?_
   refine al (i:=2) (v:=Value.bool false) ?_
   refine al (i:=3) (v:=Value.bool false) ?_
   refine al (i:=4) (v:=ac x 6) ?_
   refine al (i:=5) (v:=Value.int .i64 m.n) ?_
   refine al (i:=6) (v:=Value.agg (aj m m.c d c)) ?_
   refine aE (i:=7) 69 #[Value.agg (aj m m.c d c)] (by kernel_rfl) rfl (by kernel_rfl) (by go_simp) ?_
   refine hGG.mono ?_
   rintro r w2 ⟨rfl,b2⟩
   clear hGG
   have HS2:=HSS.out w2 ((Below.drew (Below.refl wa.heap.size wa)).trans b2)
   refine⟨_,rfl,HS2,?_⟩
   refine al (i:=8) (v:=Value.bool true) ?_
   refine al (i:=9) (v:=Value.bool true) ?_
   refine aF (a':={ tmps:=#[ac X 0,Value.agg (aj m m.c d c),undef,ac x 0,Value.int .i64 0,undef,undef,ac x 0,Value.int .i64 m.k,Value.bool false,Value.bool false,Value.bool false,undef,undef,undef,undef,undef,undef,undef,Value.bool true,Value.bool true,undef,undef,ac x 6,Value.int .i64 m.n,Value.bool false,Value.bool false,ac x 6,Value.int .i64 m.n,Value.agg (aj m m.c d c),Value.int .i64 G,Value.bool true,Value.bool true],defers:=[] }) (l':=#[true,true,true,true,true,true,true,true,true,true]) (by kernel_rfl) (by kernel_rfl) ?_
   refine wpAnyH_done (by kernel_rfl) ?_ _
   have HF:Hid (Below w.heap.size w w2):=HBd.out.trans (b2.mono HBd.out.size)
   clear HS2 b2
   go_wp2_with fail
   go_ret
   exact⟨rfl,HF.out⟩
  ·rw[if_neg (fun q=>q.elim n0 n1)]
   have n1':¬ (m.n > G):=n1
   go_enter func49,ntmps49
   go_upto_region 1 with fail
   rw[HE.out,HS.out]
   go_upto_region 9 with fail
   refine wp_region_held_drew (S:=fun w'=>w'.cell? ⟨x,0,none⟩=some (Value.int .i64 m.k)∧w'.cell? ⟨x,1,none⟩=some (Value.int .i64 m.c)∧w'.cell? ⟨x,2,none⟩=some (Value.int .i64 m.s)∧w'.cell? ⟨x,3,none⟩=some (Value.int .i64 m.f)∧w'.cell? ⟨x,4,none⟩=some (Value.int .i64 m.a)∧w'.cell? ⟨x,5,none⟩=some (Value.int .u32 (m.w:Nat))∧w'.cell? ⟨x,6,none⟩=some (Value.int .i64 m.n)∧w'.cell? ⟨x,7,none⟩=some (Value.bool m.h)∧w'.cell? ⟨x,8,none⟩=some (Value.slice d m.l c)) (by kernel_rfl) HS0 (fun _=>?_)
   refine al (i:=0) (v:=ac x 6) ?_
   refine al (i:=1) (v:=Value.int .i64 m.n) ?_
   refine al (i:=2) (v:=Value.bool false) ?_
   refine al (i:=3) (v:=Value.bool false) ?_
   refine al (i:=4) (v:=ac x 6) ?_
   refine al (i:=5) (v:=Value.int .i64 m.n) ?_
   refine al (i:=6) (v:=Value.agg (aj m m.c d c)) ?_
   refine aE (i:=7) 69 #[Value.agg (aj m m.c d c)] (by kernel_rfl) rfl (by kernel_rfl) (by go_simp) ?_
   refine hGG.mono ?_
   rintro r w2 ⟨rfl,b2⟩
   clear hGG
   have HS2:=HSS.out w2 ((Below.drew (Below.refl wa.heap.size wa)).trans b2)
   refine⟨_,rfl,HS2,?_⟩
   refine al (i:=8) (v:=Value.bool false) ?_
   refine al (i:=9) (v:=Value.bool false) ?_
   refine aF (a':={ tmps:=#[ac X 0,Value.agg (aj m m.c d c),undef,ac x 0,Value.int .i64 0,undef,undef,ac x 0,Value.int .i64 m.k,Value.bool false,Value.bool false,Value.bool false,undef,undef,undef,undef,undef,undef,undef,Value.bool true,Value.bool true,undef,undef,ac x 6,Value.int .i64 m.n,Value.bool false,Value.bool false,ac x 6,Value.int .i64 m.n,Value.agg (aj m m.c d c),Value.int .i64 G,Value.bool false,Value.bool false],defers:=[] }) (l':=#[true,true,true,true,true,true,true,true,true,true]) (by kernel_rfl) (by kernel_rfl) ?_
   refine wpAnyH_done (by kernel_rfl) ?_ _
   have HF:Hid (Below w.heap.size w w2):=HBd.out.trans (b2.mono HBd.out.size)
   clear HS2 b2
   go_wp2_with fail
   go_ret
   exact⟨rfl,HF.out⟩
theorem zK (X:Nat) (m:Mv) (d:Option Addr) (c:Nat) (w:World) (h3:(m.k == 3)=false) (h4:(m.k == 4)=false) (h5:(m.k == 5)=false) (h7:(m.k == 7)=true):Calls prog 49 #[ac X 0,.agg (aj m m.c d c)] w fun r w'=>r=.returned (.int .i64 (if m.n<0∨uq m<m.n then 2 else 0))∧Hid (Below w.heap.size w w'):=by
 have kA:=aC w (.cells (aj m m.c d c) 51)
 have bA:=aJ (Below.refl _ w) (.cells (aj m m.c d c) 51)
 obtain⟨wa,hwa⟩:∃ y,w.alloc (.cells (aj m m.c d c) 51)=y:=⟨_,rfl⟩
 rw[hwa]at kA bA
 obtain⟨x,hx⟩:∃ y,w.heap.size=y:=⟨_,rfl⟩
 have HB:Hid (Below w.heap.size w wa):=bA
 have HS:Hid (w.heap.size=x):=hx
 rw[hx]at kA
 have q0:wa.cell? ⟨x,0,none⟩=some (.int .i64 m.k):=ae wa x 0 _ _ _ kA
 have q1:wa.cell? ⟨x,1,none⟩=some (.int .i64 m.c):=ae wa x 1 _ _ _ kA
 have q2:wa.cell? ⟨x,2,none⟩=some (.int .i64 m.s):=ae wa x 2 _ _ _ kA
 have q3:wa.cell? ⟨x,3,none⟩=some (.int .i64 m.f):=ae wa x 3 _ _ _ kA
 have q4:wa.cell? ⟨x,4,none⟩=some (.int .i64 m.a):=ae wa x 4 _ _ _ kA
 have q5:wa.cell? ⟨x,5,none⟩=some (.int .u32 (m.w:Nat)):=ae wa x 5 _ _ _ kA
 have q6:wa.cell? ⟨x,6,none⟩=some (.int .i64 m.n):=ae wa x 6 _ _ _ kA
 have q7:wa.cell? ⟨x,7,none⟩=some (.bool m.h):=ae wa x 7 _ _ _ kA
 have q8:wa.cell? ⟨x,8,none⟩=some (.slice d m.l c):=ae wa x 8 _ _ _ kA
 have hS:∀ w',Below wa.heap.size wa w'→w'.cell? ⟨x,0,none⟩=some (Value.int .i64 m.k)∧w'.cell? ⟨x,1,none⟩=some (Value.int .i64 m.c)∧w'.cell? ⟨x,2,none⟩=some (Value.int .i64 m.s)∧w'.cell? ⟨x,3,none⟩=some (Value.int .i64 m.f)∧w'.cell? ⟨x,4,none⟩=some (Value.int .i64 m.a)∧w'.cell? ⟨x,5,none⟩=some (Value.int .u32 (m.w:Nat))∧w'.cell? ⟨x,6,none⟩=some (Value.int .i64 m.n)∧w'.cell? ⟨x,7,none⟩=some (Value.bool m.h)∧w'.cell? ⟨x,8,none⟩=some (Value.slice d m.l c):=fun w' b=>⟨ag q0 b,ag q1 b,ag q2 b,ag q3 b,ag q4 b,ag q5 b,ag q6 b,ag q7 b,ag q8 b⟩
 have HS0:=hS wa.drew (Below.drew (Below.refl _ _))
 have HSS:Hid (_):=hS
 have HBd:Hid (Below w.heap.size w wa.drew):=Below.drew bA
 have hGG:=iP m d c wa.drew
 obtain⟨G,hG⟩:∃ z,uq m=z:=⟨_,rfl⟩
 rw[hG]at hGG ⊢
 have HE:Hid (_=wa):=hwa
 clear kA hwa hx
 clear bA hS hG
 by_cases n0:m.n<0
 ·rw[if_pos (.inl n0)]
  go_enter func49,ntmps49
  go_upto_region 1 with fail
  rw[HE.out,HS.out]
  go_upto_region 9 with fail
  refine wp_region_held_drew (S:=fun w'=>w'.cell? ⟨x,0,none⟩=some (Value.int .i64 m.k)∧w'.cell? ⟨x,1,none⟩=some (Value.int .i64 m.c)∧w'.cell? ⟨x,2,none⟩=some (Value.int .i64 m.s)∧w'.cell? ⟨x,3,none⟩=some (Value.int .i64 m.f)∧w'.cell? ⟨x,4,none⟩=some (Value.int .i64 m.a)∧w'.cell? ⟨x,5,none⟩=some (Value.int .u32 (m.w:Nat))∧w'.cell? ⟨x,6,none⟩=some (Value.int .i64 m.n)∧w'.cell? ⟨x,7,none⟩=some (Value.bool m.h)∧w'.cell? ⟨x,8,none⟩=some (Value.slice d m.l c)) (by kernel_rfl) HS0 (fun _=>?_)
  refine al (i:=0) (v:=ac x 6) ?_
  refine al (i:=1) (v:=Value.int .i64 m.n) ?_
  refine al (i:=2) (v:=Value.bool true) ?_
  refine al (i:=3) (v:=Value.bool true) ?_
  refine wpAnyH_take (i:=4) (v:=undef) rfl (by kernel_rfl) (by kernel_rfl) (by kernel_rfl) (fun _ _ _ h=>h) (Or.inr ⟨by kernel_rfl,rfl⟩) (by assumption) ?_
  refine wpAnyH_take (i:=5) (v:=undef) rfl (by kernel_rfl) (by kernel_rfl) (by kernel_rfl) (fun _ _ _ h=>h) (Or.inr ⟨by kernel_rfl,rfl⟩) (by assumption) ?_
  refine wpAnyH_take (i:=6) (v:=undef) rfl (by kernel_rfl) (by kernel_rfl) (by kernel_rfl) (fun _ _ _ h=>h) (Or.inr ⟨by kernel_rfl,rfl⟩) (by assumption) ?_
  refine wpAnyH_take (i:=7) (v:=undef) rfl (by kernel_rfl) (by kernel_rfl) (by kernel_rfl) (fun _ _ _ h=>h) (Or.inr ⟨by kernel_rfl,rfl⟩) (by assumption) ?_
  refine wpAnyH_take (i:=8) (v:=undef) rfl (by kernel_rfl) (by kernel_rfl) (by kernel_rfl) (fun _ _ _ h=>h) (Or.inr ⟨by kernel_rfl,rfl⟩) (by assumption) ?_
  refine al (i:=9) (v:=Value.bool true) ?_
  refine aF (a':={ tmps:=#[ac X 0,Value.agg (aj m m.c d c),undef,ac x 0,Value.int .i64 0,undef,undef,ac x 0,Value.int .i64 m.k,Value.bool false,Value.bool false,Value.bool false,undef,undef,undef,undef,undef,undef,undef,Value.bool true,Value.bool false,Value.bool true,undef,ac x 6,Value.int .i64 m.n,Value.bool true,Value.bool true,undef,undef,undef,undef,undef,Value.bool true],defers:=[] }) (l':=#[true,true,true,true,true,true,true,true,true,true]) (by kernel_rfl) (by kernel_rfl) ?_
  refine wpAnyH_done (by kernel_rfl) ?_ _
  go_wp2_with fail
  go_ret
  exact⟨rfl,HBd.out⟩
 ·by_cases n1:G<m.n
  ·rw[if_pos (.inr n1)]
   have n1':m.n > G:=n1
   go_enter func49,ntmps49
   go_upto_region 1 with fail
   rw[HE.out,HS.out]
   go_upto_region 9 with fail
   refine wp_region_held_drew (S:=fun w'=>w'.cell? ⟨x,0,none⟩=some (Value.int .i64 m.k)∧w'.cell? ⟨x,1,none⟩=some (Value.int .i64 m.c)∧w'.cell? ⟨x,2,none⟩=some (Value.int .i64 m.s)∧w'.cell? ⟨x,3,none⟩=some (Value.int .i64 m.f)∧w'.cell? ⟨x,4,none⟩=some (Value.int .i64 m.a)∧w'.cell? ⟨x,5,none⟩=some (Value.int .u32 (m.w:Nat))∧w'.cell? ⟨x,6,none⟩=some (Value.int .i64 m.n)∧w'.cell? ⟨x,7,none⟩=some (Value.bool m.h)∧w'.cell? ⟨x,8,none⟩=some (Value.slice d m.l c)) (by kernel_rfl) HS0 (fun _=>?_)
   refine al (i:=0) (v:=ac x 6) ?_
   refine al (i:=1) (v:=Value.int .i64 m.n) ?_
   refine al (i:=2) (v:=Value.bool false) ?_
   refine al (i:=3) (v:=Value.bool false) ?_
   refine al (i:=4) (v:=ac x 6) ?_
   refine al (i:=5) (v:=Value.int .i64 m.n) ?_
   refine al (i:=6) (v:=Value.agg (aj m m.c d c)) ?_
   refine aE (i:=7) 69 #[Value.agg (aj m m.c d c)] (by kernel_rfl) rfl (by kernel_rfl) (by go_simp) ?_
   refine hGG.mono ?_
   rintro r w2 ⟨rfl,b2⟩
   clear hGG
   have HS2:=HSS.out w2 ((Below.drew (Below.refl wa.heap.size wa)).trans b2)
   refine⟨_,rfl,HS2,?_⟩
   refine al (i:=8) (v:=Value.bool true) ?_
   refine al (i:=9) (v:=Value.bool true) ?_
   refine aF (a':={ tmps:=#[ac X 0,Value.agg (aj m m.c d c),undef,ac x 0,Value.int .i64 0,undef,undef,ac x 0,Value.int .i64 m.k,Value.bool false,Value.bool false,Value.bool false,undef,undef,undef,undef,undef,undef,undef,Value.bool true,Value.bool false,Value.bool true,undef,ac x 6,Value.int .i64 m.n,Value.bool false,Value.bool false,ac x 6,Value.int .i64 m.n,Value.agg (aj m m.c d c),Value.int .i64 G,Value.bool true,Value.bool true],defers:=[] }) (l':=#[true,true,true,true,true,true,true,true,true,true]) (by kernel_rfl) (by kernel_rfl) ?_
   refine wpAnyH_done (by kernel_rfl) ?_ _
   have HF:Hid (Below w.heap.size w w2):=HBd.out.trans (b2.mono HBd.out.size)
   clear HS2 b2
   go_wp2_with fail
   go_ret
   exact⟨rfl,HF.out⟩
  ·rw[if_neg (fun q=>q.elim n0 n1)]
   have n1':¬ (m.n > G):=n1
   go_enter func49,ntmps49
   go_upto_region 1 with fail
   rw[HE.out,HS.out]
   go_upto_region 9 with fail
   refine wp_region_held_drew (S:=fun w'=>w'.cell? ⟨x,0,none⟩=some (Value.int .i64 m.k)∧w'.cell? ⟨x,1,none⟩=some (Value.int .i64 m.c)∧w'.cell? ⟨x,2,none⟩=some (Value.int .i64 m.s)∧w'.cell? ⟨x,3,none⟩=some (Value.int .i64 m.f)∧w'.cell? ⟨x,4,none⟩=some (Value.int .i64 m.a)∧w'.cell? ⟨x,5,none⟩=some (Value.int .u32 (m.w:Nat))∧w'.cell? ⟨x,6,none⟩=some (Value.int .i64 m.n)∧w'.cell? ⟨x,7,none⟩=some (Value.bool m.h)∧w'.cell? ⟨x,8,none⟩=some (Value.slice d m.l c)) (by kernel_rfl) HS0 (fun _=>?_)
   refine al (i:=0) (v:=ac x 6) ?_
   refine al (i:=1) (v:=Value.int .i64 m.n) ?_
   refine al (i:=2) (v:=Value.bool false) ?_
   refine al (i:=3) (v:=Value.bool false) ?_
   refine al (i:=4) (v:=ac x 6) ?_
   refine al (i:=5) (v:=Value.int .i64 m.n) ?_
   refine al (i:=6) (v:=Value.agg (aj m m.c d c)) ?_
   refine aE (i:=7) 69 #[Value.agg (aj m m.c d c)] (by kernel_rfl) rfl (by kernel_rfl) (by go_simp) ?_
   refine hGG.mono ?_
   rintro r w2 ⟨rfl,b2⟩
   clear hGG
   have HS2:=HSS.out w2 ((Below.drew (Below.refl wa.heap.size wa)).trans b2)
   refine⟨_,rfl,HS2,?_⟩
   refine al (i:=8) (v:=Value.bool false) ?_
   refine al (i:=9) (v:=Value.bool false) ?_
   refine aF (a':={ tmps:=#[ac X 0,Value.agg (aj m m.c d c),undef,ac x 0,Value.int .i64 0,undef,undef,ac x 0,Value.int .i64 m.k,Value.bool false,Value.bool false,Value.bool false,undef,undef,undef,undef,undef,undef,undef,Value.bool true,Value.bool false,Value.bool true,undef,ac x 6,Value.int .i64 m.n,Value.bool false,Value.bool false,ac x 6,Value.int .i64 m.n,Value.agg (aj m m.c d c),Value.int .i64 G,Value.bool false,Value.bool false],defers:=[] }) (l':=#[true,true,true,true,true,true,true,true,true,true]) (by kernel_rfl) (by kernel_rfl) ?_
   refine wpAnyH_done (by kernel_rfl) ?_ _
   have HF:Hid (Below w.heap.size w w2):=HBd.out.trans (b2.mono HBd.out.size)
   clear HS2 b2
   go_wp2_with fail
   go_ret
   exact⟨rfl,HF.out⟩
theorem zF (X:Nat) (m:Mv) (d:Option Addr) (c:Nat) (w:World) (h3:(m.k == 3)=false) (h4:(m.k == 4)=false) (h5:(m.k == 5)=false) (h7:(m.k == 7)=false) (h8:(m.k == 8)=true):Calls prog 49 #[ac X 0,.agg (aj m m.c d c)] w fun r w'=>r=.returned (.int .i64 (if m.n<0∨uq m<m.n then 2 else 0))∧Hid (Below w.heap.size w w'):=by
 have kA:=aC w (.cells (aj m m.c d c) 51)
 have bA:=aJ (Below.refl _ w) (.cells (aj m m.c d c) 51)
 obtain⟨wa,hwa⟩:∃ y,w.alloc (.cells (aj m m.c d c) 51)=y:=⟨_,rfl⟩
 rw[hwa]at kA bA
 obtain⟨x,hx⟩:∃ y,w.heap.size=y:=⟨_,rfl⟩
 have HB:Hid (Below w.heap.size w wa):=bA
 have HS:Hid (w.heap.size=x):=hx
 rw[hx]at kA
 have q0:wa.cell? ⟨x,0,none⟩=some (.int .i64 m.k):=ae wa x 0 _ _ _ kA
 have q1:wa.cell? ⟨x,1,none⟩=some (.int .i64 m.c):=ae wa x 1 _ _ _ kA
 have q2:wa.cell? ⟨x,2,none⟩=some (.int .i64 m.s):=ae wa x 2 _ _ _ kA
 have q3:wa.cell? ⟨x,3,none⟩=some (.int .i64 m.f):=ae wa x 3 _ _ _ kA
 have q4:wa.cell? ⟨x,4,none⟩=some (.int .i64 m.a):=ae wa x 4 _ _ _ kA
 have q5:wa.cell? ⟨x,5,none⟩=some (.int .u32 (m.w:Nat)):=ae wa x 5 _ _ _ kA
 have q6:wa.cell? ⟨x,6,none⟩=some (.int .i64 m.n):=ae wa x 6 _ _ _ kA
 have q7:wa.cell? ⟨x,7,none⟩=some (.bool m.h):=ae wa x 7 _ _ _ kA
 have q8:wa.cell? ⟨x,8,none⟩=some (.slice d m.l c):=ae wa x 8 _ _ _ kA
 have hS:∀ w',Below wa.heap.size wa w'→w'.cell? ⟨x,0,none⟩=some (Value.int .i64 m.k)∧w'.cell? ⟨x,1,none⟩=some (Value.int .i64 m.c)∧w'.cell? ⟨x,2,none⟩=some (Value.int .i64 m.s)∧w'.cell? ⟨x,3,none⟩=some (Value.int .i64 m.f)∧w'.cell? ⟨x,4,none⟩=some (Value.int .i64 m.a)∧w'.cell? ⟨x,5,none⟩=some (Value.int .u32 (m.w:Nat))∧w'.cell? ⟨x,6,none⟩=some (Value.int .i64 m.n)∧w'.cell? ⟨x,7,none⟩=some (Value.bool m.h)∧w'.cell? ⟨x,8,none⟩=some (Value.slice d m.l c):=fun w' b=>⟨ag q0 b,ag q1 b,ag q2 b,ag q3 b,ag q4 b,ag q5 b,ag q6 b,ag q7 b,ag q8 b⟩
 have HS0:=hS wa.drew (Below.drew (Below.refl _ _))
 have HSS:Hid (_):=hS
 have HBd:Hid (Below w.heap.size w wa.drew):=Below.drew bA
 have hGG:=iP m d c wa.drew
 obtain⟨G,hG⟩:∃ z,uq m=z:=⟨_,rfl⟩
 rw[hG]at hGG ⊢
 have HE:Hid (_=wa):=hwa
 clear kA hwa hx
 clear bA hS hG
 by_cases n0:m.n<0
 ·rw[if_pos (.inl n0)]
  go_enter func49,ntmps49
  go_upto_region 1 with fail
  rw[HE.out,HS.out]
  go_upto_region 9 with fail
  refine wp_region_held_drew (S:=fun w'=>w'.cell? ⟨x,0,none⟩=some (Value.int .i64 m.k)∧w'.cell? ⟨x,1,none⟩=some (Value.int .i64 m.c)∧w'.cell? ⟨x,2,none⟩=some (Value.int .i64 m.s)∧w'.cell? ⟨x,3,none⟩=some (Value.int .i64 m.f)∧w'.cell? ⟨x,4,none⟩=some (Value.int .i64 m.a)∧w'.cell? ⟨x,5,none⟩=some (Value.int .u32 (m.w:Nat))∧w'.cell? ⟨x,6,none⟩=some (Value.int .i64 m.n)∧w'.cell? ⟨x,7,none⟩=some (Value.bool m.h)∧w'.cell? ⟨x,8,none⟩=some (Value.slice d m.l c)) (by kernel_rfl) HS0 (fun _=>?_)
  refine al (i:=0) (v:=ac x 6) ?_
  refine al (i:=1) (v:=Value.int .i64 m.n) ?_
  refine al (i:=2) (v:=Value.bool true) ?_
  refine al (i:=3) (v:=Value.bool true) ?_
  refine wpAnyH_take (i:=4) (v:=undef) rfl (by kernel_rfl) (by kernel_rfl) (by kernel_rfl) (fun _ _ _ h=>h) (Or.inr ⟨by kernel_rfl,rfl⟩) (by assumption) ?_
  refine wpAnyH_take (i:=5) (v:=undef) rfl (by kernel_rfl) (by kernel_rfl) (by kernel_rfl) (fun _ _ _ h=>h) (Or.inr ⟨by kernel_rfl,rfl⟩) (by assumption) ?_
  refine wpAnyH_take (i:=6) (v:=undef) rfl (by kernel_rfl) (by kernel_rfl) (by kernel_rfl) (fun _ _ _ h=>h) (Or.inr ⟨by kernel_rfl,rfl⟩) (by assumption) ?_
  refine wpAnyH_take (i:=7) (v:=undef) rfl (by kernel_rfl) (by kernel_rfl) (by kernel_rfl) (fun _ _ _ h=>h) (Or.inr ⟨by kernel_rfl,rfl⟩) (by assumption) ?_
  refine wpAnyH_take (i:=8) (v:=undef) rfl (by kernel_rfl) (by kernel_rfl) (by kernel_rfl) (fun _ _ _ h=>h) (Or.inr ⟨by kernel_rfl,rfl⟩) (by assumption) ?_
  refine al (i:=9) (v:=Value.bool true) ?_
  refine aF (a':={ tmps:=#[ac X 0,Value.agg (aj m m.c d c),undef,ac x 0,Value.int .i64 0,undef,undef,ac x 0,Value.int .i64 m.k,Value.bool false,Value.bool false,Value.bool false,undef,undef,undef,undef,undef,undef,undef,Value.bool true,Value.bool false,Value.bool false,Value.bool true,ac x 6,Value.int .i64 m.n,Value.bool true,Value.bool true,undef,undef,undef,undef,undef,Value.bool true],defers:=[] }) (l':=#[true,true,true,true,true,true,true,true,true,true]) (by kernel_rfl) (by kernel_rfl) ?_
  refine wpAnyH_done (by kernel_rfl) ?_ _
  go_wp2_with fail
  go_ret
  exact⟨rfl,HBd.out⟩
 ·by_cases n1:G<m.n
  ·rw[if_pos (.inr n1)]
   have n1':m.n > G:=n1
   go_enter func49,ntmps49
   go_upto_region 1 with fail
   rw[HE.out,HS.out]
   go_upto_region 9 with fail
   refine wp_region_held_drew (S:=fun w'=>w'.cell? ⟨x,0,none⟩=some (Value.int .i64 m.k)∧w'.cell? ⟨x,1,none⟩=some (Value.int .i64 m.c)∧w'.cell? ⟨x,2,none⟩=some (Value.int .i64 m.s)∧w'.cell? ⟨x,3,none⟩=some (Value.int .i64 m.f)∧w'.cell? ⟨x,4,none⟩=some (Value.int .i64 m.a)∧w'.cell? ⟨x,5,none⟩=some (Value.int .u32 (m.w:Nat))∧w'.cell? ⟨x,6,none⟩=some (Value.int .i64 m.n)∧w'.cell? ⟨x,7,none⟩=some (Value.bool m.h)∧w'.cell? ⟨x,8,none⟩=some (Value.slice d m.l c)) (by kernel_rfl) HS0 (fun _=>?_)
   refine al (i:=0) (v:=ac x 6) ?_
   refine al (i:=1) (v:=Value.int .i64 m.n) ?_
   refine al (i:=2) (v:=Value.bool false) ?_
   refine al (i:=3) (v:=Value.bool false) ?_
   refine al (i:=4) (v:=ac x 6) ?_
   refine al (i:=5) (v:=Value.int .i64 m.n) ?_
   refine al (i:=6) (v:=Value.agg (aj m m.c d c)) ?_
   refine aE (i:=7) 69 #[Value.agg (aj m m.c d c)] (by kernel_rfl) rfl (by kernel_rfl) (by go_simp) ?_
   refine hGG.mono ?_
   rintro r w2 ⟨rfl,b2⟩
   clear hGG
   have HS2:=HSS.out w2 ((Below.drew (Below.refl wa.heap.size wa)).trans b2)
   refine⟨_,rfl,HS2,?_⟩
   refine al (i:=8) (v:=Value.bool true) ?_
   refine al (i:=9) (v:=Value.bool true) ?_
   refine aF (a':={ tmps:=#[ac X 0,Value.agg (aj m m.c d c),undef,ac x 0,Value.int .i64 0,undef,undef,ac x 0,Value.int .i64 m.k,Value.bool false,Value.bool false,Value.bool false,undef,undef,undef,undef,undef,undef,undef,Value.bool true,Value.bool false,Value.bool false,Value.bool true,ac x 6,Value.int .i64 m.n,Value.bool false,Value.bool false,ac x 6,Value.int .i64 m.n,Value.agg (aj m m.c d c),Value.int .i64 G,Value.bool true,Value.bool true],defers:=[] }) (l':=#[true,true,true,true,true,true,true,true,true,true]) (by kernel_rfl) (by kernel_rfl) ?_
   refine wpAnyH_done (by kernel_rfl) ?_ _
   have HF:Hid (Below w.heap.size w w2):=HBd.out.trans (b2.mono HBd.out.size)
   clear HS2 b2
   go_wp2_with fail
   go_ret
   exact⟨rfl,HF.out⟩
  ·rw[if_neg (fun q=>q.elim n0 n1)]
   have n1':¬ (m.n > G):=n1
   go_enter func49,ntmps49
   go_upto_region 1 with fail
   rw[HE.out,HS.out]
   go_upto_region 9 with fail
   refine wp_region_held_drew (S:=fun w'=>w'.cell? ⟨x,0,none⟩=some (Value.int .i64 m.k)∧w'.cell? ⟨x,1,none⟩=some (Value.int .i64 m.c)∧w'.cell? ⟨x,2,none⟩=some (Value.int .i64 m.s)∧w'.cell? ⟨x,3,none⟩=some (Value.int .i64 m.f)∧w'.cell? ⟨x,4,none⟩=some (Value.int .i64 m.a)∧w'.cell? ⟨x,5,none⟩=some (Value.int .u32 (m.w:Nat))∧w'.cell? ⟨x,6,none⟩=some (Value.int .i64 m.n)∧w'.cell? ⟨x,7,none⟩=some (Value.bool m.h)∧w'.cell? ⟨x,8,none⟩=some (Value.slice d m.l c)) (by kernel_rfl) HS0 (fun _=>?_)
   refine al (i:=0) (v:=ac x 6) ?_
   refine al (i:=1) (v:=Value.int .i64 m.n) ?_
   refine al (i:=2) (v:=Value.bool false) ?_
   refine al (i:=3) (v:=Value.bool false) ?_
   refine al (i:=4) (v:=ac x 6) ?_
   refine al (i:=5) (v:=Value.int .i64 m.n) ?_
   refine al (i:=6) (v:=Value.agg (aj m m.c d c)) ?_
   refine aE (i:=7) 69 #[Value.agg (aj m m.c d c)] (by kernel_rfl) rfl (by kernel_rfl) (by go_simp) ?_
   refine hGG.mono ?_
   rintro r w2 ⟨rfl,b2⟩
   clear hGG
   have HS2:=HSS.out w2 ((Below.drew (Below.refl wa.heap.size wa)).trans b2)
   refine⟨_,rfl,HS2,?_⟩
   refine al (i:=8) (v:=Value.bool false) ?_
   refine al (i:=9) (v:=Value.bool false) ?_
   refine aF (a':={ tmps:=#[ac X 0,Value.agg (aj m m.c d c),undef,ac x 0,Value.int .i64 0,undef,undef,ac x 0,Value.int .i64 m.k,Value.bool false,Value.bool false,Value.bool false,undef,undef,undef,undef,undef,undef,undef,Value.bool true,Value.bool false,Value.bool false,Value.bool true,ac x 6,Value.int .i64 m.n,Value.bool false,Value.bool false,ac x 6,Value.int .i64 m.n,Value.agg (aj m m.c d c),Value.int .i64 G,Value.bool false,Value.bool false],defers:=[] }) (l':=#[true,true,true,true,true,true,true,true,true,true]) (by kernel_rfl) (by kernel_rfl) ?_
   refine wpAnyH_done (by kernel_rfl) ?_ _
   have HF:Hid (Below w.heap.size w w2):=HBd.out.trans (b2.mono HBd.out.size)
   clear HS2 b2
   go_wp2_with fail
   go_ret
   exact⟨rfl,HF.out⟩
theorem kX (K:Int) (X b:Nat) (m:Mv) (d:Option Addr) (c:Nat) (f:Fm) (w:World) (Z:Option Addr→Nat→World→Prop)
  (cb:w.cell? ⟨X,4,none⟩=some (ac b 0))
  (hG:∀ wx,m.k=4→Below w.heap.size w wx→Calls prog 85 #[ac b 0,.int .i64 m.f,.int .i64 m.a,.int .u32 (m.w:Nat)] wx fun r w'=>∃ a cap,r=.returned (.tuple #[.slice a f.1 cap,.int .i64 K])∧Z a cap w'∧Below wx.heap.size wx w')
  (hT:∀ wx,m.k≠4→Below w.heap.size w wx→Calls prog 86 #[ac b 0,.int .i64 m.f] wx fun r w'=>∃ a cap,r=.returned (.tuple #[.slice a f.1 cap,.int .i64 K])∧Z a cap w'∧Below wx.heap.size wx w') :
  Calls prog 68 #[ac X 0,.agg (aj m m.c d c)] w fun r w'=>∃ a cap,r=.returned (.tuple #[.slice a f.1 cap,.int .i64 K])∧Hid (Z a cap w'):=by
 have kA:=aC w (.cells (aj m m.c d c) 51)
 have bA:=aJ (Below.refl _ w) (.cells (aj m m.c d c) 51)
 obtain⟨wa,hwa⟩:∃ y,w.alloc (.cells (aj m m.c d c) 51)=y:=⟨_,rfl⟩
 rw[hwa]at kA bA
 obtain⟨x,hx⟩:∃ y,w.heap.size=y:=⟨_,rfl⟩
 have kB:wa.heap[x]?=some (.cells (aj m m.c d c) 51 (0,0)):=by
  rw[← hx]
  exact kA
 have bd:Below wa.heap.size wa wa.drew:=Below.drew (Below.refl _ _)
 have q0:wa.cell? ⟨x,0,none⟩=some (.int .i64 m.k):=ae wa x 0 _ _ _ kB
 have hs:∀ wx,Below wa.heap.size wa wx→wx.cell? ⟨X,4,none⟩=some (ac b 0)∧wx.cell? ⟨x,3,none⟩=some (Value.int .i64 m.f)∧wx.cell? ⟨x,4,none⟩=some (Value.int .i64 m.a)∧wx.cell? ⟨x,5,none⟩=some (Value.int .u32 (m.w:Nat)):=fun wx bx=>⟨ag (ag cb bA) bx,ag (ae wa x 3 _ _ _ kB) bx,ag (ae wa x 4 _ _ _ kB) bx,ag (ae wa x 5 _ _ _ kB) bx⟩
 have HSx:=hs wa.drew bd
 have hG:m.k=4→Calls prog 85 #[ac b 0,.int .i64 m.f,.int .i64 m.a,.int .u32 (m.w:Nat)] wa.drew fun r w'=>∃ a cap,r=.returned (.tuple #[.slice a f.1 cap,.int .i64 K])∧Hid (Hid (Z a cap w')∧w'.cell? ⟨X,4,none⟩=some (ac b 0)∧w'.cell? ⟨x,3,none⟩=some (Value.int .i64 m.f)∧w'.cell? ⟨x,4,none⟩=some (Value.int .i64 m.a)∧w'.cell? ⟨x,5,none⟩=some (Value.int .u32 (m.w:Nat))):=fun hk=>by
  refine (hG wa.drew hk (bA.trans (bd.mono bA.size))).mono ?_
  rintro r w' ⟨a,cap,rfl,hz,b2⟩
  exact⟨a,cap,rfl,hz,hs w' (bd.trans (b2.mono bd.size))⟩
 have hT:m.k≠4→Calls prog 86 #[ac b 0,.int .i64 m.f] wa.drew fun r w'=>∃ a cap,r=.returned (.tuple #[.slice a f.1 cap,.int .i64 K])∧Hid (Hid (Z a cap w')∧w'.cell? ⟨X,4,none⟩=some (ac b 0)∧w'.cell? ⟨x,3,none⟩=some (Value.int .i64 m.f)∧w'.cell? ⟨x,4,none⟩=some (Value.int .i64 m.a)∧w'.cell? ⟨x,5,none⟩=some (Value.int .u32 (m.w:Nat))):=fun hk=>by
  refine (hT wa.drew hk (bA.trans (bd.mono bA.size))).mono ?_
  rintro r w' ⟨a,cap,rfl,hz,b2⟩
  exact⟨a,cap,rfl,hz,hs w' (bd.trans (b2.mono bd.size))⟩
 have HE:Hid (_=wa):=hwa
 have HS:Hid (_=x):=hx
 clear kA kB bA bd hs hwa hx cb
 obtain⟨fl,fb⟩:=f
 by_cases hk:m.k=4
 ·have hG:=hG hk
  have q:(m.k == 4)=true:=by simpa using hk
  clear hT hk
  go_enter func68,ntmps68
  go_upto_region 1 with fail
  rw[HE.out,HS.out]
  go_wp2_with fail
  refine wp_region_held_drew (S:=fun w'=>w'.cell? ⟨X,4,none⟩=some (ac b 0)∧w'.cell? ⟨x,3,none⟩=some (Value.int .i64 m.f)∧w'.cell? ⟨x,4,none⟩=some (Value.int .i64 m.a)∧w'.cell? ⟨x,5,none⟩=some (Value.int .u32 (m.w:Nat))) (by kernel_rfl) HSx (fun _=>?_)
  refine al (i:=0) (v:=ac X 0) ?_
  refine al (i:=1) (v:=ac X 0) ?_
  refine al (i:=2) (v:=ac X 4) ?_
  refine al (i:=3) (v:=ac b 0) ?_
  refine al (i:=4) (v:=ac x 3) ?_
  refine al (i:=5) (v:=Value.int .i64 m.f) ?_
  refine al (i:=6) (v:=ac x 4) ?_
  refine al (i:=7) (v:=Value.int .i64 m.a) ?_
  refine al (i:=8) (v:=ac x 5) ?_
  refine al (i:=9) (v:=Value.int .u32 (m.w:Nat)) ?_
  refine aE (i:=10) 85 #[ac b 0,Value.int .i64 m.f,Value.int .i64 m.a,Value.int .u32 (m.w:Nat)] (by kernel_rfl) rfl (by kernel_rfl) (by go_simp) ?_
  refine hG.mono ?_
  rintro r w3 ⟨a,cap,rfl,H3⟩
  have HSy:w3.cell? ⟨X,4,none⟩=some (ac b 0)∧w3.cell? ⟨x,3,none⟩=some (Value.int .i64 m.f)∧w3.cell? ⟨x,4,none⟩=some (Value.int .i64 m.a)∧w3.cell? ⟨x,5,none⟩=some (Value.int .u32 (m.w:Nat)):=H3.out.2
  refine⟨_,rfl,HSy,?_⟩
  refine al (i:=11) (v:=Value.slice a fl cap) ?_
  refine al (i:=12) (v:=Value.int .i64 K) ?_
  refine al (i:=13) (v:=Value.slice a fl cap) ?_
  refine al (i:=14) (v:=Value.int .i64 K) ?_
  refine wpAnyH_done (by kernel_rfl) ?_ _
  clear HSx HSy
  go_wp2_with fail
  go_ret2
  exact⟨a,cap,by kernel_rfl,H3.out.1⟩
 ·have hT:=hT hk
  have q:(m.k == 4)=false:=by simpa using hk
  clear hG hk
  go_enter func68,ntmps68
  go_upto_region 1 with fail
  rw[HE.out,HS.out]
  go_wp2_with fail
  refine wp_region_held_drew (S:=fun w'=>w'.cell? ⟨X,4,none⟩=some (ac b 0)∧w'.cell? ⟨x,3,none⟩=some (Value.int .i64 m.f)∧w'.cell? ⟨x,4,none⟩=some (Value.int .i64 m.a)∧w'.cell? ⟨x,5,none⟩=some (Value.int .u32 (m.w:Nat))) (by kernel_rfl) HSx (fun _=>?_)
  refine al (i:=0) (v:=ac X 0) ?_
  refine al (i:=1) (v:=ac X 0) ?_
  refine al (i:=2) (v:=ac X 4) ?_
  refine al (i:=3) (v:=ac b 0) ?_
  refine al (i:=4) (v:=ac x 3) ?_
  refine al (i:=5) (v:=Value.int .i64 m.f) ?_
  refine aE (i:=6) 86 #[ac b 0,Value.int .i64 m.f] (by kernel_rfl) rfl (by kernel_rfl) (by go_simp) ?_
  refine hT.mono ?_
  rintro r w3 ⟨a,cap,rfl,H3⟩
  have HSy:w3.cell? ⟨X,4,none⟩=some (ac b 0)∧w3.cell? ⟨x,3,none⟩=some (Value.int .i64 m.f)∧w3.cell? ⟨x,4,none⟩=some (Value.int .i64 m.a)∧w3.cell? ⟨x,5,none⟩=some (Value.int .u32 (m.w:Nat)):=H3.out.2
  refine⟨_,rfl,HSy,?_⟩
  refine al (i:=7) (v:=Value.slice a fl cap) ?_
  refine al (i:=8) (v:=Value.int .i64 K) ?_
  refine al (i:=9) (v:=Value.slice a fl cap) ?_
  refine al (i:=10) (v:=Value.int .i64 K) ?_
  refine wpAnyH_done (by kernel_rfl) ?_ _
  clear HSx HSy
  go_wp2_with fail
  go_ret2
  exact⟨a,cap,by kernel_rfl,H3.out.1⟩
def Ws.carE (S:Ws) (m:Mv):Int:=if m.f<0∨((S.bg.length:Nat):Int)≤m.f then 151 else if m.k=4 then cy (S.bg.getD m.f.toNat dK).1 m.a m.w else 0
theorem yo (e:Nat→Nat) (w0 w:World) (t:Nat→Thing) (L:Pw) (m:Mv) (d:Option Addr) (c:Nat) (h:PW e w0 w t L) (hw:m.w<4294967296) (ha : -9223372036854775808≤m.a∧m.a<9223372036854775808) :
  Calls prog 68 #[ac L.x 0,.agg (aj m m.c d c)] w fun r w'=>∃ a n cap,r=.returned (.tuple #[.slice a n cap,.int .i64 (L.S.carE m)])∧Hid (Below w.heap.size w w'):=by
 by_cases ho:m.f<0∨((L.S.bg.length:Nat):Int)≤m.f
 ·have e1:L.S.carE m=151:=if_pos ho
  rw[e1]
  refine (kX 151 L.x L.b m d c dK w (fun a cap w'=>Below w.heap.size w w') (ae w L.x 4 _ _ _ (h.2.wb h.1).blk) (fun wx hk bx=>?_) (fun wx hk bx=>?_)).mono ?_
  ·have hp:=h.below bx
   refine (rL 0 L.b L.m L.bv L.bs L.bp L.S.bg m.f m.a m.w wx (hp.2.bg hp.1).1 ho).mono ?_
   rintro r w' ⟨rfl,rfl⟩
   exact⟨none,0,rfl,bx,Below.refl _ _⟩
  ·have hp:=h.below bx
   refine (mG 0 L.b L.m L.bv L.bs L.bp L.S.bg m.f wx (hp.2.bg hp.1).1 ho).mono ?_
   rintro r w' ⟨rfl,rfl⟩
   exact⟨none,0,rfl,bx,Below.refl _ _⟩
  ·rintro r w' ⟨a,cap,rfl,H⟩
   exact⟨a,_,cap,rfl,H⟩
 ·by_cases hb:m.k=4∧cy (((L.S.bg.getD m.f.toNat dK).1:Nat):Int) m.a m.w≠0
  ·have e1:L.S.carE m=cy (((L.S.bg.getD m.f.toNat dK).1:Nat):Int) m.a m.w:=by
    unfold Ws.carE
    rw[if_neg ho,if_pos hb.1]
   rw[e1]
   have hlt:m.f.toNat<L.S.bg.length:=by omega
   have hI:((m.f.toNat:Nat):Int)=m.f:=by omega
   obtain⟨f,hf⟩:∃ y,L.S.bg.getD m.f.toNat dK=y:=⟨_,rfl⟩
   have hg:L.S.bg[m.f.toNat]?=some f:=by
    rw[← hf,List.getD_eq_getElem?_getD,List.getElem?_eq_getElem hlt]
    rfl
   rw[hf]at hb ⊢
   refine (kX (cy ((f.1:Nat):Int) m.a m.w) L.x L.b m d c dK w (fun a cap w'=>Below w.heap.size w w') (ae w L.x 4 _ _ _ (h.2.wb h.1).blk) (fun wx hk bx=>?_) (fun wx hk bx=>absurd hb.1 hk)).mono ?_
   ·have hp:=h.below bx
    have:=rQ 0 L.b L.m L.bv L.bs L.bp L.S.bg m.f.toNat f m.a m.w wx (hp.2.bg hp.1).1 hg hw ha hb.2
    rw[hI]at this
    refine this.mono ?_
    rintro r w' ⟨rfl,H⟩
    exact⟨none,0,rfl,bx.trans (H.out.mono bx.size),H.out⟩
   ·rintro r w' ⟨a,cap,rfl,H⟩
    exact⟨a,_,cap,rfl,H⟩
  ·have e1:L.S.carE m=0:=by
    unfold Ws.carE
    rw[if_neg ho]
    by_cases z:m.k=4
    ·rw[if_pos z]
     exact Classical.byContradiction (fun q=>hb ⟨z,q⟩)
    ·rw[if_neg z]
   rw[e1]
   exact xY e w0 w t L m d c h (by omega) (by omega) hw (fun z=>Classical.byContradiction (fun q=>hb ⟨z,q⟩))
def Ws.rkE (S:Ws) (m:Mv):Int:=if m.k=3∨m.k=4 then S.carE m else if m.k=5∨m.k=7∨m.k=8 then (if m.n<0∨uq m<m.n then 2 else 0) else 0
theorem vD {S:Ws} {m:Mv} (hn:m.n≤9223372036854775807):zn S.mv S.n m (S.rkE m)=S.bad m:=by
 unfold zn Ws.bad
 by_cases q1:4096≤S.mv
 ·rw[if_pos q1,if_pos q1]
 rw[if_neg q1,if_neg q1]
 by_cases q2:m.k<1∨8<m.k
 ·rw[if_pos q2,if_pos q2]
 rw[if_neg q2,if_neg q2]
 by_cases q3:m.c<0∨((S.n:Nat):Int)≤m.c
 ·rw[if_pos q3,if_pos q3]
 rw[if_neg q3,if_neg q3]
 by_cases q4:ey m.k=true∧m.s≠1∧m.s≠2
 ·rw[if_pos q4,if_pos q4]
 rw[if_neg q4,if_neg q4]
 unfold Ws.rkE Ws.carE uq
 by_cases k3:m.k=3
 ·rw[if_pos (.inl k3),if_pos k3,if_neg (by omega:¬ m.k=4)]
 rw[if_neg k3]
 by_cases k4:m.k=4
 ·rw[if_pos (.inr k4),if_pos k4,if_pos k4]
 rw[if_neg (by omega:¬ (m.k=3∨m.k=4)),if_neg k4]
 by_cases k5:m.k=5
 ·rw[if_pos (.inl k5),if_pos k5,if_pos k5]
 rw[if_neg k5,if_neg k5]
 by_cases k7:m.k=7
 ·rw[if_pos (.inr (.inl k7)),if_pos k7]
  by_cases s1:m.s=1
  ·rw[if_pos (show m.k=7∧m.s=1 from ⟨k7,s1⟩)]
   by_cases z:m.n<0∨0<m.n
   ·rw[if_pos z,if_pos (z.elim .inl (fun q=>.inr ⟨s1,q⟩))]
   ·rw[if_neg z,if_neg (fun q=>z (q.elim .inl (fun y=>.inr y.2)))]
  ·rw[if_neg (show ¬ (m.k=7∧m.s=1) from fun q=>s1 q.2)]
   by_cases z:m.n<0
   ·rw[if_pos (.inl z),if_pos (.inl z)]
   ·rw[if_neg (by omega:¬ (m.n<0∨9223372036854775807<m.n)),if_neg (fun q=>q.elim z (fun y=>s1 y.1))]
 rw[if_neg k7]
 by_cases k8:m.k=8
 ·rw[if_pos (.inr (.inr k8)),if_pos k8,if_neg (show ¬ (m.k=7∧m.s=1) from fun q=>k7 q.1)]
  by_cases z:m.n<0
  ·rw[if_pos (.inl z),if_pos z]
  ·rw[if_neg (by omega:¬ (m.n<0∨9223372036854775807<m.n)),if_neg z]
 ·rw[if_neg (by omega:¬ (m.k=5∨m.k=7∨m.k=8)),if_neg k8]
theorem pW (e:Nat→Nat) (w0 w:World) (t:Nat→Thing) (L:Pw) (m:Mv) (d:Option Addr) (c:Nat) (h:PW e w0 w t L) (ok:m.Ok) (hn:0<L.S.n):∀ w1,Below w.heap.size w w1→Calls prog 30 #[ac L.x 0,.agg (aj m m.c d c)] w1 fun r w'=>r=.returned (.int .i64 (L.S.bad m))∧Hid (Below w1.heap.size w1 w'):=fun w1 b1=>by
 have hp:=h.below b1
 have hb:=(hp.2.wb hp.1).blk
 obtain⟨e1,_⟩:=(hp.2.wb hp.1).conn (k:=0) hn
 have cv:w1.cell? ⟨L.x,3,none⟩=some (.slice (af (fa L.vc) 0) L.S.n (gW L.vc)):=(ae w1 L.x 3 _ _ _ hb).trans (congrArg some e1)
 have:=sQ L.x L.b L.S.n (gW L.vc) L.S.mv (af (fa L.vc) 0) m d c w1 (L.S.rkE m) (ae w1 L.x 4 _ _ _ hb) (ae w1 L.x 5 _ _ _ hb) cv (fun _ _ _ _ _ _ w2 b2=>by
  have hp2:=hp.below b2
  have hc:∀ w3,Below w2.heap.size w2 w3→_:=fun w3 b3=>yo e w0 w3 t L m d c (hp2.below b3) ok.w ⟨ok.a.1,by have:=ok.a.2;omega⟩
  unfold Ws.rkE
  by_cases q3:m.k=3
  ·rw[if_pos (.inl q3)]
   exact zM L.x m d c w2 (bQ q3) _ hc
  by_cases q4:m.k=4
  ·rw[if_pos (.inr q4)]
   exact zR L.x m d c w2 (aw q3) (bQ q4) _ hc
  rw[if_neg (fun q=>q.elim q3 q4)]
  by_cases q5:m.k=5
  ·rw[if_pos (.inl q5)]
   exact zw L.x m d c w2 (aw q3) (aw q4) (bQ q5)
  by_cases q7:m.k=7
  ·rw[if_pos (.inr (.inl q7))]
   exact zK L.x m d c w2 (aw q3) (aw q4) (aw q5) (bQ q7)
  by_cases q8:m.k=8
  ·rw[if_pos (.inr (.inr q8))]
   exact zF L.x m d c w2 (aw q3) (aw q4) (aw q5) (aw q7) (bQ q8)
  rw[if_neg (fun q=>q.elim q5 (fun z=>z.elim q7 q8))]
  exact zv L.x m d c w2 (aw q3) (aw q4) (aw q5) (aw q7) (aw q8))
 rw[vD ok.n.2]at this
 exact this
theorem qi {e:Nat→Nat} {w0 w:World} {t:Nat→Thing} {L:Pw} {S:Ws} {k:Nat} (h:PWn e w0 t L w S) (hk:k<S.n) {Fn:FuncId} {u:Array Value} {E:Int} {s':Sh} (hc:∀ U,HV w (L.hd k) (S.PH k) U (S.hs k)→Calls prog Fn u w fun r w'=>r=.returned (.int .i64 E)∧Hid (∃ U',Gr U w U' w'∧HV w' (L.hd k) (S.PH k) U' s')):Calls prog Fn u w fun r w'=>r=.returned (.int .i64 E)∧Hid (PWn e w0 t L w' (S.setH k s')):=by
 obtain⟨t1,L1,h1,hs,hx,he⟩:=h
 subst hs
 have hv:=h1.2.hv h1.1 hk
 rw[hx.hd]at hv
 refine (hc _ hv).mono ?_
 rintro r w' ⟨rfl,H⟩
 exact⟨rfl,PWn.bind hx he (h1.stepH hk (by rw[hx.hd];exact H.out))⟩
theorem mP {e:Nat→Nat} {w0 w:World} {t:Nat→Thing} {L:Pw} {S:Ws} {k:Nat} (h:PWn e w0 t L w S) (hk:k<S.n) {Fn:FuncId} {u:Array Value} {E:Int} {s':Sd} (hc:∀ g U,DV w (L.dd k) (L.dm k) g 16 S.mx (S.PD k) U (S.ds k)→Calls prog Fn u w fun r w'=>r=.returned (.int .i64 E)∧Hid (∃ U',Gr U w U' w'∧DV w' (L.dd k) (L.dm k) g 16 S.mx (S.PD k) U' s')):Calls prog Fn u w fun r w'=>r=.returned (.int .i64 E)∧Hid (PWn e w0 t L w' (S.setD k s')):=by
 obtain⟨t1,L1,h1,hs,hx,he⟩:=h
 subst hs
 have dv:=h1.2.dv h1.1 hk
 rw[hx.dd,hx.dm]at dv
 refine (hc _ _ dv).mono ?_
 rintro r w' ⟨rfl,H⟩
 exact⟨rfl,PWn.bind hx he (h1.stepD hk (by rw[hx.dd,hx.dm];exact H.out))⟩
theorem iu {e:Nat→Nat} {w0 w:World} {t:Nat→Thing} {L:Pw} {S:Ws} (x:Int) (k c s ss nn:Nat) (h:PWn e w0 t L w S) (hF:S.fs.length≤100000):Calls prog 52 #[ac L.x 0,.int .i64 x,.agg #[.int .i64 (k:Nat),.int .i64 (c:Nat),.int .i64 (s:Nat),.int .u32 (ss:Nat),.int .u32 (nn:Nat),.bool false,.int .i64 0,.slice none 0 0]] w fun r w'=>r=.returned (.tuple #[])∧Hid (PWn e w0 t L w' (S.note (if x=0 then [⟨k,c,s,ss,nn,false,0,dK⟩] else []))):=by
 obtain⟨t1,L1,h1,hs,hx,he⟩:=h
 subst hs
 have:=uO e w0 w t1 L1 x k c s ss nn h1 hF
 rw[hx.x]at this
 refine this.mono ?_
 rintro r w' ⟨rfl,H⟩
 exact⟨rfl,PWn.bind hx he H.out⟩
theorem pZ {e:Nat→Nat} {w0 w:World} {t:Nat→Thing} {L:Pw} {S:Ws} (k c s ss nn:Nat) (h:PWn e w0 t L w S) (hF:S.fs.length≤100000):Calls prog 53 #[ac L.x 0,.agg #[.int .i64 (k:Nat),.int .i64 (c:Nat),.int .i64 (s:Nat),.int .u32 (ss:Nat),.int .u32 (nn:Nat),.bool false,.int .i64 0,.slice none 0 0]] w fun r w'=>r=.returned (.tuple #[])∧Hid (PWn e w0 t L w' (S.note [⟨k,c,s,ss,nn,false,0,dK⟩])):=by
 obtain⟨t1,L1,h1,hs,hx,he⟩:=h
 subst hs
 have:=jp e w0 w t1 L1 k c s ss nn h1 hF
 rw[hx.x]at this
 refine this.mono ?_
 rintro r w' ⟨rfl,H⟩
 exact⟨rfl,PWn.bind hx he H.out⟩
theorem xm {e:Nat→Nat} {w0 w:World} {t:Nat→Thing} {L:Pw} {S:Ws} (k i:Nat) (m:Mv) (d:Option Addr) (c:Nat) (h:PWn e w0 t L w S) (F:Fre e t i) (hk:k<S.n) (hs:m.s=1) (h1:m.k=1) (j:Nat) (hj:j<2*i+1) (hq:∀ q,j≠e q) (hr:t j=dn d m.l c m.b):Calls prog 32 #[ac L.x 0,.agg (aj m (k:Nat) d c)] w fun r w'=>r=.returned (.tuple #[.int .i64 (eJ (S.PH k) m.l),.int .i64 (-1)])∧Hid (PWn e w0 t L w' (S.setH k (cX (S.PH k) (S.hs k) m.l m.b m.h))):=by
 obtain⟨cv,c0,c1,c2⟩:=h.conn hk
 have i0:=F i (Nat.le_refl _)
 obtain⟨t2,ht2⟩:∃ y,aG t (2*i+1) (eZ [(w.heap.size,.cells (aj m (k:Nat) d c) 51 (0,0)),(w.heap.size+1,.cells (ay (L.hd k) (L.dd k) (L.dm k)) 79 (0,0))])=y:=⟨_,rfl⟩
 have e2:t2 (2*i+1)=eZ [(w.heap.size,.cells (aj m (k:Nat) d c) 51 (0,0)),(w.heap.size+1,.cells (ay (L.hd k) (L.dd k) (L.dm k)) 79 (0,0))]:=by rw[← ht2,ak]
 have hLay:∀ w1,Below w.heap.size w w1→w1.heap[w.heap.size]?=some (.cells (aj m (k:Nat) d c) 51 (0,0))→w1.heap[w.heap.size+1]?=some (.cells (ay (L.hd k) (L.dd k) (L.dm k)) 79 (0,0))→PWn e w0 t2 L w1 S:=fun w1 b k1 k2=>by
  rw[← ht2]
  refine h.layL b i0.1 (fun p hp=>?_) (fun p hp=>?_)
  ·simp only[List.mem_cons,List.not_mem_nil,or_false]at hp
   rcases hp with rfl | rfl
   ·exact k1
   ·exact k2
  ·simp only[List.mem_cons,List.not_mem_nil,or_false]at hp
   rcases hp with rfl | rfl
   ·exact Nat.le_refl _
   ·exact Nat.le_succ _
 have hX:∀ S2 w1,PWn e w0 t2 L w1 S2→w1.heap[w.heap.size]?=some (.cells (aj m (k:Nat) d c) 51 (0,0))∧w1.heap[w.heap.size+1]?=some (.cells (ay (L.hd k) (L.dd k) (L.dm k)) 79 (0,0)):=fun S2 w1 q=>⟨q.box i0.1 e2 _ (List.mem_cons_self ..),q.box i0.1 e2 _ (List.mem_cons_of_mem _ (List.mem_cons_self ..))⟩
 have hDrop:∀ S2 w1,PWn e w0 t2 L w1 S2→PWn e w0 t L w1 S2:=fun S2 w1 q=>by
  rw[← ht2]at q
  exact q.drop i0.1 i0.2
 have e3:t2 j=t j:=by rw[← ht2,an _ _ (by omega)]
 refine (ww L.x (fa L.vc) (gW L.vc) S.n k (L.hd k) (L.dd k) (L.dm k) m d c 75 240 (L.hd k) (eJ (S.PH k) m.l) w (fun w1 => PWn e w0 t2 L w1 S) (fun w1 => PWn e w0 t2 L w1 (S.setH k (cX (S.PH k) (S.hs k) m.l m.b m.h))) cv c0 c1 c2 (by omega) (aw (by omega)) (aw (by omega)) (aw (by omega)) (bQ h1) (fun w1 => by rw [hs]; exact rW (L.hd k) (L.dd k) (L.dm k) w1) (fun w1 => (by kernel_rfl : (method 415 75 (.pointer (some ⟨L.hd k, 0, none⟩)) "Write").run prog w1 = .ok (240, .pointer (some ⟨L.hd k, 0, none⟩)) w1)) (fun u w1 => (by kernel_rfl : (callFunc 240 u).run prog w1 = .ok (.enter 240 u) w1)) hLay (fun _ _ q b => q.below b) (fun w1 q => qi q hk (fun U hv => po (L.hd k) (S.PH k) U (S.hs k) d m.l c m.b m.h w1 hv (q.rowq hq (e3.trans hr)))) (fun w1 q => hX _ _ q.out)).mono ?_
 rintro r w' ⟨rfl,H⟩
 exact⟨rfl,hDrop _ _ H.out⟩
theorem xI {e:Nat→Nat} {w0 w:World} {t:Nat→Thing} {L:Pw} {S:Ws} (k i:Nat) (m:Mv) (d:Option Addr) (c:Nat) (h:PWn e w0 t L w S) (F:Fre e t i) (hk:k<S.n) (hs:m.s=2) (h1:m.k=1) (j:Nat) (hj:j<2*i+1) (hq:∀ q,j≠e q) (hr:t j=dn d m.l c m.b):Calls prog 32 #[ac L.x 0,.agg (aj m (k:Nat) d c)] w fun r w'=>r=.returned (.tuple #[.int .i64 (eM (S.PD k) (S.ds k) m.l),.int .i64 (-1)])∧Hid (PWn e w0 t L w' (S.setD k (cZ (S.PD k) (S.ds k) m.l m.b m.h))):=by
 obtain⟨cv,c0,c1,c2⟩:=h.conn hk
 have i0:=F i (Nat.le_refl _)
 obtain⟨t2,ht2⟩:∃ y,aG t (2*i+1) (eZ [(w.heap.size,.cells (aj m (k:Nat) d c) 51 (0,0)),(w.heap.size+1,.cells (ay (L.hd k) (L.dd k) (L.dm k)) 79 (0,0))])=y:=⟨_,rfl⟩
 have e2:t2 (2*i+1)=eZ [(w.heap.size,.cells (aj m (k:Nat) d c) 51 (0,0)),(w.heap.size+1,.cells (ay (L.hd k) (L.dd k) (L.dm k)) 79 (0,0))]:=by rw[← ht2,ak]
 have hLay:∀ w1,Below w.heap.size w w1→w1.heap[w.heap.size]?=some (.cells (aj m (k:Nat) d c) 51 (0,0))→w1.heap[w.heap.size+1]?=some (.cells (ay (L.hd k) (L.dd k) (L.dm k)) 79 (0,0))→PWn e w0 t2 L w1 S:=fun w1 b k1 k2=>by
  rw[← ht2]
  refine h.layL b i0.1 (fun p hp=>?_) (fun p hp=>?_)
  ·simp only[List.mem_cons,List.not_mem_nil,or_false]at hp
   rcases hp with rfl | rfl
   ·exact k1
   ·exact k2
  ·simp only[List.mem_cons,List.not_mem_nil,or_false]at hp
   rcases hp with rfl | rfl
   ·exact Nat.le_refl _
   ·exact Nat.le_succ _
 have hX:∀ S2 w1,PWn e w0 t2 L w1 S2→w1.heap[w.heap.size]?=some (.cells (aj m (k:Nat) d c) 51 (0,0))∧w1.heap[w.heap.size+1]?=some (.cells (ay (L.hd k) (L.dd k) (L.dm k)) 79 (0,0)):=fun S2 w1 q=>⟨q.box i0.1 e2 _ (List.mem_cons_self ..),q.box i0.1 e2 _ (List.mem_cons_of_mem _ (List.mem_cons_self ..))⟩
 have hDrop:∀ S2 w1,PWn e w0 t2 L w1 S2→PWn e w0 t L w1 S2:=fun S2 w1 q=>by
  rw[← ht2]at q
  exact q.drop i0.1 i0.2
 have e3:t2 j=t j:=by rw[← ht2,an _ _ (by omega)]
 refine (ww L.x (fa L.vc) (gW L.vc) S.n k (L.hd k) (L.dd k) (L.dm k) m d c 76 249 (L.dd k) (eM (S.PD k) (S.ds k) m.l) w (fun w1 => PWn e w0 t2 L w1 S) (fun w1 => PWn e w0 t2 L w1 (S.setD k (cZ (S.PD k) (S.ds k) m.l m.b m.h))) cv c0 c1 c2 (by omega) (aw (by omega)) (aw (by omega)) (aw (by omega)) (bQ h1) (fun w1 => by rw [hs]; exact sb (L.hd k) (L.dd k) (L.dm k) w1) (fun w1 => (by kernel_rfl : (method 415 76 (.pointer (some ⟨L.dd k, 0, none⟩)) "Write").run prog w1 = .ok (249, .pointer (some ⟨L.dd k, 0, none⟩)) w1)) (fun u w1 => (by kernel_rfl : (callFunc 249 u).run prog w1 = .ok (.enter 249 u) w1)) hLay (fun _ _ q b => q.below b) (fun w1 q => mP q hk (fun g U dv => nN (L.dd k) (L.dm k) g 16 S.mx (S.PD k) U (S.ds k) d m.l c m.b m.h w1 dv (q.rowq hq (e3.trans hr)))) (fun w1 q => hX _ _ q.out)).mono ?_
 rintro r w' ⟨rfl,H⟩
 exact⟨rfl,hDrop _ _ H.out⟩
theorem xH {e:Nat→Nat} {w0 w:World} {t:Nat→Thing} {L:Pw} {S:Ws} (k i:Nat) (m:Mv) (d:Option Addr) (c:Nat) (h:PWn e w0 t L w S) (F:Fre e t i) (hk:k<S.n) (hs:m.s=1) (h5:m.k=5) (hn:0≤m.n∧m.n≤1048576) (hF:S.fs.length≤90000) (hL:(S.hs k).L.length<800000):Calls prog 32 #[ac L.x 0,.agg (aj m (k:Nat) d c)] w fun r w'=>r=.returned (.tuple #[.int .i64 (eA m.n),.int .i64 (-1)])∧Hid (PWn e w0 t L w' ((S.setH k (eu (S.PH k) (S.hs k) m.n)).note (if (eA m.n)=0 then [⟨5,k,1,0,m.n.toNat,false,0,dK⟩] else []))):=by
 obtain⟨cv,c0,c1,c2⟩:=h.conn hk
 have i0:=F i (Nat.le_refl _)
 obtain⟨t2,ht2⟩:∃ y,aG t (2*i+1) (eZ [(w.heap.size,.cells (aj m (k:Nat) d c) 51 (0,0)),(w.heap.size+1,.cells (ay (L.hd k) (L.dd k) (L.dm k)) 79 (0,0))])=y:=⟨_,rfl⟩
 have e2:t2 (2*i+1)=eZ [(w.heap.size,.cells (aj m (k:Nat) d c) 51 (0,0)),(w.heap.size+1,.cells (ay (L.hd k) (L.dd k) (L.dm k)) 79 (0,0))]:=by rw[← ht2,ak]
 have hLay:∀ w1,Below w.heap.size w w1→w1.heap[w.heap.size]?=some (.cells (aj m (k:Nat) d c) 51 (0,0))→w1.heap[w.heap.size+1]?=some (.cells (ay (L.hd k) (L.dd k) (L.dm k)) 79 (0,0))→PWn e w0 t2 L w1 S:=fun w1 b k1 k2=>by
  rw[← ht2]
  refine h.layL b i0.1 (fun p hp=>?_) (fun p hp=>?_)
  ·simp only[List.mem_cons,List.not_mem_nil,or_false]at hp
   rcases hp with rfl | rfl
   ·exact k1
   ·exact k2
  ·simp only[List.mem_cons,List.not_mem_nil,or_false]at hp
   rcases hp with rfl | rfl
   ·exact Nat.le_refl _
   ·exact Nat.le_succ _
 have hX:∀ S2 w1,PWn e w0 t2 L w1 S2→w1.heap[w.heap.size]?=some (.cells (aj m (k:Nat) d c) 51 (0,0))∧w1.heap[w.heap.size+1]?=some (.cells (ay (L.hd k) (L.dd k) (L.dm k)) 79 (0,0)):=fun S2 w1 q=>⟨q.box i0.1 e2 _ (List.mem_cons_self ..),q.box i0.1 e2 _ (List.mem_cons_of_mem _ (List.mem_cons_self ..))⟩
 have hDrop:∀ S2 w1,PWn e w0 t2 L w1 S2→PWn e w0 t L w1 S2:=fun S2 w1 q=>by
  rw[← ht2]at q
  exact q.drop i0.1 i0.2
 have hN:m.n=((m.n.toNat:Nat):Int):=by omega
 refine (wB L.x (fa L.vc) (gW L.vc) S.n k (L.hd k) (L.dd k) (L.dm k) m d c 75 239 (L.hd k) (eA m.n) w m.n.toNat hN (by omega) (fun w1 => PWn e w0 t2 L w1 S) (fun w1 => PWn e w0 t2 L w1 (S.setH k (eu (S.PH k) (S.hs k) m.n))) (fun w1 => PWn e w0 t2 L w1 ((S.setH k (eu (S.PH k) (S.hs k) m.n)).note (if (eA m.n) = 0 then [⟨5, k, 1, 0, m.n.toNat, false, 0, dK⟩] else []))) cv c0 c1 c2 (by omega) (aw (by omega)) (aw (by omega)) (aw (by omega)) (aw (by omega)) (bQ h5) (fun w1 => by rw [hs]; exact rW (L.hd k) (L.dd k) (L.dm k) w1) (fun w1 => (by kernel_rfl : (method 415 75 (.pointer (some ⟨L.hd k, 0, none⟩)) "Tick").run prog w1 = .ok (239, .pointer (some ⟨L.hd k, 0, none⟩)) w1)) (fun u w1 => (by kernel_rfl : (callFunc 239 u).run prog w1 = .ok (.enter 239 u) w1)) hLay (fun _ _ q b => q.below b) (fun w1 q => qi q hk (fun U hv => qS (L.hd k) (S.PH k) U (S.hs k) m.n w1 hv (by omega) hL)) (fun w1 q => hX _ _ q.out) (fun w1 q => by rw [hs]; exact iu (eA m.n) 5 k 1 0 m.n.toNat q.out (by show S.fs.length ≤ 100000; omega))).mono ?_
 rintro r w' ⟨rfl,H⟩
 exact⟨rfl,hDrop _ _ H.out⟩
theorem xb {e:Nat→Nat} {w0 w:World} {t:Nat→Thing} {L:Pw} {S:Ws} (k i:Nat) (m:Mv) (d:Option Addr) (c:Nat) (h:PWn e w0 t L w S) (F:Fre e t i) (hk:k<S.n) (hs:m.s=2) (h5:m.k=5) (hn:0≤m.n∧m.n≤1048576) (hF:S.fs.length≤90000) (hL:(S.ds k).L.length<800000):Calls prog 32 #[ac L.x 0,.agg (aj m (k:Nat) d c)] w fun r w'=>r=.returned (.tuple #[.int .i64 (ej (S.ds k) m.n),.int .i64 (-1)])∧Hid (PWn e w0 t L w' ((S.setD k (eG (S.PD k) (S.ds k) m.n)).note (if (ej (S.ds k) m.n)=0 then [⟨5,k,2,0,m.n.toNat,false,0,dK⟩] else []))):=by
 obtain⟨cv,c0,c1,c2⟩:=h.conn hk
 have i0:=F i (Nat.le_refl _)
 obtain⟨t2,ht2⟩:∃ y,aG t (2*i+1) (eZ [(w.heap.size,.cells (aj m (k:Nat) d c) 51 (0,0)),(w.heap.size+1,.cells (ay (L.hd k) (L.dd k) (L.dm k)) 79 (0,0))])=y:=⟨_,rfl⟩
 have e2:t2 (2*i+1)=eZ [(w.heap.size,.cells (aj m (k:Nat) d c) 51 (0,0)),(w.heap.size+1,.cells (ay (L.hd k) (L.dd k) (L.dm k)) 79 (0,0))]:=by rw[← ht2,ak]
 have hLay:∀ w1,Below w.heap.size w w1→w1.heap[w.heap.size]?=some (.cells (aj m (k:Nat) d c) 51 (0,0))→w1.heap[w.heap.size+1]?=some (.cells (ay (L.hd k) (L.dd k) (L.dm k)) 79 (0,0))→PWn e w0 t2 L w1 S:=fun w1 b k1 k2=>by
  rw[← ht2]
  refine h.layL b i0.1 (fun p hp=>?_) (fun p hp=>?_)
  ·simp only[List.mem_cons,List.not_mem_nil,or_false]at hp
   rcases hp with rfl | rfl
   ·exact k1
   ·exact k2
  ·simp only[List.mem_cons,List.not_mem_nil,or_false]at hp
   rcases hp with rfl | rfl
   ·exact Nat.le_refl _
   ·exact Nat.le_succ _
 have hX:∀ S2 w1,PWn e w0 t2 L w1 S2→w1.heap[w.heap.size]?=some (.cells (aj m (k:Nat) d c) 51 (0,0))∧w1.heap[w.heap.size+1]?=some (.cells (ay (L.hd k) (L.dd k) (L.dm k)) 79 (0,0)):=fun S2 w1 q=>⟨q.box i0.1 e2 _ (List.mem_cons_self ..),q.box i0.1 e2 _ (List.mem_cons_of_mem _ (List.mem_cons_self ..))⟩
 have hDrop:∀ S2 w1,PWn e w0 t2 L w1 S2→PWn e w0 t L w1 S2:=fun S2 w1 q=>by
  rw[← ht2]at q
  exact q.drop i0.1 i0.2
 have hN:m.n=((m.n.toNat:Nat):Int):=by omega
 refine (wB L.x (fa L.vc) (gW L.vc) S.n k (L.hd k) (L.dd k) (L.dm k) m d c 76 248 (L.dd k) (ej (S.ds k) m.n) w m.n.toNat hN (by omega) (fun w1 => PWn e w0 t2 L w1 S) (fun w1 => PWn e w0 t2 L w1 (S.setD k (eG (S.PD k) (S.ds k) m.n))) (fun w1 => PWn e w0 t2 L w1 ((S.setD k (eG (S.PD k) (S.ds k) m.n)).note (if (ej (S.ds k) m.n) = 0 then [⟨5, k, 2, 0, m.n.toNat, false, 0, dK⟩] else []))) cv c0 c1 c2 (by omega) (aw (by omega)) (aw (by omega)) (aw (by omega)) (aw (by omega)) (bQ h5) (fun w1 => by rw [hs]; exact sb (L.hd k) (L.dd k) (L.dm k) w1) (fun w1 => (by kernel_rfl : (method 415 76 (.pointer (some ⟨L.dd k, 0, none⟩)) "Tick").run prog w1 = .ok (248, .pointer (some ⟨L.dd k, 0, none⟩)) w1)) (fun u w1 => (by kernel_rfl : (callFunc 248 u).run prog w1 = .ok (.enter 248 u) w1)) hLay (fun _ _ q b => q.below b) (fun w1 q => mP q hk (fun g U dv => om (L.dd k) (L.dm k) g 16 S.mx (S.PD k) U (S.ds k) m.n w1 dv (by omega) hL)) (fun w1 q => hX _ _ q.out) (fun w1 q => by rw [hs]; exact iu (ej (S.ds k) m.n) 5 k 2 0 m.n.toNat q.out (by show S.fs.length ≤ 100000; omega))).mono ?_
 rintro r w' ⟨rfl,H⟩
 exact⟨rfl,hDrop _ _ H.out⟩
theorem wH {e:Nat→Nat} {w0 w:World} {t:Nat→Thing} {L:Pw} {S:Ws} (k i:Nat) (m:Mv) (d:Option Addr) (c:Nat) (h:PWn e w0 t L w S) (F:Fre e t i) (hk:k<S.n) (hs:m.s=1) (h6:m.k=6) (hF:S.fs.length≤90000):Calls prog 32 #[ac L.x 0,.agg (aj m (k:Nat) d c)] w fun r w'=>r=.returned (.tuple #[.int .i64 (fG (S.hs k)),.int .i64 (-1)])∧Hid (PWn e w0 t L w' ((S.setH k (fc (S.hs k))).note (if (fG (S.hs k))=0 then [dk 6 k 1] else []))):=by
 obtain⟨cv,c0,c1,c2⟩:=h.conn hk
 have i0:=F i (Nat.le_refl _)
 obtain⟨t2,ht2⟩:∃ y,aG t (2*i+1) (eZ [(w.heap.size,.cells (aj m (k:Nat) d c) 51 (0,0)),(w.heap.size+1,.cells (ay (L.hd k) (L.dd k) (L.dm k)) 79 (0,0))])=y:=⟨_,rfl⟩
 have e2:t2 (2*i+1)=eZ [(w.heap.size,.cells (aj m (k:Nat) d c) 51 (0,0)),(w.heap.size+1,.cells (ay (L.hd k) (L.dd k) (L.dm k)) 79 (0,0))]:=by rw[← ht2,ak]
 have hLay:∀ w1,Below w.heap.size w w1→w1.heap[w.heap.size]?=some (.cells (aj m (k:Nat) d c) 51 (0,0))→w1.heap[w.heap.size+1]?=some (.cells (ay (L.hd k) (L.dd k) (L.dm k)) 79 (0,0))→PWn e w0 t2 L w1 S:=fun w1 b k1 k2=>by
  rw[← ht2]
  refine h.layL b i0.1 (fun p hp=>?_) (fun p hp=>?_)
  ·simp only[List.mem_cons,List.not_mem_nil,or_false]at hp
   rcases hp with rfl | rfl
   ·exact k1
   ·exact k2
  ·simp only[List.mem_cons,List.not_mem_nil,or_false]at hp
   rcases hp with rfl | rfl
   ·exact Nat.le_refl _
   ·exact Nat.le_succ _
 have hX:∀ S2 w1,PWn e w0 t2 L w1 S2→w1.heap[w.heap.size]?=some (.cells (aj m (k:Nat) d c) 51 (0,0))∧w1.heap[w.heap.size+1]?=some (.cells (ay (L.hd k) (L.dd k) (L.dm k)) 79 (0,0)):=fun S2 w1 q=>⟨q.box i0.1 e2 _ (List.mem_cons_self ..),q.box i0.1 e2 _ (List.mem_cons_of_mem _ (List.mem_cons_self ..))⟩
 have hDrop:∀ S2 w1,PWn e w0 t2 L w1 S2→PWn e w0 t L w1 S2:=fun S2 w1 q=>by
  rw[← ht2]at q
  exact q.drop i0.1 i0.2
 refine (vX L.x (fa L.vc) (gW L.vc) S.n k (L.hd k) (L.dd k) (L.dm k) m d c 75 238 (L.hd k) (fG (S.hs k)) w (fun w1 => PWn e w0 t2 L w1 S) (fun w1 => PWn e w0 t2 L w1 (S.setH k (fc (S.hs k)))) (fun w1 => PWn e w0 t2 L w1 ((S.setH k (fc (S.hs k))).note (if (fG (S.hs k)) = 0 then [dk 6 k 1] else []))) cv c0 c1 c2 (by omega) (aw (by omega)) (aw (by omega)) (aw (by omega)) (aw (by omega)) (aw (by omega)) (bQ h6) (fun w1 => by rw [hs]; exact rW (L.hd k) (L.dd k) (L.dm k) w1) (fun w1 => (by kernel_rfl : (method 415 75 (.pointer (some ⟨L.hd k, 0, none⟩)) "Ack").run prog w1 = .ok (238, .pointer (some ⟨L.hd k, 0, none⟩)) w1)) (fun u w1 => (by kernel_rfl : (callFunc 238 u).run prog w1 = .ok (.enter 238 u) w1)) hLay (fun _ _ q b => q.below b) (fun w1 q => qi q hk (fun U hv => rX (L.hd k) (S.PH k) U (S.hs k) w1 hv)) (fun w1 q => hX _ _ q.out) (fun w1 q => by rw [hs]; exact iu (fG (S.hs k)) 6 k 1 0 0 q.out (by show S.fs.length ≤ 100000; omega))).mono ?_
 rintro r w' ⟨rfl,H⟩
 exact⟨rfl,hDrop _ _ H.out⟩
theorem xx {e:Nat→Nat} {w0 w:World} {t:Nat→Thing} {L:Pw} {S:Ws} (k i:Nat) (m:Mv) (d:Option Addr) (c:Nat) (h:PWn e w0 t L w S) (F:Fre e t i) (hk:k<S.n) (hs:m.s=2) (h6:m.k=6) (hF:S.fs.length≤90000):Calls prog 32 #[ac L.x 0,.agg (aj m (k:Nat) d c)] w fun r w'=>r=.returned (.tuple #[.int .i64 (fI (S.ds k)),.int .i64 (-1)])∧Hid (PWn e w0 t L w' ((S.setD k (cQ (S.ds k))).note (if (fI (S.ds k))=0 then [dk 6 k 2] else []))):=by
 obtain⟨cv,c0,c1,c2⟩:=h.conn hk
 have i0:=F i (Nat.le_refl _)
 obtain⟨t2,ht2⟩:∃ y,aG t (2*i+1) (eZ [(w.heap.size,.cells (aj m (k:Nat) d c) 51 (0,0)),(w.heap.size+1,.cells (ay (L.hd k) (L.dd k) (L.dm k)) 79 (0,0))])=y:=⟨_,rfl⟩
 have e2:t2 (2*i+1)=eZ [(w.heap.size,.cells (aj m (k:Nat) d c) 51 (0,0)),(w.heap.size+1,.cells (ay (L.hd k) (L.dd k) (L.dm k)) 79 (0,0))]:=by rw[← ht2,ak]
 have hLay:∀ w1,Below w.heap.size w w1→w1.heap[w.heap.size]?=some (.cells (aj m (k:Nat) d c) 51 (0,0))→w1.heap[w.heap.size+1]?=some (.cells (ay (L.hd k) (L.dd k) (L.dm k)) 79 (0,0))→PWn e w0 t2 L w1 S:=fun w1 b k1 k2=>by
  rw[← ht2]
  refine h.layL b i0.1 (fun p hp=>?_) (fun p hp=>?_)
  ·simp only[List.mem_cons,List.not_mem_nil,or_false]at hp
   rcases hp with rfl | rfl
   ·exact k1
   ·exact k2
  ·simp only[List.mem_cons,List.not_mem_nil,or_false]at hp
   rcases hp with rfl | rfl
   ·exact Nat.le_refl _
   ·exact Nat.le_succ _
 have hX:∀ S2 w1,PWn e w0 t2 L w1 S2→w1.heap[w.heap.size]?=some (.cells (aj m (k:Nat) d c) 51 (0,0))∧w1.heap[w.heap.size+1]?=some (.cells (ay (L.hd k) (L.dd k) (L.dm k)) 79 (0,0)):=fun S2 w1 q=>⟨q.box i0.1 e2 _ (List.mem_cons_self ..),q.box i0.1 e2 _ (List.mem_cons_of_mem _ (List.mem_cons_self ..))⟩
 have hDrop:∀ S2 w1,PWn e w0 t2 L w1 S2→PWn e w0 t L w1 S2:=fun S2 w1 q=>by
  rw[← ht2]at q
  exact q.drop i0.1 i0.2
 refine (vX L.x (fa L.vc) (gW L.vc) S.n k (L.hd k) (L.dd k) (L.dm k) m d c 76 247 (L.dd k) (fI (S.ds k)) w (fun w1 => PWn e w0 t2 L w1 S) (fun w1 => PWn e w0 t2 L w1 (S.setD k (cQ (S.ds k)))) (fun w1 => PWn e w0 t2 L w1 ((S.setD k (cQ (S.ds k))).note (if (fI (S.ds k)) = 0 then [dk 6 k 2] else []))) cv c0 c1 c2 (by omega) (aw (by omega)) (aw (by omega)) (aw (by omega)) (aw (by omega)) (aw (by omega)) (bQ h6) (fun w1 => by rw [hs]; exact sb (L.hd k) (L.dd k) (L.dm k) w1) (fun w1 => (by kernel_rfl : (method 415 76 (.pointer (some ⟨L.dd k, 0, none⟩)) "Ack").run prog w1 = .ok (247, .pointer (some ⟨L.dd k, 0, none⟩)) w1)) (fun u w1 => (by kernel_rfl : (callFunc 247 u).run prog w1 = .ok (.enter 247 u) w1)) hLay (fun _ _ q b => q.below b) (fun w1 q => mP q hk (fun g U dv => qx (L.dd k) (L.dm k) g 16 S.mx (S.PD k) U (S.ds k) w1 dv)) (fun w1 q => hX _ _ q.out) (fun w1 q => by rw [hs]; exact iu (fI (S.ds k)) 6 k 2 0 0 q.out (by show S.fs.length ≤ 100000; omega))).mono ?_
 rintro r w' ⟨rfl,H⟩
 exact⟨rfl,hDrop _ _ H.out⟩
theorem xo {e:Nat→Nat} {w0 w:World} {t:Nat→Thing} {L:Pw} {S:Ws} (k i:Nat) (m:Mv) (d:Option Addr) (c:Nat) (h:PWn e w0 t L w S) (F:Fre e t i) (hk:k<S.n) (hs:m.s=1) (h7:m.k=7) (hc:m.c=((k:Nat):Int)) (hF:S.fs.length≤90000):Calls prog 32 #[ac L.x 0,.agg (aj m (k:Nat) d c)] w fun r w'=>r=.returned (.tuple #[.int .i64 0,.int .i64 (-1)])∧Hid (PWn e w0 t L w' ((S.note [dk 7 k 1]).setH k (fF (S.hs k)))):=by
 obtain⟨cv,c0,c1,c2⟩:=h.conn hk
 have i0:=F i (Nat.le_refl _)
 obtain⟨t2,ht2⟩:∃ y,aG t (2*i+1) (eZ [(w.heap.size,.cells (aj m (k:Nat) d c) 51 (0,0)),(w.heap.size+1,.cells (ay (L.hd k) (L.dd k) (L.dm k)) 79 (0,0))])=y:=⟨_,rfl⟩
 have e2:t2 (2*i+1)=eZ [(w.heap.size,.cells (aj m (k:Nat) d c) 51 (0,0)),(w.heap.size+1,.cells (ay (L.hd k) (L.dd k) (L.dm k)) 79 (0,0))]:=by rw[← ht2,ak]
 have hLay:∀ w1,Below w.heap.size w w1→w1.heap[w.heap.size]?=some (.cells (aj m (k:Nat) d c) 51 (0,0))→w1.heap[w.heap.size+1]?=some (.cells (ay (L.hd k) (L.dd k) (L.dm k)) 79 (0,0))→PWn e w0 t2 L w1 S:=fun w1 b k1 k2=>by
  rw[← ht2]
  refine h.layL b i0.1 (fun p hp=>?_) (fun p hp=>?_)
  ·simp only[List.mem_cons,List.not_mem_nil,or_false]at hp
   rcases hp with rfl | rfl
   ·exact k1
   ·exact k2
  ·simp only[List.mem_cons,List.not_mem_nil,or_false]at hp
   rcases hp with rfl | rfl
   ·exact Nat.le_refl _
   ·exact Nat.le_succ _
 have hX:∀ S2 w1,PWn e w0 t2 L w1 S2→w1.heap[w.heap.size]?=some (.cells (aj m (k:Nat) d c) 51 (0,0))∧w1.heap[w.heap.size+1]?=some (.cells (ay (L.hd k) (L.dd k) (L.dm k)) 79 (0,0)):=fun S2 w1 q=>⟨q.box i0.1 e2 _ (List.mem_cons_self ..),q.box i0.1 e2 _ (List.mem_cons_of_mem _ (List.mem_cons_self ..))⟩
 have hDrop:∀ S2 w1,PWn e w0 t2 L w1 S2→PWn e w0 t L w1 S2:=fun S2 w1 q=>by
  rw[← ht2]at q
  exact q.drop i0.1 i0.2
 refine (vW L.x (fa L.vc) (gW L.vc) S.n k (L.hd k) (L.dd k) (L.dm k) m d c 0 w (fun w1=>PWn e w0 t2 L w1 S) (fun w1=>PWn e w0 t2 L w1 (S.note [dk 7 k 1])) (fun w1=>PWn e w0 t2 L w1 ((S.note [dk 7 k 1]).setH k (fF (S.hs k)))) cv c0 c1 c2 (by omega) (aw (by omega)) (aw (by omega)) (aw (by omega)) (aw (by omega)) (aw (by omega)) (aw (by omega)) (bQ h7) hLay (fun _ _ q b=>q.below b) (fun w1 q=>by rw[hs];exact pZ 7 k 1 0 0 q (by omega)) (fun w1 q=>hX _ _ q.out) (fun w1 q=>by
   have:=sG (L.hd k) (L.dd k) (L.dm k) m d c 0 w1 (fun w'=>PWn e w0 t2 L w' ((S.note [dk 7 k 1]).setH k (fF (S.hs k)))) (fun _ wx bx=>qi (q.out.below bx) hk (fun U hv=>oJ (L.hd k) (S.PH k) U (S.hs k) wx hv)) (fun z=>absurd hs z)
   rw[hc]at this
   exact this)).mono ?_
 rintro r w' ⟨rfl,H⟩
 exact⟨rfl,hDrop _ _ H.out⟩
theorem xM {e:Nat→Nat} {w0 w:World} {t:Nat→Thing} {L:Pw} {S:Ws} (k i:Nat) (m:Mv) (d:Option Addr) (c:Nat) (h:PWn e w0 t L w S) (F:Fre e t i) (hk:k<S.n) (hs:m.s=2) (h7:m.k=7) (hc:m.c=((k:Nat):Int)) (hF:S.fs.length≤90000) (hn:0≤m.n∧m.n≤9223372036854775807) (ht:(S.ds k).ms.t<9223372036854774000):Calls prog 32 #[ac L.x 0,.agg (aj m (k:Nat) d c)] w fun r w'=>r=.returned (.tuple #[.int .i64 (fA S.mx 16 (S.ds k) m.n),.int .i64 (-1)])∧Hid (PWn e w0 t L w' ((S.note [dk 7 k 2]).setD k (cC S.mx 16 (S.ds k) m.n))):=by
 obtain⟨cv,c0,c1,c2⟩:=h.conn hk
 have i0:=F i (Nat.le_refl _)
 obtain⟨t2,ht2⟩:∃ y,aG t (2*i+1) (eZ [(w.heap.size,.cells (aj m (k:Nat) d c) 51 (0,0)),(w.heap.size+1,.cells (ay (L.hd k) (L.dd k) (L.dm k)) 79 (0,0))])=y:=⟨_,rfl⟩
 have e2:t2 (2*i+1)=eZ [(w.heap.size,.cells (aj m (k:Nat) d c) 51 (0,0)),(w.heap.size+1,.cells (ay (L.hd k) (L.dd k) (L.dm k)) 79 (0,0))]:=by rw[← ht2,ak]
 have hLay:∀ w1,Below w.heap.size w w1→w1.heap[w.heap.size]?=some (.cells (aj m (k:Nat) d c) 51 (0,0))→w1.heap[w.heap.size+1]?=some (.cells (ay (L.hd k) (L.dd k) (L.dm k)) 79 (0,0))→PWn e w0 t2 L w1 S:=fun w1 b k1 k2=>by
  rw[← ht2]
  refine h.layL b i0.1 (fun p hp=>?_) (fun p hp=>?_)
  ·simp only[List.mem_cons,List.not_mem_nil,or_false]at hp
   rcases hp with rfl | rfl
   ·exact k1
   ·exact k2
  ·simp only[List.mem_cons,List.not_mem_nil,or_false]at hp
   rcases hp with rfl | rfl
   ·exact Nat.le_refl _
   ·exact Nat.le_succ _
 have hX:∀ S2 w1,PWn e w0 t2 L w1 S2→w1.heap[w.heap.size]?=some (.cells (aj m (k:Nat) d c) 51 (0,0))∧w1.heap[w.heap.size+1]?=some (.cells (ay (L.hd k) (L.dd k) (L.dm k)) 79 (0,0)):=fun S2 w1 q=>⟨q.box i0.1 e2 _ (List.mem_cons_self ..),q.box i0.1 e2 _ (List.mem_cons_of_mem _ (List.mem_cons_self ..))⟩
 have hDrop:∀ S2 w1,PWn e w0 t2 L w1 S2→PWn e w0 t L w1 S2:=fun S2 w1 q=>by
  rw[← ht2]at q
  exact q.drop i0.1 i0.2
 refine (vW L.x (fa L.vc) (gW L.vc) S.n k (L.hd k) (L.dd k) (L.dm k) m d c (fA S.mx 16 (S.ds k) m.n) w (fun w1=>PWn e w0 t2 L w1 S) (fun w1=>PWn e w0 t2 L w1 (S.note [dk 7 k 2])) (fun w1=>PWn e w0 t2 L w1 ((S.note [dk 7 k 2]).setD k (cC S.mx 16 (S.ds k) m.n))) cv c0 c1 c2 (by omega) (aw (by omega)) (aw (by omega)) (aw (by omega)) (aw (by omega)) (aw (by omega)) (aw (by omega)) (bQ h7) hLay (fun _ _ q b=>q.below b) (fun w1 q=>by rw[hs];exact pZ 7 k 2 0 0 q (by omega)) (fun w1 q=>hX _ _ q.out) (fun w1 q=>by
   have:=sG (L.hd k) (L.dd k) (L.dm k) m d c (fA S.mx 16 (S.ds k) m.n) w1 (fun w'=>PWn e w0 t2 L w' ((S.note [dk 7 k 2]).setD k (cC S.mx 16 (S.ds k) m.n))) (fun z=>absurd z (by omega)) (fun _ wx bx=>mP (q.out.below bx) hk (fun g U dv=>m9 (L.dd k) (L.dm k) g 16 S.mx (S.PD k) U (S.ds k) m.n wx dv hn.1 hn.2 ht))
   rw[hc]at this
   exact this)).mono ?_
 rintro r w' ⟨rfl,H⟩
 exact⟨rfl,hDrop _ _ H.out⟩
theorem yV {e:Nat→Nat} {w0 w:World} {t:Nat→Thing} {L:Pw} {S:Ws} (k i:Nat) (m:Mv) (d:Option Addr) (c:Nat) (h:PWn e w0 t L w S) (F:Fre e t i) (hk:k<S.n) (h8:m.k=8) (hn:m.n≤9223372036854775807):Calls prog 32 #[ac L.x 0,.agg (aj m (k:Nat) d c)] w fun r w'=>r=.returned (.tuple #[.int .i64 (xQ m.n),.int .i64 (-1)])∧Hid (PWn e w0 t L w' (S.setD k { S.ds k with ms:=jZ (S.ds k).ms m.n })):=by
 obtain⟨cv,c0,c1,c2⟩:=h.conn hk
 exact yb L.x (fa L.vc) (gW L.vc) S.n k (L.hd k) (L.dd k) (L.dm k) m d c (xQ m.n) w (fun w1=>PWn e w0 t L w1 (S.setD k { S.ds k with ms:=jZ (S.ds k).ms m.n })) cv c0 c1 c2 (by omega) (aw (by omega)) (aw (by omega)) (aw (by omega)) (aw (by omega)) (aw (by omega)) (aw (by omega)) (aw (by omega)) (fun w1 b1=>mP (h.below b1) hk (fun g U dv=>rO (L.dd k) (L.dm k) g 16 S.mx (S.PD k) U (S.ds k) m.n w1 dv hn))
theorem xe (X:Nat) (m:Mv) (d:Option Addr) (c:Nat) (E:Int) (hE:(E != 0)=true) (w:World) (hRf:∀ w1,Below w.heap.size w w1→Calls prog 30 #[ac X 0,.agg (aj m m.c d c)] w1 fun r w'=>r=.returned (.int .i64 E)∧Hid (Below w1.heap.size w1 w')):Calls prog 16 #[ac X 0,.agg (aj m m.c d c)] w fun r w'=>r=.returned (.tuple #[.agg cu,.int .i64 E])∧Below w.heap.size w w':=by
 have s1:=gU w (.cells (aj m m.c d c) 51)
 have s2:=xX w (.cells (aj m m.c d c) 51) (.cells cu 56)
 have bW:Below w.heap.size w ((w.alloc (.cells (aj m m.c d c) 51)).alloc (.cells cu 56)):=aJ (aJ (Below.refl _ w) _) _
 have kp:((w.alloc (.cells (aj m m.c d c) 51)).alloc (.cells cu 56)).heap[w.heap.size]?=some (.cells (aj m m.c d c) 51 (0,0)):=(Below.heap_alloc _ _ _ (by omega)).trans (aC w _)
 have kr:=aC (w.alloc (.cells (aj m m.c d c) 51)) (.cells cu 56)
 rw[s1]at kr
 obtain⟨wa,hwa⟩:∃ z,(w.alloc (.cells (aj m m.c d c) 51)).alloc (.cells cu 56)=z:=⟨_,rfl⟩
 rw[hwa]at bW kp kr s2
 obtain⟨x,hx⟩:∃ z,w.heap.size=z:=⟨_,rfl⟩
 have HB:Hid (Below w.heap.size w wa):=bW
 rw[hx]at kp kr s2
 have p0:wa.cell? ⟨x,0,none⟩=some (.int .i64 m.k):=ae wa (x) 0 _ _ _ kp
 have p1:wa.cell? ⟨x,1,none⟩=some (.int .i64 m.c):=ae wa (x) 1 _ _ _ kp
 have p2:wa.cell? ⟨x,2,none⟩=some (.int .i64 m.s):=ae wa (x) 2 _ _ _ kp
 have p3:wa.cell? ⟨x,3,none⟩=some (.int .i64 m.f):=ae wa (x) 3 _ _ _ kp
 have p4:wa.cell? ⟨x,4,none⟩=some (.int .i64 m.a):=ae wa (x) 4 _ _ _ kp
 have p5:wa.cell? ⟨x,5,none⟩=some (.int .u32 (m.w:Nat)):=ae wa (x) 5 _ _ _ kp
 have p6:wa.cell? ⟨x,6,none⟩=some (.int .i64 m.n):=ae wa (x) 6 _ _ _ kp
 have p7:wa.cell? ⟨x,7,none⟩=some (.bool m.h):=ae wa (x) 7 _ _ _ kp
 have p8:wa.cell? ⟨x,8,none⟩=some (.slice d m.l c):=ae wa (x) 8 _ _ _ kp
 have hRc:=hRf wa bW
 clear hRf
 have HR:Hid (_):=kr
 have H2:Hid (wa.heap.size=x+2):=s2
 have HE:Hid (_=wa):=hwa
 have HS:Hid (w.heap.size=x):=hx
 clear s1 s2 bW kp kr hwa hx
 go_enter func16,ntmps16
 go_upto_region 1 with fail
 rw[HE.out,HS.out]
 go_wp2_with fail
 refine hRc.mono ?_
 rintro r w1 ⟨rfl,H1⟩
 have b1:=H1.out
 clear hRc H1
 have kr:=(b1.block (x+1) (by rw[H2.out];omega)).trans HR.out
 have hth:w1.there (x+1) 0 29:=bc kr rfl
 have hrg:=World.rangeAt_setCells_same w1 (x+1) 0 cu.toList hth
 have o1:=bN w1 (x+1) 0 cu.toList
 have hl:(loadVar 56 ⟨x+1,0,none⟩).run prog (w1.setCells (x+1) 0 cu.toList)=.ok (.agg cu) (w1.setCells (x+1) 0 cu.toList):=run_loadVar_mid (P:=prog) _ (x+1) 0 56 cu.toList _ hrg underlying56 rfl (by kernel_rfl)
 have HO:Hid (_):=And.intro o1 b1
 have HL:Hid (_):=hl
 have HT:Hid (_):=hth
 clear kr hrg o1 b1 hth hl
 go_upto_region 3 with fail
 apply wp_region_lit
 refine gc rfl (.agg cu) (by go_simp) ?_
 refine gc rfl (.int .i64 E) (by go_simp) ?_
 refine wpList_store_mid rfl 56 (.tmp 4) (.tmp 15) rfl (x+1) 0 cu (by kernel_rfl) (by kernel_rfl) HT.out (by kernel_rfl) (by kernel_rfl) ?_
 have HL2:=HL.out
 obtain⟨wz,hwz⟩:∃ z,w1.setCells (x+1) 0 cu.toList=z:=⟨_,rfl⟩
 rw[hwz]at HL2 ⊢
 have HO2:=HO.out
 rw[hwz]at HO2
 have HO3:Hid (_):=HO2
 clear HO HO2 HL hwz
 refine gc rfl (.int .i64 E) (by go_simp) ?_
 go_wp2_with fail
 refine bodyPost_ret (v:=.tuple #[.agg cu,.int .i64 E]) ((dH (t:=4) (u:=5) (ty:=56) rfl _ prog wz (by kernel_rfl) HL2).trans (by kernel_rfl)) rfl ?_
 refine⟨rfl,?_⟩
 have hb:=HB.out
 have hb1:=HO3.out.2
 exact HO3.out.1.below (hb.trans (hb1.mono hb.size)) (by simp[HS.out]) (Nat.le_trans hb.size hb1.size)
structure Ws.Law (S:Ws) (m:Mv) (k:Nat):Prop where
 k1:1≤m.k
 k8:m.k≤8
 c:m.c=((k:Nat):Int)
 kn:k<S.n
 sd:m.k≠2→m.k≠8→m.s=1∨m.s=2
 fr:m.k=3∨m.k=4→0≤m.f∧m.f < ((S.bg.length:Nat):Int)
 gb:m.k=4→cy ((S.bg.getD m.f.toNat dK).1:Nat) m.a m.w=0
 n5:m.k=5→0≤m.n∧m.n≤1048576
 n7:m.k=7→0≤m.n
theorem Ws.Law.of {S:Ws} {m:Mv} (h:S.bad m=0):S.up.Law m m.c.toNat:=by
 have o:=Ws.Ok.of h
 have h5:m.k=5→0≤m.n∧m.n≤1048576:=fun q=>by
  have hh:=h
  unfold Ws.bad at hh
  rw[if_neg (by have:=o.mv;omega),if_neg (by have:=o.k1;have:=o.k8;omega),if_neg (by have:=o.c0;have:=o.cn;omega),if_neg (fun z=>(o.sd z.1).elim z.2.1 z.2.2),if_neg (by omega),if_neg (by omega),if_pos q]at hh
  by_cases z:m.n<0∨1048576<m.n
  ·rw[if_pos z]at hh
   omega
  ·omega
 have h7:m.k=7→0≤m.n:=fun q=>by
  have hh:=h
  unfold Ws.bad at hh
  rw[if_neg (by have:=o.mv;omega),if_neg (by have:=o.k1;have:=o.k8;omega),if_neg (by have:=o.c0;have:=o.cn;omega),if_neg (fun z=>(o.sd z.1).elim z.2.1 z.2.2),if_neg (by omega),if_neg (by omega),if_neg (by omega),if_pos q]at hh
  by_cases z:m.n<0∨m.s=1∧0<m.n
  ·rw[if_pos z]at hh
   omega
  ·omega
 exact⟨o.k1,o.k8,by have:=o.c0;omega,by have:=o.c0;have:=o.cn;show m.c.toNat<S.n;omega,fun a b=>o.sd (by unfold ey;simp[a,b]),o.fr,o.gb,h5,h7⟩
structure Ws.Fit (S:Ws) (m:Mv) (k:Nat):Prop where
 fs:S.fs.length≤80000
 bg:S.bg.length<4096
 hms:(S.hs k).ms<4
 hst:1 ≤ (S.hs k).st∧(S.hs k).st≤5
 hsn:(S.hs k).st=4→(S.hs k).sn+1<4294967296
 hL:(S.hs k).L.length<700000
 hb:∀ j,j < (az (S.PH k) (S.hs k)).1→(az (S.PH k) (S.hs k)).2 j<256
 hf:(az (S.PH k) (S.hs k)).1≤27
 dsn:(S.ds k).st=4→(S.ds k).sn+1<4294967296
 dod:(S.ds k).od<4
 dL:(S.ds k).L.length<800000
 dt:(S.ds k).ms.t<9223372036854774000
 db:∀ j,j < (au (S.PD k) S.mx 16 (S.ds k) (S.fr m).1 (S.fr m).2).f.1→(au (S.PD k) S.mx 16 (S.ds k) (S.fr m).1 (S.fr m).2).f.2 j<256
 df:(au (S.PD k) S.mx 16 (S.ds k) (S.fr m).1 (S.fr m).2).f.1≤27
theorem vk {e:Nat→Nat} {w0 w:World} {t:Nat→Thing} {L:Pw} {S:Ws} (k i:Nat) (m:Mv) (d:Option Addr) (c:Nat) (h:PWn e w0 t L w S) (F:Fre e t i) (ok:m.Ok) (l:S.Law m k) (f:S.Fit m k) (j:Nat) (hj:j<2*i+1) (hq:∀ q,j≠e q) (hr:t j=dn d m.l c m.b):Calls prog 32 #[ac L.x 0,.agg (aj m (k:Nat) d c)] w fun r w'=>r=.returned (.tuple #[.int .i64 (S.act m).e,.int .i64 (S.act m).i])∧Hid (PWn e w0 t L w' (S.act m).S):=by
 have hk:m.c.toNat=k:=by have:=l.c;omega
 have k1:=l.k1
 have k8:=l.k8
 unfold Ws.act
 rw[hk]
 dsimp only
 by_cases q1:m.k=1
 ·rw[if_pos q1]
  by_cases s1:m.s=1
  ·rw[if_pos s1]
   exact xm k i m d c h F l.kn s1 q1 j hj hq hr
  ·rw[if_neg s1]
   exact xI k i m d c h F l.kn ((l.sd (by omega) (by omega)).resolve_left s1) q1 j hj hq hr
 rw[if_neg q1]
 by_cases q2:m.k=2
 ·rw[if_pos q2]
  exact yX k i m d c h F q2 l.kn (by have:=f.fs;omega) f.bg f.hms f.hst f.hsn f.hL f.hb f.hf
 rw[if_neg q2]
 by_cases q3:m.k=3∨m.k=4
 ·rw[if_pos q3]
  have:=yu k i m d c h F q3 l.c l.kn f.fs f.bg (l.fr q3).1 (l.fr q3).2 ok.w l.gb (by have:=f.hL;omega) f.dsn f.dod f.dL f.dt f.db f.df
  unfold Ws.dlv at this
  exact this
 rw[if_neg q3]
 by_cases q5:m.k=5
 ·rw[if_pos q5]
  by_cases s1:m.s=1
  ·rw[if_pos s1]
   exact xH k i m d c h F l.kn s1 q5 (l.n5 q5) (by have:=f.fs;omega) (by have:=f.hL;omega)
  ·rw[if_neg s1]
   exact xb k i m d c h F l.kn ((l.sd (by omega) (by omega)).resolve_left s1) q5 (l.n5 q5) (by have:=f.fs;omega) f.dL
 rw[if_neg q5]
 by_cases q6:m.k=6
 ·rw[if_pos q6]
  by_cases s1:m.s=1
  ·rw[if_pos s1]
   exact wH k i m d c h F l.kn s1 q6 (by have:=f.fs;omega)
  ·rw[if_neg s1]
   exact xx k i m d c h F l.kn ((l.sd (by omega) (by omega)).resolve_left s1) q6 (by have:=f.fs;omega)
 rw[if_neg q6]
 by_cases q7:m.k=7
 ·rw[if_pos q7]
  by_cases s1:m.s=1
  ·rw[if_pos s1]
   exact xo k i m d c h F l.kn s1 q7 l.c (by have:=f.fs;omega)
  ·rw[if_neg s1]
   exact xM k i m d c h F l.kn ((l.sd (by omega) (by omega)).resolve_left s1) q7 l.c (by have:=f.fs;omega) ⟨l.n7 q7,ok.n.2⟩ f.dt
 rw[if_neg q7]
 exact yV k i m d c h F l.kn (by omega) ok.n.2
theorem wi (S:Ws) (m:Mv):(S.act m).S.n=S.n:=by
 unfold Ws.act
 dsimp only
 split
 ·split <;> rfl
 ·split
  ·exact (aM _ _ _ _).1
  ·split
   ·split
    ·unfold Ws.toH
     dsimp only
     split <;> rfl
    ·unfold Ws.toD
     dsimp only
     refine (aM _ _ _ _).1.trans ?_
     unfold Ws.toD2
     split <;> rfl
   ·split
    ·split <;> rfl
    ·split
     ·split <;> rfl
     ·split
      ·split <;> rfl
      ·rfl
theorem sV (e:Nat→Nat) (w0 w:World) (t:Nat→Thing) (L:Pw) (i:Nat) (m:Mv) (d:Option Addr) (c:Nat) (h:PW e w0 w t L) (F:Fre e t i) (ok:m.Ok) (hn:0<L.S.n) (R:Row8 w d m.l c m.b) (hdx:∀ y,d=some y→0<m.l→y.block≠L.x) (hl:m.l≤140737488351232) (hfit:L.S.bad m=0→L.S.up.Fit m m.c.toNat) (hfs:L.S.bad m=0→(L.S.up.act m).S.fs.length≤90000) :
  Calls prog 16 #[ac L.x 0,.agg (aj m m.c d c)] w fun r w'=>
   (L.S.bad m≠0∧r=.returned (.tuple #[.agg cu,.int .i64 (L.S.bad m)])∧Hid (PW e w0 w' t L∧Below w.heap.size w w')) ∨
   (L.S.bad m=0∧∃ a' c' ah ch ad cd,r=.returned (.tuple #[.agg #[Value.int .i64 m.k,Value.int .i64 m.c,Value.int .i64 m.s,Value.int .i64 m.f,Value.int .i64 m.a,Value.int .u32 (m.w:Nat),Value.int .i64 m.n,Value.bool m.h,Value.slice a' m.l c',Value.int .i64 (L.S.play m).e,Value.int .i64 (L.S.play m).i,Value.int .i64 (((L.S.play m).S.hs m.c.toNat).st:Nat),Value.int .u32 (((L.S.play m).S.hs m.c.toNat).ss:Nat),Value.int .u32 (((L.S.play m).S.hs m.c.toNat).nm:Nat),Value.int .u32 (((L.S.play m).S.hs m.c.toNat).sn:Nat),Value.int .i64 (((L.S.play m).S.hs m.c.toNat).dc:Nat),Value.int .i64 ((L.S.play m).S.hs m.c.toNat).v.lat,Value.bool (aq ((L.S.play m).S.hs m.c.toNat).v),Value.bool (aA ((L.S.play m).S.hs m.c.toNat).v),Value.slice ah ((L.S.play m).S.PH m.c.toNat).i ch,Value.int .i64 (((L.S.play m).S.ds m.c.toNat).st:Nat),Value.int .u32 (((L.S.play m).S.ds m.c.toNat).ss:Nat),Value.int .u32 (((L.S.play m).S.ds m.c.toNat).nm:Nat),Value.int .u32 (((L.S.play m).S.ds m.c.toNat).sn:Nat),Value.int .i64 (((L.S.play m).S.ds m.c.toNat).dc:Nat),Value.int .i64 ((L.S.play m).S.ds m.c.toNat).v.lat,Value.bool (aq ((L.S.play m).S.ds m.c.toNat).v),Value.bool (aA ((L.S.play m).S.ds m.c.toNat).v),Value.slice ad ((L.S.play m).S.PD m.c.toNat).o cd],.int .i64 0])∧Hid (PWn e w0 (uz t i m (L.S.play m).S m.c.toNat a' c' ah ch ad cd) L w' (L.S.play m).S)):=by
 by_cases hb:L.S.bad m=0
 ·have l:=Ws.Law.of hb
  have ho:=Ws.Ok.of hb
  obtain⟨k,hk⟩:∃ k,m.c.toNat=k:=⟨_,rfl⟩
  rw[hk]at l
  have fit:=hfit hb
  rw[hk]at fit
  have hc:m.c=((k:Nat):Int):=l.c
  have hp:L.S.play m=⟨(L.S.up.act m).e,(L.S.up.act m).i,(L.S.up.act m).S.note [oH (L.S.up.act m).S k,oD (L.S.up.act m).S k]⟩:=by
   unfold Ws.play
   rw[if_neg (fun q=>q hb),hk]
   rfl
  have hRf:=pW e w0 w t L m d c h ok hn
  rw[hb,hc]at hRf
  have:=yr e w0 w t L i k m d c (L.S.up.act m).e (L.S.up.act m).i (L.S.up.act m).S h F l.kn ho.mv R hdx hl (wi _ _) (hfs hb) hRf
   (fun a' c' w1 t1 q F1 hr=>vk k (i+2) m a' c' q F1 ok l fit (2 * (i+1)+1) (by omega) (F (i+1) (by omega)).1 hr)
  rw[hp,hk,hc]
  refine this.mono ?_
  rintro r w' ⟨a',c',ah,ch,ad,cd,rfl,H⟩
  exact .inr ⟨hb,a',c',ah,ch,ad,cd,rfl,H⟩
 ·refine (xe L.x m d c (L.S.bad m) (by simpa using hb) w (pW e w0 w t L m d c h ok hn)).mono ?_
  rintro r w' ⟨rfl,b⟩
  exact .inl ⟨hb,rfl,h.below b,b⟩
structure Ws.Kn (S:Ws):Prop where
 ph:∀ k,k<S.n→Pok (S.PH k)
 pd:∀ k,k<S.n→Pok (S.PD k)
 ha:∀ k,k<S.n→∀ i,i < (S.PH k).o→(S.hs k).ap i<256
 da:∀ k,k<S.n→∀ i,i < (S.PD k).i→(S.ds k).ap i<256
 mo:∀ k,k<S.n→Mo S.mx 16 (S.ds k)
 fb:∀ f,f ∈ S.bg→f.1≤27∧∀ j,j<f.1→f.2 j<256
theorem PWn.kn {e:Nat→Nat} {w0 w:World} {t:Nat→Thing} {L:Pw} {S:Ws} (h:PWn e w0 t L w S):S.Kn:=by
 obtain⟨t1,L1,h1,hs,hx,he⟩:=h
 subst hs
 refine⟨fun k hk=>?_,fun k hk=>?_,fun k hk=>?_,fun k hk=>?_,fun k hk=>?_,(h1.2.bg h1.1).1.fl.small⟩
 ·obtain⟨B,y⟩:=h1.2.hv h1.1 hk
  exact y.pok
 ·obtain⟨B,y⟩:=h1.2.dv h1.1 hk
  exact y.pok
 ·obtain⟨B,y⟩:=h1.2.hv h1.1 hk
  exact y.apb
 ·obtain⟨B,y⟩:=h1.2.dv h1.1 hk
  exact y.apb
 ·exact Mo.of (h1.2.dv h1.1 hk)
structure Ws.In (S:Ws):Prop where
 ih:∀ k,k<S.n→Ih (S.PH k) (S.hs k)
 iv:∀ k,k<S.n→Iv (S.PD k) (S.ds k)
 hl:∀ k,k<S.n→(S.hs k).L.length≤3*S.mv
 dl:∀ k,k<S.n→(S.ds k).L.length≤3*S.mv∧(S.ds k).ms.t≤6*S.mv
 bg:S.bg.length≤S.mv
 fs:S.fs.length≤8*S.mv
theorem frB {S:Ws} (K:S.Kn) {m:Mv} (h:0≤m.f∧m.f < ((S.bg.length:Nat):Int)):∀ j,j < (S.fr m).1→(S.fr m).2 j<256:=by
 have hlt:m.f.toNat<S.bg.length:=by omega
 obtain⟨f,hf⟩:∃ y,S.bg.getD m.f.toNat dK=y:=⟨_,rfl⟩
 have hg:S.bg[m.f.toNat]?=some f:=by
  rw[← hf,List.getD_eq_getElem?_getD,List.getElem?_eq_getElem hlt]
  rfl
 have hb:=K.fb f (List.mem_of_getElem? hg)
 unfold Ws.fr
 rw[hf]
 split
 ·intro j hj
  exact vQ (n:=f.1) hb.2 (fun i _=>ot _ _ i) j hj
 ·exact hb.2
theorem Ws.In.fit {S:Ws} (I:S.In) (K:S.Kn) {m:Mv} (hv:S.mv<4096) {k:Nat} (hk:k<S.n):S.up.Fit m k:=by
 have h1:=I.ih k hk
 have h2:=I.iv k hk
 have h3:=I.hl k hk
 have h4:=I.dl k hk
 have h5:=I.bg
 have h6:=I.fs
 exact⟨by show S.fs.length≤80000;omega,by show S.bg.length<4096;omega,h1.ms,⟨h1.st1,h1.st5⟩,h1.sentY (K.ph k hk),by show (S.hs k).L.length<700000;omega,nw _ _ (K.ha k hk),ng _ _,h2.sent (K.pd k hk),h2.od,by show (S.ds k).L.length<800000;omega,by show (S.ds k).ms.t<9223372036854774000;omega,mI _ _ _ _ (K.da k hk) _ _,lS _ _ _ _ _ _⟩
structure Stp (S T:Ws) (k b c:Nat):Prop where
 n:T.n=S.n
 PH:T.PH=S.PH
 PD:T.PD=S.PD
 mx:T.mx=S.mx
 mv:T.mv=S.mv
 hs:∀ j,j≠k→T.hs j=S.hs j
 ds:∀ j,j≠k→T.ds j=S.ds j
 ih:Ih (S.PH k) (T.hs k)
 iv:Iv (S.PD k) (T.ds k)
 hl:(T.hs k).L.length ≤ (S.hs k).L.length+3
 dl:(T.ds k).L.length ≤ (S.ds k).L.length+3∧(T.ds k).ms.t ≤ (S.ds k).ms.t+6
 bg:T.bg.length≤S.bg.length+b
 fs:T.fs.length≤S.fs.length+c
section
variable {S T:Ws} {k b c:Nat}
theorem qF (ih:Ih (S.PH k) (S.hs k)) (iv:Iv (S.PD k) (S.ds k)) {s:Sh} (h:Ih (S.PH k) s) (hl:s.L.length ≤ (S.hs k).L.length+3):Stp S (S.setH k s) k 0 0:=
 ⟨rfl,rfl,rfl,rfl,rfl,fun j hj=>gp _ _ hj,fun _ _=>rfl,by show Ih (S.PH k) (ep S.hs k s k);rw[ai];exact h,iv,by show (ep S.hs k s k).L.length≤_;rw[ai];exact hl,⟨by show (S.ds k).L.length≤_;omega,by show (S.ds k).ms.t≤_;omega⟩,Nat.le_refl _,Nat.le_refl _⟩
theorem qZ (ih:Ih (S.PH k) (S.hs k)) (iv:Iv (S.PD k) (S.ds k)) {s:Sd} (h:Iv (S.PD k) s) (g:Gw (S.ds k) s):Stp S (S.setD k s) k 0 0:=
 ⟨rfl,rfl,rfl,rfl,rfl,fun _ _=>rfl,fun j hj=>gp _ _ hj,ih,by show Iv (S.PD k) (ep S.ds k s k);rw[ai];exact h,by show (S.hs k).L.length≤_;omega,by show (ep S.ds k s k).L.length≤_∧(ep S.ds k s k).ms.t≤_;rw[ai];exact g,Nat.le_refl _,Nat.le_refl _⟩
theorem Stp.note (h:Stp S T k b c) (l:List Fa):Stp S (T.note l) k b (c+l.length):=
 ⟨h.n,h.PH,h.PD,h.mx,h.mv,h.hs,h.ds,h.ih,h.iv,h.hl,h.dl,h.bg,by show (T.fs ++ l).length≤_;rw[List.length_append];have:=h.fs;omega⟩
theorem Stp.more (h:Stp S T k b c) {b' c':Nat} (hb:b≤b') (hc:c≤c'):Stp S T k b' c':=
 ⟨h.n,h.PH,h.PD,h.mx,h.mv,h.hs,h.ds,h.ih,h.iv,h.hl,h.dl,by have:=h.bg;omega,by have:=h.fs;omega⟩
theorem Stp.put (h:Stp S T k b c) (k' s:Nat) (f:Fm):Stp S (T.put k' s f) k (b+1) (c+1):=by
 obtain⟨p1,p2,p3,p4,p5,p6,p7,p8⟩:=aM T k' s f
 refine⟨p1.trans h.n,p5.trans h.PH,p4.trans h.PD,p6.trans h.mx,p7.trans h.mv,fun j hj=>by rw[p3];exact h.hs j hj,fun j hj=>by rw[p2];exact h.ds j hj,by rw[p3];exact h.ih,by rw[p2];exact h.iv,by rw[p3];exact h.hl,by rw[p2];exact h.dl,?_,by have:=h.fs;omega⟩
 have:=h.bg
 unfold Ws.put
 split
 ·omega
 ·show (T.bg ++ [f]).length≤_
  rw[List.length_append]
  simp
  omega
theorem lR {α:Type} {p:Prop} [Decidable p] (x:α):(if p then [x] else []).length≤1:=by split <;> simp
theorem lp (K:S.Kn) (ih:Ih (S.PH k) (S.hs k)) (iv:Iv (S.PD k) (S.ds k)) {m:Mv} (l:S.Law m k):Stp S (S.act m).S k 1 5:=by
 have hk:m.c.toNat=k:=by have:=l.c;omega
 have kn:=l.kn
 have M:=K.mo k kn
 have pH:=K.ph k kn
 have pD:=K.pd k kn
 unfold Ws.act
 rw[hk]
 dsimp only
 split
 ·split
  ·exact (qF ih iv (ih.write _ _ _) (by have:=nI (S.PH k) (S.hs k) m.l m.b m.h;omega)).more (by omega) (by omega)
  ·exact (qZ ih iv (iv.write _ _ _) (ue _ _ _)).more (by omega) (by omega)
 ·split
  ·exact ((qF ih iv (ih.send pH) (by have:=rU (S.PH k) (S.hs k);omega)).put k 1 _).more (by omega) (by omega)
  ·split
   ·next q3=>
    have fb:=frB K (l.fr q3)
    split
    ·unfold Ws.toH
     dsimp only
     have h1:=qF ih iv (ih.recv pH _ _ fb) (by have:=oq (S.PH k) (S.hs k) (S.fr m).1 (S.fr m).2;omega)
     split
     ·exact (h1.note _).more (by omega) (by have:=fw k 1 (S.fr m);omega)
     ·exact h1.more (by omega) (by omega)
    ·unfold Ws.toD
     dsimp only
     have h1:Stp S (S.toD1 k (S.fr m)) k 0 2:=by
      unfold Ws.toD1
      exact ((qZ ih iv (iv.recv pD M _ _) (uD M _ _)).note _).more (by omega) (by have:=jo k (S.ds k) (au (S.PD k) S.mx 16 (S.ds k) (S.fr m).1 (S.fr m).2).s;omega)
     have h2:Stp S (S.toD2 k (S.fr m)) k 0 4:=by
      unfold Ws.toD2
      split
      ·exact (h1.note _).more (by omega) (by have:=fw k 2 (S.fr m);omega)
      ·exact h1.more (by omega) (by omega)
     exact (h2.put k 2 _).more (by omega) (by omega)
   ·split
    ·split
     ·exact ((qF ih iv (ih.tick _) (by have:=pv (S.PH k) (S.hs k) m.n;omega)).note _).more (by omega) (by have:=lR (p:=eA m.n=0) (⟨5,k,1,0,m.n.toNat,false,0,dK⟩:Fa);omega)
     ·exact ((qZ ih iv (iv.tick _) (uu _)).note _).more (by omega) (by have:=lR (p:=ej (S.ds k) m.n=0) (⟨5,k,2,0,m.n.toNat,false,0,dK⟩:Fa);omega)
    ·split
     ·split
      ·exact ((qF ih iv ih.ack (Nat.le_add_right (S.hs k).L.length 3)).note _).more (by omega) (by have:=lR (p:=fG (S.hs k)=0) (dk 6 k 1);omega)
      ·exact ((qZ ih iv iv.ack xg).note _).more (by omega) (by have:=lR (p:=fI (S.ds k)=0) (dk 6 k 2);omega)
     ·split
      ·split
       ·have h1:=(qF ih iv (Ih.life (S.PH k) (S.hs k)) (Nat.le_add_right (S.hs k).L.length 3)).note [dk 7 k 1]
        exact (show Stp S ((S.note [dk 7 k 1]).setH k (fF (S.hs k))) k 0 (0+1) from h1).more (by omega) (by omega)
       ·have h1:=(qZ ih iv (iv.reset (mx:=S.mx) (n:=16) m.n) (tP M m.n)).note [dk 7 k 2]
        exact (show Stp S ((S.note [dk 7 k 2]).setD k (cC S.mx 16 (S.ds k) m.n)) k 0 (0+1) from h1).more (by omega) (by omega)
      ·exact (qZ ih iv (iv.arm _) (xw _)).more (by omega) (by omega)
end
theorem Ws.In.play {S:Ws} (I:S.In) (K:S.Kn) {m:Mv}:(S.play m).S.In:=by
 by_cases hb:S.bad m=0
 ·have l:=Ws.Law.of hb
  obtain⟨k,hk⟩:∃ k,m.c.toNat=k:=⟨_,rfl⟩
  rw[hk]at l
  have K':S.up.Kn:=⟨K.ph,K.pd,K.ha,K.da,K.mo,K.fb⟩
  have h:=lp K' (I.ih k l.kn) (I.iv k l.kn) l
  have h2:=h.note [oH (S.up.act m).S k,oD (S.up.act m).S k]
  have hp:(S.play m).S=(S.up.act m).S.note [oH (S.up.act m).S k,oD (S.up.act m).S k]:=by
   unfold Ws.play
   rw[if_neg (fun q=>q hb),hk]
   rfl
  rw[hp]
  obtain⟨T,hT⟩:∃ T,(S.up.act m).S.note [oH (S.up.act m).S k,oD (S.up.act m).S k]=T:=⟨_,rfl⟩
  rw[hT]at h2 ⊢
  have e1:T.mv=S.mv+1:=h2.mv
  have e2:T.n=S.n:=h2.n
  refine⟨fun j hj=>?_,fun j hj=>?_,fun j hj=>?_,fun j hj=>?_,?_,?_⟩
  ·rw[show T.PH j=S.PH j from congrFun h2.PH j]
   by_cases z:j=k
   ·subst z;exact h2.ih
   ·rw[show T.hs j=S.hs j from h2.hs j z];exact I.ih j (by omega)
  ·rw[show T.PD j=S.PD j from congrFun h2.PD j]
   by_cases z:j=k
   ·subst z;exact h2.iv
   ·rw[show T.ds j=S.ds j from h2.ds j z];exact I.iv j (by omega)
  ·rw[e1]
   by_cases z:j=k
   ·subst z
    have:=I.hl j (by omega)
    have:(T.hs j).L.length ≤ (S.hs j).L.length+3:=h2.hl
    omega
   ·rw[show T.hs j=S.hs j from h2.hs j z]
    have:=I.hl j (by omega)
    omega
  ·rw[e1]
   by_cases z:j=k
   ·subst z
    have:=I.dl j (by omega)
    have q:(T.ds j).L.length ≤ (S.ds j).L.length+3∧(T.ds j).ms.t ≤ (S.ds j).ms.t+6:=h2.dl
    omega
   ·rw[show T.ds j=S.ds j from h2.ds j z]
    have:=I.dl j (by omega)
    omega
  ·rw[e1]
   have:=I.bg
   have q:T.bg.length≤S.bg.length+1:=h2.bg
   omega
  ·rw[e1]
   have:=I.fs
   have q:T.fs.length≤S.fs.length + (5+2):=h2.fs
   omega
 ·have hp:(S.play m).S=S:=by
   unfold Ws.play
   rw[if_pos hb]
  rw[hp]
  exact I
theorem Ws.In.room {S:Ws} (I:S.In) (K:S.Kn) {m:Mv} (hb:S.bad m=0):(S.up.act m).S.fs.length≤90000:=by
 have l:=Ws.Law.of hb
 have o:=Ws.Ok.of hb
 have K':S.up.Kn:=⟨K.ph,K.pd,K.ha,K.da,K.mo,K.fb⟩
 have h:=(lp K' (I.ih _ l.kn) (I.iv _ l.kn) l).fs
 have q:(S.up.act m).S.fs.length≤S.fs.length+5:=h
 have:=I.fs
 have:=o.mv
 omega
theorem uN (e:Nat→Nat) (w0 w:World) (t:Nat→Thing) (L:Pw) (i:Nat) (m:Mv) (d:Option Addr) (c:Nat) (h:PW e w0 w t L) (F:Fre e t i) (I:L.S.In) (ok:m.Ok) (hn:0<L.S.n) (R:Row8 w d m.l c m.b) (hdx:∀ y,d=some y→0<m.l→y.block≠L.x) (hl:m.l≤140737488351232) :
  Calls prog 16 #[ac L.x 0,.agg (aj m m.c d c)] w fun r w'=>
   (L.S.bad m≠0∧r=.returned (.tuple #[.agg cu,.int .i64 (L.S.bad m)])∧Hid (PW e w0 w' t L∧Below w.heap.size w w')) ∨
   (L.S.bad m=0∧∃ a' c' ah ch ad cd,r=.returned (.tuple #[.agg #[Value.int .i64 m.k,Value.int .i64 m.c,Value.int .i64 m.s,Value.int .i64 m.f,Value.int .i64 m.a,Value.int .u32 (m.w:Nat),Value.int .i64 m.n,Value.bool m.h,Value.slice a' m.l c',Value.int .i64 (L.S.play m).e,Value.int .i64 (L.S.play m).i,Value.int .i64 (((L.S.play m).S.hs m.c.toNat).st:Nat),Value.int .u32 (((L.S.play m).S.hs m.c.toNat).ss:Nat),Value.int .u32 (((L.S.play m).S.hs m.c.toNat).nm:Nat),Value.int .u32 (((L.S.play m).S.hs m.c.toNat).sn:Nat),Value.int .i64 (((L.S.play m).S.hs m.c.toNat).dc:Nat),Value.int .i64 ((L.S.play m).S.hs m.c.toNat).v.lat,Value.bool (aq ((L.S.play m).S.hs m.c.toNat).v),Value.bool (aA ((L.S.play m).S.hs m.c.toNat).v),Value.slice ah ((L.S.play m).S.PH m.c.toNat).i ch,Value.int .i64 (((L.S.play m).S.ds m.c.toNat).st:Nat),Value.int .u32 (((L.S.play m).S.ds m.c.toNat).ss:Nat),Value.int .u32 (((L.S.play m).S.ds m.c.toNat).nm:Nat),Value.int .u32 (((L.S.play m).S.ds m.c.toNat).sn:Nat),Value.int .i64 (((L.S.play m).S.ds m.c.toNat).dc:Nat),Value.int .i64 ((L.S.play m).S.ds m.c.toNat).v.lat,Value.bool (aq ((L.S.play m).S.ds m.c.toNat).v),Value.bool (aA ((L.S.play m).S.ds m.c.toNat).v),Value.slice ad ((L.S.play m).S.PD m.c.toNat).o cd],.int .i64 0])∧Hid (PWn e w0 (uz t i m (L.S.play m).S m.c.toNat a' c' ah ch ad cd) L w' (L.S.play m).S)):=
 sV e w0 w t L i m d c h F ok hn R hdx hl (fun hb=>I.fit h.n.kn (Ws.Ok.of hb).mv (Ws.Law.of hb).kn) (fun hb=>I.room h.n.kn hb)
end Go.Proofs.YtfgnmadnmjdbiaaGreat
