/- Part 39: contracts that the proof rests on. -/
import Derived.Test.YtddahhlbpcbddaaGreatPkX36
import Derived.Test.YtddahhlbpcbddaaGreatPkX37
set_option maxHeartbeats 64000000
set_option maxRecDepth 100000
namespace Go.Proofs.YtddahhlbpcbddaaGreat
open Tryz
open Go.RowKit Go.Maps
set_option linter.unusedVariables false
theorem acf (X:Nat) (m:Mv) (d:Option Addr) (c:Nat) (w:World) (h3:(m.k == 3)=false) (h4:(m.k == 4)=false) (h5:(m.k == 5)=true):Calls prog 54 #[ac X 0,.agg (aj m m.c d c)] w fun r w'=>r=.returned (.int .i64 (if m.n<0∨wW m<m.n then 2 else 0))∧Hid (Below w.heap.size w w'):=by
 have kA:=ay w (.cells (aj m m.c d c) 39)
 have bA:=az (Below.refl _ w) (.cells (aj m m.c d c) 39)
 obtain⟨wa,hwa⟩:∃ y,w.alloc (.cells (aj m m.c d c) 39)=y:=⟨_,rfl⟩
 rw[hwa]at kA bA
 obtain⟨x,hx⟩:∃ y,w.heap.size=y:=⟨_,rfl⟩
 have HB:Hid (Below w.heap.size w wa):=bA
 have HS:Hid (w.heap.size=x):=hx
 rw[hx]at kA
 have q0:wa.cell? ⟨x,0,none⟩=some (.int .i64 m.k):=ae wa x 0 _ _ _ kA
 have q1:wa.cell? ⟨x,1,none⟩=some (.int .i64 m.c):=ae wa x 1 _ _ _ kA
 have q2:wa.cell? ⟨x,2,none⟩=some (.int .i64 m.s):=ae wa x 2 _ _ _ kA
 have q3:wa.cell? ⟨x,3,none⟩=some (.int .i64 m.f):=ae wa x 3 _ _ _ kA
 have q4:wa.cell? ⟨x,4,none⟩=some (.int .i64 m.a):=ae wa x 4 _ _ _ kA
 have q5:wa.cell? ⟨x,5,none⟩=some (.int .u32 (m.w:Nat)):=ae wa x 5 _ _ _ kA
 have q6:wa.cell? ⟨x,6,none⟩=some (.int .i64 m.n):=ae wa x 6 _ _ _ kA
 have q7:wa.cell? ⟨x,7,none⟩=some (.bool m.h):=ae wa x 7 _ _ _ kA
 have q8:wa.cell? ⟨x,8,none⟩=some (.slice d m.l c):=ae wa x 8 _ _ _ kA
 have hS:∀ w',Below wa.heap.size wa w'→w'.cell? ⟨x,0,none⟩=some (Value.int .i64 m.k)∧w'.cell? ⟨x,1,none⟩=some (Value.int .i64 m.c)∧w'.cell? ⟨x,2,none⟩=some (Value.int .i64 m.s)∧w'.cell? ⟨x,3,none⟩=some (Value.int .i64 m.f)∧w'.cell? ⟨x,4,none⟩=some (Value.int .i64 m.a)∧w'.cell? ⟨x,5,none⟩=some (Value.int .u32 (m.w:Nat))∧w'.cell? ⟨x,6,none⟩=some (Value.int .i64 m.n)∧w'.cell? ⟨x,7,none⟩=some (Value.bool m.h)∧w'.cell? ⟨x,8,none⟩=some (Value.slice d m.l c):=fun w' b=>⟨ag q0 b,ag q1 b,ag q2 b,ag q3 b,ag q4 b,ag q5 b,ag q6 b,ag q7 b,ag q8 b⟩
 have HS0:=hS wa.drew (Below.drew (Below.refl _ _))
 have HSS:Hid (_):=hS
 have HBd:Hid (Below w.heap.size w wa.drew):=Below.drew bA
 have hGG:=jr m d c wa.drew
 obtain⟨G,hG⟩:∃ z,wW m=z:=⟨_,rfl⟩
 rw[hG]at hGG ⊢
 have HE:Hid (_=wa):=hwa
 clear kA hwa hx
 clear bA hS hG
 by_cases n0:m.n<0
 ·rw[if_pos (.inl n0)]
  go_enter func54,ntmps54
  go_upto_region 1 with fail
  rw[HE.out,HS.out]
  go_upto_region 9 with fail
  refine wp_region_held_drew (S:=fun w'=>w'.cell? ⟨x,0,none⟩=some (Value.int .i64 m.k)∧w'.cell? ⟨x,1,none⟩=some (Value.int .i64 m.c)∧w'.cell? ⟨x,2,none⟩=some (Value.int .i64 m.s)∧w'.cell? ⟨x,3,none⟩=some (Value.int .i64 m.f)∧w'.cell? ⟨x,4,none⟩=some (Value.int .i64 m.a)∧w'.cell? ⟨x,5,none⟩=some (Value.int .u32 (m.w:Nat))∧w'.cell? ⟨x,6,none⟩=some (Value.int .i64 m.n)∧w'.cell? ⟨x,7,none⟩=some (Value.bool m.h)∧w'.cell? ⟨x,8,none⟩=some (Value.slice d m.l c)) (by kernel_rfl) HS0 (fun _=>?_)
  refine an (i:=0) (v:=ac x 6) ?_
  refine an (i:=1) (v:=Value.int .i64 m.n) ?_
  refine an (i:=2) (v:=Value.bool true) ?_
  refine an (i:=3) (v:=Value.bool true) ?_
  refine wpAnyH_take (i:=4) (v:=undef) rfl (by kernel_rfl) (by kernel_rfl) (by kernel_rfl) (fun _ _ _ h=>h) (Or.inr ⟨by kernel_rfl,rfl⟩) (by assumption) ?_
  refine wpAnyH_take (i:=5) (v:=undef) rfl (by kernel_rfl) (by kernel_rfl) (by kernel_rfl) (fun _ _ _ h=>h) (Or.inr ⟨by kernel_rfl,rfl⟩) (by assumption) ?_
  refine wpAnyH_take (i:=6) (v:=undef) rfl (by kernel_rfl) (by kernel_rfl) (by kernel_rfl) (fun _ _ _ h=>h) (Or.inr ⟨by kernel_rfl,rfl⟩) (by assumption) ?_
  refine wpAnyH_take (i:=7) (v:=undef) rfl (by kernel_rfl) (by kernel_rfl) (by kernel_rfl) (fun _ _ _ h=>h) (Or.inr ⟨by kernel_rfl,rfl⟩) (by assumption) ?_
  refine wpAnyH_take (i:=8) (v:=undef) rfl (by kernel_rfl) (by kernel_rfl) (by kernel_rfl) (fun _ _ _ h=>h) (Or.inr ⟨by kernel_rfl,rfl⟩) (by assumption) ?_
  refine an (i:=9) (v:=Value.bool true) ?_
  refine aI (a':={ tmps:=#[ac X 0,Value.agg (aj m m.c d c),undef,ac x 0,Value.int .i64 0,undef,undef,ac x 0,Value.int .i64 m.k,Value.bool false,Value.bool false,Value.bool false,undef,undef,undef,undef,undef,undef,undef,Value.bool true,Value.bool true,undef,undef,ac x 6,Value.int .i64 m.n,Value.bool true,Value.bool true,undef,undef,undef,undef,undef,Value.bool true],defers:=[] }) (l':=#[true,true,true,true,true,true,true,true,true,true]) (by kernel_rfl) (by kernel_rfl) ?_
  refine wpAnyH_done (by kernel_rfl) ?_ _
  go_wp2_with fail
  go_ret
  exact⟨rfl,HBd.out⟩
 ·by_cases n1:G<m.n
  ·rw[if_pos (.inr n1)]
   have n1':m.n > G:=n1
   go_enter func54,ntmps54
   go_upto_region 1 with fail
   rw[HE.out,HS.out]
   go_upto_region 9 with fail
   refine wp_region_held_drew (S:=fun w'=>w'.cell? ⟨x,0,none⟩=some (Value.int .i64 m.k)∧w'.cell? ⟨x,1,none⟩=some (Value.int .i64 m.c)∧w'.cell? ⟨x,2,none⟩=some (Value.int .i64 m.s)∧w'.cell? ⟨x,3,none⟩=some (Value.int .i64 m.f)∧w'.cell? ⟨x,4,none⟩=some (Value.int .i64 m.a)∧w'.cell? ⟨x,5,none⟩=some (Value.int .u32 (m.w:Nat))∧w'.cell? ⟨x,6,none⟩=some (Value.int .i64 m.n)∧w'.cell? ⟨x,7,none⟩=some (Value.bool m.h)∧w'.cell? ⟨x,8,none⟩=some (Value.slice d m.l c)) (by kernel_rfl) HS0 (fun _=>?_)
   refine an (i:=0) (v:=ac x 6) ?_
   refine an (i:=1) (v:=Value.int .i64 m.n) ?_
   refine an (i:=2) (v:=Value.bool false) ?_
   refine an (i:=3) (v:=Value.bool false) ?_
   refine an (i:=4) (v:=ac x 6) ?_
   refine an (i:=5) (v:=Value.int .i64 m.n) ?_
   refine an (i:=6) (v:=Value.agg (aj m m.c d c)) ?_
   refine aF (i:=7) 79 #[Value.agg (aj m m.c d c)] (by kernel_rfl) rfl (by kernel_rfl) (by go_simp) ?_
   refine hGG.mono ?_
   rintro r w2 ⟨rfl,b2⟩
   clear hGG
   have HS2:=HSS.out w2 ((Below.drew (Below.refl wa.heap.size wa)).trans b2)
   refine⟨_,rfl,HS2,?_⟩
   refine an (i:=8) (v:=Value.bool true) ?_
   refine an (i:=9) (v:=Value.bool true) ?_
   refine aI (a':={ tmps:=#[ac X 0,Value.agg (aj m m.c d c),undef,ac x 0,Value.int .i64 0,undef,undef,ac x 0,Value.int .i64 m.k,Value.bool false,Value.bool false,Value.bool false,undef,undef,undef,undef,undef,undef,undef,Value.bool true,Value.bool true,undef,undef,ac x 6,Value.int .i64 m.n,Value.bool false,Value.bool false,ac x 6,Value.int .i64 m.n,Value.agg (aj m m.c d c),Value.int .i64 G,Value.bool true,Value.bool true],defers:=[] }) (l':=#[true,true,true,true,true,true,true,true,true,true]) (by kernel_rfl) (by kernel_rfl) ?_
   refine wpAnyH_done (by kernel_rfl) ?_ _
   have HF:Hid (Below w.heap.size w w2):=HBd.out.trans (b2.mono HBd.out.size)
   clear HS2 b2
   go_wp2_with fail
   go_ret
   exact⟨rfl,HF.out⟩
  ·rw[if_neg (fun q=>q.elim n0 n1)]
   have n1':¬ (m.n > G):=n1
   go_enter func54,ntmps54
   go_upto_region 1 with fail
   rw[HE.out,HS.out]
   go_upto_region 9 with fail
   refine wp_region_held_drew (S:=fun w'=>w'.cell? ⟨x,0,none⟩=some (Value.int .i64 m.k)∧w'.cell? ⟨x,1,none⟩=some (Value.int .i64 m.c)∧w'.cell? ⟨x,2,none⟩=some (Value.int .i64 m.s)∧w'.cell? ⟨x,3,none⟩=some (Value.int .i64 m.f)∧w'.cell? ⟨x,4,none⟩=some (Value.int .i64 m.a)∧w'.cell? ⟨x,5,none⟩=some (Value.int .u32 (m.w:Nat))∧w'.cell? ⟨x,6,none⟩=some (Value.int .i64 m.n)∧w'.cell? ⟨x,7,none⟩=some (Value.bool m.h)∧w'.cell? ⟨x,8,none⟩=some (Value.slice d m.l c)) (by kernel_rfl) HS0 (fun _=>?_)
   refine an (i:=0) (v:=ac x 6) ?_
   refine an (i:=1) (v:=Value.int .i64 m.n) ?_
   refine an (i:=2) (v:=Value.bool false) ?_
   refine an (i:=3) (v:=Value.bool false) ?_
   refine an (i:=4) (v:=ac x 6) ?_
   refine an (i:=5) (v:=Value.int .i64 m.n) ?_
   refine an (i:=6) (v:=Value.agg (aj m m.c d c)) ?_
   refine aF (i:=7) 79 #[Value.agg (aj m m.c d c)] (by kernel_rfl) rfl (by kernel_rfl) (by go_simp) ?_
   refine hGG.mono ?_
   rintro r w2 ⟨rfl,b2⟩
   clear hGG
   have HS2:=HSS.out w2 ((Below.drew (Below.refl wa.heap.size wa)).trans b2)
   refine⟨_,rfl,HS2,?_⟩
   refine an (i:=8) (v:=Value.bool false) ?_
   refine an (i:=9) (v:=Value.bool false) ?_
   refine aI (a':={ tmps:=#[ac X 0,Value.agg (aj m m.c d c),undef,ac x 0,Value.int .i64 0,undef,undef,ac x 0,Value.int .i64 m.k,Value.bool false,Value.bool false,Value.bool false,undef,undef,undef,undef,undef,undef,undef,Value.bool true,Value.bool true,undef,undef,ac x 6,Value.int .i64 m.n,Value.bool false,Value.bool false,ac x 6,Value.int .i64 m.n,Value.agg (aj m m.c d c),Value.int .i64 G,Value.bool false,Value.bool false],defers:=[] }) (l':=#[true,true,true,true,true,true,true,true,true,true]) (by kernel_rfl) (by kernel_rfl) ?_
   refine wpAnyH_done (by kernel_rfl) ?_ _
   have HF:Hid (Below w.heap.size w w2):=HBd.out.trans (b2.mono HBd.out.size)
   clear HS2 b2
   go_wp2_with fail
   go_ret
   exact⟨rfl,HF.out⟩
theorem ace (X:Nat) (m:Mv) (d:Option Addr) (c:Nat) (w:World) (h3:(m.k == 3)=false) (h4:(m.k == 4)=false) (h5:(m.k == 5)=false) (h7:(m.k == 7)=true):Calls prog 54 #[ac X 0,.agg (aj m m.c d c)] w fun r w'=>r=.returned (.int .i64 (if m.n<0∨wW m<m.n then 2 else 0))∧Hid (Below w.heap.size w w'):=by
 have kA:=ay w (.cells (aj m m.c d c) 39)
 have bA:=az (Below.refl _ w) (.cells (aj m m.c d c) 39)
 obtain⟨wa,hwa⟩:∃ y,w.alloc (.cells (aj m m.c d c) 39)=y:=⟨_,rfl⟩
 rw[hwa]at kA bA
 obtain⟨x,hx⟩:∃ y,w.heap.size=y:=⟨_,rfl⟩
 have HB:Hid (Below w.heap.size w wa):=bA
 have HS:Hid (w.heap.size=x):=hx
 rw[hx]at kA
 have q0:wa.cell? ⟨x,0,none⟩=some (.int .i64 m.k):=ae wa x 0 _ _ _ kA
 have q1:wa.cell? ⟨x,1,none⟩=some (.int .i64 m.c):=ae wa x 1 _ _ _ kA
 have q2:wa.cell? ⟨x,2,none⟩=some (.int .i64 m.s):=ae wa x 2 _ _ _ kA
 have q3:wa.cell? ⟨x,3,none⟩=some (.int .i64 m.f):=ae wa x 3 _ _ _ kA
 have q4:wa.cell? ⟨x,4,none⟩=some (.int .i64 m.a):=ae wa x 4 _ _ _ kA
 have q5:wa.cell? ⟨x,5,none⟩=some (.int .u32 (m.w:Nat)):=ae wa x 5 _ _ _ kA
 have q6:wa.cell? ⟨x,6,none⟩=some (.int .i64 m.n):=ae wa x 6 _ _ _ kA
 have q7:wa.cell? ⟨x,7,none⟩=some (.bool m.h):=ae wa x 7 _ _ _ kA
 have q8:wa.cell? ⟨x,8,none⟩=some (.slice d m.l c):=ae wa x 8 _ _ _ kA
 have hS:∀ w',Below wa.heap.size wa w'→w'.cell? ⟨x,0,none⟩=some (Value.int .i64 m.k)∧w'.cell? ⟨x,1,none⟩=some (Value.int .i64 m.c)∧w'.cell? ⟨x,2,none⟩=some (Value.int .i64 m.s)∧w'.cell? ⟨x,3,none⟩=some (Value.int .i64 m.f)∧w'.cell? ⟨x,4,none⟩=some (Value.int .i64 m.a)∧w'.cell? ⟨x,5,none⟩=some (Value.int .u32 (m.w:Nat))∧w'.cell? ⟨x,6,none⟩=some (Value.int .i64 m.n)∧w'.cell? ⟨x,7,none⟩=some (Value.bool m.h)∧w'.cell? ⟨x,8,none⟩=some (Value.slice d m.l c):=fun w' b=>⟨ag q0 b,ag q1 b,ag q2 b,ag q3 b,ag q4 b,ag q5 b,ag q6 b,ag q7 b,ag q8 b⟩
 have HS0:=hS wa.drew (Below.drew (Below.refl _ _))
 have HSS:Hid (_):=hS
 have HBd:Hid (Below w.heap.size w wa.drew):=Below.drew bA
 have hGG:=jr m d c wa.drew
 obtain⟨G,hG⟩:∃ z,wW m=z:=⟨_,rfl⟩
 rw[hG]at hGG ⊢
 have HE:Hid (_=wa):=hwa
 clear kA hwa hx
 clear bA hS hG
 by_cases n0:m.n<0
 ·rw[if_pos (.inl n0)]
  go_enter func54,ntmps54
  go_upto_region 1 with fail
  rw[HE.out,HS.out]
  go_upto_region 9 with fail
  refine wp_region_held_drew (S:=fun w'=>w'.cell? ⟨x,0,none⟩=some (Value.int .i64 m.k)∧w'.cell? ⟨x,1,none⟩=some (Value.int .i64 m.c)∧w'.cell? ⟨x,2,none⟩=some (Value.int .i64 m.s)∧w'.cell? ⟨x,3,none⟩=some (Value.int .i64 m.f)∧w'.cell? ⟨x,4,none⟩=some (Value.int .i64 m.a)∧w'.cell? ⟨x,5,none⟩=some (Value.int .u32 (m.w:Nat))∧w'.cell? ⟨x,6,none⟩=some (Value.int .i64 m.n)∧w'.cell? ⟨x,7,none⟩=some (Value.bool m.h)∧w'.cell? ⟨x,8,none⟩=some (Value.slice d m.l c)) (by kernel_rfl) HS0 (fun _=>?_)
  refine an (i:=0) (v:=ac x 6) ?_
  refine an (i:=1) (v:=Value.int .i64 m.n) ?_
  refine an (i:=2) (v:=Value.bool true) ?_
  refine an (i:=3) (v:=Value.bool true) ?_
  refine wpAnyH_take (i:=4) (v:=undef) rfl (by kernel_rfl) (by kernel_rfl) (by kernel_rfl) (fun _ _ _ h=>h) (Or.inr ⟨by kernel_rfl,rfl⟩) (by assumption) ?_
  refine wpAnyH_take (i:=5) (v:=undef) rfl (by kernel_rfl) (by kernel_rfl) (by kernel_rfl) (fun _ _ _ h=>h) (Or.inr ⟨by kernel_rfl,rfl⟩) (by assumption) ?_
  refine wpAnyH_take (i:=6) (v:=undef) rfl (by kernel_rfl) (by kernel_rfl) (by kernel_rfl) (fun _ _ _ h=>h) (Or.inr ⟨by kernel_rfl,rfl⟩) (by assumption) ?_
  refine wpAnyH_take (i:=7) (v:=undef) rfl (by kernel_rfl) (by kernel_rfl) (by kernel_rfl) (fun _ _ _ h=>h) (Or.inr ⟨by kernel_rfl,rfl⟩) (by assumption) ?_
  refine wpAnyH_take (i:=8) (v:=undef) rfl (by kernel_rfl) (by kernel_rfl) (by kernel_rfl) (fun _ _ _ h=>h) (Or.inr ⟨by kernel_rfl,rfl⟩) (by assumption) ?_
  refine an (i:=9) (v:=Value.bool true) ?_
  refine aI (a':={ tmps:=#[ac X 0,Value.agg (aj m m.c d c),undef,ac x 0,Value.int .i64 0,undef,undef,ac x 0,Value.int .i64 m.k,Value.bool false,Value.bool false,Value.bool false,undef,undef,undef,undef,undef,undef,undef,Value.bool true,Value.bool false,Value.bool true,undef,ac x 6,Value.int .i64 m.n,Value.bool true,Value.bool true,undef,undef,undef,undef,undef,Value.bool true],defers:=[] }) (l':=#[true,true,true,true,true,true,true,true,true,true]) (by kernel_rfl) (by kernel_rfl) ?_
  refine wpAnyH_done (by kernel_rfl) ?_ _
  go_wp2_with fail
  go_ret
  exact⟨rfl,HBd.out⟩
 ·by_cases n1:G<m.n
  ·rw[if_pos (.inr n1)]
   have n1':m.n > G:=n1
   go_enter func54,ntmps54
   go_upto_region 1 with fail
   rw[HE.out,HS.out]
   go_upto_region 9 with fail
   refine wp_region_held_drew (S:=fun w'=>w'.cell? ⟨x,0,none⟩=some (Value.int .i64 m.k)∧w'.cell? ⟨x,1,none⟩=some (Value.int .i64 m.c)∧w'.cell? ⟨x,2,none⟩=some (Value.int .i64 m.s)∧w'.cell? ⟨x,3,none⟩=some (Value.int .i64 m.f)∧w'.cell? ⟨x,4,none⟩=some (Value.int .i64 m.a)∧w'.cell? ⟨x,5,none⟩=some (Value.int .u32 (m.w:Nat))∧w'.cell? ⟨x,6,none⟩=some (Value.int .i64 m.n)∧w'.cell? ⟨x,7,none⟩=some (Value.bool m.h)∧w'.cell? ⟨x,8,none⟩=some (Value.slice d m.l c)) (by kernel_rfl) HS0 (fun _=>?_)
   refine an (i:=0) (v:=ac x 6) ?_
   refine an (i:=1) (v:=Value.int .i64 m.n) ?_
   refine an (i:=2) (v:=Value.bool false) ?_
   refine an (i:=3) (v:=Value.bool false) ?_
   refine an (i:=4) (v:=ac x 6) ?_
   refine an (i:=5) (v:=Value.int .i64 m.n) ?_
   refine an (i:=6) (v:=Value.agg (aj m m.c d c)) ?_
   refine aF (i:=7) 79 #[Value.agg (aj m m.c d c)] (by kernel_rfl) rfl (by kernel_rfl) (by go_simp) ?_
   refine hGG.mono ?_
   rintro r w2 ⟨rfl,b2⟩
   clear hGG
   have HS2:=HSS.out w2 ((Below.drew (Below.refl wa.heap.size wa)).trans b2)
   refine⟨_,rfl,HS2,?_⟩
   refine an (i:=8) (v:=Value.bool true) ?_
   refine an (i:=9) (v:=Value.bool true) ?_
   refine aI (a':={ tmps:=#[ac X 0,Value.agg (aj m m.c d c),undef,ac x 0,Value.int .i64 0,undef,undef,ac x 0,Value.int .i64 m.k,Value.bool false,Value.bool false,Value.bool false,undef,undef,undef,undef,undef,undef,undef,Value.bool true,Value.bool false,Value.bool true,undef,ac x 6,Value.int .i64 m.n,Value.bool false,Value.bool false,ac x 6,Value.int .i64 m.n,Value.agg (aj m m.c d c),Value.int .i64 G,Value.bool true,Value.bool true],defers:=[] }) (l':=#[true,true,true,true,true,true,true,true,true,true]) (by kernel_rfl) (by kernel_rfl) ?_
   refine wpAnyH_done (by kernel_rfl) ?_ _
   have HF:Hid (Below w.heap.size w w2):=HBd.out.trans (b2.mono HBd.out.size)
   clear HS2 b2
   go_wp2_with fail
   go_ret
   exact⟨rfl,HF.out⟩
  ·rw[if_neg (fun q=>q.elim n0 n1)]
   have n1':¬ (m.n > G):=n1
   go_enter func54,ntmps54
   go_upto_region 1 with fail
   rw[HE.out,HS.out]
   go_upto_region 9 with fail
   refine wp_region_held_drew (S:=fun w'=>w'.cell? ⟨x,0,none⟩=some (Value.int .i64 m.k)∧w'.cell? ⟨x,1,none⟩=some (Value.int .i64 m.c)∧w'.cell? ⟨x,2,none⟩=some (Value.int .i64 m.s)∧w'.cell? ⟨x,3,none⟩=some (Value.int .i64 m.f)∧w'.cell? ⟨x,4,none⟩=some (Value.int .i64 m.a)∧w'.cell? ⟨x,5,none⟩=some (Value.int .u32 (m.w:Nat))∧w'.cell? ⟨x,6,none⟩=some (Value.int .i64 m.n)∧w'.cell? ⟨x,7,none⟩=some (Value.bool m.h)∧w'.cell? ⟨x,8,none⟩=some (Value.slice d m.l c)) (by kernel_rfl) HS0 (fun _=>?_)
   refine an (i:=0) (v:=ac x 6) ?_
   refine an (i:=1) (v:=Value.int .i64 m.n) ?_
   refine an (i:=2) (v:=Value.bool false) ?_
   refine an (i:=3) (v:=Value.bool false) ?_
   refine an (i:=4) (v:=ac x 6) ?_
   refine an (i:=5) (v:=Value.int .i64 m.n) ?_
   refine an (i:=6) (v:=Value.agg (aj m m.c d c)) ?_
   refine aF (i:=7) 79 #[Value.agg (aj m m.c d c)] (by kernel_rfl) rfl (by kernel_rfl) (by go_simp) ?_
   refine hGG.mono ?_
   rintro r w2 ⟨rfl,b2⟩
   clear hGG
   have HS2:=HSS.out w2 ((Below.drew (Below.refl wa.heap.size wa)).trans b2)
   refine⟨_,rfl,HS2,?_⟩
   refine an (i:=8) (v:=Value.bool false) ?_
   refine an (i:=9) (v:=Value.bool false) ?_
   refine aI (a':={ tmps:=#[ac X 0,Value.agg (aj m m.c d c),undef,ac x 0,Value.int .i64 0,undef,undef,ac x 0,Value.int .i64 m.k,Value.bool false,Value.bool false,Value.bool false,undef,undef,undef,undef,undef,undef,undef,Value.bool true,Value.bool false,Value.bool true,undef,ac x 6,Value.int .i64 m.n,Value.bool false,Value.bool false,ac x 6,Value.int .i64 m.n,Value.agg (aj m m.c d c),Value.int .i64 G,Value.bool false,Value.bool false],defers:=[] }) (l':=#[true,true,true,true,true,true,true,true,true,true]) (by kernel_rfl) (by kernel_rfl) ?_
   refine wpAnyH_done (by kernel_rfl) ?_ _
   have HF:Hid (Below w.heap.size w w2):=HBd.out.trans (b2.mono HBd.out.size)
   clear HS2 b2
   go_wp2_with fail
   go_ret
   exact⟨rfl,HF.out⟩
theorem ab3 (X:Nat) (m:Mv) (d:Option Addr) (c:Nat) (w:World) (h3:(m.k == 3)=false) (h4:(m.k == 4)=false) (h5:(m.k == 5)=false) (h7:(m.k == 7)=false) (h8:(m.k == 8)=true):Calls prog 54 #[ac X 0,.agg (aj m m.c d c)] w fun r w'=>r=.returned (.int .i64 (if m.n<0∨wW m<m.n then 2 else 0))∧Hid (Below w.heap.size w w'):=by
 have kA:=ay w (.cells (aj m m.c d c) 39)
 have bA:=az (Below.refl _ w) (.cells (aj m m.c d c) 39)
 obtain⟨wa,hwa⟩:∃ y,w.alloc (.cells (aj m m.c d c) 39)=y:=⟨_,rfl⟩
 rw[hwa]at kA bA
 obtain⟨x,hx⟩:∃ y,w.heap.size=y:=⟨_,rfl⟩
 have HB:Hid (Below w.heap.size w wa):=bA
 have HS:Hid (w.heap.size=x):=hx
 rw[hx]at kA
 have q0:wa.cell? ⟨x,0,none⟩=some (.int .i64 m.k):=ae wa x 0 _ _ _ kA
 have q1:wa.cell? ⟨x,1,none⟩=some (.int .i64 m.c):=ae wa x 1 _ _ _ kA
 have q2:wa.cell? ⟨x,2,none⟩=some (.int .i64 m.s):=ae wa x 2 _ _ _ kA
 have q3:wa.cell? ⟨x,3,none⟩=some (.int .i64 m.f):=ae wa x 3 _ _ _ kA
 have q4:wa.cell? ⟨x,4,none⟩=some (.int .i64 m.a):=ae wa x 4 _ _ _ kA
 have q5:wa.cell? ⟨x,5,none⟩=some (.int .u32 (m.w:Nat)):=ae wa x 5 _ _ _ kA
 have q6:wa.cell? ⟨x,6,none⟩=some (.int .i64 m.n):=ae wa x 6 _ _ _ kA
 have q7:wa.cell? ⟨x,7,none⟩=some (.bool m.h):=ae wa x 7 _ _ _ kA
 have q8:wa.cell? ⟨x,8,none⟩=some (.slice d m.l c):=ae wa x 8 _ _ _ kA
 have hS:∀ w',Below wa.heap.size wa w'→w'.cell? ⟨x,0,none⟩=some (Value.int .i64 m.k)∧w'.cell? ⟨x,1,none⟩=some (Value.int .i64 m.c)∧w'.cell? ⟨x,2,none⟩=some (Value.int .i64 m.s)∧w'.cell? ⟨x,3,none⟩=some (Value.int .i64 m.f)∧w'.cell? ⟨x,4,none⟩=some (Value.int .i64 m.a)∧w'.cell? ⟨x,5,none⟩=some (Value.int .u32 (m.w:Nat))∧w'.cell? ⟨x,6,none⟩=some (Value.int .i64 m.n)∧w'.cell? ⟨x,7,none⟩=some (Value.bool m.h)∧w'.cell? ⟨x,8,none⟩=some (Value.slice d m.l c):=fun w' b=>⟨ag q0 b,ag q1 b,ag q2 b,ag q3 b,ag q4 b,ag q5 b,ag q6 b,ag q7 b,ag q8 b⟩
 have HS0:=hS wa.drew (Below.drew (Below.refl _ _))
 have HSS:Hid (_):=hS
 have HBd:Hid (Below w.heap.size w wa.drew):=Below.drew bA
 have hGG:=jr m d c wa.drew
 obtain⟨G,hG⟩:∃ z,wW m=z:=⟨_,rfl⟩
 rw[hG]at hGG ⊢
 have HE:Hid (_=wa):=hwa
 clear kA hwa hx
 clear bA hS hG
 by_cases n0:m.n<0
 ·rw[if_pos (.inl n0)]
  go_enter func54,ntmps54
  go_upto_region 1 with fail
  rw[HE.out,HS.out]
  go_upto_region 9 with fail
  refine wp_region_held_drew (S:=fun w'=>w'.cell? ⟨x,0,none⟩=some (Value.int .i64 m.k)∧w'.cell? ⟨x,1,none⟩=some (Value.int .i64 m.c)∧w'.cell? ⟨x,2,none⟩=some (Value.int .i64 m.s)∧w'.cell? ⟨x,3,none⟩=some (Value.int .i64 m.f)∧w'.cell? ⟨x,4,none⟩=some (Value.int .i64 m.a)∧w'.cell? ⟨x,5,none⟩=some (Value.int .u32 (m.w:Nat))∧w'.cell? ⟨x,6,none⟩=some (Value.int .i64 m.n)∧w'.cell? ⟨x,7,none⟩=some (Value.bool m.h)∧w'.cell? ⟨x,8,none⟩=some (Value.slice d m.l c)) (by kernel_rfl) HS0 (fun _=>?_)
  refine an (i:=0) (v:=ac x 6) ?_
  refine an (i:=1) (v:=Value.int .i64 m.n) ?_
  refine an (i:=2) (v:=Value.bool true) ?_
  refine an (i:=3) (v:=Value.bool true) ?_
  refine wpAnyH_take (i:=4) (v:=undef) rfl (by kernel_rfl) (by kernel_rfl) (by kernel_rfl) (fun _ _ _ h=>h) (Or.inr ⟨by kernel_rfl,rfl⟩) (by assumption) ?_
  refine wpAnyH_take (i:=5) (v:=undef) rfl (by kernel_rfl) (by kernel_rfl) (by kernel_rfl) (fun _ _ _ h=>h) (Or.inr ⟨by kernel_rfl,rfl⟩) (by assumption) ?_
  refine wpAnyH_take (i:=6) (v:=undef) rfl (by kernel_rfl) (by kernel_rfl) (by kernel_rfl) (fun _ _ _ h=>h) (Or.inr ⟨by kernel_rfl,rfl⟩) (by assumption) ?_
  refine wpAnyH_take (i:=7) (v:=undef) rfl (by kernel_rfl) (by kernel_rfl) (by kernel_rfl) (fun _ _ _ h=>h) (Or.inr ⟨by kernel_rfl,rfl⟩) (by assumption) ?_
  refine wpAnyH_take (i:=8) (v:=undef) rfl (by kernel_rfl) (by kernel_rfl) (by kernel_rfl) (fun _ _ _ h=>h) (Or.inr ⟨by kernel_rfl,rfl⟩) (by assumption) ?_
  refine an (i:=9) (v:=Value.bool true) ?_
  refine aI (a':={ tmps:=#[ac X 0,Value.agg (aj m m.c d c),undef,ac x 0,Value.int .i64 0,undef,undef,ac x 0,Value.int .i64 m.k,Value.bool false,Value.bool false,Value.bool false,undef,undef,undef,undef,undef,undef,undef,Value.bool true,Value.bool false,Value.bool false,Value.bool true,ac x 6,Value.int .i64 m.n,Value.bool true,Value.bool true,undef,undef,undef,undef,undef,Value.bool true],defers:=[] }) (l':=#[true,true,true,true,true,true,true,true,true,true]) (by kernel_rfl) (by kernel_rfl) ?_
  refine wpAnyH_done (by kernel_rfl) ?_ _
  go_wp2_with fail
  go_ret
  exact⟨rfl,HBd.out⟩
 ·by_cases n1:G<m.n
  ·rw[if_pos (.inr n1)]
   have n1':m.n > G:=n1
   go_enter func54,ntmps54
   go_upto_region 1 with fail
   rw[HE.out,HS.out]
   go_upto_region 9 with fail
   refine wp_region_held_drew (S:=fun w'=>w'.cell? ⟨x,0,none⟩=some (Value.int .i64 m.k)∧w'.cell? ⟨x,1,none⟩=some (Value.int .i64 m.c)∧w'.cell? ⟨x,2,none⟩=some (Value.int .i64 m.s)∧w'.cell? ⟨x,3,none⟩=some (Value.int .i64 m.f)∧w'.cell? ⟨x,4,none⟩=some (Value.int .i64 m.a)∧w'.cell? ⟨x,5,none⟩=some (Value.int .u32 (m.w:Nat))∧w'.cell? ⟨x,6,none⟩=some (Value.int .i64 m.n)∧w'.cell? ⟨x,7,none⟩=some (Value.bool m.h)∧w'.cell? ⟨x,8,none⟩=some (Value.slice d m.l c)) (by kernel_rfl) HS0 (fun _=>?_)
   refine an (i:=0) (v:=ac x 6) ?_
   refine an (i:=1) (v:=Value.int .i64 m.n) ?_
   refine an (i:=2) (v:=Value.bool false) ?_
   refine an (i:=3) (v:=Value.bool false) ?_
   refine an (i:=4) (v:=ac x 6) ?_
   refine an (i:=5) (v:=Value.int .i64 m.n) ?_
   refine an (i:=6) (v:=Value.agg (aj m m.c d c)) ?_
   refine aF (i:=7) 79 #[Value.agg (aj m m.c d c)] (by kernel_rfl) rfl (by kernel_rfl) (by go_simp) ?_
   refine hGG.mono ?_
   rintro r w2 ⟨rfl,b2⟩
   clear hGG
   have HS2:=HSS.out w2 ((Below.drew (Below.refl wa.heap.size wa)).trans b2)
   refine⟨_,rfl,HS2,?_⟩
   refine an (i:=8) (v:=Value.bool true) ?_
   refine an (i:=9) (v:=Value.bool true) ?_
   refine aI (a':={ tmps:=#[ac X 0,Value.agg (aj m m.c d c),undef,ac x 0,Value.int .i64 0,undef,undef,ac x 0,Value.int .i64 m.k,Value.bool false,Value.bool false,Value.bool false,undef,undef,undef,undef,undef,undef,undef,Value.bool true,Value.bool false,Value.bool false,Value.bool true,ac x 6,Value.int .i64 m.n,Value.bool false,Value.bool false,ac x 6,Value.int .i64 m.n,Value.agg (aj m m.c d c),Value.int .i64 G,Value.bool true,Value.bool true],defers:=[] }) (l':=#[true,true,true,true,true,true,true,true,true,true]) (by kernel_rfl) (by kernel_rfl) ?_
   refine wpAnyH_done (by kernel_rfl) ?_ _
   have HF:Hid (Below w.heap.size w w2):=HBd.out.trans (b2.mono HBd.out.size)
   clear HS2 b2
   go_wp2_with fail
   go_ret
   exact⟨rfl,HF.out⟩
  ·rw[if_neg (fun q=>q.elim n0 n1)]
   have n1':¬ (m.n > G):=n1
   go_enter func54,ntmps54
   go_upto_region 1 with fail
   rw[HE.out,HS.out]
   go_upto_region 9 with fail
   refine wp_region_held_drew (S:=fun w'=>w'.cell? ⟨x,0,none⟩=some (Value.int .i64 m.k)∧w'.cell? ⟨x,1,none⟩=some (Value.int .i64 m.c)∧w'.cell? ⟨x,2,none⟩=some (Value.int .i64 m.s)∧w'.cell? ⟨x,3,none⟩=some (Value.int .i64 m.f)∧w'.cell? ⟨x,4,none⟩=some (Value.int .i64 m.a)∧w'.cell? ⟨x,5,none⟩=some (Value.int .u32 (m.w:Nat))∧w'.cell? ⟨x,6,none⟩=some (Value.int .i64 m.n)∧w'.cell? ⟨x,7,none⟩=some (Value.bool m.h)∧w'.cell? ⟨x,8,none⟩=some (Value.slice d m.l c)) (by kernel_rfl) HS0 (fun _=>?_)
   refine an (i:=0) (v:=ac x 6) ?_
   refine an (i:=1) (v:=Value.int .i64 m.n) ?_
   refine an (i:=2) (v:=Value.bool false) ?_
   refine an (i:=3) (v:=Value.bool false) ?_
   refine an (i:=4) (v:=ac x 6) ?_
   refine an (i:=5) (v:=Value.int .i64 m.n) ?_
   refine an (i:=6) (v:=Value.agg (aj m m.c d c)) ?_
   refine aF (i:=7) 79 #[Value.agg (aj m m.c d c)] (by kernel_rfl) rfl (by kernel_rfl) (by go_simp) ?_
   refine hGG.mono ?_
   rintro r w2 ⟨rfl,b2⟩
   clear hGG
   have HS2:=HSS.out w2 ((Below.drew (Below.refl wa.heap.size wa)).trans b2)
   refine⟨_,rfl,HS2,?_⟩
   refine an (i:=8) (v:=Value.bool false) ?_
   refine an (i:=9) (v:=Value.bool false) ?_
   refine aI (a':={ tmps:=#[ac X 0,Value.agg (aj m m.c d c),undef,ac x 0,Value.int .i64 0,undef,undef,ac x 0,Value.int .i64 m.k,Value.bool false,Value.bool false,Value.bool false,undef,undef,undef,undef,undef,undef,undef,Value.bool true,Value.bool false,Value.bool false,Value.bool true,ac x 6,Value.int .i64 m.n,Value.bool false,Value.bool false,ac x 6,Value.int .i64 m.n,Value.agg (aj m m.c d c),Value.int .i64 G,Value.bool false,Value.bool false],defers:=[] }) (l':=#[true,true,true,true,true,true,true,true,true,true]) (by kernel_rfl) (by kernel_rfl) ?_
   refine wpAnyH_done (by kernel_rfl) ?_ _
   have HF:Hid (Below w.heap.size w w2):=HBd.out.trans (b2.mono HBd.out.size)
   clear HS2 b2
   go_wp2_with fail
   go_ret
   exact⟨rfl,HF.out⟩
theorem lR (K:Int) (X b:Nat) (m:Mv) (d:Option Addr) (c:Nat) (f:Fm) (w:World) (Z:Option Addr→Nat→World→Prop)
  (cb:w.cell? ⟨X,4,none⟩=some (ac b 0))
  (hG:∀ wx,m.k=4→Below w.heap.size w wx→Calls prog 96 #[ac b 0,.int .i64 m.f,.int .i64 m.a,.int .u32 (m.w:Nat)] wx fun r w'=>∃ a cap,r=.returned (.tuple #[.slice a f.1 cap,.int .i64 K])∧Z a cap w'∧Below wx.heap.size wx w')
  (hT:∀ wx,m.k≠4→Below w.heap.size w wx→Calls prog 38 #[ac b 0,.int .i64 m.f] wx fun r w'=>∃ a cap,r=.returned (.tuple #[.slice a f.1 cap,.int .i64 K])∧Z a cap w'∧Below wx.heap.size wx w') :
  Calls prog 78 #[ac X 0,.agg (aj m m.c d c)] w fun r w'=>∃ a cap,r=.returned (.tuple #[.slice a f.1 cap,.int .i64 K])∧Hid (Z a cap w'):=by
 have kA:=ay w (.cells (aj m m.c d c) 39)
 have bA:=az (Below.refl _ w) (.cells (aj m m.c d c) 39)
 obtain⟨wa,hwa⟩:∃ y,w.alloc (.cells (aj m m.c d c) 39)=y:=⟨_,rfl⟩
 rw[hwa]at kA bA
 obtain⟨x,hx⟩:∃ y,w.heap.size=y:=⟨_,rfl⟩
 have kB:wa.heap[x]?=some (.cells (aj m m.c d c) 39 (0,0)):=by
  rw[← hx]
  exact kA
 have bd:Below wa.heap.size wa wa.drew:=Below.drew (Below.refl _ _)
 have q0:wa.cell? ⟨x,0,none⟩=some (.int .i64 m.k):=ae wa x 0 _ _ _ kB
 have hs:∀ wx,Below wa.heap.size wa wx→wx.cell? ⟨X,4,none⟩=some (ac b 0)∧wx.cell? ⟨x,3,none⟩=some (Value.int .i64 m.f)∧wx.cell? ⟨x,4,none⟩=some (Value.int .i64 m.a)∧wx.cell? ⟨x,5,none⟩=some (Value.int .u32 (m.w:Nat)):=fun wx bx=>⟨ag (ag cb bA) bx,ag (ae wa x 3 _ _ _ kB) bx,ag (ae wa x 4 _ _ _ kB) bx,ag (ae wa x 5 _ _ _ kB) bx⟩
 have HSx:=hs wa.drew bd
 have hG:m.k=4→Calls prog 96 #[ac b 0,.int .i64 m.f,.int .i64 m.a,.int .u32 (m.w:Nat)] wa.drew fun r w'=>∃ a cap,r=.returned (.tuple #[.slice a f.1 cap,.int .i64 K])∧Hid (Hid (Z a cap w')∧w'.cell? ⟨X,4,none⟩=some (ac b 0)∧w'.cell? ⟨x,3,none⟩=some (Value.int .i64 m.f)∧w'.cell? ⟨x,4,none⟩=some (Value.int .i64 m.a)∧w'.cell? ⟨x,5,none⟩=some (Value.int .u32 (m.w:Nat))):=fun hk=>by
  refine (hG wa.drew hk (bA.trans (bd.mono bA.size))).mono ?_
  rintro r w' ⟨a,cap,rfl,hz,b2⟩
  exact⟨a,cap,rfl,hz,hs w' (bd.trans (b2.mono bd.size))⟩
 have hT:m.k≠4→Calls prog 38 #[ac b 0,.int .i64 m.f] wa.drew fun r w'=>∃ a cap,r=.returned (.tuple #[.slice a f.1 cap,.int .i64 K])∧Hid (Hid (Z a cap w')∧w'.cell? ⟨X,4,none⟩=some (ac b 0)∧w'.cell? ⟨x,3,none⟩=some (Value.int .i64 m.f)∧w'.cell? ⟨x,4,none⟩=some (Value.int .i64 m.a)∧w'.cell? ⟨x,5,none⟩=some (Value.int .u32 (m.w:Nat))):=fun hk=>by
  refine (hT wa.drew hk (bA.trans (bd.mono bA.size))).mono ?_
  rintro r w' ⟨a,cap,rfl,hz,b2⟩
  exact⟨a,cap,rfl,hz,hs w' (bd.trans (b2.mono bd.size))⟩
 have HE:Hid (_=wa):=hwa
 have HS:Hid (_=x):=hx
 clear kA kB bA bd hs hwa hx cb
 obtain⟨fl,fb⟩:=f
 by_cases hk:m.k=4
 ·have hG:=hG hk
  have q:(m.k == 4)=true:=by simpa using hk
  clear hT hk
  go_enter func78,ntmps78
  go_upto_region 1 with fail
  rw[HE.out,HS.out]
  go_wp2_with fail
  refine wp_region_held_drew (S:=fun w'=>w'.cell? ⟨X,4,none⟩=some (ac b 0)∧w'.cell? ⟨x,3,none⟩=some (Value.int .i64 m.f)∧w'.cell? ⟨x,4,none⟩=some (Value.int .i64 m.a)∧w'.cell? ⟨x,5,none⟩=some (Value.int .u32 (m.w:Nat))) (by kernel_rfl) HSx (fun _=>?_)
  refine an (i:=0) (v:=ac X 0) ?_
  refine an (i:=1) (v:=ac X 0) ?_
  refine an (i:=2) (v:=ac X 4) ?_
  refine an (i:=3) (v:=ac b 0) ?_
  refine an (i:=4) (v:=ac x 3) ?_
  refine an (i:=5) (v:=Value.int .i64 m.f) ?_
  refine an (i:=6) (v:=ac x 4) ?_
  refine an (i:=7) (v:=Value.int .i64 m.a) ?_
  refine an (i:=8) (v:=ac x 5) ?_
  refine an (i:=9) (v:=Value.int .u32 (m.w:Nat)) ?_
  refine aF (i:=10) 96 #[ac b 0,Value.int .i64 m.f,Value.int .i64 m.a,Value.int .u32 (m.w:Nat)] (by kernel_rfl) rfl (by kernel_rfl) (by go_simp) ?_
  refine hG.mono ?_
  rintro r w3 ⟨a,cap,rfl,H3⟩
  have HSy:w3.cell? ⟨X,4,none⟩=some (ac b 0)∧w3.cell? ⟨x,3,none⟩=some (Value.int .i64 m.f)∧w3.cell? ⟨x,4,none⟩=some (Value.int .i64 m.a)∧w3.cell? ⟨x,5,none⟩=some (Value.int .u32 (m.w:Nat)):=H3.out.2
  refine⟨_,rfl,HSy,?_⟩
  refine an (i:=11) (v:=Value.slice a fl cap) ?_
  refine an (i:=12) (v:=Value.int .i64 K) ?_
  refine an (i:=13) (v:=Value.slice a fl cap) ?_
  refine an (i:=14) (v:=Value.int .i64 K) ?_
  refine wpAnyH_done (by kernel_rfl) ?_ _
  clear HSx HSy
  go_wp2_with fail
  go_ret2
  exact⟨a,cap,by kernel_rfl,H3.out.1⟩
 ·have hT:=hT hk
  have q:(m.k == 4)=false:=by simpa using hk
  clear hG hk
  go_enter func78,ntmps78
  go_upto_region 1 with fail
  rw[HE.out,HS.out]
  go_wp2_with fail
  refine wp_region_held_drew (S:=fun w'=>w'.cell? ⟨X,4,none⟩=some (ac b 0)∧w'.cell? ⟨x,3,none⟩=some (Value.int .i64 m.f)∧w'.cell? ⟨x,4,none⟩=some (Value.int .i64 m.a)∧w'.cell? ⟨x,5,none⟩=some (Value.int .u32 (m.w:Nat))) (by kernel_rfl) HSx (fun _=>?_)
  refine an (i:=0) (v:=ac X 0) ?_
  refine an (i:=1) (v:=ac X 0) ?_
  refine an (i:=2) (v:=ac X 4) ?_
  refine an (i:=3) (v:=ac b 0) ?_
  refine an (i:=4) (v:=ac x 3) ?_
  refine an (i:=5) (v:=Value.int .i64 m.f) ?_
  refine aF (i:=6) 38 #[ac b 0,Value.int .i64 m.f] (by kernel_rfl) rfl (by kernel_rfl) (by go_simp) ?_
  refine hT.mono ?_
  rintro r w3 ⟨a,cap,rfl,H3⟩
  have HSy:w3.cell? ⟨X,4,none⟩=some (ac b 0)∧w3.cell? ⟨x,3,none⟩=some (Value.int .i64 m.f)∧w3.cell? ⟨x,4,none⟩=some (Value.int .i64 m.a)∧w3.cell? ⟨x,5,none⟩=some (Value.int .u32 (m.w:Nat)):=H3.out.2
  refine⟨_,rfl,HSy,?_⟩
  refine an (i:=7) (v:=Value.slice a fl cap) ?_
  refine an (i:=8) (v:=Value.int .i64 K) ?_
  refine an (i:=9) (v:=Value.slice a fl cap) ?_
  refine an (i:=10) (v:=Value.int .i64 K) ?_
  refine wpAnyH_done (by kernel_rfl) ?_ _
  clear HSx HSy
  go_wp2_with fail
  go_ret2
  exact⟨a,cap,by kernel_rfl,H3.out.1⟩
def Ws.carE (S:Ws) (m:Mv):Int:=if m.f<0∨((S.bg.length:Nat):Int)≤m.f then 151 else if m.k=4 then cL (S.bg.getD m.f.toNat cV).1 m.a m.w else 0
theorem aaV (e:Nat→Nat) (w0 w:World) (t:Nat→Thing) (L:Pw) (m:Mv) (d:Option Addr) (c:Nat) (h:PW e w0 w t L) (hw:m.w<4294967296) (ha : -9223372036854775808≤m.a∧m.a<9223372036854775808) :
  Calls prog 78 #[ac L.x 0,.agg (aj m m.c d c)] w fun r w'=>∃ a n cap,r=.returned (.tuple #[.slice a n cap,.int .i64 (L.S.carE m)])∧Hid (Below w.heap.size w w'):=by
 by_cases ho:m.f<0∨((L.S.bg.length:Nat):Int)≤m.f
 ·have e1:L.S.carE m=151:=if_pos ho
  rw[e1]
  refine (lR 151 L.x L.b m d c cV w (fun a cap w'=>Below w.heap.size w w') (ae w L.x 4 _ _ _ (h.2.wb h.1).blk) (fun wx hk bx=>?_) (fun wx hk bx=>?_)).mono ?_
  ·have hp:=h.below bx
   refine (sX 0 L.b L.m L.bv L.bs L.bp L.S.bg m.f m.a m.w wx (hp.2.bg hp.1).1 ho).mono ?_
   rintro r w' ⟨rfl,rfl⟩
   exact⟨none,0,rfl,bx,Below.refl _ _⟩
  ·have hp:=h.below bx
   refine (k9 0 L.b L.m L.bv L.bs L.bp L.S.bg m.f wx (hp.2.bg hp.1).1 ho).mono ?_
   rintro r w' ⟨rfl,rfl⟩
   exact⟨none,0,rfl,bx,Below.refl _ _⟩
  ·rintro r w' ⟨a,cap,rfl,H⟩
   exact⟨a,_,cap,rfl,H⟩
 ·by_cases hb:m.k=4∧cL (((L.S.bg.getD m.f.toNat cV).1:Nat):Int) m.a m.w≠0
  ·have e1:L.S.carE m=cL (((L.S.bg.getD m.f.toNat cV).1:Nat):Int) m.a m.w:=by
    unfold Ws.carE
    rw[if_neg ho,if_pos hb.1]
   rw[e1]
   have hlt:m.f.toNat<L.S.bg.length:=by omega
   have hI:((m.f.toNat:Nat):Int)=m.f:=by omega
   obtain⟨f,hf⟩:∃ y,L.S.bg.getD m.f.toNat cV=y:=⟨_,rfl⟩
   have hg:L.S.bg[m.f.toNat]?=some f:=by
    rw[← hf,List.getD_eq_getElem?_getD,List.getElem?_eq_getElem hlt]
    rfl
   rw[hf]at hb ⊢
   refine (lR (cL ((f.1:Nat):Int) m.a m.w) L.x L.b m d c cV w (fun a cap w'=>Below w.heap.size w w') (ae w L.x 4 _ _ _ (h.2.wb h.1).blk) (fun wx hk bx=>?_) (fun wx hk bx=>absurd hb.1 hk)).mono ?_
   ·have hp:=h.below bx
    have:=sH 0 L.b L.m L.bv L.bs L.bp L.S.bg m.f.toNat f m.a m.w wx (hp.2.bg hp.1).1 hg hw ha hb.2
    rw[hI]at this
    refine this.mono ?_
    rintro r w' ⟨rfl,H⟩
    exact⟨none,0,rfl,bx.trans (H.out.mono bx.size),H.out⟩
   ·rintro r w' ⟨a,cap,rfl,H⟩
    exact⟨a,_,cap,rfl,H⟩
  ·have e1:L.S.carE m=0:=by
    unfold Ws.carE
    rw[if_neg ho]
    by_cases z:m.k=4
    ·rw[if_pos z]
     exact Classical.byContradiction (fun q=>hb ⟨z,q⟩)
    ·rw[if_neg z]
   rw[e1]
   exact vL e w0 w t L m d c h (by omega) (by omega) hw (fun z=>Classical.byContradiction (fun q=>hb ⟨z,q⟩))
def Ws.rkE (S:Ws) (m:Mv):Int:=if m.k=3∨m.k=4 then S.carE m else if m.k=5∨m.k=7∨m.k=8 then (if m.n<0∨wW m<m.n then 2 else 0) else 0
theorem xJ {S:Ws} {m:Mv} (hn:m.n≤9223372036854775807):rfE S.mv S.n m (S.rkE m)=S.bad m:=by
 unfold rfE Ws.bad
 by_cases q1:4096≤S.mv
 ·rw[if_pos q1,if_pos q1]
 rw[if_neg q1,if_neg q1]
 by_cases q2:m.k<1∨8<m.k
 ·rw[if_pos q2,if_pos q2]
 rw[if_neg q2,if_neg q2]
 by_cases q3:m.c<0∨((S.n:Nat):Int)≤m.c
 ·rw[if_pos q3,if_pos q3]
 rw[if_neg q3,if_neg q3]
 by_cases q4:eI m.k=true∧m.s≠1∧m.s≠2
 ·rw[if_pos q4,if_pos q4]
 rw[if_neg q4,if_neg q4]
 unfold Ws.rkE Ws.carE wW
 by_cases k3:m.k=3
 ·rw[if_pos (.inl k3),if_pos k3,if_neg (by omega:¬ m.k=4)]
 rw[if_neg k3]
 by_cases k4:m.k=4
 ·rw[if_pos (.inr k4),if_pos k4,if_pos k4]
 rw[if_neg (by omega:¬ (m.k=3∨m.k=4)),if_neg k4]
 by_cases k5:m.k=5
 ·rw[if_pos (.inl k5),if_pos k5,if_pos k5]
 rw[if_neg k5,if_neg k5]
 by_cases k7:m.k=7
 ·rw[if_pos (.inr (.inl k7)),if_pos k7]
  by_cases s1:m.s=1
  ·rw[if_pos (show m.k=7∧m.s=1 from ⟨k7,s1⟩)]
   by_cases z:m.n<0∨0<m.n
   ·rw[if_pos z,if_pos (z.elim .inl (fun q=>.inr ⟨s1,q⟩))]
   ·rw[if_neg z,if_neg (fun q=>z (q.elim .inl (fun y=>.inr y.2)))]
  ·rw[if_neg (show ¬ (m.k=7∧m.s=1) from fun q=>s1 q.2)]
   by_cases z:m.n<0
   ·rw[if_pos (.inl z),if_pos (.inl z)]
   ·rw[if_neg (by omega:¬ (m.n<0∨9223372036854775807<m.n)),if_neg (fun q=>q.elim z (fun y=>s1 y.1))]
 rw[if_neg k7]
 by_cases k8:m.k=8
 ·rw[if_pos (.inr (.inr k8)),if_pos k8,if_neg (show ¬ (m.k=7∧m.s=1) from fun q=>k7 q.1)]
  by_cases z:m.n<0
  ·rw[if_pos (.inl z),if_pos z]
  ·rw[if_neg (by omega:¬ (m.n<0∨9223372036854775807<m.n)),if_neg z]
 ·rw[if_neg (by omega:¬ (m.k=5∨m.k=7∨m.k=8)),if_neg k8]
theorem rC (e:Nat→Nat) (w0 w:World) (t:Nat→Thing) (L:Pw) (m:Mv) (d:Option Addr) (c:Nat) (h:PW e w0 w t L) (ok:m.Ok) (hn:0<L.S.n):∀ w1,Below w.heap.size w w1→Calls prog 29 #[ac L.x 0,.agg (aj m m.c d c)] w1 fun r w'=>r=.returned (.int .i64 (L.S.bad m))∧Hid (Below w1.heap.size w1 w'):=fun w1 b1=>by
 have hp:=h.below b1
 have hb:=(hp.2.wb hp.1).blk
 obtain⟨e1,_⟩:=(hp.2.wb hp.1).conn (k:=0) hn
 have cv:w1.cell? ⟨L.x,3,none⟩=some (.slice (af (fu L.vc) 0) L.S.n (ip L.vc)):=(ae w1 L.x 3 _ _ _ hb).trans (congrArg some e1)
 have:=oX L.x L.b L.S.n (ip L.vc) L.S.mv (af (fu L.vc) 0) m d c w1 (L.S.rkE m) (ae w1 L.x 4 _ _ _ hb) (ae w1 L.x 5 _ _ _ hb) cv (fun _ _ _ _ _ _ w2 b2=>by
  have hp2:=hp.below b2
  have hc:∀ w3,Below w2.heap.size w2 w3→_:=fun w3 b3=>aaV e w0 w3 t L m d c (hp2.below b3) ok.w ⟨ok.a.1,by have:=ok.a.2;omega⟩
  unfold Ws.rkE
  by_cases q3:m.k=3
  ·rw[if_pos (.inl q3)]
   exact abe L.x m d c w2 (ck q3) _ hc
  by_cases q4:m.k=4
  ·rw[if_pos (.inr q4)]
   exact abk L.x m d c w2 (ax q3) (ck q4) _ hc
  rw[if_neg (fun q=>q.elim q3 q4)]
  by_cases q5:m.k=5
  ·rw[if_pos (.inl q5)]
   exact acf L.x m d c w2 (ax q3) (ax q4) (ck q5)
  by_cases q7:m.k=7
  ·rw[if_pos (.inr (.inl q7))]
   exact ace L.x m d c w2 (ax q3) (ax q4) (ax q5) (ck q7)
  by_cases q8:m.k=8
  ·rw[if_pos (.inr (.inr q8))]
   exact ab3 L.x m d c w2 (ax q3) (ax q4) (ax q5) (ax q7) (ck q8)
  rw[if_neg (fun q=>q.elim q5 (fun z=>z.elim q7 q8))]
  exact abm L.x m d c w2 (ax q3) (ax q4) (ax q5) (ax q7) (ax q8))
 rw[xJ ok.n.2]at this
 exact this
open Go.RowKit
theorem t7 {mx n:Nat} {s:Ms} (hn:10≤n) (ho:s.off=false) (hl:0≤s.l) (hmx:mx<4294967296) :
  ((nx mx n s.bs false s).e=0→(nx mx n s.bs false s).v=vz s.bs+1∧vz (nx mx n s.bs false s).s.bs=vz s.bs+1∧vz s.bs<mx)∧((nx mx n s.bs false s).e≠0→vz (nx mx n s.bs false s).s.bs=vz s.bs):=by
 unfold nx
 rw[if_neg (by simp[ho])]
 by_cases hm:mx≤vz s.bs
 ·rw[if_pos hm]
  exact⟨fun e=>(by cases e),fun _=>rfl⟩
 ·rw[if_neg hm]
  rcases gm n (cZ (tg s.bs) (vz s.bs+1)) s (fun x hx=>(fH _ _ n (lr _) hn x hx).1) ho hl with ⟨h1,h2,_⟩ | ⟨h1,h2,_,h4⟩
  ·rw[if_pos h1]
   refine⟨fun _=>⟨rfl,?_,by omega⟩,fun e=>absurd rfl e⟩
   show vz (gr n (cZ (tg s.bs) (vz s.bs+1)) s).bs=_
   rw[h2]
   exact xl _ _ (by omega) (by omega)
  ·rw[if_neg (by omega)]
   refine⟨fun e=>(by cases e),fun _=>?_⟩
   show vz (gr n (cZ (tg s.bs) (vz s.bs+1)) s).bs=_
   rw[h2]
   refine aaD _ _ _ ?_
   have:(cZ (tg s.bs) (vz s.bs+1)).length=6:=rfl
   omega
theorem aaw {mx n:Nat} {s:Ms} (hl:0≤s.l) (hz:Bz s.bs):vz (jX mx n s).bs=vz s.bs:=by
 unfold jX
 by_cases h1:mx=0∨n<10
 ·rw[if_pos h1]
 ·rw[if_neg h1]
  by_cases h2:s.off=true
  ·rw[if_pos h2]
  ·rw[if_neg h2]
   rcases gm n (dx s.bs) s (fun x hx=>(jd s.bs n (by omega) x hx).1) (by simpa using h2) hl with ⟨_,e,_⟩ | ⟨_,e,_⟩
   ·rw[e]
    have:=nz s.bs (dx s.bs).length hz
    rwa [List.take_length]at this
   ·rw[e]
    exact nz s.bs _ hz
theorem vR {mx n:Nat} (s:Sd) (k:Int) (hz:Bz s.ms.bs) (hl:0≤s.ms.l):vz (cG mx n s k).ms.bs=vz s.ms.bs∧(cG mx n s k).ms.t≤s.ms.t+6∧(cG mx n s k).L=s.L:=by
 unfold cG
 by_cases hk:k<0
 ·rw[if_pos hk];exact⟨rfl,by omega,rfl⟩
 ·rw[if_neg hk]
  have hb:(sr s.ms k).bs=s.ms.bs∧(sr s.ms k).t=s.ms.t∧0 ≤ (sr s.ms k).l:=by
   unfold sr lG
   split
   ·split
    ·exact⟨rfl,rfl,hl⟩
    ·exact⟨rfl,rfl,by show 0≤k-1;omega⟩
   ·exact⟨rfl,rfl,hl⟩
  refine⟨?_,?_,rfl⟩
  ·show vz (jX mx n (sr s.ms k)).bs=_
   rw[aaw hb.2.2 (by rw[hb.1];exact hz),hb.1]
  ·have:=aaQ mx n (sr s.ms k) hb.2.2
   show (jX mx n (sr s.ms k)).t≤_
   omega
theorem DV.facts {w:World} {d m g n mx:Nat} {P:Pm} {U:List Nat} {s:Sd} (h:DV w d m g n mx P U s):Bz s.ms.bs∧0≤s.ms.l∧10≤n∧mx≠0∧mx<4294967296∧(s.st≠6→s.ms.off=false):=by
 obtain⟨B,x⟩:=h
 exact⟨fun i hi=>x.mem.byte i (by have:=x.n10;omega),x.mem.l0,x.n10,x.mx0,x.mxl,fun hs=>(x.cel hs).2.2⟩
theorem tF (d m g n mx:Nat) (P:Pm) (U:List Nat) (s:Sd) (p:Int) (w:World) (h:DV w d m g n mx P U s) (hp:p≤9223372036854775807) :
  Calls prog 61 #[ac m 0,.int .i64 p] w fun e w'=>e=.returned (.int .i64 (arE p))∧Hid (∃ U',Gr U w U' w'∧DV w' d m g n mx P U' { s with ms:=lG s.ms p }):=by
 obtain⟨B,x⟩:=h
 refine (rO m g n s.ms p w x.mem hp).mono ?_
 rintro e w' ⟨rfl,o,m'⟩
 refine⟨rfl,U,Gr.same (o.more (m:=[m,g,B.c]) (by simp)) x.memU,B,x.memd (o.more (by simp)) m' (A':=s.st≠6) (fun hs=>?_)⟩
 obtain⟨c1,c2,c3⟩:=x.cel hs
 have hne:B.c ∉ [m]:=fun hm=>by simp at hm;have:=x.kc.1;rw[hm,x.km.1]at this;omega
 have e1:(lG s.ms p).bs=s.ms.bs:=by unfold lG;split <;> rfl
 have e2:(lG s.ms p).off=s.ms.off:=by unfold lG;split <;> rfl
 rw[e1,e2]
 exact⟨c1,c2.off o hne,c3⟩
theorem rS {e:Nat→Nat} {w0 w:World} {t:Nat→Thing} {L:Pw} {S:Ws} {k:Nat} (h:PWn e w0 t L w S) (hk:k<S.n) {Fn:FuncId} {u:Array Value} {E:Int} {s':Sh} (hc:∀ U,HV w (L.hd k) (S.PH k) U (S.hs k)→Calls prog Fn u w fun r w'=>r=.returned (.int .i64 E)∧Hid (∃ U',Gr U w U' w'∧HV w' (L.hd k) (S.PH k) U' s')):Calls prog Fn u w fun r w'=>r=.returned (.int .i64 E)∧Hid (PWn e w0 t L w' (S.setH k s')):=by
 obtain⟨t1,L1,h1,hs,hx,he⟩:=h
 subst hs
 have hv:=h1.2.hv h1.1 hk
 rw[hx.hd]at hv
 refine (hc _ hv).mono ?_
 rintro r w' ⟨rfl,H⟩
 exact⟨rfl,PWn.bind hx he (h1.stepH hk (by rw[hx.hd];exact H.out))⟩
theorem ot {e:Nat→Nat} {w0 w:World} {t:Nat→Thing} {L:Pw} {S:Ws} {k:Nat} (h:PWn e w0 t L w S) (hk:k<S.n) {Fn:FuncId} {u:Array Value} {E:Int} {s':Sd} (hc:∀ g U,DV w (L.dd k) (L.dm k) g 16 S.mx (S.PD k) U (S.ds k)→Calls prog Fn u w fun r w'=>r=.returned (.int .i64 E)∧Hid (∃ U',Gr U w U' w'∧DV w' (L.dd k) (L.dm k) g 16 S.mx (S.PD k) U' s')):Calls prog Fn u w fun r w'=>r=.returned (.int .i64 E)∧Hid (PWn e w0 t L w' (S.setD k s')):=by
 obtain⟨t1,L1,h1,hs,hx,he⟩:=h
 subst hs
 have dv:=h1.2.dv h1.1 hk
 rw[hx.dd,hx.dm]at dv
 refine (hc _ _ dv).mono ?_
 rintro r w' ⟨rfl,H⟩
 exact⟨rfl,PWn.bind hx he (h1.stepD hk (by rw[hx.dd,hx.dm];exact H.out))⟩
theorem jg {e:Nat→Nat} {w0 w:World} {t:Nat→Thing} {L:Pw} {S:Ws} (x:Int) (k c s ss nn:Nat) (h:PWn e w0 t L w S) (hF:S.fs.length≤100000):Calls prog 58 #[ac L.x 0,.int .i64 x,.agg #[.int .i64 (k:Nat),.int .i64 (c:Nat),.int .i64 (s:Nat),.int .u32 (ss:Nat),.int .u32 (nn:Nat),.bool false,.int .i64 0,.slice none 0 0]] w fun r w'=>r=.returned (.tuple #[])∧Hid (PWn e w0 t L w' (S.note (if x=0 then [⟨k,c,s,ss,nn,false,0,cV⟩] else []))):=by
 obtain⟨t1,L1,h1,hs,hx,he⟩:=h
 subst hs
 have:=yS e w0 w t1 L1 x k c s ss nn h1 hF
 rw[hx.x]at this
 refine this.mono ?_
 rintro r w' ⟨rfl,H⟩
 exact⟨rfl,PWn.bind hx he H.out⟩
theorem sg {e:Nat→Nat} {w0 w:World} {t:Nat→Thing} {L:Pw} {S:Ws} (k c s ss nn:Nat) (h:PWn e w0 t L w S) (hF:S.fs.length≤100000):Calls prog 59 #[ac L.x 0,.agg #[.int .i64 (k:Nat),.int .i64 (c:Nat),.int .i64 (s:Nat),.int .u32 (ss:Nat),.int .u32 (nn:Nat),.bool false,.int .i64 0,.slice none 0 0]] w fun r w'=>r=.returned (.tuple #[])∧Hid (PWn e w0 t L w' (S.note [⟨k,c,s,ss,nn,false,0,cV⟩])):=by
 obtain⟨t1,L1,h1,hs,hx,he⟩:=h
 subst hs
 have:=kj e w0 w t1 L1 k c s ss nn h1 hF
 rw[hx.x]at this
 refine this.mono ?_
 rintro r w' ⟨rfl,H⟩
 exact⟨rfl,PWn.bind hx he H.out⟩
theorem zK {e:Nat→Nat} {w0 w:World} {t:Nat→Thing} {L:Pw} {S:Ws} (k i:Nat) (m:Mv) (d:Option Addr) (c:Nat) (h:PWn e w0 t L w S) (F:Fre e t i) (hk:k<S.n) (hs:m.s=1) (h1:m.k=1) (j:Nat) (hj:j<2*i+1) (hq:∀ q,j≠e q) (hr:t j=eV d m.l c m.b):Calls prog 31 #[ac L.x 0,.agg (aj m (k:Nat) d c)] w fun r w'=>r=.returned (.tuple #[.int .i64 (ie (S.PH k) m.l),.int .i64 (-1)])∧Hid (PWn e w0 t L w' (S.setH k (dK (S.PH k) (S.hs k) m.l m.b m.h))):=by
 obtain⟨cv,c0,c1,c2⟩:=h.conn hk
 have i0:=F i (Nat.le_refl _)
 obtain⟨t2,ht2⟩:∃ y,aV t (2*i+1) (fI [(w.heap.size,.cells (aj m (k:Nat) d c) 39 (0,0)),(w.heap.size+1,.cells (aB (L.hd k) (L.dd k) (L.dm k)) 87 (0,0))])=y:=⟨_,rfl⟩
 have e2:t2 (2*i+1)=fI [(w.heap.size,.cells (aj m (k:Nat) d c) 39 (0,0)),(w.heap.size+1,.cells (aB (L.hd k) (L.dd k) (L.dm k)) 87 (0,0))]:=by rw[← ht2,al]
 have hLay:∀ w1,Below w.heap.size w w1→w1.heap[w.heap.size]?=some (.cells (aj m (k:Nat) d c) 39 (0,0))→w1.heap[w.heap.size+1]?=some (.cells (aB (L.hd k) (L.dd k) (L.dm k)) 87 (0,0))→PWn e w0 t2 L w1 S:=fun w1 b k1 k2=>by
  rw[← ht2]
  refine h.layL b i0.1 (fun p hp=>?_) (fun p hp=>?_)
  ·simp only[List.mem_cons,List.not_mem_nil,or_false]at hp
   rcases hp with rfl | rfl
   ·exact k1
   ·exact k2
  ·simp only[List.mem_cons,List.not_mem_nil,or_false]at hp
   rcases hp with rfl | rfl
   ·exact Nat.le_refl _
   ·exact Nat.le_succ _
 have hX:∀ S2 w1,PWn e w0 t2 L w1 S2→w1.heap[w.heap.size]?=some (.cells (aj m (k:Nat) d c) 39 (0,0))∧w1.heap[w.heap.size+1]?=some (.cells (aB (L.hd k) (L.dd k) (L.dm k)) 87 (0,0)):=fun S2 w1 q=>⟨q.box i0.1 e2 _ (List.mem_cons_self ..),q.box i0.1 e2 _ (List.mem_cons_of_mem _ (List.mem_cons_self ..))⟩
 have hDrop:∀ S2 w1,PWn e w0 t2 L w1 S2→PWn e w0 t L w1 S2:=fun S2 w1 q=>by
  rw[← ht2]at q
  exact q.drop i0.1 i0.2
 have e3:t2 j=t j:=by rw[← ht2,ak _ _ (by omega)]
 refine (yY L.x (fu L.vc) (ip L.vc) S.n k (L.hd k) (L.dd k) (L.dm k) m d c 83 251 (L.hd k) (ie (S.PH k) m.l) w (fun w1 => PWn e w0 t2 L w1 S) (fun w1 => PWn e w0 t2 L w1 (S.setH k (dK (S.PH k) (S.hs k) m.l m.b m.h))) cv c0 c1 c2 (by omega) (ax (by omega)) (ax (by omega)) (ax (by omega)) (ck h1) (fun w1 => by rw [hs]; exact vS (L.hd k) (L.dd k) (L.dm k) w1) (fun w1 => (by kernel_rfl : (method 432 83 (.pointer (some ⟨L.hd k, 0, none⟩)) "Write").run prog w1 = .ok (251, .pointer (some ⟨L.hd k, 0, none⟩)) w1)) (fun u w1 => (by kernel_rfl : (callFunc 251 u).run prog w1 = .ok (.enter 251 u) w1)) hLay (fun _ _ q b => q.below b) (fun w1 q => rS q hk (fun U hv => qt (L.hd k) (S.PH k) U (S.hs k) d m.l c m.b m.h w1 hv (q.rowq hq (e3.trans hr)))) (fun w1 q => hX _ _ q.out)).mono ?_
 rintro r w' ⟨rfl,H⟩
 exact⟨rfl,hDrop _ _ H.out⟩
theorem zZ {e:Nat→Nat} {w0 w:World} {t:Nat→Thing} {L:Pw} {S:Ws} (k i:Nat) (m:Mv) (d:Option Addr) (c:Nat) (h:PWn e w0 t L w S) (F:Fre e t i) (hk:k<S.n) (hs:m.s=2) (h1:m.k=1) (j:Nat) (hj:j<2*i+1) (hq:∀ q,j≠e q) (hr:t j=eV d m.l c m.b):Calls prog 31 #[ac L.x 0,.agg (aj m (k:Nat) d c)] w fun r w'=>r=.returned (.tuple #[.int .i64 (gS (S.PD k) (S.ds k) m.l),.int .i64 (-1)])∧Hid (PWn e w0 t L w' (S.setD k (dP (S.PD k) (S.ds k) m.l m.b m.h))):=by
 obtain⟨cv,c0,c1,c2⟩:=h.conn hk
 have i0:=F i (Nat.le_refl _)
 obtain⟨t2,ht2⟩:∃ y,aV t (2*i+1) (fI [(w.heap.size,.cells (aj m (k:Nat) d c) 39 (0,0)),(w.heap.size+1,.cells (aB (L.hd k) (L.dd k) (L.dm k)) 87 (0,0))])=y:=⟨_,rfl⟩
 have e2:t2 (2*i+1)=fI [(w.heap.size,.cells (aj m (k:Nat) d c) 39 (0,0)),(w.heap.size+1,.cells (aB (L.hd k) (L.dd k) (L.dm k)) 87 (0,0))]:=by rw[← ht2,al]
 have hLay:∀ w1,Below w.heap.size w w1→w1.heap[w.heap.size]?=some (.cells (aj m (k:Nat) d c) 39 (0,0))→w1.heap[w.heap.size+1]?=some (.cells (aB (L.hd k) (L.dd k) (L.dm k)) 87 (0,0))→PWn e w0 t2 L w1 S:=fun w1 b k1 k2=>by
  rw[← ht2]
  refine h.layL b i0.1 (fun p hp=>?_) (fun p hp=>?_)
  ·simp only[List.mem_cons,List.not_mem_nil,or_false]at hp
   rcases hp with rfl | rfl
   ·exact k1
   ·exact k2
  ·simp only[List.mem_cons,List.not_mem_nil,or_false]at hp
   rcases hp with rfl | rfl
   ·exact Nat.le_refl _
   ·exact Nat.le_succ _
 have hX:∀ S2 w1,PWn e w0 t2 L w1 S2→w1.heap[w.heap.size]?=some (.cells (aj m (k:Nat) d c) 39 (0,0))∧w1.heap[w.heap.size+1]?=some (.cells (aB (L.hd k) (L.dd k) (L.dm k)) 87 (0,0)):=fun S2 w1 q=>⟨q.box i0.1 e2 _ (List.mem_cons_self ..),q.box i0.1 e2 _ (List.mem_cons_of_mem _ (List.mem_cons_self ..))⟩
 have hDrop:∀ S2 w1,PWn e w0 t2 L w1 S2→PWn e w0 t L w1 S2:=fun S2 w1 q=>by
  rw[← ht2]at q
  exact q.drop i0.1 i0.2
 have e3:t2 j=t j:=by rw[← ht2,ak _ _ (by omega)]
 refine (yY L.x (fu L.vc) (ip L.vc) S.n k (L.hd k) (L.dd k) (L.dm k) m d c 84 260 (L.dd k) (gS (S.PD k) (S.ds k) m.l) w (fun w1 => PWn e w0 t2 L w1 S) (fun w1 => PWn e w0 t2 L w1 (S.setD k (dP (S.PD k) (S.ds k) m.l m.b m.h))) cv c0 c1 c2 (by omega) (ax (by omega)) (ax (by omega)) (ax (by omega)) (ck h1) (fun w1 => by rw [hs]; exact uZ (L.hd k) (L.dd k) (L.dm k) w1) (fun w1 => (by kernel_rfl : (method 432 84 (.pointer (some ⟨L.dd k, 0, none⟩)) "Write").run prog w1 = .ok (260, .pointer (some ⟨L.dd k, 0, none⟩)) w1)) (fun u w1 => (by kernel_rfl : (callFunc 260 u).run prog w1 = .ok (.enter 260 u) w1)) hLay (fun _ _ q b => q.below b) (fun w1 q => ot q hk (fun g U dv => pQ (L.dd k) (L.dm k) g 16 S.mx (S.PD k) U (S.ds k) d m.l c m.b m.h w1 dv (q.rowq hq (e3.trans hr)))) (fun w1 q => hX _ _ q.out)).mono ?_
 rintro r w' ⟨rfl,H⟩
 exact⟨rfl,hDrop _ _ H.out⟩
theorem aag {e:Nat→Nat} {w0 w:World} {t:Nat→Thing} {L:Pw} {S:Ws} (k i:Nat) (m:Mv) (d:Option Addr) (c:Nat) (h:PWn e w0 t L w S) (F:Fre e t i) (hk:k<S.n) (hs:m.s=1) (h5:m.k=5) (hn:0≤m.n∧m.n≤1048576) (hF:S.fs.length≤90000) (hL:(S.hs k).L.length<800000):Calls prog 31 #[ac L.x 0,.agg (aj m (k:Nat) d c)] w fun r w'=>r=.returned (.tuple #[.int .i64 (eY m.n),.int .i64 (-1)])∧Hid (PWn e w0 t L w' ((S.setH k (eM (S.PH k) (S.hs k) m.n)).note (if (eY m.n)=0 then [⟨5,k,1,0,m.n.toNat,false,0,cV⟩] else []))):=by
 obtain⟨cv,c0,c1,c2⟩:=h.conn hk
 have i0:=F i (Nat.le_refl _)
 obtain⟨t2,ht2⟩:∃ y,aV t (2*i+1) (fI [(w.heap.size,.cells (aj m (k:Nat) d c) 39 (0,0)),(w.heap.size+1,.cells (aB (L.hd k) (L.dd k) (L.dm k)) 87 (0,0))])=y:=⟨_,rfl⟩
 have e2:t2 (2*i+1)=fI [(w.heap.size,.cells (aj m (k:Nat) d c) 39 (0,0)),(w.heap.size+1,.cells (aB (L.hd k) (L.dd k) (L.dm k)) 87 (0,0))]:=by rw[← ht2,al]
 have hLay:∀ w1,Below w.heap.size w w1→w1.heap[w.heap.size]?=some (.cells (aj m (k:Nat) d c) 39 (0,0))→w1.heap[w.heap.size+1]?=some (.cells (aB (L.hd k) (L.dd k) (L.dm k)) 87 (0,0))→PWn e w0 t2 L w1 S:=fun w1 b k1 k2=>by
  rw[← ht2]
  refine h.layL b i0.1 (fun p hp=>?_) (fun p hp=>?_)
  ·simp only[List.mem_cons,List.not_mem_nil,or_false]at hp
   rcases hp with rfl | rfl
   ·exact k1
   ·exact k2
  ·simp only[List.mem_cons,List.not_mem_nil,or_false]at hp
   rcases hp with rfl | rfl
   ·exact Nat.le_refl _
   ·exact Nat.le_succ _
 have hX:∀ S2 w1,PWn e w0 t2 L w1 S2→w1.heap[w.heap.size]?=some (.cells (aj m (k:Nat) d c) 39 (0,0))∧w1.heap[w.heap.size+1]?=some (.cells (aB (L.hd k) (L.dd k) (L.dm k)) 87 (0,0)):=fun S2 w1 q=>⟨q.box i0.1 e2 _ (List.mem_cons_self ..),q.box i0.1 e2 _ (List.mem_cons_of_mem _ (List.mem_cons_self ..))⟩
 have hDrop:∀ S2 w1,PWn e w0 t2 L w1 S2→PWn e w0 t L w1 S2:=fun S2 w1 q=>by
  rw[← ht2]at q
  exact q.drop i0.1 i0.2
 have hN:m.n=((m.n.toNat:Nat):Int):=by omega
 refine (zn L.x (fu L.vc) (ip L.vc) S.n k (L.hd k) (L.dd k) (L.dm k) m d c 83 250 (L.hd k) (eY m.n) w m.n.toNat hN (by omega) (fun w1 => PWn e w0 t2 L w1 S) (fun w1 => PWn e w0 t2 L w1 (S.setH k (eM (S.PH k) (S.hs k) m.n))) (fun w1 => PWn e w0 t2 L w1 ((S.setH k (eM (S.PH k) (S.hs k) m.n)).note (if (eY m.n) = 0 then [⟨5, k, 1, 0, m.n.toNat, false, 0, cV⟩] else []))) cv c0 c1 c2 (by omega) (ax (by omega)) (ax (by omega)) (ax (by omega)) (ax (by omega)) (ck h5) (fun w1 => by rw [hs]; exact vS (L.hd k) (L.dd k) (L.dm k) w1) (fun w1 => (by kernel_rfl : (method 432 83 (.pointer (some ⟨L.hd k, 0, none⟩)) "Tick").run prog w1 = .ok (250, .pointer (some ⟨L.hd k, 0, none⟩)) w1)) (fun u w1 => (by kernel_rfl : (callFunc 250 u).run prog w1 = .ok (.enter 250 u) w1)) hLay (fun _ _ q b => q.below b) (fun w1 q => rS q hk (fun U hv => tH (L.hd k) (S.PH k) U (S.hs k) m.n w1 hv (by omega) hL)) (fun w1 q => hX _ _ q.out) (fun w1 q => by rw [hs]; exact jg (eY m.n) 5 k 1 0 m.n.toNat q.out (by show S.fs.length ≤ 100000; omega))).mono ?_
 rintro r w' ⟨rfl,H⟩
 exact⟨rfl,hDrop _ _ H.out⟩
theorem aay {e:Nat→Nat} {w0 w:World} {t:Nat→Thing} {L:Pw} {S:Ws} (k i:Nat) (m:Mv) (d:Option Addr) (c:Nat) (h:PWn e w0 t L w S) (F:Fre e t i) (hk:k<S.n) (hs:m.s=2) (h5:m.k=5) (hn:0≤m.n∧m.n≤1048576) (hF:S.fs.length≤90000) (hL:(S.ds k).L.length<800000):Calls prog 31 #[ac L.x 0,.agg (aj m (k:Nat) d c)] w fun r w'=>r=.returned (.tuple #[.int .i64 (fi (S.ds k) m.n),.int .i64 (-1)])∧Hid (PWn e w0 t L w' ((S.setD k (eK (S.PD k) (S.ds k) m.n)).note (if (fi (S.ds k) m.n)=0 then [⟨5,k,2,0,m.n.toNat,false,0,cV⟩] else []))):=by
 obtain⟨cv,c0,c1,c2⟩:=h.conn hk
 have i0:=F i (Nat.le_refl _)
 obtain⟨t2,ht2⟩:∃ y,aV t (2*i+1) (fI [(w.heap.size,.cells (aj m (k:Nat) d c) 39 (0,0)),(w.heap.size+1,.cells (aB (L.hd k) (L.dd k) (L.dm k)) 87 (0,0))])=y:=⟨_,rfl⟩
 have e2:t2 (2*i+1)=fI [(w.heap.size,.cells (aj m (k:Nat) d c) 39 (0,0)),(w.heap.size+1,.cells (aB (L.hd k) (L.dd k) (L.dm k)) 87 (0,0))]:=by rw[← ht2,al]
 have hLay:∀ w1,Below w.heap.size w w1→w1.heap[w.heap.size]?=some (.cells (aj m (k:Nat) d c) 39 (0,0))→w1.heap[w.heap.size+1]?=some (.cells (aB (L.hd k) (L.dd k) (L.dm k)) 87 (0,0))→PWn e w0 t2 L w1 S:=fun w1 b k1 k2=>by
  rw[← ht2]
  refine h.layL b i0.1 (fun p hp=>?_) (fun p hp=>?_)
  ·simp only[List.mem_cons,List.not_mem_nil,or_false]at hp
   rcases hp with rfl | rfl
   ·exact k1
   ·exact k2
  ·simp only[List.mem_cons,List.not_mem_nil,or_false]at hp
   rcases hp with rfl | rfl
   ·exact Nat.le_refl _
   ·exact Nat.le_succ _
 have hX:∀ S2 w1,PWn e w0 t2 L w1 S2→w1.heap[w.heap.size]?=some (.cells (aj m (k:Nat) d c) 39 (0,0))∧w1.heap[w.heap.size+1]?=some (.cells (aB (L.hd k) (L.dd k) (L.dm k)) 87 (0,0)):=fun S2 w1 q=>⟨q.box i0.1 e2 _ (List.mem_cons_self ..),q.box i0.1 e2 _ (List.mem_cons_of_mem _ (List.mem_cons_self ..))⟩
 have hDrop:∀ S2 w1,PWn e w0 t2 L w1 S2→PWn e w0 t L w1 S2:=fun S2 w1 q=>by
  rw[← ht2]at q
  exact q.drop i0.1 i0.2
 have hN:m.n=((m.n.toNat:Nat):Int):=by omega
 refine (zn L.x (fu L.vc) (ip L.vc) S.n k (L.hd k) (L.dd k) (L.dm k) m d c 84 259 (L.dd k) (fi (S.ds k) m.n) w m.n.toNat hN (by omega) (fun w1 => PWn e w0 t2 L w1 S) (fun w1 => PWn e w0 t2 L w1 (S.setD k (eK (S.PD k) (S.ds k) m.n))) (fun w1 => PWn e w0 t2 L w1 ((S.setD k (eK (S.PD k) (S.ds k) m.n)).note (if (fi (S.ds k) m.n) = 0 then [⟨5, k, 2, 0, m.n.toNat, false, 0, cV⟩] else []))) cv c0 c1 c2 (by omega) (ax (by omega)) (ax (by omega)) (ax (by omega)) (ax (by omega)) (ck h5) (fun w1 => by rw [hs]; exact uZ (L.hd k) (L.dd k) (L.dm k) w1) (fun w1 => (by kernel_rfl : (method 432 84 (.pointer (some ⟨L.dd k, 0, none⟩)) "Tick").run prog w1 = .ok (259, .pointer (some ⟨L.dd k, 0, none⟩)) w1)) (fun u w1 => (by kernel_rfl : (callFunc 259 u).run prog w1 = .ok (.enter 259 u) w1)) hLay (fun _ _ q b => q.below b) (fun w1 q => ot q hk (fun g U dv => qJ (L.dd k) (L.dm k) g 16 S.mx (S.PD k) U (S.ds k) m.n w1 dv (by omega) hL)) (fun w1 q => hX _ _ q.out) (fun w1 q => by rw [hs]; exact jg (fi (S.ds k) m.n) 5 k 2 0 m.n.toNat q.out (by show S.fs.length ≤ 100000; omega))).mono ?_
 rintro r w' ⟨rfl,H⟩
 exact⟨rfl,hDrop _ _ H.out⟩
theorem zy {e:Nat→Nat} {w0 w:World} {t:Nat→Thing} {L:Pw} {S:Ws} (k i:Nat) (m:Mv) (d:Option Addr) (c:Nat) (h:PWn e w0 t L w S) (F:Fre e t i) (hk:k<S.n) (hs:m.s=1) (h6:m.k=6) (hF:S.fs.length≤90000):Calls prog 31 #[ac L.x 0,.agg (aj m (k:Nat) d c)] w fun r w'=>r=.returned (.tuple #[.int .i64 (gK (S.hs k)),.int .i64 (-1)])∧Hid (PWn e w0 t L w' ((S.setH k (jG (S.hs k))).note (if (gK (S.hs k))=0 then [dE 6 k 1] else []))):=by
 obtain⟨cv,c0,c1,c2⟩:=h.conn hk
 have i0:=F i (Nat.le_refl _)
 obtain⟨t2,ht2⟩:∃ y,aV t (2*i+1) (fI [(w.heap.size,.cells (aj m (k:Nat) d c) 39 (0,0)),(w.heap.size+1,.cells (aB (L.hd k) (L.dd k) (L.dm k)) 87 (0,0))])=y:=⟨_,rfl⟩
 have e2:t2 (2*i+1)=fI [(w.heap.size,.cells (aj m (k:Nat) d c) 39 (0,0)),(w.heap.size+1,.cells (aB (L.hd k) (L.dd k) (L.dm k)) 87 (0,0))]:=by rw[← ht2,al]
 have hLay:∀ w1,Below w.heap.size w w1→w1.heap[w.heap.size]?=some (.cells (aj m (k:Nat) d c) 39 (0,0))→w1.heap[w.heap.size+1]?=some (.cells (aB (L.hd k) (L.dd k) (L.dm k)) 87 (0,0))→PWn e w0 t2 L w1 S:=fun w1 b k1 k2=>by
  rw[← ht2]
  refine h.layL b i0.1 (fun p hp=>?_) (fun p hp=>?_)
  ·simp only[List.mem_cons,List.not_mem_nil,or_false]at hp
   rcases hp with rfl | rfl
   ·exact k1
   ·exact k2
  ·simp only[List.mem_cons,List.not_mem_nil,or_false]at hp
   rcases hp with rfl | rfl
   ·exact Nat.le_refl _
   ·exact Nat.le_succ _
 have hX:∀ S2 w1,PWn e w0 t2 L w1 S2→w1.heap[w.heap.size]?=some (.cells (aj m (k:Nat) d c) 39 (0,0))∧w1.heap[w.heap.size+1]?=some (.cells (aB (L.hd k) (L.dd k) (L.dm k)) 87 (0,0)):=fun S2 w1 q=>⟨q.box i0.1 e2 _ (List.mem_cons_self ..),q.box i0.1 e2 _ (List.mem_cons_of_mem _ (List.mem_cons_self ..))⟩
 have hDrop:∀ S2 w1,PWn e w0 t2 L w1 S2→PWn e w0 t L w1 S2:=fun S2 w1 q=>by
  rw[← ht2]at q
  exact q.drop i0.1 i0.2
 refine (yV L.x (fu L.vc) (ip L.vc) S.n k (L.hd k) (L.dd k) (L.dm k) m d c 83 249 (L.hd k) (gK (S.hs k)) w (fun w1 => PWn e w0 t2 L w1 S) (fun w1 => PWn e w0 t2 L w1 (S.setH k (jG (S.hs k)))) (fun w1 => PWn e w0 t2 L w1 ((S.setH k (jG (S.hs k))).note (if (gK (S.hs k)) = 0 then [dE 6 k 1] else []))) cv c0 c1 c2 (by omega) (ax (by omega)) (ax (by omega)) (ax (by omega)) (ax (by omega)) (ax (by omega)) (ck h6) (fun w1 => by rw [hs]; exact vS (L.hd k) (L.dd k) (L.dm k) w1) (fun w1 => (by kernel_rfl : (method 432 83 (.pointer (some ⟨L.hd k, 0, none⟩)) "Ack").run prog w1 = .ok (249, .pointer (some ⟨L.hd k, 0, none⟩)) w1)) (fun u w1 => (by kernel_rfl : (callFunc 249 u).run prog w1 = .ok (.enter 249 u) w1)) hLay (fun _ _ q b => q.below b) (fun w1 q => rS q hk (fun U hv => tZ (L.hd k) (S.PH k) U (S.hs k) w1 hv)) (fun w1 q => hX _ _ q.out) (fun w1 q => by rw [hs]; exact jg (gK (S.hs k)) 6 k 1 0 0 q.out (by show S.fs.length ≤ 100000; omega))).mono ?_
 rintro r w' ⟨rfl,H⟩
 exact⟨rfl,hDrop _ _ H.out⟩
theorem aac {e:Nat→Nat} {w0 w:World} {t:Nat→Thing} {L:Pw} {S:Ws} (k i:Nat) (m:Mv) (d:Option Addr) (c:Nat) (h:PWn e w0 t L w S) (F:Fre e t i) (hk:k<S.n) (hs:m.s=2) (h6:m.k=6) (hF:S.fs.length≤90000):Calls prog 31 #[ac L.x 0,.agg (aj m (k:Nat) d c)] w fun r w'=>r=.returned (.tuple #[.int .i64 (gI (S.ds k)),.int .i64 (-1)])∧Hid (PWn e w0 t L w' ((S.setD k (gq (S.ds k))).note (if (gI (S.ds k))=0 then [dE 6 k 2] else []))):=by
 obtain⟨cv,c0,c1,c2⟩:=h.conn hk
 have i0:=F i (Nat.le_refl _)
 obtain⟨t2,ht2⟩:∃ y,aV t (2*i+1) (fI [(w.heap.size,.cells (aj m (k:Nat) d c) 39 (0,0)),(w.heap.size+1,.cells (aB (L.hd k) (L.dd k) (L.dm k)) 87 (0,0))])=y:=⟨_,rfl⟩
 have e2:t2 (2*i+1)=fI [(w.heap.size,.cells (aj m (k:Nat) d c) 39 (0,0)),(w.heap.size+1,.cells (aB (L.hd k) (L.dd k) (L.dm k)) 87 (0,0))]:=by rw[← ht2,al]
 have hLay:∀ w1,Below w.heap.size w w1→w1.heap[w.heap.size]?=some (.cells (aj m (k:Nat) d c) 39 (0,0))→w1.heap[w.heap.size+1]?=some (.cells (aB (L.hd k) (L.dd k) (L.dm k)) 87 (0,0))→PWn e w0 t2 L w1 S:=fun w1 b k1 k2=>by
  rw[← ht2]
  refine h.layL b i0.1 (fun p hp=>?_) (fun p hp=>?_)
  ·simp only[List.mem_cons,List.not_mem_nil,or_false]at hp
   rcases hp with rfl | rfl
   ·exact k1
   ·exact k2
  ·simp only[List.mem_cons,List.not_mem_nil,or_false]at hp
   rcases hp with rfl | rfl
   ·exact Nat.le_refl _
   ·exact Nat.le_succ _
 have hX:∀ S2 w1,PWn e w0 t2 L w1 S2→w1.heap[w.heap.size]?=some (.cells (aj m (k:Nat) d c) 39 (0,0))∧w1.heap[w.heap.size+1]?=some (.cells (aB (L.hd k) (L.dd k) (L.dm k)) 87 (0,0)):=fun S2 w1 q=>⟨q.box i0.1 e2 _ (List.mem_cons_self ..),q.box i0.1 e2 _ (List.mem_cons_of_mem _ (List.mem_cons_self ..))⟩
 have hDrop:∀ S2 w1,PWn e w0 t2 L w1 S2→PWn e w0 t L w1 S2:=fun S2 w1 q=>by
  rw[← ht2]at q
  exact q.drop i0.1 i0.2
 refine (yV L.x (fu L.vc) (ip L.vc) S.n k (L.hd k) (L.dd k) (L.dm k) m d c 84 258 (L.dd k) (gI (S.ds k)) w (fun w1 => PWn e w0 t2 L w1 S) (fun w1 => PWn e w0 t2 L w1 (S.setD k (gq (S.ds k)))) (fun w1 => PWn e w0 t2 L w1 ((S.setD k (gq (S.ds k))).note (if (gI (S.ds k)) = 0 then [dE 6 k 2] else []))) cv c0 c1 c2 (by omega) (ax (by omega)) (ax (by omega)) (ax (by omega)) (ax (by omega)) (ax (by omega)) (ck h6) (fun w1 => by rw [hs]; exact uZ (L.hd k) (L.dd k) (L.dm k) w1) (fun w1 => (by kernel_rfl : (method 432 84 (.pointer (some ⟨L.dd k, 0, none⟩)) "Ack").run prog w1 = .ok (258, .pointer (some ⟨L.dd k, 0, none⟩)) w1)) (fun u w1 => (by kernel_rfl : (callFunc 258 u).run prog w1 = .ok (.enter 258 u) w1)) hLay (fun _ _ q b => q.below b) (fun w1 q => ot q hk (fun g U dv => tB (L.dd k) (L.dm k) g 16 S.mx (S.PD k) U (S.ds k) w1 dv)) (fun w1 q => hX _ _ q.out) (fun w1 q => by rw [hs]; exact jg (gI (S.ds k)) 6 k 2 0 0 q.out (by show S.fs.length ≤ 100000; omega))).mono ?_
 rintro r w' ⟨rfl,H⟩
 exact⟨rfl,hDrop _ _ H.out⟩
theorem aau {e:Nat→Nat} {w0 w:World} {t:Nat→Thing} {L:Pw} {S:Ws} (k i:Nat) (m:Mv) (d:Option Addr) (c:Nat) (h:PWn e w0 t L w S) (F:Fre e t i) (hk:k<S.n) (hs:m.s=1) (h7:m.k=7) (hc:m.c=((k:Nat):Int)) (hF:S.fs.length≤90000):Calls prog 31 #[ac L.x 0,.agg (aj m (k:Nat) d c)] w fun r w'=>r=.returned (.tuple #[.int .i64 0,.int .i64 (-1)])∧Hid (PWn e w0 t L w' ((S.note [dE 7 k 1]).setH k (gp (S.hs k)))):=by
 obtain⟨cv,c0,c1,c2⟩:=h.conn hk
 have i0:=F i (Nat.le_refl _)
 obtain⟨t2,ht2⟩:∃ y,aV t (2*i+1) (fI [(w.heap.size,.cells (aj m (k:Nat) d c) 39 (0,0)),(w.heap.size+1,.cells (aB (L.hd k) (L.dd k) (L.dm k)) 87 (0,0))])=y:=⟨_,rfl⟩
 have e2:t2 (2*i+1)=fI [(w.heap.size,.cells (aj m (k:Nat) d c) 39 (0,0)),(w.heap.size+1,.cells (aB (L.hd k) (L.dd k) (L.dm k)) 87 (0,0))]:=by rw[← ht2,al]
 have hLay:∀ w1,Below w.heap.size w w1→w1.heap[w.heap.size]?=some (.cells (aj m (k:Nat) d c) 39 (0,0))→w1.heap[w.heap.size+1]?=some (.cells (aB (L.hd k) (L.dd k) (L.dm k)) 87 (0,0))→PWn e w0 t2 L w1 S:=fun w1 b k1 k2=>by
  rw[← ht2]
  refine h.layL b i0.1 (fun p hp=>?_) (fun p hp=>?_)
  ·simp only[List.mem_cons,List.not_mem_nil,or_false]at hp
   rcases hp with rfl | rfl
   ·exact k1
   ·exact k2
  ·simp only[List.mem_cons,List.not_mem_nil,or_false]at hp
   rcases hp with rfl | rfl
   ·exact Nat.le_refl _
   ·exact Nat.le_succ _
 have hX:∀ S2 w1,PWn e w0 t2 L w1 S2→w1.heap[w.heap.size]?=some (.cells (aj m (k:Nat) d c) 39 (0,0))∧w1.heap[w.heap.size+1]?=some (.cells (aB (L.hd k) (L.dd k) (L.dm k)) 87 (0,0)):=fun S2 w1 q=>⟨q.box i0.1 e2 _ (List.mem_cons_self ..),q.box i0.1 e2 _ (List.mem_cons_of_mem _ (List.mem_cons_self ..))⟩
 have hDrop:∀ S2 w1,PWn e w0 t2 L w1 S2→PWn e w0 t L w1 S2:=fun S2 w1 q=>by
  rw[← ht2]at q
  exact q.drop i0.1 i0.2
 refine (zh L.x (fu L.vc) (ip L.vc) S.n k (L.hd k) (L.dd k) (L.dm k) m d c 0 w (fun w1=>PWn e w0 t2 L w1 S) (fun w1=>PWn e w0 t2 L w1 (S.note [dE 7 k 1])) (fun w1=>PWn e w0 t2 L w1 ((S.note [dE 7 k 1]).setH k (gp (S.hs k)))) cv c0 c1 c2 (by omega) (ax (by omega)) (ax (by omega)) (ax (by omega)) (ax (by omega)) (ax (by omega)) (ax (by omega)) (ck h7) hLay (fun _ _ q b=>q.below b) (fun w1 q=>by rw[hs];exact sg 7 k 1 0 0 q (by omega)) (fun w1 q=>hX _ _ q.out) (fun w1 q=>by
   have:=uU (L.hd k) (L.dd k) (L.dm k) m d c 0 w1 (fun w'=>PWn e w0 t2 L w' ((S.note [dE 7 k 1]).setH k (gp (S.hs k)))) (fun _ wx bx=>rS (q.out.below bx) hk (fun U hv=>qx (L.hd k) (S.PH k) U (S.hs k) wx hv)) (fun z=>absurd hs z)
   rw[hc]at this
   exact this)).mono ?_
 rintro r w' ⟨rfl,H⟩
 exact⟨rfl,hDrop _ _ H.out⟩
theorem zH {e:Nat→Nat} {w0 w:World} {t:Nat→Thing} {L:Pw} {S:Ws} (k i:Nat) (m:Mv) (d:Option Addr) (c:Nat) (h:PWn e w0 t L w S) (F:Fre e t i) (hk:k<S.n) (hs:m.s=2) (h7:m.k=7) (hc:m.c=((k:Nat):Int)) (hF:S.fs.length≤90000) (hn:0≤m.n∧m.n≤9223372036854775807) (ht:(S.ds k).ms.t<9223372036854774000):Calls prog 31 #[ac L.x 0,.agg (aj m (k:Nat) d c)] w fun r w'=>r=.returned (.tuple #[.int .i64 (fZ S.mx 16 (S.ds k) m.n),.int .i64 (-1)])∧Hid (PWn e w0 t L w' ((S.note [dE 7 k 2]).setD k (cG S.mx 16 (S.ds k) m.n))):=by
 obtain⟨cv,c0,c1,c2⟩:=h.conn hk
 have i0:=F i (Nat.le_refl _)
 obtain⟨t2,ht2⟩:∃ y,aV t (2*i+1) (fI [(w.heap.size,.cells (aj m (k:Nat) d c) 39 (0,0)),(w.heap.size+1,.cells (aB (L.hd k) (L.dd k) (L.dm k)) 87 (0,0))])=y:=⟨_,rfl⟩
 have e2:t2 (2*i+1)=fI [(w.heap.size,.cells (aj m (k:Nat) d c) 39 (0,0)),(w.heap.size+1,.cells (aB (L.hd k) (L.dd k) (L.dm k)) 87 (0,0))]:=by rw[← ht2,al]
 have hLay:∀ w1,Below w.heap.size w w1→w1.heap[w.heap.size]?=some (.cells (aj m (k:Nat) d c) 39 (0,0))→w1.heap[w.heap.size+1]?=some (.cells (aB (L.hd k) (L.dd k) (L.dm k)) 87 (0,0))→PWn e w0 t2 L w1 S:=fun w1 b k1 k2=>by
  rw[← ht2]
  refine h.layL b i0.1 (fun p hp=>?_) (fun p hp=>?_)
  ·simp only[List.mem_cons,List.not_mem_nil,or_false]at hp
   rcases hp with rfl | rfl
   ·exact k1
   ·exact k2
  ·simp only[List.mem_cons,List.not_mem_nil,or_false]at hp
   rcases hp with rfl | rfl
   ·exact Nat.le_refl _
   ·exact Nat.le_succ _
 have hX:∀ S2 w1,PWn e w0 t2 L w1 S2→w1.heap[w.heap.size]?=some (.cells (aj m (k:Nat) d c) 39 (0,0))∧w1.heap[w.heap.size+1]?=some (.cells (aB (L.hd k) (L.dd k) (L.dm k)) 87 (0,0)):=fun S2 w1 q=>⟨q.box i0.1 e2 _ (List.mem_cons_self ..),q.box i0.1 e2 _ (List.mem_cons_of_mem _ (List.mem_cons_self ..))⟩
 have hDrop:∀ S2 w1,PWn e w0 t2 L w1 S2→PWn e w0 t L w1 S2:=fun S2 w1 q=>by
  rw[← ht2]at q
  exact q.drop i0.1 i0.2
 refine (zh L.x (fu L.vc) (ip L.vc) S.n k (L.hd k) (L.dd k) (L.dm k) m d c (fZ S.mx 16 (S.ds k) m.n) w (fun w1=>PWn e w0 t2 L w1 S) (fun w1=>PWn e w0 t2 L w1 (S.note [dE 7 k 2])) (fun w1=>PWn e w0 t2 L w1 ((S.note [dE 7 k 2]).setD k (cG S.mx 16 (S.ds k) m.n))) cv c0 c1 c2 (by omega) (ax (by omega)) (ax (by omega)) (ax (by omega)) (ax (by omega)) (ax (by omega)) (ax (by omega)) (ck h7) hLay (fun _ _ q b=>q.below b) (fun w1 q=>by rw[hs];exact sg 7 k 2 0 0 q (by omega)) (fun w1 q=>hX _ _ q.out) (fun w1 q=>by
   have:=uU (L.hd k) (L.dd k) (L.dm k) m d c (fZ S.mx 16 (S.ds k) m.n) w1 (fun w'=>PWn e w0 t2 L w' ((S.note [dE 7 k 2]).setD k (cG S.mx 16 (S.ds k) m.n))) (fun z=>absurd z (by omega)) (fun _ wx bx=>ot (q.out.below bx) hk (fun g U dv=>pG (L.dd k) (L.dm k) g 16 S.mx (S.PD k) U (S.ds k) m.n wx dv hn.1 hn.2 ht))
   rw[hc]at this
   exact this)).mono ?_
 rintro r w' ⟨rfl,H⟩
 exact⟨rfl,hDrop _ _ H.out⟩
theorem abp {e:Nat→Nat} {w0 w:World} {t:Nat→Thing} {L:Pw} {S:Ws} (k i:Nat) (m:Mv) (d:Option Addr) (c:Nat) (h:PWn e w0 t L w S) (F:Fre e t i) (hk:k<S.n) (h8:m.k=8) (hn:m.n≤9223372036854775807):Calls prog 31 #[ac L.x 0,.agg (aj m (k:Nat) d c)] w fun r w'=>r=.returned (.tuple #[.int .i64 (arE m.n),.int .i64 (-1)])∧Hid (PWn e w0 t L w' (S.setD k { S.ds k with ms:=lG (S.ds k).ms m.n })):=by
 obtain⟨cv,c0,c1,c2⟩:=h.conn hk
 exact abB L.x (fu L.vc) (ip L.vc) S.n k (L.hd k) (L.dd k) (L.dm k) m d c (arE m.n) w (fun w1=>PWn e w0 t L w1 (S.setD k { S.ds k with ms:=lG (S.ds k).ms m.n })) cv c0 c1 c2 (by omega) (ax (by omega)) (ax (by omega)) (ax (by omega)) (ax (by omega)) (ax (by omega)) (ax (by omega)) (ax (by omega)) (fun w1 b1=>ot (h.below b1) hk (fun g U dv=>tF (L.dd k) (L.dm k) g 16 S.mx (S.PD k) U (S.ds k) m.n w1 dv hn))
theorem abi (X b g cc n k hd dd dm:Nat) (s:Int) (T:TypeId) (Fn:FuncId) (P:Nat) (s0 s1 s2 s3 s4:Nat) (la:Int) (rq on:Bool) (o:Nat) (bs:Nat→Nat) (w:World)
  (cb:w.cell? ⟨X,4,none⟩=some (ac b 0)) (cv:w.cell? ⟨X,3,none⟩=some (.slice (af g 0) n cc)) (c0:w.cell? ⟨g,k*3,none⟩=some (ac hd 0)) (c1:w.cell? ⟨g,k*3+1,none⟩=some (ac dd 0)) (c2:w.cell? ⟨g,k*3+2,none⟩=some (ac dm 0)) (hlt:k<n) (hs:s=1∨s=2)
  (hA:∀ w1,Calls prog 57 #[.agg (aB hd dd dm),.int .i64 s] w1 fun r w'=>r=.returned (.iface T (ac P 0))∧Below w1.heap.size w1 w')
  (hM : ∀ w1, (method 432 T (.pointer (some ⟨P, 0, none⟩)) "See").run prog w1 = .ok (Fn, .pointer (some ⟨P, 0, none⟩)) w1) (hF : ∀ u w1, (callFunc Fn u).run prog w1 = .ok (.enter Fn u) w1)
  (hC:∀ w1,Below w.heap.size w w1→Calls prog Fn #[ac P 0] w1 fun r w'=>∃ a ca,r=.returned (.agg (bQ s0 s1 s2 s3 s4 la rq on a o ca))∧Hid (Below w1.heap.size w1 w'∧Row8 w' a o ca bs∧∀ y,a=some y→0<o→w1.heap.size≤y.block)) :
  Calls prog 35 #[ac X 0,.int .i64 (k:Nat),.int .i64 s] w fun r w'=>∃ a ca,r=.returned (.tuple #[.agg (bQ s0 s1 s2 s3 s4 la rq on a o ca),.int .i64 0])∧Hid (Below w.heap.size w w'∧Row8 w' a o ca bs∧∀ y,a=some y→0<o→w.heap.size≤y.block):=by
 have kA:=ay w (.cells dA 43)
 have bA:=az (Below.refl _ w) (.cells dA 43)
 have sA:=iy w (.cells dA 43)
 obtain⟨wa,hwa⟩:∃ z,w.alloc (.cells dA 43)=z:=⟨_,rfl⟩
 obtain⟨x,hx⟩:∃ z,w.heap.size=z:=⟨_,rfl⟩
 rw[hwa]at kA bA sA
 have HB:Hid (Below w.heap.size w wa):=bA
 have d3:=ag cv bA
 have d0:=ag c0 bA
 have d1:=ag c1 bA
 have d2:=ag c2 bA
 have hN:=pL X b wa (ag cb bA)
 have hH:=abr X (af g 0) n cc ((k:Nat):Int) wa d3
 rw[decide_eq_true (by omega)]at hH
 have hI:=rQ s wa
 rw[show ((s == 1) || (s == 2))=true by simpa using hs]at hI
 have hAc:=hA wa
 rw[hx]at kA sA
 have HK:Hid (_):=kA
 have HS:Hid (w.heap.size=x):=hx
 have HZ:Hid (wa.heap.size=x+1):=sA
 have HE:Hid (_=wa):=hwa
 have HC:Hid (_):=hC
 have hlt':((k:Nat):Int) < ((n:Nat):Int):=by omega
 clear kA bA sA hwa hx hC hA cb cv c0 c1 c2 hs hlt
 go_enter func35,ntmps35
 go_upto_region 1 with fail
 rw[HE.out,HS.out]
 go_wp2_with fail
 refine hN.mono ?_
 rintro r w2 ⟨rfl,hw⟩
 rw[hw]
 clear hw
 clear hN
 go_wp2_with fail
 refine hH.mono ?_
 rintro r w2 ⟨rfl,hw⟩
 rw[hw]
 clear hw
 clear hH
 go_wp2_with fail
 refine hI.mono ?_
 rintro r w2 ⟨rfl,hw⟩
 rw[hw]
 clear hw
 clear hI
 go_wp2_with fail
 refine hAc.mono ?_
 rintro r w4 ⟨rfl,b4⟩
 clear hAc d0 d1 d2 d3
 have hCc:=(show Calls prog Fn #[ac P 0] w4 (fun r w'=>∃ a ca,r=.returned (.agg (bQ s0 s1 s2 s3 s4 la rq on a o ca))∧Hid (Below w4.heap.size w4 w'∧Row8 w' a o ca bs∧∀ y,a=some y→0<o→w4.heap.size≤y.block)) from HC.out w4 (HB.out.trans (b4.mono HB.out.size)))
 have HB4:Hid (_):=b4
 clear b4
 go_wp2_with fail
 refine hCc.mono ?_
 rintro r w5 ⟨a,ca,rfl,H5⟩
 clear hCc
 have b45:Below wa.heap.size wa w5:=HB4.out.trans (H5.out.1.mono HB4.out.size)
 have k5:=(b45.block x (by rw[HZ.out];omega)).trans HK.out
 have y0:=ae w5 x 0 _ _ _ k5
 have y1:=ae w5 x 1 _ _ _ k5
 have y2:=ae w5 x 2 _ _ _ k5
 have y3:=ae w5 x 3 _ _ _ k5
 have y4:=ae w5 x 4 _ _ _ k5
 have y5:=ae w5 x 5 _ _ _ k5
 have y6:=ae w5 x 6 _ _ _ k5
 have y7:=ae w5 x 7 _ _ _ k5
 have y8:=ae w5 x 8 _ _ _ k5
 have yz:=fun j=>frozen_of_row w5 x j _ _ k5
 have HB5:Hid (_):=b45
 clear b45 k5
 go_wp2_with fail
 refine bodyPost_ret (v:=.tuple #[.agg (bQ s0 s1 s2 s3 s4 la rq on a o ca),.int .i64 0]) (by simp[results,results35,go_sem,y0,y1,y2,y3,y4,y5,y6,y7,y8]) rfl ?_
 have oo:Off [x] w5 (((((((((w5.setCell ⟨x,0,none⟩ (Value.int .i64 (s0:Nat))).setCell ⟨x,1,none⟩ (Value.int .u32 (s1:Nat))).setCell ⟨x,2,none⟩ (Value.int .u32 (s2:Nat))).setCell ⟨x,3,none⟩ (Value.int .u32 (s3:Nat))).setCell ⟨x,4,none⟩ (Value.int .i64 (s4:Nat))).setCell ⟨x,5,none⟩ (Value.int .i64 la)).setCell ⟨x,6,none⟩ (Value.bool rq)).setCell ⟨x,7,none⟩ (Value.bool on)).setCell ⟨x,8,none⟩ (Value.slice a o ca)):=((((((((Off.setCell x 0 w5 _).trans (Off.setCell x 1 _ _)).trans (Off.setCell x 2 _ _)).trans (Off.setCell x 3 _ _)).trans (Off.setCell x 4 _ _)).trans (Off.setCell x 5 _ _)).trans (Off.setCell x 6 _ _)).trans (Off.setCell x 7 _ _)).trans (Off.setCell x 8 _ _)
 have hb:=HB.out
 have h4:=HB4.out.size
 have h5:=HZ.out
 have hsx:=HS.out
 refine⟨a,ca,rfl,oo.below (hb.trans (HB5.out.mono hb.size)) (by simp;omega) (Nat.le_trans hb.size HB5.out.size),Row8.offY H5.out.2.1 oo (fun y hy hn hm=>?_),fun y hy hn=>?_⟩
 ·have:=H5.out.2.2 y hy hn
  simp at hm
  omega
 ·have:=H5.out.2.2 y hy hn
  omega
theorem PWn.bagp {e:Nat→Nat} {w0 w:World} {t:Nat→Thing} {L:Pw} {S:Ws} (h:PWn e w0 t L w S):∃ b,w.cell? ⟨L.x,4,none⟩=some (ac b 0):=by
 obtain⟨t1,L1,h1,hs,hx,he⟩:=h
 have c4:w.cell? ⟨L1.x,4,none⟩=some (ac L1.b 0):=ae w L1.x 4 _ _ _ (h1.2.wb h1.1).blk
 rw[hx.x]at c4
 exact⟨_,c4⟩
theorem zG {e:Nat→Nat} {w0 w:World} {t:Nat→Thing} {L:Pw} {S:Ws} {k:Nat} (h:PWn e w0 t L w S) (hk:k<S.n):Calls prog 35 #[ac L.x 0,.int .i64 (k:Nat),.int .i64 1] w fun r w'=>∃ a ca,r=.returned (.tuple #[.agg #[.int .i64 ((S.hs k).st:Nat),.int .u32 ((S.hs k).ss:Nat),.int .u32 ((S.hs k).nm:Nat),.int .u32 ((S.hs k).sn:Nat),.int .i64 ((S.hs k).dc:Nat),.int .i64 (S.hs k).v.lat,.bool (aq (S.hs k).v),.bool (aE (S.hs k).v),.slice a (S.PH k).i ca],.int .i64 0])∧Hid (Below w.heap.size w w'∧Row8 w' a (S.PH k).i ca (dy (S.hs k).v)∧∀ y,a=some y→0 < (S.PH k).i→w.heap.size≤y.block):=by
 obtain⟨cv,c0,c1,c2⟩:=h.conn hk
 obtain⟨b,cb⟩:=h.bagp
 exact abi L.x b (fu L.vc) (ip L.vc) S.n k (L.hd k) (L.dd k) (L.dm k) 1 83 33 (L.hd k) _ _ _ _ _ _ _ _ _ _ w cb cv c0 c1 c2 hk (.inl rfl) (fun w1 => vS _ _ _ w1) (fun w1 => (by kernel_rfl : (method 432 83 (.pointer (some ⟨L.hd k, 0, none⟩)) "See").run prog w1 = .ok (33, .pointer (some ⟨L.hd k, 0, none⟩)) w1)) (fun u w1 => (by kernel_rfl : (callFunc 33 u).run prog w1 = .ok (.enter 33 u) w1)) (fun w1 b1 => by
  obtain⟨U,hv⟩:=(h.below b1).hv hk
  refine (jx (L.hd k) (S.PH k) U (S.hs k) w1 hv).mono ?_
  rintro r w' ⟨a,ca,rfl,H⟩
  exact⟨a,ca,rfl,H.out.2.2,H.out.2.1,H.out.1.newY⟩)
theorem zT {e:Nat→Nat} {w0 w:World} {t:Nat→Thing} {L:Pw} {S:Ws} {k:Nat} (h:PWn e w0 t L w S) (hk:k<S.n):Calls prog 35 #[ac L.x 0,.int .i64 (k:Nat),.int .i64 2] w fun r w'=>∃ a ca,r=.returned (.tuple #[.agg #[.int .i64 ((S.ds k).st:Nat),.int .u32 ((S.ds k).ss:Nat),.int .u32 ((S.ds k).nm:Nat),.int .u32 ((S.ds k).sn:Nat),.int .i64 ((S.ds k).dc:Nat),.int .i64 (S.ds k).v.lat,.bool (aq (S.ds k).v),.bool (aE (S.ds k).v),.slice a (S.PD k).o ca],.int .i64 0])∧Hid (Below w.heap.size w w'∧Row8 w' a (S.PD k).o ca (dy (S.ds k).v)∧∀ y,a=some y→0 < (S.PD k).o→w.heap.size≤y.block):=by
 obtain⟨cv,c0,c1,c2⟩:=h.conn hk
 obtain⟨b,cb⟩:=h.bagp
 exact abi L.x b (fu L.vc) (ip L.vc) S.n k (L.hd k) (L.dd k) (L.dm k) 2 84 34 (L.dd k) _ _ _ _ _ _ _ _ _ _ w cb cv c0 c1 c2 hk (.inr rfl) (fun w1 => uZ _ _ _ w1) (fun w1 => (by kernel_rfl : (method 432 84 (.pointer (some ⟨L.dd k, 0, none⟩)) "See").run prog w1 = .ok (34, .pointer (some ⟨L.dd k, 0, none⟩)) w1)) (fun u w1 => (by kernel_rfl : (callFunc 34 u).run prog w1 = .ok (.enter 34 u) w1)) (fun w1 b1 => by
  obtain⟨g,U,dv⟩:=(h.below b1).dv hk
  refine (iU (L.dd k) (L.dm k) g 16 S.mx (S.PD k) U (S.ds k) w1 dv).mono ?_
  rintro r w' ⟨a,ca,rfl,H⟩
  exact⟨a,ca,rfl,H.out.2.2,H.out.2.1,H.out.1.newY⟩)
theorem rF {e:Nat→Nat} {w0 w:World} {t:Nat→Thing} {L:Pw} {S:Ws} (i:Int) (h:PWn e w0 t L w S):Calls prog 17 #[ac L.x 0,.int .i64 i] w fun r w'=>∃ a n ca,r=.returned (.tuple #[.slice a n ca,.int .i64 (if i<0∨((S.bg.length:Nat):Int)≤i then 151 else 0)])∧Hid (Below w.heap.size w w'∧(¬ (i<0∨((S.bg.length:Nat):Int)≤i)→n=(S.bg.getD i.toNat cV).1∧Row8 w' a n ca (S.bg.getD i.toNat cV).2∧∀ y,a=some y→0<n→w.heap.size≤y.block)):=by
 obtain⟨t1,L1,h1,hs,hx,he⟩:=h
 subst hs
 have hb:=(h1.2.wb h1.1).blk
 have c4:w.cell? ⟨L1.x,4,none⟩=some (ac L1.b 0):=ae w L1.x 4 _ _ _ hb
 rw[hx.x]at c4
 have hN:=pL L.x L1.b w c4
 have hG:Calls prog 38 #[ac L1.b 0,.int .i64 i] w fun r w'=>∃ a n ca,r=.returned (.tuple #[.slice a n ca,.int .i64 (if i<0∨((L1.S.bg.length:Nat):Int)≤i then 151 else 0)])∧Hid (Below w.heap.size w w'∧(¬ (i<0∨((L1.S.bg.length:Nat):Int)≤i)→n=(L1.S.bg.getD i.toNat cV).1∧Row8 w' a n ca (L1.S.bg.getD i.toNat cV).2∧∀ y,a=some y→0<n→w.heap.size≤y.block)):=by
  by_cases ho:i<0∨((L1.S.bg.length:Nat):Int)≤i
  ·rw[if_pos ho]
   refine (k9 0 L1.b L1.m L1.bv L1.bs L1.bp L1.S.bg i w (h1.2.bg h1.1).1 ho).mono ?_
   rintro r w' ⟨rfl,rfl⟩
   exact⟨none,0,0,rfl,Below.refl _ _,fun q=>absurd ho q⟩
  ·rw[if_neg ho]
   have hlt:i.toNat<L1.S.bg.length:=by omega
   have hI:((i.toNat:Nat):Int)=i:=by omega
   obtain⟨f,hf⟩:∃ y,L1.S.bg.getD i.toNat cV=y:=⟨_,rfl⟩
   have hg:L1.S.bg[i.toNat]?=some f:=by
    rw[← hf,List.getD_eq_getElem?_getD,List.getElem?_eq_getElem hlt]
    rfl
   have:=gQ 0 L1.b L1.m L1.bv L1.bs L1.bp L1.S.bg i.toNat f w (h1.2.bg h1.1).1 hg
   rw[hI]at this
   have hby:=(h1.2.bg h1.1).1.fl.small f (List.mem_of_getElem? hg)
   refine this.mono ?_
   rintro r w' ⟨a,ca,rfl,H⟩
   obtain⟨a2,c2,e2,R2⟩:=Fr.row (f:=f) H.out.2 hby.2
   injection e2 with e3 _ e4
   subst e3 e4
   rw[hf]
   exact⟨a,_,ca,rfl,H.out.1,fun _=>⟨rfl,R2,Fr.newY (n:=f.1) (bs:=f.2) H.out.2⟩⟩
 obtain⟨X,hX⟩:∃ y,L.x=y:=⟨_,rfl⟩
 obtain⟨b,hbb⟩:∃ y,L1.b=y:=⟨_,rfl⟩
 obtain⟨E,hE⟩:∃ y,(if i<0∨((L1.S.bg.length:Nat):Int)≤i then (151:Int) else 0)=y:=⟨_,rfl⟩
 obtain⟨Z,hZ⟩:∃ Z:Option Addr→Nat→Nat→World→Prop,Z=fun a n ca w'=>Below w.heap.size w w'∧(¬ (i<0∨((L1.S.bg.length:Nat):Int)≤i)→n=(L1.S.bg.getD i.toNat cV).1∧Row8 w' a n ca (L1.S.bg.getD i.toNat cV).2∧∀ y,a=some y→0<n→w.heap.size≤y.block):=⟨_,rfl⟩
 have hG2:Calls prog 38 #[ac b 0,.int .i64 i] w fun r w'=>∃ a n ca,r=.returned (.tuple #[.slice a n ca,.int .i64 E])∧Hid (Z a n ca w'):=by rw[hZ,← hE,← hbb];exact hG
 show Calls prog 17 #[ac L.x 0,.int .i64 i] w fun r w'=>∃ a n ca,r=.returned (.tuple #[.slice a n ca,.int .i64 (if i<0∨((L1.S.bg.length:Nat):Int)≤i then (151:Int) else 0)])∧Hid (_)
 suffices hh:Calls prog 17 #[ac X 0,.int .i64 i] w fun r w'=>∃ a n ca,r=.returned (.tuple #[.slice a n ca,.int .i64 E])∧Hid (Z a n ca w') by
  rw[hZ,← hE,← hX]at hh
  exact hh
 rw[hX,hbb]at c4
 rw[hX]at hN
 clear hG h1 hx he hb hX hbb hE hZ
 go_enter func17,ntmps17
 go_wp2_with fail
 refine hN.mono ?_
 rintro r w2 ⟨rfl,rfl⟩
 go_wp2_with fail
 refine hG2.mono ?_
 rintro r w3 ⟨a,n,ca,rfl,H3⟩
 go_wp2_with fail
 go_ret2
 exact⟨a,n,ca,rfl,H3⟩
end Go.Proofs.YtddahhlbpcbddaaGreat
