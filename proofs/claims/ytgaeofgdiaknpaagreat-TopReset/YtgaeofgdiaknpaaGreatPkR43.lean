/- Part 44: contracts that the proof rests on. -/
import Derived.Test.YtgaeofgdiaknpaaGreatPkR36
set_option maxHeartbeats 64000000
namespace Go.Proofs.YtgaeofgdiaknpaaGreat
set_option maxRecDepth 100000
open Go.RowKit Go.Maps
set_option linter.unusedVariables false
theorem wrk5 (X:Nat) (m:Mv) (d:Option Addr) (c:Nat) (w:World) (h3:(m.k == 3)=false) (h4:(m.k == 4)=false) (h5:(m.k == 5)=true):Calls Tryz.prog 45 #[.pointer (some ⟨X,0,none⟩),.agg #[.int .i64 m.k,.int .i64 m.c,.int .i64 m.s,.int .i64 m.f,.int .i64 m.a,.int .u32 (m.w:Nat),.int .i64 m.n,.bool m.h,.slice d m.l c]] w fun r w'=>r=.returned (.int .i64 (if m.n<0∨gnM m<m.n then 2 else 0))∧Hid (Below w.heap.size w w'):=by
 have kA:=heap_alloc_new w (.cells #[.int .i64 m.k,.int .i64 m.c,.int .i64 m.s,.int .i64 m.f,.int .i64 m.a,.int .u32 (m.w:Nat),.int .i64 m.n,.bool m.h,.slice d m.l c] 38)
 have bA:=belY (Below.refl _ w) (.cells #[.int .i64 m.k,.int .i64 m.c,.int .i64 m.s,.int .i64 m.f,.int .i64 m.a,.int .u32 (m.w:Nat),.int .i64 m.n,.bool m.h,.slice d m.l c] 38)
 obtain⟨wa,hwa⟩:∃ y,w.alloc (.cells #[.int .i64 m.k,.int .i64 m.c,.int .i64 m.s,.int .i64 m.f,.int .i64 m.a,.int .u32 (m.w:Nat),.int .i64 m.n,.bool m.h,.slice d m.l c] 38)=y:=⟨_,rfl⟩
 rw[hwa]at kA bA
 obtain⟨x,hx⟩:∃ y,w.heap.size=y:=⟨_,rfl⟩
 have HB:Hid (Below w.heap.size w wa):=bA
 have HS:Hid (w.heap.size=x):=hx
 rw[hx]at kA
 have q0:wa.cell? ⟨x,0,none⟩=some (.int .i64 m.k):=cell_of_row wa x 0 _ _ _ kA
 have q1:wa.cell? ⟨x,1,none⟩=some (.int .i64 m.c):=cell_of_row wa x 1 _ _ _ kA
 have q2:wa.cell? ⟨x,2,none⟩=some (.int .i64 m.s):=cell_of_row wa x 2 _ _ _ kA
 have q3:wa.cell? ⟨x,3,none⟩=some (.int .i64 m.f):=cell_of_row wa x 3 _ _ _ kA
 have q4:wa.cell? ⟨x,4,none⟩=some (.int .i64 m.a):=cell_of_row wa x 4 _ _ _ kA
 have q5:wa.cell? ⟨x,5,none⟩=some (.int .u32 (m.w:Nat)):=cell_of_row wa x 5 _ _ _ kA
 have q6:wa.cell? ⟨x,6,none⟩=some (.int .i64 m.n):=cell_of_row wa x 6 _ _ _ kA
 have q7:wa.cell? ⟨x,7,none⟩=some (.bool m.h):=cell_of_row wa x 7 _ _ _ kA
 have q8:wa.cell? ⟨x,8,none⟩=some (.slice d m.l c):=cell_of_row wa x 8 _ _ _ kA
 have hS:∀ w',Below wa.heap.size wa w'→w'.cell? ⟨x,0,none⟩=some (Value.int .i64 m.k)∧w'.cell? ⟨x,1,none⟩=some (Value.int .i64 m.c)∧w'.cell? ⟨x,2,none⟩=some (Value.int .i64 m.s)∧w'.cell? ⟨x,3,none⟩=some (Value.int .i64 m.f)∧w'.cell? ⟨x,4,none⟩=some (Value.int .i64 m.a)∧w'.cell? ⟨x,5,none⟩=some (Value.int .u32 (m.w:Nat))∧w'.cell? ⟨x,6,none⟩=some (Value.int .i64 m.n)∧w'.cell? ⟨x,7,none⟩=some (Value.bool m.h)∧w'.cell? ⟨x,8,none⟩=some (Value.slice d m.l c):=fun w' b=>⟨cellY q0 b,cellY q1 b,cellY q2 b,cellY q3 b,cellY q4 b,cellY q5 b,cellY q6 b,cellY q7 b,cellY q8 b⟩
 have HS0:=hS wa.drew (Below.drew (Below.refl _ _))
 have HSS:Hid (_):=hS
 have HBd:Hid (Below w.heap.size w wa.drew):=Below.drew bA
 have hGG:=pgreatest m d c wa.drew
 obtain⟨G,hG⟩:∃ z,gnM m=z:=⟨_,rfl⟩
 rw[hG]at hGG ⊢
 have HE:Hid (_=wa):=hwa
 clear kA hwa hx
 clear bA hS hG
 by_cases n0:m.n<0
 ·rw[if_pos (.inl n0)]
  go_enter Tryz.func45,Tryz.ntmps45
  go_upto_region 1 with fail
  rw[HE.out,HS.out]
  go_upto_region 9 with fail
  refine wp_region_held_drew (S:=fun w'=>w'.cell? ⟨x,0,none⟩=some (Value.int .i64 m.k)∧w'.cell? ⟨x,1,none⟩=some (Value.int .i64 m.c)∧w'.cell? ⟨x,2,none⟩=some (Value.int .i64 m.s)∧w'.cell? ⟨x,3,none⟩=some (Value.int .i64 m.f)∧w'.cell? ⟨x,4,none⟩=some (Value.int .i64 m.a)∧w'.cell? ⟨x,5,none⟩=some (Value.int .u32 (m.w:Nat))∧w'.cell? ⟨x,6,none⟩=some (Value.int .i64 m.n)∧w'.cell? ⟨x,7,none⟩=some (Value.bool m.h)∧w'.cell? ⟨x,8,none⟩=some (Value.slice d m.l c)) (by kernel_rfl) HS0 (fun _=>?_)
  refine tkH (i:=0) (v:=Value.pointer (some ⟨x,6,none⟩)) ?_
  refine tkH (i:=1) (v:=Value.int .i64 m.n) ?_
  refine tkH (i:=2) (v:=Value.bool true) ?_
  refine tkH (i:=3) (v:=Value.bool true) ?_
  refine wpAnyH_take (i:=4) (v:=undef) rfl (by kernel_rfl) (by kernel_rfl) (by kernel_rfl) (fun _ _ _ h=>h) (Or.inr ⟨by kernel_rfl,rfl⟩) (by assumption) ?_
  refine wpAnyH_take (i:=5) (v:=undef) rfl (by kernel_rfl) (by kernel_rfl) (by kernel_rfl) (fun _ _ _ h=>h) (Or.inr ⟨by kernel_rfl,rfl⟩) (by assumption) ?_
  refine wpAnyH_take (i:=6) (v:=undef) rfl (by kernel_rfl) (by kernel_rfl) (by kernel_rfl) (fun _ _ _ h=>h) (Or.inr ⟨by kernel_rfl,rfl⟩) (by assumption) ?_
  refine wpAnyH_take (i:=7) (v:=undef) rfl (by kernel_rfl) (by kernel_rfl) (by kernel_rfl) (fun _ _ _ h=>h) (Or.inr ⟨by kernel_rfl,rfl⟩) (by assumption) ?_
  refine wpAnyH_take (i:=8) (v:=undef) rfl (by kernel_rfl) (by kernel_rfl) (by kernel_rfl) (fun _ _ _ h=>h) (Or.inr ⟨by kernel_rfl,rfl⟩) (by assumption) ?_
  refine tkH (i:=9) (v:=Value.bool true) ?_
  refine held_at (a':={ tmps:=#[Value.pointer (some ⟨X,0,none⟩),Value.agg #[Value.int .i64 m.k,Value.int .i64 m.c,Value.int .i64 m.s,Value.int .i64 m.f,Value.int .i64 m.a,Value.int .u32 (m.w:Nat),Value.int .i64 m.n,Value.bool m.h,Value.slice d m.l c],undef,Value.pointer (some ⟨x,0,none⟩),Value.int .i64 0,undef,undef,Value.pointer (some ⟨x,0,none⟩),Value.int .i64 m.k,Value.bool false,Value.bool false,Value.bool false,undef,undef,undef,undef,undef,undef,undef,Value.bool true,Value.bool true,undef,undef,Value.pointer (some ⟨x,6,none⟩),Value.int .i64 m.n,Value.bool true,Value.bool true,undef,undef,undef,undef,undef,Value.bool true],defers:=[] }) (l':=#[true,true,true,true,true,true,true,true,true,true]) (by kernel_rfl) (by kernel_rfl) ?_
  refine wpAnyH_done (by kernel_rfl) ?_ _
  go_wp2_with fail
  go_ret
  exact⟨rfl,HBd.out⟩
 ·by_cases n1:G<m.n
  ·rw[if_pos (.inr n1)]
   have n1':m.n > G:=n1
   go_enter Tryz.func45,Tryz.ntmps45
   go_upto_region 1 with fail
   rw[HE.out,HS.out]
   go_upto_region 9 with fail
   refine wp_region_held_drew (S:=fun w'=>w'.cell? ⟨x,0,none⟩=some (Value.int .i64 m.k)∧w'.cell? ⟨x,1,none⟩=some (Value.int .i64 m.c)∧w'.cell? ⟨x,2,none⟩=some (Value.int .i64 m.s)∧w'.cell? ⟨x,3,none⟩=some (Value.int .i64 m.f)∧w'.cell? ⟨x,4,none⟩=some (Value.int .i64 m.a)∧w'.cell? ⟨x,5,none⟩=some (Value.int .u32 (m.w:Nat))∧w'.cell? ⟨x,6,none⟩=some (Value.int .i64 m.n)∧w'.cell? ⟨x,7,none⟩=some (Value.bool m.h)∧w'.cell? ⟨x,8,none⟩=some (Value.slice d m.l c)) (by kernel_rfl) HS0 (fun _=>?_)
   refine tkH (i:=0) (v:=Value.pointer (some ⟨x,6,none⟩)) ?_
   refine tkH (i:=1) (v:=Value.int .i64 m.n) ?_
   refine tkH (i:=2) (v:=Value.bool false) ?_
   refine tkH (i:=3) (v:=Value.bool false) ?_
   refine tkH (i:=4) (v:=Value.pointer (some ⟨x,6,none⟩)) ?_
   refine tkH (i:=5) (v:=Value.int .i64 m.n) ?_
   refine tkH (i:=6) (v:=Value.agg #[Value.int .i64 m.k,Value.int .i64 m.c,Value.int .i64 m.s,Value.int .i64 m.f,Value.int .i64 m.a,Value.int .u32 (m.w:Nat),Value.int .i64 m.n,Value.bool m.h,Value.slice d m.l c]) ?_
   refine held_call (i:=7) 66 #[Value.agg #[Value.int .i64 m.k,Value.int .i64 m.c,Value.int .i64 m.s,Value.int .i64 m.f,Value.int .i64 m.a,Value.int .u32 (m.w:Nat),Value.int .i64 m.n,Value.bool m.h,Value.slice d m.l c]] (by kernel_rfl) rfl (by kernel_rfl) (by go_simp) ?_
   refine hGG.mono ?_
   rintro r w2 ⟨rfl,b2⟩
   clear hGG
   have HS2:=HSS.out w2 ((Below.drew (Below.refl wa.heap.size wa)).trans b2)
   refine⟨_,rfl,HS2,?_⟩
   refine tkH (i:=8) (v:=Value.bool true) ?_
   refine tkH (i:=9) (v:=Value.bool true) ?_
   refine held_at (a':={ tmps:=#[Value.pointer (some ⟨X,0,none⟩),Value.agg #[Value.int .i64 m.k,Value.int .i64 m.c,Value.int .i64 m.s,Value.int .i64 m.f,Value.int .i64 m.a,Value.int .u32 (m.w:Nat),Value.int .i64 m.n,Value.bool m.h,Value.slice d m.l c],undef,Value.pointer (some ⟨x,0,none⟩),Value.int .i64 0,undef,undef,Value.pointer (some ⟨x,0,none⟩),Value.int .i64 m.k,Value.bool false,Value.bool false,Value.bool false,undef,undef,undef,undef,undef,undef,undef,Value.bool true,Value.bool true,undef,undef,Value.pointer (some ⟨x,6,none⟩),Value.int .i64 m.n,Value.bool false,Value.bool false,Value.pointer (some ⟨x,6,none⟩),Value.int .i64 m.n,Value.agg #[Value.int .i64 m.k,Value.int .i64 m.c,Value.int .i64 m.s,Value.int .i64 m.f,Value.int .i64 m.a,Value.int .u32 (m.w:Nat),Value.int .i64 m.n,Value.bool m.h,Value.slice d m.l c],Value.int .i64 G,Value.bool true,Value.bool true],defers:=[] }) (l':=#[true,true,true,true,true,true,true,true,true,true]) (by kernel_rfl) (by kernel_rfl) ?_
   refine wpAnyH_done (by kernel_rfl) ?_ _
   have HF:Hid (Below w.heap.size w w2):=HBd.out.trans (b2.mono HBd.out.size)
   clear HS2 b2
   go_wp2_with fail
   go_ret
   exact⟨rfl,HF.out⟩
  ·rw[if_neg (fun q=>q.elim n0 n1)]
   have n1':¬ (m.n > G):=n1
   go_enter Tryz.func45,Tryz.ntmps45
   go_upto_region 1 with fail
   rw[HE.out,HS.out]
   go_upto_region 9 with fail
   refine wp_region_held_drew (S:=fun w'=>w'.cell? ⟨x,0,none⟩=some (Value.int .i64 m.k)∧w'.cell? ⟨x,1,none⟩=some (Value.int .i64 m.c)∧w'.cell? ⟨x,2,none⟩=some (Value.int .i64 m.s)∧w'.cell? ⟨x,3,none⟩=some (Value.int .i64 m.f)∧w'.cell? ⟨x,4,none⟩=some (Value.int .i64 m.a)∧w'.cell? ⟨x,5,none⟩=some (Value.int .u32 (m.w:Nat))∧w'.cell? ⟨x,6,none⟩=some (Value.int .i64 m.n)∧w'.cell? ⟨x,7,none⟩=some (Value.bool m.h)∧w'.cell? ⟨x,8,none⟩=some (Value.slice d m.l c)) (by kernel_rfl) HS0 (fun _=>?_)
   refine tkH (i:=0) (v:=Value.pointer (some ⟨x,6,none⟩)) ?_
   refine tkH (i:=1) (v:=Value.int .i64 m.n) ?_
   refine tkH (i:=2) (v:=Value.bool false) ?_
   refine tkH (i:=3) (v:=Value.bool false) ?_
   refine tkH (i:=4) (v:=Value.pointer (some ⟨x,6,none⟩)) ?_
   refine tkH (i:=5) (v:=Value.int .i64 m.n) ?_
   refine tkH (i:=6) (v:=Value.agg #[Value.int .i64 m.k,Value.int .i64 m.c,Value.int .i64 m.s,Value.int .i64 m.f,Value.int .i64 m.a,Value.int .u32 (m.w:Nat),Value.int .i64 m.n,Value.bool m.h,Value.slice d m.l c]) ?_
   refine held_call (i:=7) 66 #[Value.agg #[Value.int .i64 m.k,Value.int .i64 m.c,Value.int .i64 m.s,Value.int .i64 m.f,Value.int .i64 m.a,Value.int .u32 (m.w:Nat),Value.int .i64 m.n,Value.bool m.h,Value.slice d m.l c]] (by kernel_rfl) rfl (by kernel_rfl) (by go_simp) ?_
   refine hGG.mono ?_
   rintro r w2 ⟨rfl,b2⟩
   clear hGG
   have HS2:=HSS.out w2 ((Below.drew (Below.refl wa.heap.size wa)).trans b2)
   refine⟨_,rfl,HS2,?_⟩
   refine tkH (i:=8) (v:=Value.bool false) ?_
   refine tkH (i:=9) (v:=Value.bool false) ?_
   refine held_at (a':={ tmps:=#[Value.pointer (some ⟨X,0,none⟩),Value.agg #[Value.int .i64 m.k,Value.int .i64 m.c,Value.int .i64 m.s,Value.int .i64 m.f,Value.int .i64 m.a,Value.int .u32 (m.w:Nat),Value.int .i64 m.n,Value.bool m.h,Value.slice d m.l c],undef,Value.pointer (some ⟨x,0,none⟩),Value.int .i64 0,undef,undef,Value.pointer (some ⟨x,0,none⟩),Value.int .i64 m.k,Value.bool false,Value.bool false,Value.bool false,undef,undef,undef,undef,undef,undef,undef,Value.bool true,Value.bool true,undef,undef,Value.pointer (some ⟨x,6,none⟩),Value.int .i64 m.n,Value.bool false,Value.bool false,Value.pointer (some ⟨x,6,none⟩),Value.int .i64 m.n,Value.agg #[Value.int .i64 m.k,Value.int .i64 m.c,Value.int .i64 m.s,Value.int .i64 m.f,Value.int .i64 m.a,Value.int .u32 (m.w:Nat),Value.int .i64 m.n,Value.bool m.h,Value.slice d m.l c],Value.int .i64 G,Value.bool false,Value.bool false],defers:=[] }) (l':=#[true,true,true,true,true,true,true,true,true,true]) (by kernel_rfl) (by kernel_rfl) ?_
   refine wpAnyH_done (by kernel_rfl) ?_ _
   have HF:Hid (Below w.heap.size w w2):=HBd.out.trans (b2.mono HBd.out.size)
   clear HS2 b2
   go_wp2_with fail
   go_ret
   exact⟨rfl,HF.out⟩
theorem wrk7 (X:Nat) (m:Mv) (d:Option Addr) (c:Nat) (w:World) (h3:(m.k == 3)=false) (h4:(m.k == 4)=false) (h5:(m.k == 5)=false) (h7:(m.k == 7)=true):Calls Tryz.prog 45 #[.pointer (some ⟨X,0,none⟩),.agg #[.int .i64 m.k,.int .i64 m.c,.int .i64 m.s,.int .i64 m.f,.int .i64 m.a,.int .u32 (m.w:Nat),.int .i64 m.n,.bool m.h,.slice d m.l c]] w fun r w'=>r=.returned (.int .i64 (if m.n<0∨gnM m<m.n then 2 else 0))∧Hid (Below w.heap.size w w'):=by
 have kA:=heap_alloc_new w (.cells #[.int .i64 m.k,.int .i64 m.c,.int .i64 m.s,.int .i64 m.f,.int .i64 m.a,.int .u32 (m.w:Nat),.int .i64 m.n,.bool m.h,.slice d m.l c] 38)
 have bA:=belY (Below.refl _ w) (.cells #[.int .i64 m.k,.int .i64 m.c,.int .i64 m.s,.int .i64 m.f,.int .i64 m.a,.int .u32 (m.w:Nat),.int .i64 m.n,.bool m.h,.slice d m.l c] 38)
 obtain⟨wa,hwa⟩:∃ y,w.alloc (.cells #[.int .i64 m.k,.int .i64 m.c,.int .i64 m.s,.int .i64 m.f,.int .i64 m.a,.int .u32 (m.w:Nat),.int .i64 m.n,.bool m.h,.slice d m.l c] 38)=y:=⟨_,rfl⟩
 rw[hwa]at kA bA
 obtain⟨x,hx⟩:∃ y,w.heap.size=y:=⟨_,rfl⟩
 have HB:Hid (Below w.heap.size w wa):=bA
 have HS:Hid (w.heap.size=x):=hx
 rw[hx]at kA
 have q0:wa.cell? ⟨x,0,none⟩=some (.int .i64 m.k):=cell_of_row wa x 0 _ _ _ kA
 have q1:wa.cell? ⟨x,1,none⟩=some (.int .i64 m.c):=cell_of_row wa x 1 _ _ _ kA
 have q2:wa.cell? ⟨x,2,none⟩=some (.int .i64 m.s):=cell_of_row wa x 2 _ _ _ kA
 have q3:wa.cell? ⟨x,3,none⟩=some (.int .i64 m.f):=cell_of_row wa x 3 _ _ _ kA
 have q4:wa.cell? ⟨x,4,none⟩=some (.int .i64 m.a):=cell_of_row wa x 4 _ _ _ kA
 have q5:wa.cell? ⟨x,5,none⟩=some (.int .u32 (m.w:Nat)):=cell_of_row wa x 5 _ _ _ kA
 have q6:wa.cell? ⟨x,6,none⟩=some (.int .i64 m.n):=cell_of_row wa x 6 _ _ _ kA
 have q7:wa.cell? ⟨x,7,none⟩=some (.bool m.h):=cell_of_row wa x 7 _ _ _ kA
 have q8:wa.cell? ⟨x,8,none⟩=some (.slice d m.l c):=cell_of_row wa x 8 _ _ _ kA
 have hS:∀ w',Below wa.heap.size wa w'→w'.cell? ⟨x,0,none⟩=some (Value.int .i64 m.k)∧w'.cell? ⟨x,1,none⟩=some (Value.int .i64 m.c)∧w'.cell? ⟨x,2,none⟩=some (Value.int .i64 m.s)∧w'.cell? ⟨x,3,none⟩=some (Value.int .i64 m.f)∧w'.cell? ⟨x,4,none⟩=some (Value.int .i64 m.a)∧w'.cell? ⟨x,5,none⟩=some (Value.int .u32 (m.w:Nat))∧w'.cell? ⟨x,6,none⟩=some (Value.int .i64 m.n)∧w'.cell? ⟨x,7,none⟩=some (Value.bool m.h)∧w'.cell? ⟨x,8,none⟩=some (Value.slice d m.l c):=fun w' b=>⟨cellY q0 b,cellY q1 b,cellY q2 b,cellY q3 b,cellY q4 b,cellY q5 b,cellY q6 b,cellY q7 b,cellY q8 b⟩
 have HS0:=hS wa.drew (Below.drew (Below.refl _ _))
 have HSS:Hid (_):=hS
 have HBd:Hid (Below w.heap.size w wa.drew):=Below.drew bA
 have hGG:=pgreatest m d c wa.drew
 obtain⟨G,hG⟩:∃ z,gnM m=z:=⟨_,rfl⟩
 rw[hG]at hGG ⊢
 have HE:Hid (_=wa):=hwa
 clear kA hwa hx
 clear bA hS hG
 by_cases n0:m.n<0
 ·rw[if_pos (.inl n0)]
  go_enter Tryz.func45,Tryz.ntmps45
  go_upto_region 1 with fail
  rw[HE.out,HS.out]
  go_upto_region 9 with fail
  refine wp_region_held_drew (S:=fun w'=>w'.cell? ⟨x,0,none⟩=some (Value.int .i64 m.k)∧w'.cell? ⟨x,1,none⟩=some (Value.int .i64 m.c)∧w'.cell? ⟨x,2,none⟩=some (Value.int .i64 m.s)∧w'.cell? ⟨x,3,none⟩=some (Value.int .i64 m.f)∧w'.cell? ⟨x,4,none⟩=some (Value.int .i64 m.a)∧w'.cell? ⟨x,5,none⟩=some (Value.int .u32 (m.w:Nat))∧w'.cell? ⟨x,6,none⟩=some (Value.int .i64 m.n)∧w'.cell? ⟨x,7,none⟩=some (Value.bool m.h)∧w'.cell? ⟨x,8,none⟩=some (Value.slice d m.l c)) (by kernel_rfl) HS0 (fun _=>?_)
  refine tkH (i:=0) (v:=Value.pointer (some ⟨x,6,none⟩)) ?_
  refine tkH (i:=1) (v:=Value.int .i64 m.n) ?_
  refine tkH (i:=2) (v:=Value.bool true) ?_
  refine tkH (i:=3) (v:=Value.bool true) ?_
  refine wpAnyH_take (i:=4) (v:=undef) rfl (by kernel_rfl) (by kernel_rfl) (by kernel_rfl) (fun _ _ _ h=>h) (Or.inr ⟨by kernel_rfl,rfl⟩) (by assumption) ?_
  refine wpAnyH_take (i:=5) (v:=undef) rfl (by kernel_rfl) (by kernel_rfl) (by kernel_rfl) (fun _ _ _ h=>h) (Or.inr ⟨by kernel_rfl,rfl⟩) (by assumption) ?_
  refine wpAnyH_take (i:=6) (v:=undef) rfl (by kernel_rfl) (by kernel_rfl) (by kernel_rfl) (fun _ _ _ h=>h) (Or.inr ⟨by kernel_rfl,rfl⟩) (by assumption) ?_
  refine wpAnyH_take (i:=7) (v:=undef) rfl (by kernel_rfl) (by kernel_rfl) (by kernel_rfl) (fun _ _ _ h=>h) (Or.inr ⟨by kernel_rfl,rfl⟩) (by assumption) ?_
  refine wpAnyH_take (i:=8) (v:=undef) rfl (by kernel_rfl) (by kernel_rfl) (by kernel_rfl) (fun _ _ _ h=>h) (Or.inr ⟨by kernel_rfl,rfl⟩) (by assumption) ?_
  refine tkH (i:=9) (v:=Value.bool true) ?_
  refine held_at (a':={ tmps:=#[Value.pointer (some ⟨X,0,none⟩),Value.agg #[Value.int .i64 m.k,Value.int .i64 m.c,Value.int .i64 m.s,Value.int .i64 m.f,Value.int .i64 m.a,Value.int .u32 (m.w:Nat),Value.int .i64 m.n,Value.bool m.h,Value.slice d m.l c],undef,Value.pointer (some ⟨x,0,none⟩),Value.int .i64 0,undef,undef,Value.pointer (some ⟨x,0,none⟩),Value.int .i64 m.k,Value.bool false,Value.bool false,Value.bool false,undef,undef,undef,undef,undef,undef,undef,Value.bool true,Value.bool false,Value.bool true,undef,Value.pointer (some ⟨x,6,none⟩),Value.int .i64 m.n,Value.bool true,Value.bool true,undef,undef,undef,undef,undef,Value.bool true],defers:=[] }) (l':=#[true,true,true,true,true,true,true,true,true,true]) (by kernel_rfl) (by kernel_rfl) ?_
  refine wpAnyH_done (by kernel_rfl) ?_ _
  go_wp2_with fail
  go_ret
  exact⟨rfl,HBd.out⟩
 ·by_cases n1:G<m.n
  ·rw[if_pos (.inr n1)]
   have n1':m.n > G:=n1
   go_enter Tryz.func45,Tryz.ntmps45
   go_upto_region 1 with fail
   rw[HE.out,HS.out]
   go_upto_region 9 with fail
   refine wp_region_held_drew (S:=fun w'=>w'.cell? ⟨x,0,none⟩=some (Value.int .i64 m.k)∧w'.cell? ⟨x,1,none⟩=some (Value.int .i64 m.c)∧w'.cell? ⟨x,2,none⟩=some (Value.int .i64 m.s)∧w'.cell? ⟨x,3,none⟩=some (Value.int .i64 m.f)∧w'.cell? ⟨x,4,none⟩=some (Value.int .i64 m.a)∧w'.cell? ⟨x,5,none⟩=some (Value.int .u32 (m.w:Nat))∧w'.cell? ⟨x,6,none⟩=some (Value.int .i64 m.n)∧w'.cell? ⟨x,7,none⟩=some (Value.bool m.h)∧w'.cell? ⟨x,8,none⟩=some (Value.slice d m.l c)) (by kernel_rfl) HS0 (fun _=>?_)
   refine tkH (i:=0) (v:=Value.pointer (some ⟨x,6,none⟩)) ?_
   refine tkH (i:=1) (v:=Value.int .i64 m.n) ?_
   refine tkH (i:=2) (v:=Value.bool false) ?_
   refine tkH (i:=3) (v:=Value.bool false) ?_
   refine tkH (i:=4) (v:=Value.pointer (some ⟨x,6,none⟩)) ?_
   refine tkH (i:=5) (v:=Value.int .i64 m.n) ?_
   refine tkH (i:=6) (v:=Value.agg #[Value.int .i64 m.k,Value.int .i64 m.c,Value.int .i64 m.s,Value.int .i64 m.f,Value.int .i64 m.a,Value.int .u32 (m.w:Nat),Value.int .i64 m.n,Value.bool m.h,Value.slice d m.l c]) ?_
   refine held_call (i:=7) 66 #[Value.agg #[Value.int .i64 m.k,Value.int .i64 m.c,Value.int .i64 m.s,Value.int .i64 m.f,Value.int .i64 m.a,Value.int .u32 (m.w:Nat),Value.int .i64 m.n,Value.bool m.h,Value.slice d m.l c]] (by kernel_rfl) rfl (by kernel_rfl) (by go_simp) ?_
   refine hGG.mono ?_
   rintro r w2 ⟨rfl,b2⟩
   clear hGG
   have HS2:=HSS.out w2 ((Below.drew (Below.refl wa.heap.size wa)).trans b2)
   refine⟨_,rfl,HS2,?_⟩
   refine tkH (i:=8) (v:=Value.bool true) ?_
   refine tkH (i:=9) (v:=Value.bool true) ?_
   refine held_at (a':={ tmps:=#[Value.pointer (some ⟨X,0,none⟩),Value.agg #[Value.int .i64 m.k,Value.int .i64 m.c,Value.int .i64 m.s,Value.int .i64 m.f,Value.int .i64 m.a,Value.int .u32 (m.w:Nat),Value.int .i64 m.n,Value.bool m.h,Value.slice d m.l c],undef,Value.pointer (some ⟨x,0,none⟩),Value.int .i64 0,undef,undef,Value.pointer (some ⟨x,0,none⟩),Value.int .i64 m.k,Value.bool false,Value.bool false,Value.bool false,undef,undef,undef,undef,undef,undef,undef,Value.bool true,Value.bool false,Value.bool true,undef,Value.pointer (some ⟨x,6,none⟩),Value.int .i64 m.n,Value.bool false,Value.bool false,Value.pointer (some ⟨x,6,none⟩),Value.int .i64 m.n,Value.agg #[Value.int .i64 m.k,Value.int .i64 m.c,Value.int .i64 m.s,Value.int .i64 m.f,Value.int .i64 m.a,Value.int .u32 (m.w:Nat),Value.int .i64 m.n,Value.bool m.h,Value.slice d m.l c],Value.int .i64 G,Value.bool true,Value.bool true],defers:=[] }) (l':=#[true,true,true,true,true,true,true,true,true,true]) (by kernel_rfl) (by kernel_rfl) ?_
   refine wpAnyH_done (by kernel_rfl) ?_ _
   have HF:Hid (Below w.heap.size w w2):=HBd.out.trans (b2.mono HBd.out.size)
   clear HS2 b2
   go_wp2_with fail
   go_ret
   exact⟨rfl,HF.out⟩
  ·rw[if_neg (fun q=>q.elim n0 n1)]
   have n1':¬ (m.n > G):=n1
   go_enter Tryz.func45,Tryz.ntmps45
   go_upto_region 1 with fail
   rw[HE.out,HS.out]
   go_upto_region 9 with fail
   refine wp_region_held_drew (S:=fun w'=>w'.cell? ⟨x,0,none⟩=some (Value.int .i64 m.k)∧w'.cell? ⟨x,1,none⟩=some (Value.int .i64 m.c)∧w'.cell? ⟨x,2,none⟩=some (Value.int .i64 m.s)∧w'.cell? ⟨x,3,none⟩=some (Value.int .i64 m.f)∧w'.cell? ⟨x,4,none⟩=some (Value.int .i64 m.a)∧w'.cell? ⟨x,5,none⟩=some (Value.int .u32 (m.w:Nat))∧w'.cell? ⟨x,6,none⟩=some (Value.int .i64 m.n)∧w'.cell? ⟨x,7,none⟩=some (Value.bool m.h)∧w'.cell? ⟨x,8,none⟩=some (Value.slice d m.l c)) (by kernel_rfl) HS0 (fun _=>?_)
   refine tkH (i:=0) (v:=Value.pointer (some ⟨x,6,none⟩)) ?_
   refine tkH (i:=1) (v:=Value.int .i64 m.n) ?_
   refine tkH (i:=2) (v:=Value.bool false) ?_
   refine tkH (i:=3) (v:=Value.bool false) ?_
   refine tkH (i:=4) (v:=Value.pointer (some ⟨x,6,none⟩)) ?_
   refine tkH (i:=5) (v:=Value.int .i64 m.n) ?_
   refine tkH (i:=6) (v:=Value.agg #[Value.int .i64 m.k,Value.int .i64 m.c,Value.int .i64 m.s,Value.int .i64 m.f,Value.int .i64 m.a,Value.int .u32 (m.w:Nat),Value.int .i64 m.n,Value.bool m.h,Value.slice d m.l c]) ?_
   refine held_call (i:=7) 66 #[Value.agg #[Value.int .i64 m.k,Value.int .i64 m.c,Value.int .i64 m.s,Value.int .i64 m.f,Value.int .i64 m.a,Value.int .u32 (m.w:Nat),Value.int .i64 m.n,Value.bool m.h,Value.slice d m.l c]] (by kernel_rfl) rfl (by kernel_rfl) (by go_simp) ?_
   refine hGG.mono ?_
   rintro r w2 ⟨rfl,b2⟩
   clear hGG
   have HS2:=HSS.out w2 ((Below.drew (Below.refl wa.heap.size wa)).trans b2)
   refine⟨_,rfl,HS2,?_⟩
   refine tkH (i:=8) (v:=Value.bool false) ?_
   refine tkH (i:=9) (v:=Value.bool false) ?_
   refine held_at (a':={ tmps:=#[Value.pointer (some ⟨X,0,none⟩),Value.agg #[Value.int .i64 m.k,Value.int .i64 m.c,Value.int .i64 m.s,Value.int .i64 m.f,Value.int .i64 m.a,Value.int .u32 (m.w:Nat),Value.int .i64 m.n,Value.bool m.h,Value.slice d m.l c],undef,Value.pointer (some ⟨x,0,none⟩),Value.int .i64 0,undef,undef,Value.pointer (some ⟨x,0,none⟩),Value.int .i64 m.k,Value.bool false,Value.bool false,Value.bool false,undef,undef,undef,undef,undef,undef,undef,Value.bool true,Value.bool false,Value.bool true,undef,Value.pointer (some ⟨x,6,none⟩),Value.int .i64 m.n,Value.bool false,Value.bool false,Value.pointer (some ⟨x,6,none⟩),Value.int .i64 m.n,Value.agg #[Value.int .i64 m.k,Value.int .i64 m.c,Value.int .i64 m.s,Value.int .i64 m.f,Value.int .i64 m.a,Value.int .u32 (m.w:Nat),Value.int .i64 m.n,Value.bool m.h,Value.slice d m.l c],Value.int .i64 G,Value.bool false,Value.bool false],defers:=[] }) (l':=#[true,true,true,true,true,true,true,true,true,true]) (by kernel_rfl) (by kernel_rfl) ?_
   refine wpAnyH_done (by kernel_rfl) ?_ _
   have HF:Hid (Below w.heap.size w w2):=HBd.out.trans (b2.mono HBd.out.size)
   clear HS2 b2
   go_wp2_with fail
   go_ret
   exact⟨rfl,HF.out⟩
theorem wrk8 (X:Nat) (m:Mv) (d:Option Addr) (c:Nat) (w:World) (h3:(m.k == 3)=false) (h4:(m.k == 4)=false) (h5:(m.k == 5)=false) (h7:(m.k == 7)=false) (h8:(m.k == 8)=true):Calls Tryz.prog 45 #[.pointer (some ⟨X,0,none⟩),.agg #[.int .i64 m.k,.int .i64 m.c,.int .i64 m.s,.int .i64 m.f,.int .i64 m.a,.int .u32 (m.w:Nat),.int .i64 m.n,.bool m.h,.slice d m.l c]] w fun r w'=>r=.returned (.int .i64 (if m.n<0∨gnM m<m.n then 2 else 0))∧Hid (Below w.heap.size w w'):=by
 have kA:=heap_alloc_new w (.cells #[.int .i64 m.k,.int .i64 m.c,.int .i64 m.s,.int .i64 m.f,.int .i64 m.a,.int .u32 (m.w:Nat),.int .i64 m.n,.bool m.h,.slice d m.l c] 38)
 have bA:=belY (Below.refl _ w) (.cells #[.int .i64 m.k,.int .i64 m.c,.int .i64 m.s,.int .i64 m.f,.int .i64 m.a,.int .u32 (m.w:Nat),.int .i64 m.n,.bool m.h,.slice d m.l c] 38)
 obtain⟨wa,hwa⟩:∃ y,w.alloc (.cells #[.int .i64 m.k,.int .i64 m.c,.int .i64 m.s,.int .i64 m.f,.int .i64 m.a,.int .u32 (m.w:Nat),.int .i64 m.n,.bool m.h,.slice d m.l c] 38)=y:=⟨_,rfl⟩
 rw[hwa]at kA bA
 obtain⟨x,hx⟩:∃ y,w.heap.size=y:=⟨_,rfl⟩
 have HB:Hid (Below w.heap.size w wa):=bA
 have HS:Hid (w.heap.size=x):=hx
 rw[hx]at kA
 have q0:wa.cell? ⟨x,0,none⟩=some (.int .i64 m.k):=cell_of_row wa x 0 _ _ _ kA
 have q1:wa.cell? ⟨x,1,none⟩=some (.int .i64 m.c):=cell_of_row wa x 1 _ _ _ kA
 have q2:wa.cell? ⟨x,2,none⟩=some (.int .i64 m.s):=cell_of_row wa x 2 _ _ _ kA
 have q3:wa.cell? ⟨x,3,none⟩=some (.int .i64 m.f):=cell_of_row wa x 3 _ _ _ kA
 have q4:wa.cell? ⟨x,4,none⟩=some (.int .i64 m.a):=cell_of_row wa x 4 _ _ _ kA
 have q5:wa.cell? ⟨x,5,none⟩=some (.int .u32 (m.w:Nat)):=cell_of_row wa x 5 _ _ _ kA
 have q6:wa.cell? ⟨x,6,none⟩=some (.int .i64 m.n):=cell_of_row wa x 6 _ _ _ kA
 have q7:wa.cell? ⟨x,7,none⟩=some (.bool m.h):=cell_of_row wa x 7 _ _ _ kA
 have q8:wa.cell? ⟨x,8,none⟩=some (.slice d m.l c):=cell_of_row wa x 8 _ _ _ kA
 have hS:∀ w',Below wa.heap.size wa w'→w'.cell? ⟨x,0,none⟩=some (Value.int .i64 m.k)∧w'.cell? ⟨x,1,none⟩=some (Value.int .i64 m.c)∧w'.cell? ⟨x,2,none⟩=some (Value.int .i64 m.s)∧w'.cell? ⟨x,3,none⟩=some (Value.int .i64 m.f)∧w'.cell? ⟨x,4,none⟩=some (Value.int .i64 m.a)∧w'.cell? ⟨x,5,none⟩=some (Value.int .u32 (m.w:Nat))∧w'.cell? ⟨x,6,none⟩=some (Value.int .i64 m.n)∧w'.cell? ⟨x,7,none⟩=some (Value.bool m.h)∧w'.cell? ⟨x,8,none⟩=some (Value.slice d m.l c):=fun w' b=>⟨cellY q0 b,cellY q1 b,cellY q2 b,cellY q3 b,cellY q4 b,cellY q5 b,cellY q6 b,cellY q7 b,cellY q8 b⟩
 have HS0:=hS wa.drew (Below.drew (Below.refl _ _))
 have HSS:Hid (_):=hS
 have HBd:Hid (Below w.heap.size w wa.drew):=Below.drew bA
 have hGG:=pgreatest m d c wa.drew
 obtain⟨G,hG⟩:∃ z,gnM m=z:=⟨_,rfl⟩
 rw[hG]at hGG ⊢
 have HE:Hid (_=wa):=hwa
 clear kA hwa hx
 clear bA hS hG
 by_cases n0:m.n<0
 ·rw[if_pos (.inl n0)]
  go_enter Tryz.func45,Tryz.ntmps45
  go_upto_region 1 with fail
  rw[HE.out,HS.out]
  go_upto_region 9 with fail
  refine wp_region_held_drew (S:=fun w'=>w'.cell? ⟨x,0,none⟩=some (Value.int .i64 m.k)∧w'.cell? ⟨x,1,none⟩=some (Value.int .i64 m.c)∧w'.cell? ⟨x,2,none⟩=some (Value.int .i64 m.s)∧w'.cell? ⟨x,3,none⟩=some (Value.int .i64 m.f)∧w'.cell? ⟨x,4,none⟩=some (Value.int .i64 m.a)∧w'.cell? ⟨x,5,none⟩=some (Value.int .u32 (m.w:Nat))∧w'.cell? ⟨x,6,none⟩=some (Value.int .i64 m.n)∧w'.cell? ⟨x,7,none⟩=some (Value.bool m.h)∧w'.cell? ⟨x,8,none⟩=some (Value.slice d m.l c)) (by kernel_rfl) HS0 (fun _=>?_)
  refine tkH (i:=0) (v:=Value.pointer (some ⟨x,6,none⟩)) ?_
  refine tkH (i:=1) (v:=Value.int .i64 m.n) ?_
  refine tkH (i:=2) (v:=Value.bool true) ?_
  refine tkH (i:=3) (v:=Value.bool true) ?_
  refine wpAnyH_take (i:=4) (v:=undef) rfl (by kernel_rfl) (by kernel_rfl) (by kernel_rfl) (fun _ _ _ h=>h) (Or.inr ⟨by kernel_rfl,rfl⟩) (by assumption) ?_
  refine wpAnyH_take (i:=5) (v:=undef) rfl (by kernel_rfl) (by kernel_rfl) (by kernel_rfl) (fun _ _ _ h=>h) (Or.inr ⟨by kernel_rfl,rfl⟩) (by assumption) ?_
  refine wpAnyH_take (i:=6) (v:=undef) rfl (by kernel_rfl) (by kernel_rfl) (by kernel_rfl) (fun _ _ _ h=>h) (Or.inr ⟨by kernel_rfl,rfl⟩) (by assumption) ?_
  refine wpAnyH_take (i:=7) (v:=undef) rfl (by kernel_rfl) (by kernel_rfl) (by kernel_rfl) (fun _ _ _ h=>h) (Or.inr ⟨by kernel_rfl,rfl⟩) (by assumption) ?_
  refine wpAnyH_take (i:=8) (v:=undef) rfl (by kernel_rfl) (by kernel_rfl) (by kernel_rfl) (fun _ _ _ h=>h) (Or.inr ⟨by kernel_rfl,rfl⟩) (by assumption) ?_
  refine tkH (i:=9) (v:=Value.bool true) ?_
  refine held_at (a':={ tmps:=#[Value.pointer (some ⟨X,0,none⟩),Value.agg #[Value.int .i64 m.k,Value.int .i64 m.c,Value.int .i64 m.s,Value.int .i64 m.f,Value.int .i64 m.a,Value.int .u32 (m.w:Nat),Value.int .i64 m.n,Value.bool m.h,Value.slice d m.l c],undef,Value.pointer (some ⟨x,0,none⟩),Value.int .i64 0,undef,undef,Value.pointer (some ⟨x,0,none⟩),Value.int .i64 m.k,Value.bool false,Value.bool false,Value.bool false,undef,undef,undef,undef,undef,undef,undef,Value.bool true,Value.bool false,Value.bool false,Value.bool true,Value.pointer (some ⟨x,6,none⟩),Value.int .i64 m.n,Value.bool true,Value.bool true,undef,undef,undef,undef,undef,Value.bool true],defers:=[] }) (l':=#[true,true,true,true,true,true,true,true,true,true]) (by kernel_rfl) (by kernel_rfl) ?_
  refine wpAnyH_done (by kernel_rfl) ?_ _
  go_wp2_with fail
  go_ret
  exact⟨rfl,HBd.out⟩
 ·by_cases n1:G<m.n
  ·rw[if_pos (.inr n1)]
   have n1':m.n > G:=n1
   go_enter Tryz.func45,Tryz.ntmps45
   go_upto_region 1 with fail
   rw[HE.out,HS.out]
   go_upto_region 9 with fail
   refine wp_region_held_drew (S:=fun w'=>w'.cell? ⟨x,0,none⟩=some (Value.int .i64 m.k)∧w'.cell? ⟨x,1,none⟩=some (Value.int .i64 m.c)∧w'.cell? ⟨x,2,none⟩=some (Value.int .i64 m.s)∧w'.cell? ⟨x,3,none⟩=some (Value.int .i64 m.f)∧w'.cell? ⟨x,4,none⟩=some (Value.int .i64 m.a)∧w'.cell? ⟨x,5,none⟩=some (Value.int .u32 (m.w:Nat))∧w'.cell? ⟨x,6,none⟩=some (Value.int .i64 m.n)∧w'.cell? ⟨x,7,none⟩=some (Value.bool m.h)∧w'.cell? ⟨x,8,none⟩=some (Value.slice d m.l c)) (by kernel_rfl) HS0 (fun _=>?_)
   refine tkH (i:=0) (v:=Value.pointer (some ⟨x,6,none⟩)) ?_
   refine tkH (i:=1) (v:=Value.int .i64 m.n) ?_
   refine tkH (i:=2) (v:=Value.bool false) ?_
   refine tkH (i:=3) (v:=Value.bool false) ?_
   refine tkH (i:=4) (v:=Value.pointer (some ⟨x,6,none⟩)) ?_
   refine tkH (i:=5) (v:=Value.int .i64 m.n) ?_
   refine tkH (i:=6) (v:=Value.agg #[Value.int .i64 m.k,Value.int .i64 m.c,Value.int .i64 m.s,Value.int .i64 m.f,Value.int .i64 m.a,Value.int .u32 (m.w:Nat),Value.int .i64 m.n,Value.bool m.h,Value.slice d m.l c]) ?_
   refine held_call (i:=7) 66 #[Value.agg #[Value.int .i64 m.k,Value.int .i64 m.c,Value.int .i64 m.s,Value.int .i64 m.f,Value.int .i64 m.a,Value.int .u32 (m.w:Nat),Value.int .i64 m.n,Value.bool m.h,Value.slice d m.l c]] (by kernel_rfl) rfl (by kernel_rfl) (by go_simp) ?_
   refine hGG.mono ?_
   rintro r w2 ⟨rfl,b2⟩
   clear hGG
   have HS2:=HSS.out w2 ((Below.drew (Below.refl wa.heap.size wa)).trans b2)
   refine⟨_,rfl,HS2,?_⟩
   refine tkH (i:=8) (v:=Value.bool true) ?_
   refine tkH (i:=9) (v:=Value.bool true) ?_
   refine held_at (a':={ tmps:=#[Value.pointer (some ⟨X,0,none⟩),Value.agg #[Value.int .i64 m.k,Value.int .i64 m.c,Value.int .i64 m.s,Value.int .i64 m.f,Value.int .i64 m.a,Value.int .u32 (m.w:Nat),Value.int .i64 m.n,Value.bool m.h,Value.slice d m.l c],undef,Value.pointer (some ⟨x,0,none⟩),Value.int .i64 0,undef,undef,Value.pointer (some ⟨x,0,none⟩),Value.int .i64 m.k,Value.bool false,Value.bool false,Value.bool false,undef,undef,undef,undef,undef,undef,undef,Value.bool true,Value.bool false,Value.bool false,Value.bool true,Value.pointer (some ⟨x,6,none⟩),Value.int .i64 m.n,Value.bool false,Value.bool false,Value.pointer (some ⟨x,6,none⟩),Value.int .i64 m.n,Value.agg #[Value.int .i64 m.k,Value.int .i64 m.c,Value.int .i64 m.s,Value.int .i64 m.f,Value.int .i64 m.a,Value.int .u32 (m.w:Nat),Value.int .i64 m.n,Value.bool m.h,Value.slice d m.l c],Value.int .i64 G,Value.bool true,Value.bool true],defers:=[] }) (l':=#[true,true,true,true,true,true,true,true,true,true]) (by kernel_rfl) (by kernel_rfl) ?_
   refine wpAnyH_done (by kernel_rfl) ?_ _
   have HF:Hid (Below w.heap.size w w2):=HBd.out.trans (b2.mono HBd.out.size)
   clear HS2 b2
   go_wp2_with fail
   go_ret
   exact⟨rfl,HF.out⟩
  ·rw[if_neg (fun q=>q.elim n0 n1)]
   have n1':¬ (m.n > G):=n1
   go_enter Tryz.func45,Tryz.ntmps45
   go_upto_region 1 with fail
   rw[HE.out,HS.out]
   go_upto_region 9 with fail
   refine wp_region_held_drew (S:=fun w'=>w'.cell? ⟨x,0,none⟩=some (Value.int .i64 m.k)∧w'.cell? ⟨x,1,none⟩=some (Value.int .i64 m.c)∧w'.cell? ⟨x,2,none⟩=some (Value.int .i64 m.s)∧w'.cell? ⟨x,3,none⟩=some (Value.int .i64 m.f)∧w'.cell? ⟨x,4,none⟩=some (Value.int .i64 m.a)∧w'.cell? ⟨x,5,none⟩=some (Value.int .u32 (m.w:Nat))∧w'.cell? ⟨x,6,none⟩=some (Value.int .i64 m.n)∧w'.cell? ⟨x,7,none⟩=some (Value.bool m.h)∧w'.cell? ⟨x,8,none⟩=some (Value.slice d m.l c)) (by kernel_rfl) HS0 (fun _=>?_)
   refine tkH (i:=0) (v:=Value.pointer (some ⟨x,6,none⟩)) ?_
   refine tkH (i:=1) (v:=Value.int .i64 m.n) ?_
   refine tkH (i:=2) (v:=Value.bool false) ?_
   refine tkH (i:=3) (v:=Value.bool false) ?_
   refine tkH (i:=4) (v:=Value.pointer (some ⟨x,6,none⟩)) ?_
   refine tkH (i:=5) (v:=Value.int .i64 m.n) ?_
   refine tkH (i:=6) (v:=Value.agg #[Value.int .i64 m.k,Value.int .i64 m.c,Value.int .i64 m.s,Value.int .i64 m.f,Value.int .i64 m.a,Value.int .u32 (m.w:Nat),Value.int .i64 m.n,Value.bool m.h,Value.slice d m.l c]) ?_
   refine held_call (i:=7) 66 #[Value.agg #[Value.int .i64 m.k,Value.int .i64 m.c,Value.int .i64 m.s,Value.int .i64 m.f,Value.int .i64 m.a,Value.int .u32 (m.w:Nat),Value.int .i64 m.n,Value.bool m.h,Value.slice d m.l c]] (by kernel_rfl) rfl (by kernel_rfl) (by go_simp) ?_
   refine hGG.mono ?_
   rintro r w2 ⟨rfl,b2⟩
   clear hGG
   have HS2:=HSS.out w2 ((Below.drew (Below.refl wa.heap.size wa)).trans b2)
   refine⟨_,rfl,HS2,?_⟩
   refine tkH (i:=8) (v:=Value.bool false) ?_
   refine tkH (i:=9) (v:=Value.bool false) ?_
   refine held_at (a':={ tmps:=#[Value.pointer (some ⟨X,0,none⟩),Value.agg #[Value.int .i64 m.k,Value.int .i64 m.c,Value.int .i64 m.s,Value.int .i64 m.f,Value.int .i64 m.a,Value.int .u32 (m.w:Nat),Value.int .i64 m.n,Value.bool m.h,Value.slice d m.l c],undef,Value.pointer (some ⟨x,0,none⟩),Value.int .i64 0,undef,undef,Value.pointer (some ⟨x,0,none⟩),Value.int .i64 m.k,Value.bool false,Value.bool false,Value.bool false,undef,undef,undef,undef,undef,undef,undef,Value.bool true,Value.bool false,Value.bool false,Value.bool true,Value.pointer (some ⟨x,6,none⟩),Value.int .i64 m.n,Value.bool false,Value.bool false,Value.pointer (some ⟨x,6,none⟩),Value.int .i64 m.n,Value.agg #[Value.int .i64 m.k,Value.int .i64 m.c,Value.int .i64 m.s,Value.int .i64 m.f,Value.int .i64 m.a,Value.int .u32 (m.w:Nat),Value.int .i64 m.n,Value.bool m.h,Value.slice d m.l c],Value.int .i64 G,Value.bool false,Value.bool false],defers:=[] }) (l':=#[true,true,true,true,true,true,true,true,true,true]) (by kernel_rfl) (by kernel_rfl) ?_
   refine wpAnyH_done (by kernel_rfl) ?_ _
   have HF:Hid (Below w.heap.size w w2):=HBd.out.trans (b2.mono HBd.out.size)
   clear HS2 b2
   go_wp2_with fail
   go_ret
   exact⟨rfl,HF.out⟩
end Go.Proofs.YtgaeofgdiaknpaaGreat
