/- Part 22: contracts that the proof rests on. -/
import Derived.Test.YtfgnmadnmjdbiaaGreatPkU18
import Derived.Test.YtfgnmadnmjdbiaaGreatPkU20
set_option maxHeartbeats 64000000
set_option maxRecDepth 100000
namespace Go.Proofs.YtfgnmadnmjdbiaaGreat
open Tryz
open Go.RowKit
def yT (s:Sd) (v:Value):Value:=.agg #[.int .i64 (s.st:Nat),.int .u32 (s.ss:Nat),.int .u32 (s.nm:Nat),.int .u32 (s.sn:Nat),.int .i64 (s.dc:Nat),.int .i64 s.v.lat,.bool (aq s.v),.bool (aA s.v),v]
def mX:Array Value:=lF
theorem gD {w:World} {b g:Nat} {M:List Nat} {n:Nat} {s:Vs} (h:VR w b g M n s):∀ i,i<n→cF s i<256:=by
 intro i hi
 unfold cF
 by_cases ho:aA s=true
 ·rw[if_pos ho]
  simp only[aA,Bool.and_eq_true,Bool.not_eq_true']at ho
  obtain⟨v,t,_,_,V⟩:=h.ex
  rcases V with ⟨e,_⟩ | ⟨_,_,hb⟩
  ·rw[ho.2.2]at e;cases e
  ·exact hb i hi
 ·rw[if_neg ho];show 0<256;omega
theorem qe {w:World} {b:Nat} {t:TypeId} (x0 x1 x2 x3 x4 x5 x6 x7 x8:Value) {y0 y1 y2 y3 y4 y5 y6 y7 y8:Value} (e:w.heap[b]?=some (.cells #[y0,y1,y2,y3,y4,y5,y6,y7,y8] t (0,0))) :
  (((((((((w.setCell ⟨b,0,none⟩ x0).setCell ⟨b,1,none⟩ x1).setCell ⟨b,2,none⟩ x2).setCell ⟨b,3,none⟩ x3).setCell ⟨b,4,none⟩ x4).setCell ⟨b,5,none⟩ x5).setCell ⟨b,6,none⟩ x6).setCell ⟨b,7,none⟩ x7).setCell ⟨b,8,none⟩ x8).heap[b]?=some (.cells #[x0,x1,x2,x3,x4,x5,x6,x7,x8] t (0,0)):=by
 have e0:(w.setCell ⟨b,0,none⟩ x0).heap[b]?=some (.cells #[x0,y1,y2,y3,y4,y5,y6,y7,y8] t (0,0)):=heap_setCell_same _ _ _ _ _ _ e
 have e1:((w.setCell ⟨b,0,none⟩ x0).setCell ⟨b,1,none⟩ x1).heap[b]?=some (.cells #[x0,x1,y2,y3,y4,y5,y6,y7,y8] t (0,0)):=heap_setCell_same _ _ _ _ _ _ e0
 have e2:(((w.setCell ⟨b,0,none⟩ x0).setCell ⟨b,1,none⟩ x1).setCell ⟨b,2,none⟩ x2).heap[b]?=some (.cells #[x0,x1,x2,y3,y4,y5,y6,y7,y8] t (0,0)):=heap_setCell_same _ _ _ _ _ _ e1
 have e3:((((w.setCell ⟨b,0,none⟩ x0).setCell ⟨b,1,none⟩ x1).setCell ⟨b,2,none⟩ x2).setCell ⟨b,3,none⟩ x3).heap[b]?=some (.cells #[x0,x1,x2,x3,y4,y5,y6,y7,y8] t (0,0)):=heap_setCell_same _ _ _ _ _ _ e2
 have e4:(((((w.setCell ⟨b,0,none⟩ x0).setCell ⟨b,1,none⟩ x1).setCell ⟨b,2,none⟩ x2).setCell ⟨b,3,none⟩ x3).setCell ⟨b,4,none⟩ x4).heap[b]?=some (.cells #[x0,x1,x2,x3,x4,y5,y6,y7,y8] t (0,0)):=heap_setCell_same _ _ _ _ _ _ e3
 have e5:((((((w.setCell ⟨b,0,none⟩ x0).setCell ⟨b,1,none⟩ x1).setCell ⟨b,2,none⟩ x2).setCell ⟨b,3,none⟩ x3).setCell ⟨b,4,none⟩ x4).setCell ⟨b,5,none⟩ x5).heap[b]?=some (.cells #[x0,x1,x2,x3,x4,x5,y6,y7,y8] t (0,0)):=heap_setCell_same _ _ _ _ _ _ e4
 have e6:(((((((w.setCell ⟨b,0,none⟩ x0).setCell ⟨b,1,none⟩ x1).setCell ⟨b,2,none⟩ x2).setCell ⟨b,3,none⟩ x3).setCell ⟨b,4,none⟩ x4).setCell ⟨b,5,none⟩ x5).setCell ⟨b,6,none⟩ x6).heap[b]?=some (.cells #[x0,x1,x2,x3,x4,x5,x6,y7,y8] t (0,0)):=heap_setCell_same _ _ _ _ _ _ e5
 have e7:((((((((w.setCell ⟨b,0,none⟩ x0).setCell ⟨b,1,none⟩ x1).setCell ⟨b,2,none⟩ x2).setCell ⟨b,3,none⟩ x3).setCell ⟨b,4,none⟩ x4).setCell ⟨b,5,none⟩ x5).setCell ⟨b,6,none⟩ x6).setCell ⟨b,7,none⟩ x7).heap[b]?=some (.cells #[x0,x1,x2,x3,x4,x5,x6,x7,y8] t (0,0)):=heap_setCell_same _ _ _ _ _ _ e6
 have e8:(((((((((w.setCell ⟨b,0,none⟩ x0).setCell ⟨b,1,none⟩ x1).setCell ⟨b,2,none⟩ x2).setCell ⟨b,3,none⟩ x3).setCell ⟨b,4,none⟩ x4).setCell ⟨b,5,none⟩ x5).setCell ⟨b,6,none⟩ x6).setCell ⟨b,7,none⟩ x7).setCell ⟨b,8,none⟩ x8).heap[b]?=some (.cells #[x0,x1,x2,x3,x4,x5,x6,x7,x8] t (0,0)):=heap_setCell_same _ _ _ _ _ _ e7
 exact e8
theorem bJ {w2:World} {g b o:Nat} {x:Value} (h:w2.cell? ⟨b,o,none⟩=some x) (hne:¬ b=g) (v0 v1 v2 v3 v4 v5 v6 v7 v8:Value) :
  (((((((((w2.setCell ⟨g,0,none⟩ v0).setCell ⟨g,1,none⟩ v1).setCell ⟨g,2,none⟩ v2).setCell ⟨g,3,none⟩ v3).setCell ⟨g,4,none⟩ v4).setCell ⟨g,5,none⟩ v5).setCell ⟨g,6,none⟩ v6).setCell ⟨g,7,none⟩ v7).setCell ⟨g,8,none⟩ v8).cell? ⟨b,o,none⟩=some x:=by
 have hg:g≠b:=fun e=>hne e.symm
 rw[World.cell?_setCell_far _ _ _ _ hg,World.cell?_setCell_far _ _ _ _ hg,World.cell?_setCell_far _ _ _ _ hg,World.cell?_setCell_far _ _ _ _ hg,World.cell?_setCell_far _ _ _ _ hg,World.cell?_setCell_far _ _ _ _ hg,World.cell?_setCell_far _ _ _ _ hg,World.cell?_setCell_far _ _ _ _ hg,World.cell?_setCell_far _ _ _ _ hg]
 exact h
set_option linter.unusedSimpArgs false in
theorem vo (d m g n mx:Nat) (P:Pm) (U:List Nat) (s:Sd) (w:World) (h:DV w d m g n mx P U s) :
  Calls prog 35 #[ac d 0] w fun e w'=>∃ v,e=.returned (yT s v)∧Hid (Fr w' w.heap.size v (P.o,cF s.v)∧Below w.heap.size w w'):=by
 obtain⟨B,x⟩:=h
 have hdn:¬ d=w.heap.size:=by have:=x.dlt;omega
 have b0:Below w.heap.size w (w.alloc (.cells mX 54)):=(Below.refl _ _).alloc (Nat.le_refl _) _
 have x0:=x.newd (Off.of_below b0)
 have c10:=x0.cells.2.2.2.2.2.2.2.2.2.2.1
 have hO:=ig _ _ _ _ _ _ x0.val
 have hx:=aC w (.cells mX 54)
 have hs0:w.heap.size < (w.alloc (.cells mX 54)).heap.size:=by simp
 have H0:Hid (_):=And.intro b0 (And.intro x0 (And.intro hx hs0))
 unfold yT
 unfold mX at *
 clear b0 x0 x hx hs0
 go_enter func35,ntmps35
 go_wp2_with (go_at_call 56;refine hO.mono ?_;rintro e w2 ⟨v,rfl,h2⟩)
 obtain⟨b0,x0,hx,hs0⟩:=H0.out
 have b2:=h2.out.2
 have x2:=x0.newd (Off.of_below b2)
 have e2:=(b2.block _ hs0).trans hx
 have xd:=x2.newd (Off.drew [] w2)
 have q0:=jm _ _ _ _ xd.dog
 have q1:=ir _ _ _ _ _ _ xd.val
 have q2:=fT _ _ _ _ _ _ xd.val
 obtain⟨_,_,_,_,_,_,_,_,_,y9,y10,y11,y12,y13,y14,_⟩:=x2.cells
 have k0:=ae w2 w.heap.size 0 _ _ _ e2
 have k1:=ae w2 w.heap.size 1 _ _ _ e2
 have k2:=ae w2 w.heap.size 2 _ _ _ e2
 have k3:=ae w2 w.heap.size 3 _ _ _ e2
 have k4:=ae w2 w.heap.size 4 _ _ _ e2
 have k5:=ae w2 w.heap.size 5 _ _ _ e2
 have k6:=ae w2 w.heap.size 6 _ _ _ e2
 have k7:=ae w2 w.heap.size 7 _ _ _ e2
 have k8:=ae w2 w.heap.size 8 _ _ _ e2
 have fz:=fun j=>frozen_of_row w2 w.heap.size j _ _ e2
 have f0:=fz 0
 have f1:=fz 1
 have f2:=fz 2
 have f3:=fz 3
 have f4:=fz 4
 have f5:=fz 5
 have f6:=fz 6
 have f7:=fz 7
 have f8:=fz 8
 obtain⟨va,vc,rfl,_⟩:=aX h2.out.1 (gD x2.val)
 have hne:¬ d=w.heap.size:=hdn
 have H2:Hid (_):=And.intro b0 (And.intro b2 (And.intro h2.out.1 (And.intro hs0 e2)))
 clear hO h2 b0 x0 hx hs0 b2 x2 e2 xd fz H0 c10
 have HS:w2.drew.cell? ⟨d,9,none⟩=some (ac B.db 0)∧w2.drew.cell? ⟨d,10,none⟩=some (ac B.vb 0)∧w2.drew.cell? ⟨d,11,none⟩=some (Value.int .i64 (s.st:Nat))∧w2.drew.cell? ⟨d,12,none⟩=some (Value.int .u32 (s.ss:Nat))∧w2.drew.cell? ⟨d,13,none⟩=some (Value.int .u32 (s.nm:Nat))∧w2.drew.cell? ⟨d,14,none⟩=some (Value.int .u32 (s.sn:Nat)):=⟨y9,y10,y11,y12,y13,y14⟩
 clear y9 y10 y11 y12 y13 y14
 refine wp_region_held_drew (S:=fun w'=>w'.cell? ⟨d,9,none⟩=some (ac B.db 0)∧w'.cell? ⟨d,10,none⟩=some (ac B.vb 0)∧w'.cell? ⟨d,11,none⟩=some (Value.int .i64 (s.st:Nat))∧w'.cell? ⟨d,12,none⟩=some (Value.int .u32 (s.ss:Nat))∧w'.cell? ⟨d,13,none⟩=some (Value.int .u32 (s.nm:Nat))∧w'.cell? ⟨d,14,none⟩=some (Value.int .u32 (s.sn:Nat))) (by kernel_rfl) HS (fun _=>?_)
 refine aF (a':={ tmps:=#[ac d 0,undef,ac w.heap.size 0,Value.slice va P.o vc,Value.bool (aA s.v),ac d 0,Value.bool false,undef,Value.tuple #[Value.slice va P.o vc,Value.bool (aA s.v)],ac d 0,ac d 0,ac d 9,ac d 10,ac B.vb 0,Value.tuple #[Value.slice va P.o vc,Value.bool (aA s.v)],Value.slice va P.o vc,Value.bool (aA s.v),undef,undef,undef,undef,undef,undef,undef,undef,undef,undef,undef,undef,undef,undef,undef,undef,undef,undef,undef,undef,undef,undef,undef,undef,undef,undef,undef,undef,undef,undef,undef,undef,undef,undef,undef,undef,undef,undef,undef,undef,undef],defers:=[] }) (l':=#[false,false,false,false,false,false,false,false,false,false,false,false,false,false,false,false,false,false,false,false,false,false,false,false,false,false,false,false,false,false,false,false,false,false,false,false,false,false,false,false,false,false]) (by kernel_rfl) (by kernel_rfl) ?_
 refine al (i:=0) (v:=ac d 0) ?_
 refine al (i:=1) (v:=ac d 0) ?_
 refine al (i:=2) (v:=ac d 9) ?_
 refine al (i:=3) (v:=ac d 11) ?_
 refine al (i:=4) (v:=Value.int .i64 (s.st:Nat)) ?_
 refine al (i:=5) (v:=ac d 0) ?_
 refine al (i:=6) (v:=ac d 0) ?_
 refine al (i:=7) (v:=ac d 9) ?_
 refine al (i:=8) (v:=ac d 12) ?_
 refine al (i:=9) (v:=Value.int .u32 (s.ss:Nat)) ?_
 refine al (i:=10) (v:=ac d 0) ?_
 refine al (i:=11) (v:=ac d 0) ?_
 refine al (i:=12) (v:=ac d 9) ?_
 refine al (i:=13) (v:=ac d 13) ?_
 refine al (i:=14) (v:=Value.int .u32 (s.nm:Nat)) ?_
 refine al (i:=15) (v:=ac d 0) ?_
 refine al (i:=16) (v:=ac d 0) ?_
 refine al (i:=17) (v:=ac d 9) ?_
 refine al (i:=18) (v:=ac d 14) ?_
 refine al (i:=19) (v:=Value.int .u32 (s.sn:Nat)) ?_
 refine al (i:=20) (v:=ac d 0) ?_
 refine al (i:=21) (v:=ac d 0) ?_
 refine al (i:=22) (v:=ac d 9) ?_
 refine al (i:=23) (v:=ac d 9) ?_
 refine al (i:=24) (v:=ac B.db 0) ?_
 refine al (i:=26) (v:=ac d 0) ?_
 refine al (i:=27) (v:=ac d 0) ?_
 refine al (i:=28) (v:=ac d 9) ?_
 refine al (i:=29) (v:=ac d 10) ?_
 refine al (i:=30) (v:=ac B.vb 0) ?_
 refine al (i:=32) (v:=ac d 0) ?_
 refine al (i:=33) (v:=ac d 0) ?_
 refine al (i:=34) (v:=ac d 9) ?_
 refine al (i:=35) (v:=ac d 10) ?_
 refine al (i:=36) (v:=ac B.vb 0) ?_
 refine al (i:=38) (v:=Value.bool (aA s.v)) ?_
 refine al (i:=39) (v:=Value.slice va P.o vc) ?_
 refine aF (a':={ tmps:=#[ac d 0,undef,ac w.heap.size 0,Value.slice va P.o vc,Value.bool (aA s.v),ac d 0,Value.bool false,undef,Value.tuple #[Value.slice va P.o vc,Value.bool (aA s.v)],ac d 0,ac d 0,ac d 9,ac d 10,ac B.vb 0,Value.tuple #[Value.slice va P.o vc,Value.bool (aA s.v)],Value.slice va P.o vc,Value.bool (aA s.v),ac d 0,ac d 0,ac d 9,ac d 11,Value.int .i64 (s.st:Nat),ac d 0,ac d 0,ac d 9,ac d 12,Value.int .u32 (s.ss:Nat),ac d 0,ac d 0,ac d 9,ac d 13,Value.int .u32 (s.nm:Nat),ac d 0,ac d 0,ac d 9,ac d 14,Value.int .u32 (s.sn:Nat),ac d 0,ac d 0,ac d 9,ac d 9,ac B.db 0,undef,ac d 0,ac d 0,ac d 9,ac d 10,ac B.vb 0,undef,ac d 0,ac d 0,ac d 9,ac d 10,ac B.vb 0,undef,Value.bool (aA s.v),Value.slice va P.o vc,undef],defers:=[] }) (l':=#[true,true,true,true,true,true,true,true,true,true,true,true,true,true,true,true,true,true,true,true,true,true,true,true,true,false,true,true,true,true,true,false,true,true,true,true,true,false,true,true,false,false]) (by kernel_rfl) (by kernel_rfl) ?_
 refine aE (i:=25) 57 #[ac B.db 0] (by kernel_rfl) rfl (by kernel_rfl) (by go_simp) ?_
 refine (q0).mono ?_
 rintro e w' ⟨rfl,hw⟩
 have hw:=hw.symm
 subst hw
 refine⟨_,rfl,HS,?_⟩
 refine aF (a':={ tmps:=#[ac d 0,undef,ac w.heap.size 0,Value.slice va P.o vc,Value.bool (aA s.v),ac d 0,Value.bool false,undef,Value.tuple #[Value.slice va P.o vc,Value.bool (aA s.v)],ac d 0,ac d 0,ac d 9,ac d 10,ac B.vb 0,Value.tuple #[Value.slice va P.o vc,Value.bool (aA s.v)],Value.slice va P.o vc,Value.bool (aA s.v),ac d 0,ac d 0,ac d 9,ac d 11,Value.int .i64 (s.st:Nat),ac d 0,ac d 0,ac d 9,ac d 12,Value.int .u32 (s.ss:Nat),ac d 0,ac d 0,ac d 9,ac d 13,Value.int .u32 (s.nm:Nat),ac d 0,ac d 0,ac d 9,ac d 14,Value.int .u32 (s.sn:Nat),ac d 0,ac d 0,ac d 9,ac d 9,ac B.db 0,Value.int .i64 (s.dc:Nat),ac d 0,ac d 0,ac d 9,ac d 10,ac B.vb 0,undef,ac d 0,ac d 0,ac d 9,ac d 10,ac B.vb 0,undef,Value.bool (aA s.v),Value.slice va P.o vc,undef],defers:=[] }) (l':=#[true,true,true,true,true,true,true,true,true,true,true,true,true,true,true,true,true,true,true,true,true,true,true,true,true,true,true,true,true,true,true,false,true,true,true,true,true,false,true,true,false,false]) (by kernel_rfl) (by kernel_rfl) ?_
 refine aE (i:=31) 58 #[ac B.vb 0] (by kernel_rfl) rfl (by kernel_rfl) (by go_simp) ?_
 refine (q1).mono ?_
 rintro e w' ⟨rfl,hw⟩
 have hw:=hw.symm
 subst hw
 refine⟨_,rfl,HS,?_⟩
 refine aF (a':={ tmps:=#[ac d 0,undef,ac w.heap.size 0,Value.slice va P.o vc,Value.bool (aA s.v),ac d 0,Value.bool false,undef,Value.tuple #[Value.slice va P.o vc,Value.bool (aA s.v)],ac d 0,ac d 0,ac d 9,ac d 10,ac B.vb 0,Value.tuple #[Value.slice va P.o vc,Value.bool (aA s.v)],Value.slice va P.o vc,Value.bool (aA s.v),ac d 0,ac d 0,ac d 9,ac d 11,Value.int .i64 (s.st:Nat),ac d 0,ac d 0,ac d 9,ac d 12,Value.int .u32 (s.ss:Nat),ac d 0,ac d 0,ac d 9,ac d 13,Value.int .u32 (s.nm:Nat),ac d 0,ac d 0,ac d 9,ac d 14,Value.int .u32 (s.sn:Nat),ac d 0,ac d 0,ac d 9,ac d 9,ac B.db 0,Value.int .i64 (s.dc:Nat),ac d 0,ac d 0,ac d 9,ac d 10,ac B.vb 0,Value.int .i64 s.v.lat,ac d 0,ac d 0,ac d 9,ac d 10,ac B.vb 0,undef,Value.bool (aA s.v),Value.slice va P.o vc,undef],defers:=[] }) (l':=#[true,true,true,true,true,true,true,true,true,true,true,true,true,true,true,true,true,true,true,true,true,true,true,true,true,true,true,true,true,true,true,true,true,true,true,true,true,false,true,true,false,false]) (by kernel_rfl) (by kernel_rfl) ?_
 refine aE (i:=37) 59 #[ac B.vb 0] (by kernel_rfl) rfl (by kernel_rfl) (by go_simp) ?_
 refine (q2).mono ?_
 rintro e w' ⟨rfl,hw⟩
 have hw:=hw.symm
 subst hw
 refine⟨_,rfl,HS,?_⟩
 refine aF (a':={ tmps:=#[ac d 0,undef,ac w.heap.size 0,Value.slice va P.o vc,Value.bool (aA s.v),ac d 0,Value.bool false,undef,Value.tuple #[Value.slice va P.o vc,Value.bool (aA s.v)],ac d 0,ac d 0,ac d 9,ac d 10,ac B.vb 0,Value.tuple #[Value.slice va P.o vc,Value.bool (aA s.v)],Value.slice va P.o vc,Value.bool (aA s.v),ac d 0,ac d 0,ac d 9,ac d 11,Value.int .i64 (s.st:Nat),ac d 0,ac d 0,ac d 9,ac d 12,Value.int .u32 (s.ss:Nat),ac d 0,ac d 0,ac d 9,ac d 13,Value.int .u32 (s.nm:Nat),ac d 0,ac d 0,ac d 9,ac d 14,Value.int .u32 (s.sn:Nat),ac d 0,ac d 0,ac d 9,ac d 9,ac B.db 0,Value.int .i64 (s.dc:Nat),ac d 0,ac d 0,ac d 9,ac d 10,ac B.vb 0,Value.int .i64 s.v.lat,ac d 0,ac d 0,ac d 9,ac d 10,ac B.vb 0,Value.bool (aq s.v),Value.bool (aA s.v),Value.slice va P.o vc,undef],defers:=[] }) (l':=#[true,true,true,true,true,true,true,true,true,true,true,true,true,true,true,true,true,true,true,true,true,true,true,true,true,true,true,true,true,true,true,true,true,true,true,true,true,true,true,true,false,false]) (by kernel_rfl) (by kernel_rfl) ?_
 refine al (i:=40) (v:=Value.agg (bf s.st s.ss s.nm s.sn s.dc s.v.lat (aq s.v) (aA s.v) va P.o vc)) ?_
 refine aF (a':={ tmps:=#[ac d 0,undef,ac w.heap.size 0,Value.slice va P.o vc,Value.bool (aA s.v),ac d 0,Value.bool false,undef,Value.tuple #[Value.slice va P.o vc,Value.bool (aA s.v)],ac d 0,ac d 0,ac d 9,ac d 10,ac B.vb 0,Value.tuple #[Value.slice va P.o vc,Value.bool (aA s.v)],Value.slice va P.o vc,Value.bool (aA s.v),ac d 0,ac d 0,ac d 9,ac d 11,Value.int .i64 (s.st:Nat),ac d 0,ac d 0,ac d 9,ac d 12,Value.int .u32 (s.ss:Nat),ac d 0,ac d 0,ac d 9,ac d 13,Value.int .u32 (s.nm:Nat),ac d 0,ac d 0,ac d 9,ac d 14,Value.int .u32 (s.sn:Nat),ac d 0,ac d 0,ac d 9,ac d 9,ac B.db 0,Value.int .i64 (s.dc:Nat),ac d 0,ac d 0,ac d 9,ac d 10,ac B.vb 0,Value.int .i64 s.v.lat,ac d 0,ac d 0,ac d 9,ac d 10,ac B.vb 0,Value.bool (aq s.v),Value.bool (aA s.v),Value.slice va P.o vc,Value.agg (bf s.st s.ss s.nm s.sn s.dc s.v.lat (aq s.v) (aA s.v) va P.o vc)],defers:=[] }) (l':=#[true,true,true,true,true,true,true,true,true,true,true,true,true,true,true,true,true,true,true,true,true,true,true,true,true,true,true,true,true,true,true,true,true,true,true,true,true,true,true,true,true,false]) (by kernel_rfl) (by kernel_rfl) ?_
 refine cP (i:=41) ((((((((((w2.drew.setCell ⟨w.heap.size,0,none⟩ (Value.int .i64 (s.st:Nat))).setCell ⟨w.heap.size,1,none⟩ (Value.int .u32 (s.ss:Nat))).setCell ⟨w.heap.size,2,none⟩ (Value.int .u32 (s.nm:Nat))).setCell ⟨w.heap.size,3,none⟩ (Value.int .u32 (s.sn:Nat))).setCell ⟨w.heap.size,4,none⟩ (Value.int .i64 (s.dc:Nat))).setCell ⟨w.heap.size,5,none⟩ (Value.int .i64 s.v.lat)).setCell ⟨w.heap.size,6,none⟩ (Value.bool (aq s.v))).setCell ⟨w.heap.size,7,none⟩ (Value.bool (aA s.v))).setCell ⟨w.heap.size,8,none⟩ (Value.slice va P.o vc))) (by kernel_rfl) rfl (by kernel_rfl) (by go_simp) ⟨bJ HS.1 hne _ _ _ _ _ _ _ _ _,bJ HS.2.1 hne _ _ _ _ _ _ _ _ _,bJ HS.2.2.1 hne _ _ _ _ _ _ _ _ _,bJ HS.2.2.2.1 hne _ _ _ _ _ _ _ _ _,bJ HS.2.2.2.2.1 hne _ _ _ _ _ _ _ _ _,bJ HS.2.2.2.2.2 hne _ _ _ _ _ _ _ _ _⟩ ?_
 refine aF (a':={ tmps:=#[ac d 0,undef,ac w.heap.size 0,Value.slice va P.o vc,Value.bool (aA s.v),ac d 0,Value.bool false,undef,Value.tuple #[Value.slice va P.o vc,Value.bool (aA s.v)],ac d 0,ac d 0,ac d 9,ac d 10,ac B.vb 0,Value.tuple #[Value.slice va P.o vc,Value.bool (aA s.v)],Value.slice va P.o vc,Value.bool (aA s.v),ac d 0,ac d 0,ac d 9,ac d 11,Value.int .i64 (s.st:Nat),ac d 0,ac d 0,ac d 9,ac d 12,Value.int .u32 (s.ss:Nat),ac d 0,ac d 0,ac d 9,ac d 13,Value.int .u32 (s.nm:Nat),ac d 0,ac d 0,ac d 9,ac d 14,Value.int .u32 (s.sn:Nat),ac d 0,ac d 0,ac d 9,ac d 9,ac B.db 0,Value.int .i64 (s.dc:Nat),ac d 0,ac d 0,ac d 9,ac d 10,ac B.vb 0,Value.int .i64 s.v.lat,ac d 0,ac d 0,ac d 9,ac d 10,ac B.vb 0,Value.bool (aq s.v),Value.bool (aA s.v),Value.slice va P.o vc,Value.agg (bf s.st s.ss s.nm s.sn s.dc s.v.lat (aq s.v) (aA s.v) va P.o vc)],defers:=[] }) (l':=#[true,true,true,true,true,true,true,true,true,true,true,true,true,true,true,true,true,true,true,true,true,true,true,true,true,true,true,true,true,true,true,true,true,true,true,true,true,true,true,true,true,true]) (by kernel_rfl) (by kernel_rfl) ?_
 refine wpAnyH_done (by kernel_rfl) ?_ _
 obtain⟨b0,b2,hf,hs0,e2⟩:=H2.out
 have o9:=(Off.drew [w.heap.size] w2).trans (xh w.heap.size w2.drew (.int .i64 (s.st:Nat)) (.int .u32 (s.ss:Nat)) (.int .u32 (s.nm:Nat)) (.int .u32 (s.sn:Nat)) (.int .i64 (s.dc:Nat)) (.int .i64 s.v.lat) (.bool (aq s.v)) (.bool (aA s.v)) (.slice va P.o vc))
 have e9:=qe (.int .i64 (s.st:Nat)) (.int .u32 (s.ss:Nat)) (.int .u32 (s.nm:Nat)) (.int .u32 (s.sn:Nat)) (.int .i64 (s.dc:Nat)) (.int .i64 s.v.lat) (.bool (aq s.v)) (.bool (aA s.v)) (.slice va P.o vc) (show w2.drew.heap[w.heap.size]?=_ from e2)
 have H9:Hid (_):=And.intro (aO (aH hf o9 (fun k hk hm=>by have:=Fr.ge (f:=(P.o,cF s.v)) hf k hk;simp at hm;omega)) b0.size) (o9.below (b0.trans (b2.mono b0.size)) (by simp) (by have:=b0.size;have:=b2.size;omega))
 clear o9 b0 b2 hf hs0 e2 H2 q0 q1 q2 HS k0 k1 k2 k3 k4 k5 k6 k7 k8 f0 f1 f2 f3 f4 f5 f6 f7 f8
 generalize (((((((((w2.drew.setCell ⟨w.heap.size,0,none⟩ (Value.int .i64 (s.st:Nat))).setCell ⟨w.heap.size,1,none⟩ (Value.int .u32 (s.ss:Nat))).setCell ⟨w.heap.size,2,none⟩ (Value.int .u32 (s.nm:Nat))).setCell ⟨w.heap.size,3,none⟩ (Value.int .u32 (s.sn:Nat))).setCell ⟨w.heap.size,4,none⟩ (Value.int .i64 (s.dc:Nat))).setCell ⟨w.heap.size,5,none⟩ (Value.int .i64 s.v.lat)).setCell ⟨w.heap.size,6,none⟩ (Value.bool (aq s.v))).setCell ⟨w.heap.size,7,none⟩ (Value.bool (aA s.v))).setCell ⟨w.heap.size,8,none⟩ (Value.slice va P.o vc))=w9 at *
 have r0:=ae w9 w.heap.size 0 _ _ _ e9
 have r1:=ae w9 w.heap.size 1 _ _ _ e9
 have r2:=ae w9 w.heap.size 2 _ _ _ e9
 have r3:=ae w9 w.heap.size 3 _ _ _ e9
 have r4:=ae w9 w.heap.size 4 _ _ _ e9
 have r5:=ae w9 w.heap.size 5 _ _ _ e9
 have r6:=ae w9 w.heap.size 6 _ _ _ e9
 have r7:=ae w9 w.heap.size 7 _ _ _ e9
 have r8:=ae w9 w.heap.size 8 _ _ _ e9
 clear e9
 go_wp2_with fail
 refine bodyPost_ret (v:=.agg (bf s.st s.ss s.nm s.sn s.dc s.v.lat (aq s.v) (aA s.v) va P.o vc)) (by simp[results,results35,go_sem,r0,r1,r2,r3,r4,r5,r6,r7,r8]) rfl ⟨.slice va P.o vc,rfl,H9.out⟩
end Go.Proofs.YtfgnmadnmjdbiaaGreat
