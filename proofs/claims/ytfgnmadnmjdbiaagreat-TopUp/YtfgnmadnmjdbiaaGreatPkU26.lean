/- Part 27: contracts that the proof rests on. -/
import Derived.Test.YtfgnmadnmjdbiaaGreatPkU22
set_option maxHeartbeats 64000000
set_option maxRecDepth 100000
namespace Go.Proofs.YtfgnmadnmjdbiaaGreat
open Tryz
open Go.RowKit
def yO (s:Sh) (v:Value):Value:=.agg #[.int .i64 (s.st:Nat),.int .u32 (s.ss:Nat),.int .u32 (s.nm:Nat),.int .u32 (s.sn:Nat),.int .i64 (s.dc:Nat),.int .i64 s.v.lat,.bool (aq s.v),.bool (aA s.v),v]
set_option linter.unusedSimpArgs false in
theorem tI (d:Nat) (P:Pm) (U:List Nat) (s:Sh) (w:World) (h:HV w d P U s) :
  Calls prog 34 #[ac d 0] w fun e w'=>∃ v,e=.returned (yO s v)∧Hid (Fr w' w.heap.size v (P.i,cF s.v)∧Below w.heap.size w w'):=by
 obtain⟨B,x⟩:=h
 have hdn:¬ d=w.heap.size:=by have:=x.dlt;omega
 have b0:Below w.heap.size w (w.alloc (.cells mX 54)):=(Below.refl _ _).alloc (Nat.le_refl _) _
 have x0:=x.newd (Off.of_below b0)
 have c10:=x0.c7
 have hO:=ig _ _ _ _ _ _ x0.val
 have hx:=aC w (.cells mX 54)
 have hs0:w.heap.size < (w.alloc (.cells mX 54)).heap.size:=by simp
 have H0:Hid (_):=And.intro b0 (And.intro x0 (And.intro hx hs0))
 unfold yO
 unfold mX at *
 clear b0 x0 x hx hs0
 go_enter func34,ntmps34
 go_wp2_with (go_at_call 56;refine hO.mono ?_;rintro e w2 ⟨v,rfl,h2⟩)
 obtain⟨b0,x0,hx,hs0⟩:=H0.out
 have b2:=h2.out.2
 have x2:=x0.newd (Off.of_below b2)
 have e2:=(b2.block _ hs0).trans hx
 have xd:=x2.newd (Off.drew [] w2)
 have q0:=jm _ _ _ _ xd.dog
 have q1:=ir _ _ _ _ _ _ xd.val
 have q2:=fT _ _ _ _ _ _ xd.val
 have y9:=x2.c6
 have y10:=x2.c7
 have y11:=x2.c8
 have y12:=x2.c9
 have y13:=x2.c10
 have y14:=x2.c11
 have k0:=ae w2 w.heap.size 0 _ _ _ e2
 have k1:=ae w2 w.heap.size 1 _ _ _ e2
 have k2:=ae w2 w.heap.size 2 _ _ _ e2
 have k3:=ae w2 w.heap.size 3 _ _ _ e2
 have k4:=ae w2 w.heap.size 4 _ _ _ e2
 have k5:=ae w2 w.heap.size 5 _ _ _ e2
 have k6:=ae w2 w.heap.size 6 _ _ _ e2
 have k7:=ae w2 w.heap.size 7 _ _ _ e2
 have k8:=ae w2 w.heap.size 8 _ _ _ e2
 have fz:=fun j=>frozen_of_row w2 w.heap.size j _ _ e2
 have f0:=fz 0
 have f1:=fz 1
 have f2:=fz 2
 have f3:=fz 3
 have f4:=fz 4
 have f5:=fz 5
 have f6:=fz 6
 have f7:=fz 7
 have f8:=fz 8
 obtain⟨va,vc,rfl,_⟩:=aX h2.out.1 (gD x2.val)
 have hne:¬ d=w.heap.size:=hdn
 have H2:Hid (_):=And.intro b0 (And.intro b2 (And.intro h2.out.1 (And.intro hs0 e2)))
 clear hO h2 b0 x0 hx hs0 b2 x2 e2 xd fz H0 c10
 have HS:w2.drew.cell? ⟨d,6,none⟩=some (ac B.db 0)∧w2.drew.cell? ⟨d,7,none⟩=some (ac B.vb 0)∧w2.drew.cell? ⟨d,8,none⟩=some (Value.int .i64 (s.st:Nat))∧w2.drew.cell? ⟨d,9,none⟩=some (Value.int .u32 (s.ss:Nat))∧w2.drew.cell? ⟨d,10,none⟩=some (Value.int .u32 (s.nm:Nat))∧w2.drew.cell? ⟨d,11,none⟩=some (Value.int .u32 (s.sn:Nat)):=⟨y9,y10,y11,y12,y13,y14⟩
 clear y9 y10 y11 y12 y13 y14
 refine wp_region_held_drew (S:=fun w'=>w'.cell? ⟨d,6,none⟩=some (ac B.db 0)∧w'.cell? ⟨d,7,none⟩=some (ac B.vb 0)∧w'.cell? ⟨d,8,none⟩=some (Value.int .i64 (s.st:Nat))∧w'.cell? ⟨d,9,none⟩=some (Value.int .u32 (s.ss:Nat))∧w'.cell? ⟨d,10,none⟩=some (Value.int .u32 (s.nm:Nat))∧w'.cell? ⟨d,11,none⟩=some (Value.int .u32 (s.sn:Nat))) (by kernel_rfl) HS (fun _=>?_)
 refine aF (a':={ tmps:=#[ac d 0,undef,ac w.heap.size 0,Value.slice va P.i vc,Value.bool (aA s.v),ac d 0,Value.bool false,undef,Value.tuple #[Value.slice va P.i vc,Value.bool (aA s.v)],ac d 0,ac d 0,ac d 6,ac d 7,ac B.vb 0,Value.tuple #[Value.slice va P.i vc,Value.bool (aA s.v)],Value.slice va P.i vc,Value.bool (aA s.v),undef,undef,undef,undef,undef,undef,undef,undef,undef,undef,undef,undef,undef,undef,undef,undef,undef,undef,undef,undef,undef,undef,undef,undef,undef,undef,undef,undef,undef,undef,undef,undef,undef,undef,undef,undef,undef,undef,undef,undef,undef],defers:=[] }) (l':=#[false,false,false,false,false,false,false,false,false,false,false,false,false,false,false,false,false,false,false,false,false,false,false,false,false,false,false,false,false,false,false,false,false,false,false,false,false,false,false,false,false,false]) (by kernel_rfl) (by kernel_rfl) ?_
 refine al (i:=0) (v:=ac d 0) ?_
 refine al (i:=1) (v:=ac d 0) ?_
 refine al (i:=2) (v:=ac d 6) ?_
 refine al (i:=3) (v:=ac d 8) ?_
 refine al (i:=4) (v:=Value.int .i64 (s.st:Nat)) ?_
 refine al (i:=5) (v:=ac d 0) ?_
 refine al (i:=6) (v:=ac d 0) ?_
 refine al (i:=7) (v:=ac d 6) ?_
 refine al (i:=8) (v:=ac d 9) ?_
 refine al (i:=9) (v:=Value.int .u32 (s.ss:Nat)) ?_
 refine al (i:=10) (v:=ac d 0) ?_
 refine al (i:=11) (v:=ac d 0) ?_
 refine al (i:=12) (v:=ac d 6) ?_
 refine al (i:=13) (v:=ac d 10) ?_
 refine al (i:=14) (v:=Value.int .u32 (s.nm:Nat)) ?_
 refine al (i:=15) (v:=ac d 0) ?_
 refine al (i:=16) (v:=ac d 0) ?_
 refine al (i:=17) (v:=ac d 6) ?_
 refine al (i:=18) (v:=ac d 11) ?_
 refine al (i:=19) (v:=Value.int .u32 (s.sn:Nat)) ?_
 refine al (i:=20) (v:=ac d 0) ?_
 refine al (i:=21) (v:=ac d 0) ?_
 refine al (i:=22) (v:=ac d 6) ?_
 refine al (i:=23) (v:=ac d 6) ?_
 refine al (i:=24) (v:=ac B.db 0) ?_
 refine al (i:=26) (v:=ac d 0) ?_
 refine al (i:=27) (v:=ac d 0) ?_
 refine al (i:=28) (v:=ac d 6) ?_
 refine al (i:=29) (v:=ac d 7) ?_
 refine al (i:=30) (v:=ac B.vb 0) ?_
 refine al (i:=32) (v:=ac d 0) ?_
 refine al (i:=33) (v:=ac d 0) ?_
 refine al (i:=34) (v:=ac d 6) ?_
 refine al (i:=35) (v:=ac d 7) ?_
 refine al (i:=36) (v:=ac B.vb 0) ?_
 refine al (i:=38) (v:=Value.bool (aA s.v)) ?_
 refine al (i:=39) (v:=Value.slice va P.i vc) ?_
 refine aF (a':={ tmps:=#[ac d 0,undef,ac w.heap.size 0,Value.slice va P.i vc,Value.bool (aA s.v),ac d 0,Value.bool false,undef,Value.tuple #[Value.slice va P.i vc,Value.bool (aA s.v)],ac d 0,ac d 0,ac d 6,ac d 7,ac B.vb 0,Value.tuple #[Value.slice va P.i vc,Value.bool (aA s.v)],Value.slice va P.i vc,Value.bool (aA s.v),ac d 0,ac d 0,ac d 6,ac d 8,Value.int .i64 (s.st:Nat),ac d 0,ac d 0,ac d 6,ac d 9,Value.int .u32 (s.ss:Nat),ac d 0,ac d 0,ac d 6,ac d 10,Value.int .u32 (s.nm:Nat),ac d 0,ac d 0,ac d 6,ac d 11,Value.int .u32 (s.sn:Nat),ac d 0,ac d 0,ac d 6,ac d 6,ac B.db 0,undef,ac d 0,ac d 0,ac d 6,ac d 7,ac B.vb 0,undef,ac d 0,ac d 0,ac d 6,ac d 7,ac B.vb 0,undef,Value.bool (aA s.v),Value.slice va P.i vc,undef],defers:=[] }) (l':=#[true,true,true,true,true,true,true,true,true,true,true,true,true,true,true,true,true,true,true,true,true,true,true,true,true,false,true,true,true,true,true,false,true,true,true,true,true,false,true,true,false,false]) (by kernel_rfl) (by kernel_rfl) ?_
 refine aE (i:=25) 57 #[ac B.db 0] (by kernel_rfl) rfl (by kernel_rfl) (by go_simp) ?_
 refine (q0).mono ?_
 rintro e w' ⟨rfl,hw⟩
 have hw:=hw.symm
 subst hw
 refine⟨_,rfl,HS,?_⟩
 refine aF (a':={ tmps:=#[ac d 0,undef,ac w.heap.size 0,Value.slice va P.i vc,Value.bool (aA s.v),ac d 0,Value.bool false,undef,Value.tuple #[Value.slice va P.i vc,Value.bool (aA s.v)],ac d 0,ac d 0,ac d 6,ac d 7,ac B.vb 0,Value.tuple #[Value.slice va P.i vc,Value.bool (aA s.v)],Value.slice va P.i vc,Value.bool (aA s.v),ac d 0,ac d 0,ac d 6,ac d 8,Value.int .i64 (s.st:Nat),ac d 0,ac d 0,ac d 6,ac d 9,Value.int .u32 (s.ss:Nat),ac d 0,ac d 0,ac d 6,ac d 10,Value.int .u32 (s.nm:Nat),ac d 0,ac d 0,ac d 6,ac d 11,Value.int .u32 (s.sn:Nat),ac d 0,ac d 0,ac d 6,ac d 6,ac B.db 0,Value.int .i64 (s.dc:Nat),ac d 0,ac d 0,ac d 6,ac d 7,ac B.vb 0,undef,ac d 0,ac d 0,ac d 6,ac d 7,ac B.vb 0,undef,Value.bool (aA s.v),Value.slice va P.i vc,undef],defers:=[] }) (l':=#[true,true,true,true,true,true,true,true,true,true,true,true,true,true,true,true,true,true,true,true,true,true,true,true,true,true,true,true,true,true,true,false,true,true,true,true,true,false,true,true,false,false]) (by kernel_rfl) (by kernel_rfl) ?_
 refine aE (i:=31) 58 #[ac B.vb 0] (by kernel_rfl) rfl (by kernel_rfl) (by go_simp) ?_
 refine (q1).mono ?_
 rintro e w' ⟨rfl,hw⟩
 have hw:=hw.symm
 subst hw
 refine⟨_,rfl,HS,?_⟩
 refine aF (a':={ tmps:=#[ac d 0,undef,ac w.heap.size 0,Value.slice va P.i vc,Value.bool (aA s.v),ac d 0,Value.bool false,undef,Value.tuple #[Value.slice va P.i vc,Value.bool (aA s.v)],ac d 0,ac d 0,ac d 6,ac d 7,ac B.vb 0,Value.tuple #[Value.slice va P.i vc,Value.bool (aA s.v)],Value.slice va P.i vc,Value.bool (aA s.v),ac d 0,ac d 0,ac d 6,ac d 8,Value.int .i64 (s.st:Nat),ac d 0,ac d 0,ac d 6,ac d 9,Value.int .u32 (s.ss:Nat),ac d 0,ac d 0,ac d 6,ac d 10,Value.int .u32 (s.nm:Nat),ac d 0,ac d 0,ac d 6,ac d 11,Value.int .u32 (s.sn:Nat),ac d 0,ac d 0,ac d 6,ac d 6,ac B.db 0,Value.int .i64 (s.dc:Nat),ac d 0,ac d 0,ac d 6,ac d 7,ac B.vb 0,Value.int .i64 s.v.lat,ac d 0,ac d 0,ac d 6,ac d 7,ac B.vb 0,undef,Value.bool (aA s.v),Value.slice va P.i vc,undef],defers:=[] }) (l':=#[true,true,true,true,true,true,true,true,true,true,true,true,true,true,true,true,true,true,true,true,true,true,true,true,true,true,true,true,true,true,true,true,true,true,true,true,true,false,true,true,false,false]) (by kernel_rfl) (by kernel_rfl) ?_
 refine aE (i:=37) 59 #[ac B.vb 0] (by kernel_rfl) rfl (by kernel_rfl) (by go_simp) ?_
 refine (q2).mono ?_
 rintro e w' ⟨rfl,hw⟩
 have hw:=hw.symm
 subst hw
 refine⟨_,rfl,HS,?_⟩
 refine aF (a':={ tmps:=#[ac d 0,undef,ac w.heap.size 0,Value.slice va P.i vc,Value.bool (aA s.v),ac d 0,Value.bool false,undef,Value.tuple #[Value.slice va P.i vc,Value.bool (aA s.v)],ac d 0,ac d 0,ac d 6,ac d 7,ac B.vb 0,Value.tuple #[Value.slice va P.i vc,Value.bool (aA s.v)],Value.slice va P.i vc,Value.bool (aA s.v),ac d 0,ac d 0,ac d 6,ac d 8,Value.int .i64 (s.st:Nat),ac d 0,ac d 0,ac d 6,ac d 9,Value.int .u32 (s.ss:Nat),ac d 0,ac d 0,ac d 6,ac d 10,Value.int .u32 (s.nm:Nat),ac d 0,ac d 0,ac d 6,ac d 11,Value.int .u32 (s.sn:Nat),ac d 0,ac d 0,ac d 6,ac d 6,ac B.db 0,Value.int .i64 (s.dc:Nat),ac d 0,ac d 0,ac d 6,ac d 7,ac B.vb 0,Value.int .i64 s.v.lat,ac d 0,ac d 0,ac d 6,ac d 7,ac B.vb 0,Value.bool (aq s.v),Value.bool (aA s.v),Value.slice va P.i vc,undef],defers:=[] }) (l':=#[true,true,true,true,true,true,true,true,true,true,true,true,true,true,true,true,true,true,true,true,true,true,true,true,true,true,true,true,true,true,true,true,true,true,true,true,true,true,true,true,false,false]) (by kernel_rfl) (by kernel_rfl) ?_
 refine al (i:=40) (v:=Value.agg (bf s.st s.ss s.nm s.sn s.dc s.v.lat (aq s.v) (aA s.v) va P.i vc)) ?_
 refine aF (a':={ tmps:=#[ac d 0,undef,ac w.heap.size 0,Value.slice va P.i vc,Value.bool (aA s.v),ac d 0,Value.bool false,undef,Value.tuple #[Value.slice va P.i vc,Value.bool (aA s.v)],ac d 0,ac d 0,ac d 6,ac d 7,ac B.vb 0,Value.tuple #[Value.slice va P.i vc,Value.bool (aA s.v)],Value.slice va P.i vc,Value.bool (aA s.v),ac d 0,ac d 0,ac d 6,ac d 8,Value.int .i64 (s.st:Nat),ac d 0,ac d 0,ac d 6,ac d 9,Value.int .u32 (s.ss:Nat),ac d 0,ac d 0,ac d 6,ac d 10,Value.int .u32 (s.nm:Nat),ac d 0,ac d 0,ac d 6,ac d 11,Value.int .u32 (s.sn:Nat),ac d 0,ac d 0,ac d 6,ac d 6,ac B.db 0,Value.int .i64 (s.dc:Nat),ac d 0,ac d 0,ac d 6,ac d 7,ac B.vb 0,Value.int .i64 s.v.lat,ac d 0,ac d 0,ac d 6,ac d 7,ac B.vb 0,Value.bool (aq s.v),Value.bool (aA s.v),Value.slice va P.i vc,Value.agg (bf s.st s.ss s.nm s.sn s.dc s.v.lat (aq s.v) (aA s.v) va P.i vc)],defers:=[] }) (l':=#[true,true,true,true,true,true,true,true,true,true,true,true,true,true,true,true,true,true,true,true,true,true,true,true,true,true,true,true,true,true,true,true,true,true,true,true,true,true,true,true,true,false]) (by kernel_rfl) (by kernel_rfl) ?_
 refine cP (i:=41) ((((((((((w2.drew.setCell ⟨w.heap.size,0,none⟩ (Value.int .i64 (s.st:Nat))).setCell ⟨w.heap.size,1,none⟩ (Value.int .u32 (s.ss:Nat))).setCell ⟨w.heap.size,2,none⟩ (Value.int .u32 (s.nm:Nat))).setCell ⟨w.heap.size,3,none⟩ (Value.int .u32 (s.sn:Nat))).setCell ⟨w.heap.size,4,none⟩ (Value.int .i64 (s.dc:Nat))).setCell ⟨w.heap.size,5,none⟩ (Value.int .i64 s.v.lat)).setCell ⟨w.heap.size,6,none⟩ (Value.bool (aq s.v))).setCell ⟨w.heap.size,7,none⟩ (Value.bool (aA s.v))).setCell ⟨w.heap.size,8,none⟩ (Value.slice va P.i vc))) (by kernel_rfl) rfl (by kernel_rfl) (by go_simp) ⟨bJ HS.1 hne _ _ _ _ _ _ _ _ _,bJ HS.2.1 hne _ _ _ _ _ _ _ _ _,bJ HS.2.2.1 hne _ _ _ _ _ _ _ _ _,bJ HS.2.2.2.1 hne _ _ _ _ _ _ _ _ _,bJ HS.2.2.2.2.1 hne _ _ _ _ _ _ _ _ _,bJ HS.2.2.2.2.2 hne _ _ _ _ _ _ _ _ _⟩ ?_
 refine aF (a':={ tmps:=#[ac d 0,undef,ac w.heap.size 0,Value.slice va P.i vc,Value.bool (aA s.v),ac d 0,Value.bool false,undef,Value.tuple #[Value.slice va P.i vc,Value.bool (aA s.v)],ac d 0,ac d 0,ac d 6,ac d 7,ac B.vb 0,Value.tuple #[Value.slice va P.i vc,Value.bool (aA s.v)],Value.slice va P.i vc,Value.bool (aA s.v),ac d 0,ac d 0,ac d 6,ac d 8,Value.int .i64 (s.st:Nat),ac d 0,ac d 0,ac d 6,ac d 9,Value.int .u32 (s.ss:Nat),ac d 0,ac d 0,ac d 6,ac d 10,Value.int .u32 (s.nm:Nat),ac d 0,ac d 0,ac d 6,ac d 11,Value.int .u32 (s.sn:Nat),ac d 0,ac d 0,ac d 6,ac d 6,ac B.db 0,Value.int .i64 (s.dc:Nat),ac d 0,ac d 0,ac d 6,ac d 7,ac B.vb 0,Value.int .i64 s.v.lat,ac d 0,ac d 0,ac d 6,ac d 7,ac B.vb 0,Value.bool (aq s.v),Value.bool (aA s.v),Value.slice va P.i vc,Value.agg (bf s.st s.ss s.nm s.sn s.dc s.v.lat (aq s.v) (aA s.v) va P.i vc)],defers:=[] }) (l':=#[true,true,true,true,true,true,true,true,true,true,true,true,true,true,true,true,true,true,true,true,true,true,true,true,true,true,true,true,true,true,true,true,true,true,true,true,true,true,true,true,true,true]) (by kernel_rfl) (by kernel_rfl) ?_
 refine wpAnyH_done (by kernel_rfl) ?_ _
 obtain⟨b0,b2,hf,hs0,e2⟩:=H2.out
 have o9:=(Off.drew [w.heap.size] w2).trans (xh w.heap.size w2.drew (.int .i64 (s.st:Nat)) (.int .u32 (s.ss:Nat)) (.int .u32 (s.nm:Nat)) (.int .u32 (s.sn:Nat)) (.int .i64 (s.dc:Nat)) (.int .i64 s.v.lat) (.bool (aq s.v)) (.bool (aA s.v)) (.slice va P.i vc))
 have e9:=qe (.int .i64 (s.st:Nat)) (.int .u32 (s.ss:Nat)) (.int .u32 (s.nm:Nat)) (.int .u32 (s.sn:Nat)) (.int .i64 (s.dc:Nat)) (.int .i64 s.v.lat) (.bool (aq s.v)) (.bool (aA s.v)) (.slice va P.i vc) (show w2.drew.heap[w.heap.size]?=_ from e2)
 have H9:Hid (_):=And.intro (aO (aH hf o9 (fun k hk hm=>by have:=Fr.ge (f:=(P.i,cF s.v)) hf k hk;simp at hm;omega)) b0.size) (o9.below (b0.trans (b2.mono b0.size)) (by simp) (by have:=b0.size;have:=b2.size;omega))
 clear o9 b0 b2 hf hs0 e2 H2 q0 q1 q2 HS k0 k1 k2 k3 k4 k5 k6 k7 k8 f0 f1 f2 f3 f4 f5 f6 f7 f8
 generalize (((((((((w2.drew.setCell ⟨w.heap.size,0,none⟩ (Value.int .i64 (s.st:Nat))).setCell ⟨w.heap.size,1,none⟩ (Value.int .u32 (s.ss:Nat))).setCell ⟨w.heap.size,2,none⟩ (Value.int .u32 (s.nm:Nat))).setCell ⟨w.heap.size,3,none⟩ (Value.int .u32 (s.sn:Nat))).setCell ⟨w.heap.size,4,none⟩ (Value.int .i64 (s.dc:Nat))).setCell ⟨w.heap.size,5,none⟩ (Value.int .i64 s.v.lat)).setCell ⟨w.heap.size,6,none⟩ (Value.bool (aq s.v))).setCell ⟨w.heap.size,7,none⟩ (Value.bool (aA s.v))).setCell ⟨w.heap.size,8,none⟩ (Value.slice va P.i vc))=w9 at *
 have r0:=ae w9 w.heap.size 0 _ _ _ e9
 have r1:=ae w9 w.heap.size 1 _ _ _ e9
 have r2:=ae w9 w.heap.size 2 _ _ _ e9
 have r3:=ae w9 w.heap.size 3 _ _ _ e9
 have r4:=ae w9 w.heap.size 4 _ _ _ e9
 have r5:=ae w9 w.heap.size 5 _ _ _ e9
 have r6:=ae w9 w.heap.size 6 _ _ _ e9
 have r7:=ae w9 w.heap.size 7 _ _ _ e9
 have r8:=ae w9 w.heap.size 8 _ _ _ e9
 clear e9
 go_wp2_with fail
 refine bodyPost_ret (v:=.agg (bf s.st s.ss s.nm s.sn s.dc s.v.lat (aq s.v) (aA s.v) va P.i vc)) (by simp[results,results34,go_sem,r0,r1,r2,r3,r4,r5,r6,r7,r8]) rfl ⟨.slice va P.i vc,rfl,H9.out⟩
end Go.Proofs.YtfgnmadnmjdbiaaGreat
