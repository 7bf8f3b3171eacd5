/- Part 40: contracts that the proof rests on. -/
import Derived.Test.YtdpahjfekoikiaaGreatPkX35
set_option maxHeartbeats 64000000
set_option maxRecDepth 100000
namespace Go.Proofs.YtdpahjfekoikiaaGreat
open Tryz
open Go.RowKit
def su (s:Sh) (v:Value):Value:=.agg #[.int .i64 (s.st:Nat),.int .u32 (s.ss:Nat),.int .u32 (s.nm:Nat),.int .u32 (s.sn:Nat),.int .i64 (s.dc:Nat),.int .i64 s.v.lat,.bool (bK s.v),.bool (aL s.v),v]
set_option linter.unusedSimpArgs false in
theorem kz (d:Nat) (P:Pm) (U:List Nat) (s:Sh) (w:World) (h:HV w d P U s) :
  Calls prog 16 #[aa d 0] w fun e w'=>∃ v,e=.returned (su s v)∧Hid (Fr w' w.heap.size v (P.i,dy s.v)∧Below w.heap.size w w'):=by
 obtain⟨B,x⟩:=h
 have hdn:¬ d=w.heap.size:=by have:=x.dlt;omega
 have b0:Below w.heap.size w (w.alloc (.cells lC 52)):=(Below.refl _ _).alloc (Nat.le_refl _) _
 have x0:=x.newd (Off.of_below b0)
 have c10:=x0.c7
 have hO:=fD _ _ _ _ _ _ x0.val
 have hx:=aB w (.cells lC 52)
 have hs0:w.heap.size < (w.alloc (.cells lC 52)).heap.size:=by simp
 have H0:Hid (_):=And.intro b0 (And.intro x0 (And.intro hx hs0))
 unfold su
 unfold lC at *
 clear b0 x0 x hx hs0
 go_enter func16,ntmps16
 go_wp2_with (go_at_call 43;refine hO.mono ?_;rintro e w2 ⟨v,rfl,h2⟩)
 obtain⟨b0,x0,hx,hs0⟩:=H0.out
 have b2:=h2.out.2
 have x2:=x0.newd (Off.of_below b2)
 have e2:=(b2.block _ hs0).trans hx
 have xd:=x2.newd (Off.drew [] w2)
 have q0:=iu _ _ _ _ xd.dog
 have q1:=fC _ _ _ _ _ _ xd.val
 have q2:=fE _ _ _ _ _ _ xd.val
 have y9:=x2.c6
 have y10:=x2.c7
 have y11:=x2.c8
 have y12:=x2.c9
 have y13:=x2.c10
 have y14:=x2.c11
 have k0:=ab w2 w.heap.size 0 _ _ _ e2
 have k1:=ab w2 w.heap.size 1 _ _ _ e2
 have k2:=ab w2 w.heap.size 2 _ _ _ e2
 have k3:=ab w2 w.heap.size 3 _ _ _ e2
 have k4:=ab w2 w.heap.size 4 _ _ _ e2
 have k5:=ab w2 w.heap.size 5 _ _ _ e2
 have k6:=ab w2 w.heap.size 6 _ _ _ e2
 have k7:=ab w2 w.heap.size 7 _ _ _ e2
 have k8:=ab w2 w.heap.size 8 _ _ _ e2
 have fz:=fun j=>frozen_of_row w2 w.heap.size j _ _ e2
 have f0:=fz 0
 have f1:=fz 1
 have f2:=fz 2
 have f3:=fz 3
 have f4:=fz 4
 have f5:=fz 5
 have f6:=fz 6
 have f7:=fz 7
 have f8:=fz 8
 obtain⟨va,vc,rfl,_⟩:=aO h2.out.1 (fQ x2.val)
 have hne:¬ d=w.heap.size:=hdn
 have H2:Hid (_):=And.intro b0 (And.intro b2 (And.intro h2.out.1 (And.intro hs0 e2)))
 clear hO h2 b0 x0 hx hs0 b2 x2 e2 xd fz H0 c10
 have HS:w2.drew.cell? ⟨d,6,none⟩=some (aa B.db 0)∧w2.drew.cell? ⟨d,7,none⟩=some (aa B.vb 0)∧w2.drew.cell? ⟨d,8,none⟩=some (Value.int .i64 (s.st:Nat))∧w2.drew.cell? ⟨d,9,none⟩=some (Value.int .u32 (s.ss:Nat))∧w2.drew.cell? ⟨d,10,none⟩=some (Value.int .u32 (s.nm:Nat))∧w2.drew.cell? ⟨d,11,none⟩=some (Value.int .u32 (s.sn:Nat)):=⟨y9,y10,y11,y12,y13,y14⟩
 clear y9 y10 y11 y12 y13 y14
 refine wp_region_held_drew (S:=fun w'=>w'.cell? ⟨d,6,none⟩=some (aa B.db 0)∧w'.cell? ⟨d,7,none⟩=some (aa B.vb 0)∧w'.cell? ⟨d,8,none⟩=some (Value.int .i64 (s.st:Nat))∧w'.cell? ⟨d,9,none⟩=some (Value.int .u32 (s.ss:Nat))∧w'.cell? ⟨d,10,none⟩=some (Value.int .u32 (s.nm:Nat))∧w'.cell? ⟨d,11,none⟩=some (Value.int .u32 (s.sn:Nat))) (by kernel_rfl) HS (fun _=>?_)
 refine aC (a':={ tmps:=#[aa d 0,undef,aa w.heap.size 0,Value.slice va P.i vc,Value.bool (aL s.v),aa d 0,Value.bool false,undef,Value.tuple #[Value.slice va P.i vc,Value.bool (aL s.v)],aa d 0,aa d 0,aa d 6,aa d 7,aa B.vb 0,Value.tuple #[Value.slice va P.i vc,Value.bool (aL s.v)],Value.slice va P.i vc,Value.bool (aL s.v),undef,undef,undef,undef,undef,undef,undef,undef,undef,undef,undef,undef,undef,undef,undef,undef,undef,undef,undef,undef,undef,undef,undef,undef,undef,undef,undef,undef,undef,undef,undef,undef,undef,undef,undef,undef,undef,undef,undef,undef,undef],defers:=[] }) (l':=#[false,false,false,false,false,false,false,false,false,false,false,false,false,false,false,false,false,false,false,false,false,false,false,false,false,false,false,false,false,false,false,false,false,false,false,false,false,false,false,false,false,false]) (by kernel_rfl) (by kernel_rfl) ?_
 refine aP (i:=0) (v:=aa d 0) ?_
 refine aP (i:=1) (v:=aa d 0) ?_
 refine aP (i:=2) (v:=aa d 6) ?_
 refine aP (i:=3) (v:=aa d 8) ?_
 refine aP (i:=4) (v:=Value.int .i64 (s.st:Nat)) ?_
 refine aP (i:=5) (v:=aa d 0) ?_
 refine aP (i:=6) (v:=aa d 0) ?_
 refine aP (i:=7) (v:=aa d 6) ?_
 refine aP (i:=8) (v:=aa d 9) ?_
 refine aP (i:=9) (v:=Value.int .u32 (s.ss:Nat)) ?_
 refine aP (i:=10) (v:=aa d 0) ?_
 refine aP (i:=11) (v:=aa d 0) ?_
 refine aP (i:=12) (v:=aa d 6) ?_
 refine aP (i:=13) (v:=aa d 10) ?_
 refine aP (i:=14) (v:=Value.int .u32 (s.nm:Nat)) ?_
 refine aP (i:=15) (v:=aa d 0) ?_
 refine aP (i:=16) (v:=aa d 0) ?_
 refine aP (i:=17) (v:=aa d 6) ?_
 refine aP (i:=18) (v:=aa d 11) ?_
 refine aP (i:=19) (v:=Value.int .u32 (s.sn:Nat)) ?_
 refine aP (i:=20) (v:=aa d 0) ?_
 refine aP (i:=21) (v:=aa d 0) ?_
 refine aP (i:=22) (v:=aa d 6) ?_
 refine aP (i:=23) (v:=aa d 6) ?_
 refine aP (i:=24) (v:=aa B.db 0) ?_
 refine aP (i:=26) (v:=aa d 0) ?_
 refine aP (i:=27) (v:=aa d 0) ?_
 refine aP (i:=28) (v:=aa d 6) ?_
 refine aP (i:=29) (v:=aa d 7) ?_
 refine aP (i:=30) (v:=aa B.vb 0) ?_
 refine aP (i:=32) (v:=aa d 0) ?_
 refine aP (i:=33) (v:=aa d 0) ?_
 refine aP (i:=34) (v:=aa d 6) ?_
 refine aP (i:=35) (v:=aa d 7) ?_
 refine aP (i:=36) (v:=aa B.vb 0) ?_
 refine aP (i:=38) (v:=Value.bool (aL s.v)) ?_
 refine aP (i:=39) (v:=Value.slice va P.i vc) ?_
 refine aC (a':={ tmps:=#[aa d 0,undef,aa w.heap.size 0,Value.slice va P.i vc,Value.bool (aL s.v),aa d 0,Value.bool false,undef,Value.tuple #[Value.slice va P.i vc,Value.bool (aL s.v)],aa d 0,aa d 0,aa d 6,aa d 7,aa B.vb 0,Value.tuple #[Value.slice va P.i vc,Value.bool (aL s.v)],Value.slice va P.i vc,Value.bool (aL s.v),aa d 0,aa d 0,aa d 6,aa d 8,Value.int .i64 (s.st:Nat),aa d 0,aa d 0,aa d 6,aa d 9,Value.int .u32 (s.ss:Nat),aa d 0,aa d 0,aa d 6,aa d 10,Value.int .u32 (s.nm:Nat),aa d 0,aa d 0,aa d 6,aa d 11,Value.int .u32 (s.sn:Nat),aa d 0,aa d 0,aa d 6,aa d 6,aa B.db 0,undef,aa d 0,aa d 0,aa d 6,aa d 7,aa B.vb 0,undef,aa d 0,aa d 0,aa d 6,aa d 7,aa B.vb 0,undef,Value.bool (aL s.v),Value.slice va P.i vc,undef],defers:=[] }) (l':=#[true,true,true,true,true,true,true,true,true,true,true,true,true,true,true,true,true,true,true,true,true,true,true,true,true,false,true,true,true,true,true,false,true,true,true,true,true,false,true,true,false,false]) (by kernel_rfl) (by kernel_rfl) ?_
 refine cw (i:=25) 44 #[aa B.db 0] (by kernel_rfl) rfl (by kernel_rfl) (by go_simp) ?_
 refine (q0).mono ?_
 rintro e w' ⟨rfl,hw⟩
 have hw:=hw.symm
 subst hw
 refine⟨_,rfl,HS,?_⟩
 refine aC (a':={ tmps:=#[aa d 0,undef,aa w.heap.size 0,Value.slice va P.i vc,Value.bool (aL s.v),aa d 0,Value.bool false,undef,Value.tuple #[Value.slice va P.i vc,Value.bool (aL s.v)],aa d 0,aa d 0,aa d 6,aa d 7,aa B.vb 0,Value.tuple #[Value.slice va P.i vc,Value.bool (aL s.v)],Value.slice va P.i vc,Value.bool (aL s.v),aa d 0,aa d 0,aa d 6,aa d 8,Value.int .i64 (s.st:Nat),aa d 0,aa d 0,aa d 6,aa d 9,Value.int .u32 (s.ss:Nat),aa d 0,aa d 0,aa d 6,aa d 10,Value.int .u32 (s.nm:Nat),aa d 0,aa d 0,aa d 6,aa d 11,Value.int .u32 (s.sn:Nat),aa d 0,aa d 0,aa d 6,aa d 6,aa B.db 0,Value.int .i64 (s.dc:Nat),aa d 0,aa d 0,aa d 6,aa d 7,aa B.vb 0,undef,aa d 0,aa d 0,aa d 6,aa d 7,aa B.vb 0,undef,Value.bool (aL s.v),Value.slice va P.i vc,undef],defers:=[] }) (l':=#[true,true,true,true,true,true,true,true,true,true,true,true,true,true,true,true,true,true,true,true,true,true,true,true,true,true,true,true,true,true,true,false,true,true,true,true,true,false,true,true,false,false]) (by kernel_rfl) (by kernel_rfl) ?_
 refine cw (i:=31) 45 #[aa B.vb 0] (by kernel_rfl) rfl (by kernel_rfl) (by go_simp) ?_
 refine (q1).mono ?_
 rintro e w' ⟨rfl,hw⟩
 have hw:=hw.symm
 subst hw
 refine⟨_,rfl,HS,?_⟩
 refine aC (a':={ tmps:=#[aa d 0,undef,aa w.heap.size 0,Value.slice va P.i vc,Value.bool (aL s.v),aa d 0,Value.bool false,undef,Value.tuple #[Value.slice va P.i vc,Value.bool (aL s.v)],aa d 0,aa d 0,aa d 6,aa d 7,aa B.vb 0,Value.tuple #[Value.slice va P.i vc,Value.bool (aL s.v)],Value.slice va P.i vc,Value.bool (aL s.v),aa d 0,aa d 0,aa d 6,aa d 8,Value.int .i64 (s.st:Nat),aa d 0,aa d 0,aa d 6,aa d 9,Value.int .u32 (s.ss:Nat),aa d 0,aa d 0,aa d 6,aa d 10,Value.int .u32 (s.nm:Nat),aa d 0,aa d 0,aa d 6,aa d 11,Value.int .u32 (s.sn:Nat),aa d 0,aa d 0,aa d 6,aa d 6,aa B.db 0,Value.int .i64 (s.dc:Nat),aa d 0,aa d 0,aa d 6,aa d 7,aa B.vb 0,Value.int .i64 s.v.lat,aa d 0,aa d 0,aa d 6,aa d 7,aa B.vb 0,undef,Value.bool (aL s.v),Value.slice va P.i vc,undef],defers:=[] }) (l':=#[true,true,true,true,true,true,true,true,true,true,true,true,true,true,true,true,true,true,true,true,true,true,true,true,true,true,true,true,true,true,true,true,true,true,true,true,true,false,true,true,false,false]) (by kernel_rfl) (by kernel_rfl) ?_
 refine cw (i:=37) 46 #[aa B.vb 0] (by kernel_rfl) rfl (by kernel_rfl) (by go_simp) ?_
 refine (q2).mono ?_
 rintro e w' ⟨rfl,hw⟩
 have hw:=hw.symm
 subst hw
 refine⟨_,rfl,HS,?_⟩
 refine aC (a':={ tmps:=#[aa d 0,undef,aa w.heap.size 0,Value.slice va P.i vc,Value.bool (aL s.v),aa d 0,Value.bool false,undef,Value.tuple #[Value.slice va P.i vc,Value.bool (aL s.v)],aa d 0,aa d 0,aa d 6,aa d 7,aa B.vb 0,Value.tuple #[Value.slice va P.i vc,Value.bool (aL s.v)],Value.slice va P.i vc,Value.bool (aL s.v),aa d 0,aa d 0,aa d 6,aa d 8,Value.int .i64 (s.st:Nat),aa d 0,aa d 0,aa d 6,aa d 9,Value.int .u32 (s.ss:Nat),aa d 0,aa d 0,aa d 6,aa d 10,Value.int .u32 (s.nm:Nat),aa d 0,aa d 0,aa d 6,aa d 11,Value.int .u32 (s.sn:Nat),aa d 0,aa d 0,aa d 6,aa d 6,aa B.db 0,Value.int .i64 (s.dc:Nat),aa d 0,aa d 0,aa d 6,aa d 7,aa B.vb 0,Value.int .i64 s.v.lat,aa d 0,aa d 0,aa d 6,aa d 7,aa B.vb 0,Value.bool (bK s.v),Value.bool (aL s.v),Value.slice va P.i vc,undef],defers:=[] }) (l':=#[true,true,true,true,true,true,true,true,true,true,true,true,true,true,true,true,true,true,true,true,true,true,true,true,true,true,true,true,true,true,true,true,true,true,true,true,true,true,true,true,false,false]) (by kernel_rfl) (by kernel_rfl) ?_
 refine aP (i:=40) (v:=Value.agg (gI s.st s.ss s.nm s.sn s.dc s.v.lat (bK s.v) (aL s.v) va P.i vc)) ?_
 refine aC (a':={ tmps:=#[aa d 0,undef,aa w.heap.size 0,Value.slice va P.i vc,Value.bool (aL s.v),aa d 0,Value.bool false,undef,Value.tuple #[Value.slice va P.i vc,Value.bool (aL s.v)],aa d 0,aa d 0,aa d 6,aa d 7,aa B.vb 0,Value.tuple #[Value.slice va P.i vc,Value.bool (aL s.v)],Value.slice va P.i vc,Value.bool (aL s.v),aa d 0,aa d 0,aa d 6,aa d 8,Value.int .i64 (s.st:Nat),aa d 0,aa d 0,aa d 6,aa d 9,Value.int .u32 (s.ss:Nat),aa d 0,aa d 0,aa d 6,aa d 10,Value.int .u32 (s.nm:Nat),aa d 0,aa d 0,aa d 6,aa d 11,Value.int .u32 (s.sn:Nat),aa d 0,aa d 0,aa d 6,aa d 6,aa B.db 0,Value.int .i64 (s.dc:Nat),aa d 0,aa d 0,aa d 6,aa d 7,aa B.vb 0,Value.int .i64 s.v.lat,aa d 0,aa d 0,aa d 6,aa d 7,aa B.vb 0,Value.bool (bK s.v),Value.bool (aL s.v),Value.slice va P.i vc,Value.agg (gI s.st s.ss s.nm s.sn s.dc s.v.lat (bK s.v) (aL s.v) va P.i vc)],defers:=[] }) (l':=#[true,true,true,true,true,true,true,true,true,true,true,true,true,true,true,true,true,true,true,true,true,true,true,true,true,true,true,true,true,true,true,true,true,true,true,true,true,true,true,true,true,false]) (by kernel_rfl) (by kernel_rfl) ?_
 refine dQ (i:=41) ((((((((((w2.drew.setCell ⟨w.heap.size,0,none⟩ (Value.int .i64 (s.st:Nat))).setCell ⟨w.heap.size,1,none⟩ (Value.int .u32 (s.ss:Nat))).setCell ⟨w.heap.size,2,none⟩ (Value.int .u32 (s.nm:Nat))).setCell ⟨w.heap.size,3,none⟩ (Value.int .u32 (s.sn:Nat))).setCell ⟨w.heap.size,4,none⟩ (Value.int .i64 (s.dc:Nat))).setCell ⟨w.heap.size,5,none⟩ (Value.int .i64 s.v.lat)).setCell ⟨w.heap.size,6,none⟩ (Value.bool (bK s.v))).setCell ⟨w.heap.size,7,none⟩ (Value.bool (aL s.v))).setCell ⟨w.heap.size,8,none⟩ (Value.slice va P.i vc))) (by kernel_rfl) rfl (by kernel_rfl) (by go_simp) ⟨bf HS.1 hne _ _ _ _ _ _ _ _ _,bf HS.2.1 hne _ _ _ _ _ _ _ _ _,bf HS.2.2.1 hne _ _ _ _ _ _ _ _ _,bf HS.2.2.2.1 hne _ _ _ _ _ _ _ _ _,bf HS.2.2.2.2.1 hne _ _ _ _ _ _ _ _ _,bf HS.2.2.2.2.2 hne _ _ _ _ _ _ _ _ _⟩ ?_
 refine aC (a':={ tmps:=#[aa d 0,undef,aa w.heap.size 0,Value.slice va P.i vc,Value.bool (aL s.v),aa d 0,Value.bool false,undef,Value.tuple #[Value.slice va P.i vc,Value.bool (aL s.v)],aa d 0,aa d 0,aa d 6,aa d 7,aa B.vb 0,Value.tuple #[Value.slice va P.i vc,Value.bool (aL s.v)],Value.slice va P.i vc,Value.bool (aL s.v),aa d 0,aa d 0,aa d 6,aa d 8,Value.int .i64 (s.st:Nat),aa d 0,aa d 0,aa d 6,aa d 9,Value.int .u32 (s.ss:Nat),aa d 0,aa d 0,aa d 6,aa d 10,Value.int .u32 (s.nm:Nat),aa d 0,aa d 0,aa d 6,aa d 11,Value.int .u32 (s.sn:Nat),aa d 0,aa d 0,aa d 6,aa d 6,aa B.db 0,Value.int .i64 (s.dc:Nat),aa d 0,aa d 0,aa d 6,aa d 7,aa B.vb 0,Value.int .i64 s.v.lat,aa d 0,aa d 0,aa d 6,aa d 7,aa B.vb 0,Value.bool (bK s.v),Value.bool (aL s.v),Value.slice va P.i vc,Value.agg (gI s.st s.ss s.nm s.sn s.dc s.v.lat (bK s.v) (aL s.v) va P.i vc)],defers:=[] }) (l':=#[true,true,true,true,true,true,true,true,true,true,true,true,true,true,true,true,true,true,true,true,true,true,true,true,true,true,true,true,true,true,true,true,true,true,true,true,true,true,true,true,true,true]) (by kernel_rfl) (by kernel_rfl) ?_
 refine wpAnyH_done (by kernel_rfl) ?_ _
 obtain⟨b0,b2,hf,hs0,e2⟩:=H2.out
 have o9:=(Off.drew [w.heap.size] w2).trans (tV w.heap.size w2.drew (.int .i64 (s.st:Nat)) (.int .u32 (s.ss:Nat)) (.int .u32 (s.nm:Nat)) (.int .u32 (s.sn:Nat)) (.int .i64 (s.dc:Nat)) (.int .i64 s.v.lat) (.bool (bK s.v)) (.bool (aL s.v)) (.slice va P.i vc))
 have e9:=nr (.int .i64 (s.st:Nat)) (.int .u32 (s.ss:Nat)) (.int .u32 (s.nm:Nat)) (.int .u32 (s.sn:Nat)) (.int .i64 (s.dc:Nat)) (.int .i64 s.v.lat) (.bool (bK s.v)) (.bool (aL s.v)) (.slice va P.i vc) (show w2.drew.heap[w.heap.size]?=_ from e2)
 have H9:Hid (_):=And.intro (ak (an hf o9 (fun k hk hm=>by have:=Fr.ge (f:=(P.i,dy s.v)) hf k hk;simp at hm;omega)) b0.size) (o9.below (b0.trans (b2.mono b0.size)) (by simp) (by have:=b0.size;have:=b2.size;omega))
 clear o9 b0 b2 hf hs0 e2 H2 q0 q1 q2 HS k0 k1 k2 k3 k4 k5 k6 k7 k8 f0 f1 f2 f3 f4 f5 f6 f7 f8
 generalize (((((((((w2.drew.setCell ⟨w.heap.size,0,none⟩ (Value.int .i64 (s.st:Nat))).setCell ⟨w.heap.size,1,none⟩ (Value.int .u32 (s.ss:Nat))).setCell ⟨w.heap.size,2,none⟩ (Value.int .u32 (s.nm:Nat))).setCell ⟨w.heap.size,3,none⟩ (Value.int .u32 (s.sn:Nat))).setCell ⟨w.heap.size,4,none⟩ (Value.int .i64 (s.dc:Nat))).setCell ⟨w.heap.size,5,none⟩ (Value.int .i64 s.v.lat)).setCell ⟨w.heap.size,6,none⟩ (Value.bool (bK s.v))).setCell ⟨w.heap.size,7,none⟩ (Value.bool (aL s.v))).setCell ⟨w.heap.size,8,none⟩ (Value.slice va P.i vc))=w9 at *
 have r0:=ab w9 w.heap.size 0 _ _ _ e9
 have r1:=ab w9 w.heap.size 1 _ _ _ e9
 have r2:=ab w9 w.heap.size 2 _ _ _ e9
 have r3:=ab w9 w.heap.size 3 _ _ _ e9
 have r4:=ab w9 w.heap.size 4 _ _ _ e9
 have r5:=ab w9 w.heap.size 5 _ _ _ e9
 have r6:=ab w9 w.heap.size 6 _ _ _ e9
 have r7:=ab w9 w.heap.size 7 _ _ _ e9
 have r8:=ab w9 w.heap.size 8 _ _ _ e9
 clear e9
 go_wp2_with fail
 refine bodyPost_ret (v:=.agg (gI s.st s.ss s.nm s.sn s.dc s.v.lat (bK s.v) (aL s.v) va P.i vc)) (by simp[results,results16,go_sem,r0,r1,r2,r3,r4,r5,r6,r7,r8]) rfl ⟨.slice va P.i vc,rfl,H9.out⟩
end Go.Proofs.YtdpahjfekoikiaaGreat
