/- Part 32: contracts that the proof rests on. -/
import Derived.Test.YtenilkloffnjlaaGreatPkH27
set_option maxHeartbeats 64000000
set_option maxRecDepth 100000
namespace Go.Proofs.YtenilkloffnjlaaGreat
open Tryz
open Go.RowKit
def abM (s:Sh) (v:Value):Value:=.agg #[.int .i64 (s.st:Nat),.int .u32 (s.ss:Nat),.int .u32 (s.nm:Nat),.int .u32 (s.sn:Nat),.int .i64 (s.dc:Nat),.int .i64 s.v.lat,.bool (au s.v),.bool (aE s.v),v]
set_option linter.unusedSimpArgs false in
theorem vC (d:Nat) (P:Pm) (U:List Nat) (s:Sh) (w:World) (h:HV w d P U s) :
  Calls prog 30 #[ac d 0] w fun e w'=>∃ v,e=.returned (abM s v)∧Hid (Fr w' w.heap.size v (P.i,co s.v)∧Below w.heap.size w w'):=by
 obtain⟨B,x⟩:=h
 have hdn:¬ d=w.heap.size:=by have:=x.dlt;omega
 have b0:Below w.heap.size w (w.alloc (.cells qI 43)):=(Below.refl _ _).alloc (Nat.le_refl _) _
 have x0:=x.newd (Off.of_below b0)
 have c10:=x0.c7
 have hO:=jc _ _ _ _ _ _ x0.val
 have hx:=aB w (.cells qI 43)
 have hs0:w.heap.size < (w.alloc (.cells qI 43)).heap.size:=by simp
 have H0:Hid (_):=And.intro b0 (And.intro x0 (And.intro hx hs0))
 unfold abM
 unfold qI at *
 clear b0 x0 x hx hs0
 go_enter func30,ntmps30
 go_wp2_with (go_at_call 60;refine hO.mono ?_;rintro e w2 ⟨v,rfl,h2⟩)
 obtain⟨b0,x0,hx,hs0⟩:=H0.out
 have b2:=h2.out.2
 have x2:=x0.newd (Off.of_below b2)
 have e2:=(b2.block _ hs0).trans hx
 have xd:=x2.newd (Off.drew [] w2)
 have q0:=lH _ _ _ _ xd.dog
 have q1:=jb _ _ _ _ _ _ xd.val
 have q2:=gH _ _ _ _ _ _ xd.val
 have y9:=x2.c6
 have y10:=x2.c7
 have y11:=x2.c8
 have y12:=x2.c9
 have y13:=x2.c10
 have y14:=x2.c11
 have k0:=ae w2 w.heap.size 0 _ _ _ e2
 have k1:=ae w2 w.heap.size 1 _ _ _ e2
 have k2:=ae w2 w.heap.size 2 _ _ _ e2
 have k3:=ae w2 w.heap.size 3 _ _ _ e2
 have k4:=ae w2 w.heap.size 4 _ _ _ e2
 have k5:=ae w2 w.heap.size 5 _ _ _ e2
 have k6:=ae w2 w.heap.size 6 _ _ _ e2
 have k7:=ae w2 w.heap.size 7 _ _ _ e2
 have k8:=ae w2 w.heap.size 8 _ _ _ e2
 have fz:=fun j=>frozen_of_row w2 w.heap.size j _ _ e2
 have f0:=fz 0
 have f1:=fz 1
 have f2:=fz 2
 have f3:=fz 3
 have f4:=fz 4
 have f5:=fz 5
 have f6:=fz 6
 have f7:=fz 7
 have f8:=fz 8
 obtain⟨va,vc,rfl,_⟩:=aY h2.out.1 (ib x2.val)
 have hne:¬ d=w.heap.size:=hdn
 have H2:Hid (_):=And.intro b0 (And.intro b2 (And.intro h2.out.1 (And.intro hs0 e2)))
 clear hO h2 b0 x0 hx hs0 b2 x2 e2 xd fz H0 c10
 have HS:w2.drew.cell? ⟨d,6,none⟩=some (ac B.db 0)∧w2.drew.cell? ⟨d,7,none⟩=some (ac B.vb 0)∧w2.drew.cell? ⟨d,8,none⟩=some (Value.int .i64 (s.st:Nat))∧w2.drew.cell? ⟨d,9,none⟩=some (Value.int .u32 (s.ss:Nat))∧w2.drew.cell? ⟨d,10,none⟩=some (Value.int .u32 (s.nm:Nat))∧w2.drew.cell? ⟨d,11,none⟩=some (Value.int .u32 (s.sn:Nat)):=⟨y9,y10,y11,y12,y13,y14⟩
 clear y9 y10 y11 y12 y13 y14
 refine wp_region_held_drew (S:=fun w'=>w'.cell? ⟨d,6,none⟩=some (ac B.db 0)∧w'.cell? ⟨d,7,none⟩=some (ac B.vb 0)∧w'.cell? ⟨d,8,none⟩=some (Value.int .i64 (s.st:Nat))∧w'.cell? ⟨d,9,none⟩=some (Value.int .u32 (s.ss:Nat))∧w'.cell? ⟨d,10,none⟩=some (Value.int .u32 (s.nm:Nat))∧w'.cell? ⟨d,11,none⟩=some (Value.int .u32 (s.sn:Nat))) (by kernel_rfl) HS (fun _=>?_)
 refine aK (a':={ tmps:=#[ac d 0,undef,ac w.heap.size 0,Value.slice va P.i vc,Value.bool (aE s.v),ac d 0,Value.bool false,undef,Value.tuple #[Value.slice va P.i vc,Value.bool (aE s.v)],ac d 0,ac d 0,ac d 6,ac d 7,ac B.vb 0,Value.tuple #[Value.slice va P.i vc,Value.bool (aE s.v)],Value.slice va P.i vc,Value.bool (aE s.v),undef,undef,undef,undef,undef,undef,undef,undef,undef,undef,undef,undef,undef,undef,undef,undef,undef,undef,undef,undef,undef,undef,undef,undef,undef,undef,undef,undef,undef,undef,undef,undef,undef,undef,undef,undef,undef,undef,undef,undef,undef],defers:=[] }) (l':=#[false,false,false,false,false,false,false,false,false,false,false,false,false,false,false,false,false,false,false,false,false,false,false,false,false,false,false,false,false,false,false,false,false,false,false,false,false,false,false,false,false,false]) (by kernel_rfl) (by kernel_rfl) ?_
 refine aq (i:=0) (v:=ac d 0) ?_
 refine aq (i:=1) (v:=ac d 0) ?_
 refine aq (i:=2) (v:=ac d 6) ?_
 refine aq (i:=3) (v:=ac d 8) ?_
 refine aq (i:=4) (v:=Value.int .i64 (s.st:Nat)) ?_
 refine aq (i:=5) (v:=ac d 0) ?_
 refine aq (i:=6) (v:=ac d 0) ?_
 refine aq (i:=7) (v:=ac d 6) ?_
 refine aq (i:=8) (v:=ac d 9) ?_
 refine aq (i:=9) (v:=Value.int .u32 (s.ss:Nat)) ?_
 refine aq (i:=10) (v:=ac d 0) ?_
 refine aq (i:=11) (v:=ac d 0) ?_
 refine aq (i:=12) (v:=ac d 6) ?_
 refine aq (i:=13) (v:=ac d 10) ?_
 refine aq (i:=14) (v:=Value.int .u32 (s.nm:Nat)) ?_
 refine aq (i:=15) (v:=ac d 0) ?_
 refine aq (i:=16) (v:=ac d 0) ?_
 refine aq (i:=17) (v:=ac d 6) ?_
 refine aq (i:=18) (v:=ac d 11) ?_
 refine aq (i:=19) (v:=Value.int .u32 (s.sn:Nat)) ?_
 refine aq (i:=20) (v:=ac d 0) ?_
 refine aq (i:=21) (v:=ac d 0) ?_
 refine aq (i:=22) (v:=ac d 6) ?_
 refine aq (i:=23) (v:=ac d 6) ?_
 refine aq (i:=24) (v:=ac B.db 0) ?_
 refine aq (i:=26) (v:=ac d 0) ?_
 refine aq (i:=27) (v:=ac d 0) ?_
 refine aq (i:=28) (v:=ac d 6) ?_
 refine aq (i:=29) (v:=ac d 7) ?_
 refine aq (i:=30) (v:=ac B.vb 0) ?_
 refine aq (i:=32) (v:=ac d 0) ?_
 refine aq (i:=33) (v:=ac d 0) ?_
 refine aq (i:=34) (v:=ac d 6) ?_
 refine aq (i:=35) (v:=ac d 7) ?_
 refine aq (i:=36) (v:=ac B.vb 0) ?_
 refine aq (i:=38) (v:=Value.bool (aE s.v)) ?_
 refine aq (i:=39) (v:=Value.slice va P.i vc) ?_
 refine aK (a':={ tmps:=#[ac d 0,undef,ac w.heap.size 0,Value.slice va P.i vc,Value.bool (aE s.v),ac d 0,Value.bool false,undef,Value.tuple #[Value.slice va P.i vc,Value.bool (aE s.v)],ac d 0,ac d 0,ac d 6,ac d 7,ac B.vb 0,Value.tuple #[Value.slice va P.i vc,Value.bool (aE s.v)],Value.slice va P.i vc,Value.bool (aE s.v),ac d 0,ac d 0,ac d 6,ac d 8,Value.int .i64 (s.st:Nat),ac d 0,ac d 0,ac d 6,ac d 9,Value.int .u32 (s.ss:Nat),ac d 0,ac d 0,ac d 6,ac d 10,Value.int .u32 (s.nm:Nat),ac d 0,ac d 0,ac d 6,ac d 11,Value.int .u32 (s.sn:Nat),ac d 0,ac d 0,ac d 6,ac d 6,ac B.db 0,undef,ac d 0,ac d 0,ac d 6,ac d 7,ac B.vb 0,undef,ac d 0,ac d 0,ac d 6,ac d 7,ac B.vb 0,undef,Value.bool (aE s.v),Value.slice va P.i vc,undef],defers:=[] }) (l':=#[true,true,true,true,true,true,true,true,true,true,true,true,true,true,true,true,true,true,true,true,true,true,true,true,true,false,true,true,true,true,true,false,true,true,true,true,true,false,true,true,false,false]) (by kernel_rfl) (by kernel_rfl) ?_
 refine aI (i:=25) 61 #[ac B.db 0] (by kernel_rfl) rfl (by kernel_rfl) (by go_simp) ?_
 refine (q0).mono ?_
 rintro e w' ⟨rfl,hw⟩
 have hw:=hw.symm
 subst hw
 refine⟨_,rfl,HS,?_⟩
 refine aK (a':={ tmps:=#[ac d 0,undef,ac w.heap.size 0,Value.slice va P.i vc,Value.bool (aE s.v),ac d 0,Value.bool false,undef,Value.tuple #[Value.slice va P.i vc,Value.bool (aE s.v)],ac d 0,ac d 0,ac d 6,ac d 7,ac B.vb 0,Value.tuple #[Value.slice va P.i vc,Value.bool (aE s.v)],Value.slice va P.i vc,Value.bool (aE s.v),ac d 0,ac d 0,ac d 6,ac d 8,Value.int .i64 (s.st:Nat),ac d 0,ac d 0,ac d 6,ac d 9,Value.int .u32 (s.ss:Nat),ac d 0,ac d 0,ac d 6,ac d 10,Value.int .u32 (s.nm:Nat),ac d 0,ac d 0,ac d 6,ac d 11,Value.int .u32 (s.sn:Nat),ac d 0,ac d 0,ac d 6,ac d 6,ac B.db 0,Value.int .i64 (s.dc:Nat),ac d 0,ac d 0,ac d 6,ac d 7,ac B.vb 0,undef,ac d 0,ac d 0,ac d 6,ac d 7,ac B.vb 0,undef,Value.bool (aE s.v),Value.slice va P.i vc,undef],defers:=[] }) (l':=#[true,true,true,true,true,true,true,true,true,true,true,true,true,true,true,true,true,true,true,true,true,true,true,true,true,true,true,true,true,true,true,false,true,true,true,true,true,false,true,true,false,false]) (by kernel_rfl) (by kernel_rfl) ?_
 refine aI (i:=31) 62 #[ac B.vb 0] (by kernel_rfl) rfl (by kernel_rfl) (by go_simp) ?_
 refine (q1).mono ?_
 rintro e w' ⟨rfl,hw⟩
 have hw:=hw.symm
 subst hw
 refine⟨_,rfl,HS,?_⟩
 refine aK (a':={ tmps:=#[ac d 0,undef,ac w.heap.size 0,Value.slice va P.i vc,Value.bool (aE s.v),ac d 0,Value.bool false,undef,Value.tuple #[Value.slice va P.i vc,Value.bool (aE s.v)],ac d 0,ac d 0,ac d 6,ac d 7,ac B.vb 0,Value.tuple #[Value.slice va P.i vc,Value.bool (aE s.v)],Value.slice va P.i vc,Value.bool (aE s.v),ac d 0,ac d 0,ac d 6,ac d 8,Value.int .i64 (s.st:Nat),ac d 0,ac d 0,ac d 6,ac d 9,Value.int .u32 (s.ss:Nat),ac d 0,ac d 0,ac d 6,ac d 10,Value.int .u32 (s.nm:Nat),ac d 0,ac d 0,ac d 6,ac d 11,Value.int .u32 (s.sn:Nat),ac d 0,ac d 0,ac d 6,ac d 6,ac B.db 0,Value.int .i64 (s.dc:Nat),ac d 0,ac d 0,ac d 6,ac d 7,ac B.vb 0,Value.int .i64 s.v.lat,ac d 0,ac d 0,ac d 6,ac d 7,ac B.vb 0,undef,Value.bool (aE s.v),Value.slice va P.i vc,undef],defers:=[] }) (l':=#[true,true,true,true,true,true,true,true,true,true,true,true,true,true,true,true,true,true,true,true,true,true,true,true,true,true,true,true,true,true,true,true,true,true,true,true,true,false,true,true,false,false]) (by kernel_rfl) (by kernel_rfl) ?_
 refine aI (i:=37) 63 #[ac B.vb 0] (by kernel_rfl) rfl (by kernel_rfl) (by go_simp) ?_
 refine (q2).mono ?_
 rintro e w' ⟨rfl,hw⟩
 have hw:=hw.symm
 subst hw
 refine⟨_,rfl,HS,?_⟩
 refine aK (a':={ tmps:=#[ac d 0,undef,ac w.heap.size 0,Value.slice va P.i vc,Value.bool (aE s.v),ac d 0,Value.bool false,undef,Value.tuple #[Value.slice va P.i vc,Value.bool (aE s.v)],ac d 0,ac d 0,ac d 6,ac d 7,ac B.vb 0,Value.tuple #[Value.slice va P.i vc,Value.bool (aE s.v)],Value.slice va P.i vc,Value.bool (aE s.v),ac d 0,ac d 0,ac d 6,ac d 8,Value.int .i64 (s.st:Nat),ac d 0,ac d 0,ac d 6,ac d 9,Value.int .u32 (s.ss:Nat),ac d 0,ac d 0,ac d 6,ac d 10,Value.int .u32 (s.nm:Nat),ac d 0,ac d 0,ac d 6,ac d 11,Value.int .u32 (s.sn:Nat),ac d 0,ac d 0,ac d 6,ac d 6,ac B.db 0,Value.int .i64 (s.dc:Nat),ac d 0,ac d 0,ac d 6,ac d 7,ac B.vb 0,Value.int .i64 s.v.lat,ac d 0,ac d 0,ac d 6,ac d 7,ac B.vb 0,Value.bool (au s.v),Value.bool (aE s.v),Value.slice va P.i vc,undef],defers:=[] }) (l':=#[true,true,true,true,true,true,true,true,true,true,true,true,true,true,true,true,true,true,true,true,true,true,true,true,true,true,true,true,true,true,true,true,true,true,true,true,true,true,true,true,false,false]) (by kernel_rfl) (by kernel_rfl) ?_
 refine aq (i:=40) (v:=Value.agg (bO s.st s.ss s.nm s.sn s.dc s.v.lat (au s.v) (aE s.v) va P.i vc)) ?_
 refine aK (a':={ tmps:=#[ac d 0,undef,ac w.heap.size 0,Value.slice va P.i vc,Value.bool (aE s.v),ac d 0,Value.bool false,undef,Value.tuple #[Value.slice va P.i vc,Value.bool (aE s.v)],ac d 0,ac d 0,ac d 6,ac d 7,ac B.vb 0,Value.tuple #[Value.slice va P.i vc,Value.bool (aE s.v)],Value.slice va P.i vc,Value.bool (aE s.v),ac d 0,ac d 0,ac d 6,ac d 8,Value.int .i64 (s.st:Nat),ac d 0,ac d 0,ac d 6,ac d 9,Value.int .u32 (s.ss:Nat),ac d 0,ac d 0,ac d 6,ac d 10,Value.int .u32 (s.nm:Nat),ac d 0,ac d 0,ac d 6,ac d 11,Value.int .u32 (s.sn:Nat),ac d 0,ac d 0,ac d 6,ac d 6,ac B.db 0,Value.int .i64 (s.dc:Nat),ac d 0,ac d 0,ac d 6,ac d 7,ac B.vb 0,Value.int .i64 s.v.lat,ac d 0,ac d 0,ac d 6,ac d 7,ac B.vb 0,Value.bool (au s.v),Value.bool (aE s.v),Value.slice va P.i vc,Value.agg (bO s.st s.ss s.nm s.sn s.dc s.v.lat (au s.v) (aE s.v) va P.i vc)],defers:=[] }) (l':=#[true,true,true,true,true,true,true,true,true,true,true,true,true,true,true,true,true,true,true,true,true,true,true,true,true,true,true,true,true,true,true,true,true,true,true,true,true,true,true,true,true,false]) (by kernel_rfl) (by kernel_rfl) ?_
 refine cH (i:=41) ((((((((((w2.drew.setCell ⟨w.heap.size,0,none⟩ (Value.int .i64 (s.st:Nat))).setCell ⟨w.heap.size,1,none⟩ (Value.int .u32 (s.ss:Nat))).setCell ⟨w.heap.size,2,none⟩ (Value.int .u32 (s.nm:Nat))).setCell ⟨w.heap.size,3,none⟩ (Value.int .u32 (s.sn:Nat))).setCell ⟨w.heap.size,4,none⟩ (Value.int .i64 (s.dc:Nat))).setCell ⟨w.heap.size,5,none⟩ (Value.int .i64 s.v.lat)).setCell ⟨w.heap.size,6,none⟩ (Value.bool (au s.v))).setCell ⟨w.heap.size,7,none⟩ (Value.bool (aE s.v))).setCell ⟨w.heap.size,8,none⟩ (Value.slice va P.i vc))) (by kernel_rfl) rfl (by kernel_rfl) (by go_simp) ⟨cu HS.1 hne _ _ _ _ _ _ _ _ _,cu HS.2.1 hne _ _ _ _ _ _ _ _ _,cu HS.2.2.1 hne _ _ _ _ _ _ _ _ _,cu HS.2.2.2.1 hne _ _ _ _ _ _ _ _ _,cu HS.2.2.2.2.1 hne _ _ _ _ _ _ _ _ _,cu HS.2.2.2.2.2 hne _ _ _ _ _ _ _ _ _⟩ ?_
 refine aK (a':={ tmps:=#[ac d 0,undef,ac w.heap.size 0,Value.slice va P.i vc,Value.bool (aE s.v),ac d 0,Value.bool false,undef,Value.tuple #[Value.slice va P.i vc,Value.bool (aE s.v)],ac d 0,ac d 0,ac d 6,ac d 7,ac B.vb 0,Value.tuple #[Value.slice va P.i vc,Value.bool (aE s.v)],Value.slice va P.i vc,Value.bool (aE s.v),ac d 0,ac d 0,ac d 6,ac d 8,Value.int .i64 (s.st:Nat),ac d 0,ac d 0,ac d 6,ac d 9,Value.int .u32 (s.ss:Nat),ac d 0,ac d 0,ac d 6,ac d 10,Value.int .u32 (s.nm:Nat),ac d 0,ac d 0,ac d 6,ac d 11,Value.int .u32 (s.sn:Nat),ac d 0,ac d 0,ac d 6,ac d 6,ac B.db 0,Value.int .i64 (s.dc:Nat),ac d 0,ac d 0,ac d 6,ac d 7,ac B.vb 0,Value.int .i64 s.v.lat,ac d 0,ac d 0,ac d 6,ac d 7,ac B.vb 0,Value.bool (au s.v),Value.bool (aE s.v),Value.slice va P.i vc,Value.agg (bO s.st s.ss s.nm s.sn s.dc s.v.lat (au s.v) (aE s.v) va P.i vc)],defers:=[] }) (l':=#[true,true,true,true,true,true,true,true,true,true,true,true,true,true,true,true,true,true,true,true,true,true,true,true,true,true,true,true,true,true,true,true,true,true,true,true,true,true,true,true,true,true]) (by kernel_rfl) (by kernel_rfl) ?_
 refine wpAnyH_done (by kernel_rfl) ?_ _
 obtain⟨b0,b2,hf,hs0,e2⟩:=H2.out
 have o9:=(Off.drew [w.heap.size] w2).trans (aaN w.heap.size w2.drew (.int .i64 (s.st:Nat)) (.int .u32 (s.ss:Nat)) (.int .u32 (s.nm:Nat)) (.int .u32 (s.sn:Nat)) (.int .i64 (s.dc:Nat)) (.int .i64 s.v.lat) (.bool (au s.v)) (.bool (aE s.v)) (.slice va P.i vc))
 have e9:=sF (.int .i64 (s.st:Nat)) (.int .u32 (s.ss:Nat)) (.int .u32 (s.nm:Nat)) (.int .u32 (s.sn:Nat)) (.int .i64 (s.dc:Nat)) (.int .i64 s.v.lat) (.bool (au s.v)) (.bool (aE s.v)) (.slice va P.i vc) (show w2.drew.heap[w.heap.size]?=_ from e2)
 have H9:Hid (_):=And.intro (aS (aO hf o9 (fun k hk hm=>by have:=Fr.ge (f:=(P.i,co s.v)) hf k hk;simp at hm;omega)) b0.size) (o9.below (b0.trans (b2.mono b0.size)) (by simp) (by have:=b0.size;have:=b2.size;omega))
 clear o9 b0 b2 hf hs0 e2 H2 q0 q1 q2 HS k0 k1 k2 k3 k4 k5 k6 k7 k8 f0 f1 f2 f3 f4 f5 f6 f7 f8
 generalize (((((((((w2.drew.setCell ⟨w.heap.size,0,none⟩ (Value.int .i64 (s.st:Nat))).setCell ⟨w.heap.size,1,none⟩ (Value.int .u32 (s.ss:Nat))).setCell ⟨w.heap.size,2,none⟩ (Value.int .u32 (s.nm:Nat))).setCell ⟨w.heap.size,3,none⟩ (Value.int .u32 (s.sn:Nat))).setCell ⟨w.heap.size,4,none⟩ (Value.int .i64 (s.dc:Nat))).setCell ⟨w.heap.size,5,none⟩ (Value.int .i64 s.v.lat)).setCell ⟨w.heap.size,6,none⟩ (Value.bool (au s.v))).setCell ⟨w.heap.size,7,none⟩ (Value.bool (aE s.v))).setCell ⟨w.heap.size,8,none⟩ (Value.slice va P.i vc))=w9 at *
 have r0:=ae w9 w.heap.size 0 _ _ _ e9
 have r1:=ae w9 w.heap.size 1 _ _ _ e9
 have r2:=ae w9 w.heap.size 2 _ _ _ e9
 have r3:=ae w9 w.heap.size 3 _ _ _ e9
 have r4:=ae w9 w.heap.size 4 _ _ _ e9
 have r5:=ae w9 w.heap.size 5 _ _ _ e9
 have r6:=ae w9 w.heap.size 6 _ _ _ e9
 have r7:=ae w9 w.heap.size 7 _ _ _ e9
 have r8:=ae w9 w.heap.size 8 _ _ _ e9
 clear e9
 go_wp2_with fail
 refine bodyPost_ret (v:=.agg (bO s.st s.ss s.nm s.sn s.dc s.v.lat (au s.v) (aE s.v) va P.i vc)) (by simp[results,results30,go_sem,r0,r1,r2,r3,r4,r5,r6,r7,r8]) rfl ⟨.slice va P.i vc,rfl,H9.out⟩
end Go.Proofs.YtenilkloffnjlaaGreat
