/- Part 42: contracts that the proof rests on. -/
import Derived.Test.YtenilkloffnjlaaGreatPkH38
set_option maxHeartbeats 64000000
set_option maxRecDepth 100000
namespace Go.Proofs.YtenilkloffnjlaaGreat
open Tryz
open Go.RowKit Go.Maps
set_option linter.unusedVariables false
theorem aae (X g cc n k hd dd dm:Nat) (m:Mv) (d:Option Addr) (c:Nat) (T:TypeId) (Fn:FuncId) (P:Nat) (E:Int) (w:World) (Q1 Q2:World→Prop) (cv:w.cell? ⟨X,3,none⟩=some (.slice (af g 0) n cc)) (c0:w.cell? ⟨g,k*3,none⟩=some (ac hd 0)) (c1:w.cell? ⟨g,k*3+1,none⟩=some (ac dd 0)) (c2:w.cell? ⟨g,k*3+2,none⟩=some (ac dm 0)) (hlt:((k:Nat):Int) < ((n:Nat):Int)) (h2:(m.k == 2)=false) (h3:(m.k == 3)=false) (h4:(m.k == 4)=false) (h1:(m.k == 1)=true)
  (hA:∀ w1,Calls prog 55 #[.agg (aA hd dd dm),.int .i64 m.s] w1 fun r w'=>r=.returned (.iface T (ac P 0))∧Below w1.heap.size w1 w')
  (hM : ∀ w1, (method 438 T (.pointer (some ⟨P, 0, none⟩)) "Write").run prog w1 = .ok (Fn, .pointer (some ⟨P, 0, none⟩)) w1) (hF : ∀ u w1, (callFunc Fn u).run prog w1 = .ok (.enter Fn u) w1)
  (hLay:∀ w1,Below w.heap.size w w1→w1.heap[w.heap.size]?=some (.cells (aj m (k:Nat) d c) 39 (0,0))→w1.heap[w.heap.size+1]?=some (.cells (aA hd dd dm) 80 (0,0))→Q1 w1) (hQb:∀ w1 w2,Q1 w1→Below w1.heap.size w1 w2→Q1 w2)
  (hC:∀ w1,Q1 w1→Calls prog Fn #[ac P 0,.slice d m.l c,.bool m.h] w1 fun r w'=>r=.returned (.int .i64 E)∧Hid (Q2 w')) (hQX:∀ w1,Hid (Q2 w1)→w1.heap[w.heap.size]?=some (.cells (aj m (k:Nat) d c) 39 (0,0))∧w1.heap[w.heap.size+1]?=some (.cells (aA hd dd dm) 80 (0,0))) :
  Calls prog 28 #[ac X 0,.agg (aj m (k:Nat) d c)] w fun r w'=>r=.returned (.tuple #[.int .i64 E,.int .i64 (-1)])∧Hid (Q2 w'):=by
 have kA:=aB w (.cells (aj m (k:Nat) d c) 39)
 have bA:=aF (Below.refl _ w) (.cells (aj m (k:Nat) d c) 39)
 have sA:(w.alloc (.cells (aj m (k:Nat) d c) 39)).heap.size=w.heap.size+1:=io _ _
 obtain⟨wa,hwa⟩:∃ y,w.alloc (.cells (aj m (k:Nat) d c) 39)=y:=⟨_,rfl⟩
 rw[hwa]at kA bA sA
 obtain⟨x,hx⟩:∃ y,w.heap.size=y:=⟨_,rfl⟩
 have HB:Hid (Below w.heap.size w wa):=bA
 have HSz:Hid (w.heap.size=x):=hx
 rw[hx]at kA sA
 have hS:∀ w',Below wa.heap.size wa w'→w'.cell? ⟨X,3,none⟩=some (Value.slice (af g 0) n cc)∧w'.cell? ⟨x,1,none⟩=some (Value.int .i64 (k:Nat))∧w'.cell? ⟨g,k*3,none⟩=some (ac hd 0)∧w'.cell? ⟨g,k*3+1,none⟩=some (ac dd 0)∧w'.cell? ⟨g,k*3+2,none⟩=some (ac dm 0):=fun w' b=>⟨ag (ag cv bA) b,ag (ae wa x 1 _ _ _ kA) b,ag (ag c0 bA) b,ag (ag c1 bA) b,ag (ag c2 bA) b⟩
 have HS0:=hS wa.drew (Below.drew (Below.refl _ _))
 have HSS:Hid (_):=hS
 have HE:Hid (_=wa):=hwa
 have HX:Hid (wa.heap.size=x+1):=sA
 have HK:Hid (wa.heap[x]?=some (.cells (aj m (k:Nat) d c) 39 (0,0))):=kA
 clear kA bA hwa hx hS sA cv c0 c1 c2
 have HC:Hid (_):=hC
 have HA:Hid (_):=hA
 have HLay:Hid (_):=hLay
 have HQb:Hid (_):=hQb
 have HQX:Hid (_):=hQX
 clear hC hA hLay hQb hQX
 go_enter func28,ntmps28
 go_upto_region 1 with fail
 rw[HE.out,HSz.out]
 refine wp_region_held_drew (S:=fun w'=>w'.cell? ⟨X,3,none⟩=some (Value.slice (af g 0) n cc)∧w'.cell? ⟨x,1,none⟩=some (Value.int .i64 (k:Nat))∧w'.cell? ⟨g,k*3,none⟩=some (ac hd 0)∧w'.cell? ⟨g,k*3+1,none⟩=some (ac dd 0)∧w'.cell? ⟨g,k*3+2,none⟩=some (ac dm 0)) (by kernel_rfl) HS0 (fun _=>?_)
 refine aq (i:=0) (v:=ac X 0) ?_
 refine aq (i:=1) (v:=ac X 0) ?_
 refine aq (i:=2) (v:=ac X 3) ?_
 refine aq (i:=3) (v:=Value.slice (af g 0) n cc) ?_
 refine aq (i:=4) (v:=ac x 1) ?_
 refine aq (i:=5) (v:=Value.int .i64 (k:Nat)) ?_
 refine aq (i:=6) (v:=ac g (k*3)) ?_
 refine aq (i:=7) (v:=Value.agg (aA hd dd dm)) ?_
 have b8:Below wa.heap.size wa (wa.drew.alloc (.cells aQ 80)):=(Below.drew (Below.refl _ _)).alloc (Nat.le_refl _) _
 refine cC (i:=8) (ac (x+1) 0) (wa.drew.alloc (.cells aQ 80)) (by kernel_rfl) rfl (by kernel_rfl) (by rw[← HX.out];go_simp) (HSS.out _ b8) ?_
 have s8:(wa.drew.alloc (.cells aQ 80)).heap[x+1]?=some (.cells aQ 80 (0,0)):=by rw[← HX.out];exact aB wa.drew _
 have b9:Below wa.heap.size wa ((((wa.drew.alloc (.cells aQ 80)).setCell ⟨x+1,0,none⟩ (ac hd 0)).setCell ⟨x+1,1,none⟩ (ac dd 0)).setCell ⟨x+1,2,none⟩ (ac dm 0)):=((b8.setCell (by rw[HX.out];exact Nat.le_refl _) _).setCell (by rw[HX.out];exact Nat.le_refl _) _).setCell (by rw[HX.out];exact Nat.le_refl _) _
 have s9:=nr (hd:=hd) (dd:=dd) (dm:=dm) s8
 obtain⟨wb,hwb⟩:∃ y,((((wa.drew.alloc (.cells aQ 80)).setCell ⟨x+1,0,none⟩ (ac hd 0)).setCell ⟨x+1,1,none⟩ (ac dd 0)).setCell ⟨x+1,2,none⟩ (ac dm 0))=y:=⟨_,rfl⟩
 rw[hwb]at b9 s9
 have hth:(wa.drew.alloc (.cells aQ 80)).there (x+1) 0 3:=bI s8 rfl
 have hwb2:(wa.drew.alloc (.cells aQ 80)).setCells (x+1) 0 (aA hd dd dm).toList=wb:=hwb
 refine bJ (i:=9) (by kernel_rfl) rfl (by kernel_rfl) 80 (.tmp 6) (.tmp 16) rfl (x+1) 0 (aA hd dd dm) (by kernel_rfl) (by kernel_rfl) hth (by kernel_rfl) (by kernel_rfl) (by rw[hwb2];exact HSS.out _ b9) ?_
 rw[hwb2]
 refine wpAnyH_done (by kernel_rfl) ?_ _
 have K:=(b9.block x (by rw[HX.out];omega)).trans HK.out
 have bW:Below w.heap.size w wb:=HB.out.trans (b9.mono (by rw[HX.out,HSz.out];omega))
 have q0:wb.cell? ⟨x,0,none⟩=some (.int .i64 m.k):=ae wb x 0 _ _ _ K
 have q1:wb.cell? ⟨x,1,none⟩=some (.int .i64 (k:Nat)):=ae wb x 1 _ _ _ K
 have q2:wb.cell? ⟨x,2,none⟩=some (.int .i64 m.s):=ae wb x 2 _ _ _ K
 have q3:wb.cell? ⟨x,3,none⟩=some (.int .i64 m.f):=ae wb x 3 _ _ _ K
 have q4:wb.cell? ⟨x,4,none⟩=some (.int .i64 m.a):=ae wb x 4 _ _ _ K
 have q5:wb.cell? ⟨x,5,none⟩=some (.int .u32 (m.w:Nat)):=ae wb x 5 _ _ _ K
 have q6:wb.cell? ⟨x,6,none⟩=some (.int .i64 m.n):=ae wb x 6 _ _ _ K
 have q7:wb.cell? ⟨x,7,none⟩=some (.bool m.h):=ae wb x 7 _ _ _ K
 have q8:wb.cell? ⟨x,8,none⟩=some (.slice d m.l c):=ae wb x 8 _ _ _ K
 have p0:wb.cell? ⟨x+1,0,none⟩=some (ac hd 0):=ae wb (x+1) 0 _ _ _ s9
 have p1:wb.cell? ⟨x+1,1,none⟩=some (ac dd 0):=ae wb (x+1) 1 _ _ _ s9
 have p2:wb.cell? ⟨x+1,2,none⟩=some (ac dm 0):=ae wb (x+1) 2 _ _ _ s9
 have HWb:Hid (Below w.heap.size w wb):=bW
 have HKb:Hid (_):=K
 have HCb:Hid (_):=s9
 clear hwb hwb2 hth b9 s9 b8 s8 K bW HE HK HSS HB HS0
 have hq1:=HLay.out wb HWb.out (by rw[HSz.out];exact HKb.out) (by rw[HSz.out];exact HCb.out)
 have HQ1:Hid (Q1 wb):=hq1
 clear hq1
 have hS9:∀ w',Below wb.heap.size wb w'→w'.cell? ⟨x+1,0,none⟩=some (ac hd 0)∧w'.cell? ⟨x+1,1,none⟩=some (ac dd 0)∧w'.cell? ⟨x+1,2,none⟩=some (ac dm 0)∧w'.cell? ⟨x,2,none⟩=some (Value.int .i64 m.s)∧w'.cell? ⟨x,7,none⟩=some (Value.bool m.h)∧w'.cell? ⟨x,8,none⟩=some (Value.slice d m.l c):=fun w' b=>⟨ag p0 b,ag p1 b,ag p2 b,ag q2 b,ag q7 b,ag q8 b⟩
 have HT0:=hS9 wb.drew (Below.drew (Below.refl _ _))
 have HSS9:Hid (_):=hS9
 clear hS9 q1 q2 q3 q4 q5 q6 q7 q8 p0 p1 p2
 go_upto_region 9 with fail
 refine wp_region_held_drew (S:=fun w'=>w'.cell? ⟨x+1,0,none⟩=some (ac hd 0)∧w'.cell? ⟨x+1,1,none⟩=some (ac dd 0)∧w'.cell? ⟨x+1,2,none⟩=some (ac dm 0)∧w'.cell? ⟨x,2,none⟩=some (Value.int .i64 m.s)∧w'.cell? ⟨x,7,none⟩=some (Value.bool m.h)∧w'.cell? ⟨x,8,none⟩=some (Value.slice d m.l c)) (by kernel_rfl) HT0 (fun _=>?_)
 refine aq (i:=0) (v:=Value.agg (aA hd dd dm)) ?_
 refine aq (i:=1) (v:=ac x 2) ?_
 refine aq (i:=2) (v:=Value.int .i64 m.s) ?_
 refine aq (i:=4) (v:=ac x 8) ?_
 refine aq (i:=5) (v:=Value.slice d m.l c) ?_
 refine aq (i:=6) (v:=ac x 7) ?_
 refine aq (i:=7) (v:=Value.bool m.h) ?_
 refine aI (i:=3) 55 #[Value.agg (aA hd dd dm),Value.int .i64 m.s] (by kernel_rfl) rfl (by kernel_rfl) (by go_simp) ?_
 refine (show Calls prog 55 #[Value.agg (aA hd dd dm),Value.int .i64 m.s] wb.drew (fun r w'=>r=.returned (.iface T (ac P 0))∧Below wb.drew.heap.size wb.drew w') from HA.out wb.drew).mono ?_
 rintro r w3 ⟨rfl,b3⟩
 have b3':Below wb.heap.size wb w3:=((Below.drew (Below.refl wb.heap.size wb)).trans b3)
 have HQ3:Hid (Q1 w3):=HQb.out wb w3 HQ1.out b3'
 refine⟨_,rfl,HSS9.out w3 b3',?_⟩
 have HS3:=HSS9.out w3 b3'
 refine aI (i:=8) Fn #[ac P 0,Value.slice d m.l c,Value.bool m.h] (by kernel_rfl) rfl (by kernel_rfl) (by go_simp) ?_
 refine (show Calls prog Fn #[ac P 0,Value.slice d m.l c,Value.bool m.h] w3 (fun r w'=>r=.returned (.int .i64 E)∧Hid (Q2 w')) from HC.out w3 HQ3.out).mono ?_
 rintro r w4 ⟨rfl,H4⟩
 obtain⟨k4,k5⟩:=HQX.out w4 H4
 rw[HSz.out]at k4 k5
 have HS4:w4.cell? ⟨x+1,0,none⟩=some (ac hd 0)∧w4.cell? ⟨x+1,1,none⟩=some (ac dd 0)∧w4.cell? ⟨x+1,2,none⟩=some (ac dm 0)∧w4.cell? ⟨x,2,none⟩=some (Value.int .i64 m.s)∧w4.cell? ⟨x,7,none⟩=some (Value.bool m.h)∧w4.cell? ⟨x,8,none⟩=some (Value.slice d m.l c):=⟨ae w4 (x+1) 0 _ _ _ k5,ae w4 (x+1) 1 _ _ _ k5,ae w4 (x+1) 2 _ _ _ k5,ae w4 x 2 _ _ _ k4,ae w4 x 7 _ _ _ k4,ae w4 x 8 _ _ _ k4⟩
 refine⟨_,rfl,HS4,?_⟩
 refine aq (i:=9) (v:=Value.int .i64 E) ?_
 refine aq (i:=10) (v:=Value.int .i64 (-1)) ?_
 refine aK (a':={ tmps:=#[ac X 0,Value.agg (aj m (k:Nat) d c),undef,ac x 0,Value.int .i64 E,Value.int .i64 (-1),ac (x+1) 0,undef,undef,ac X 0,ac X 0,ac X 3,Value.slice (af g 0) n cc,ac x 1,Value.int .i64 (k:Nat),ac g (k*3),Value.agg (aA hd dd dm),ac x 0,Value.int .i64 m.k,Value.bool false,Value.bool false,undef,undef,undef,undef,undef,undef,Value.bool false,Value.bool false,Value.bool false,undef,undef,undef,undef,undef,Value.bool true,Value.bool true,Value.agg (aA hd dd dm),ac x 2,Value.int .i64 m.s,Value.iface T (ac P 0),ac x 8,Value.slice d m.l c,ac x 7,Value.bool m.h,Value.int .i64 E,undef,undef,undef,undef,undef,undef,undef,undef,undef,undef,undef,undef,undef,undef,undef,undef,undef,undef,undef,undef,undef,undef,undef,undef,undef,undef,undef,undef,undef,undef,undef,undef,undef,undef,undef,undef,undef,undef,undef,undef,undef,undef,undef,undef,undef,undef,undef,undef,undef,undef,undef,undef,undef,undef],defers:=[] }) (l':=#[true,true,true,true,true,true,true,true,true,true,true]) (by kernel_rfl) (by kernel_rfl) ?_
 refine wpAnyH_done (by kernel_rfl) ?_ _
 clear HS4 HS3 HT0 k4 k5 b3 b3'
 go_wp2_with fail
 go_ret2
 exact⟨rfl,H4⟩
theorem aaf (X g cc n k hd dd dm:Nat) (m:Mv) (d:Option Addr) (c:Nat) (T:TypeId) (Fn:FuncId) (P:Nat) (E:Int) (w:World) (N:Nat) (hN:m.n=((N:Nat):Int)) (hN2:N≤1048576) (Q1 Q2 Z:World→Prop) (cv:w.cell? ⟨X,3,none⟩=some (.slice (af g 0) n cc)) (c0:w.cell? ⟨g,k*3,none⟩=some (ac hd 0)) (c1:w.cell? ⟨g,k*3+1,none⟩=some (ac dd 0)) (c2:w.cell? ⟨g,k*3+2,none⟩=some (ac dm 0)) (hlt:((k:Nat):Int) < ((n:Nat):Int)) (h2:(m.k == 2)=false) (h3:(m.k == 3)=false) (h4:(m.k == 4)=false) (h1:(m.k == 1)=false) (h5:(m.k == 5)=true)
  (hA:∀ w1,Calls prog 55 #[.agg (aA hd dd dm),.int .i64 m.s] w1 fun r w'=>r=.returned (.iface T (ac P 0))∧Below w1.heap.size w1 w')
  (hM : ∀ w1, (method 438 T (.pointer (some ⟨P, 0, none⟩)) "Tick").run prog w1 = .ok (Fn, .pointer (some ⟨P, 0, none⟩)) w1) (hF : ∀ u w1, (callFunc Fn u).run prog w1 = .ok (.enter Fn u) w1)
  (hLay:∀ w1,Below w.heap.size w w1→w1.heap[w.heap.size]?=some (.cells (aj m (k:Nat) d c) 39 (0,0))→w1.heap[w.heap.size+1]?=some (.cells (aA hd dd dm) 80 (0,0))→Q1 w1) (hQb:∀ w1 w2,Q1 w1→Below w1.heap.size w1 w2→Q1 w2)
  (hC:∀ w1,Q1 w1→Calls prog Fn #[ac P 0,.int .i64 m.n] w1 fun r w'=>r=.returned (.int .i64 E)∧Hid (Q2 w')) (hQX:∀ w1,Hid (Q2 w1)→w1.heap[w.heap.size]?=some (.cells (aj m (k:Nat) d c) 39 (0,0))∧w1.heap[w.heap.size+1]?=some (.cells (aA hd dd dm) 80 (0,0)))
  (hI:∀ w1,Hid (Q2 w1)→Calls prog 56 #[ac X 0,.int .i64 E,.agg #[.int .i64 5,.int .i64 (k:Nat),.int .i64 m.s,.int .u32 0,.int .u32 (N:Nat),.bool false,.int .i64 0,.slice none 0 0]] w1 fun r w'=>r=.returned (.tuple #[])∧Hid (Z w')) :
  Calls prog 28 #[ac X 0,.agg (aj m (k:Nat) d c)] w fun r w'=>r=.returned (.tuple #[.int .i64 E,.int .i64 (-1)])∧Hid (Z w'):=by
 have kA:=aB w (.cells (aj m (k:Nat) d c) 39)
 have bA:=aF (Below.refl _ w) (.cells (aj m (k:Nat) d c) 39)
 have sA:(w.alloc (.cells (aj m (k:Nat) d c) 39)).heap.size=w.heap.size+1:=io _ _
 obtain⟨wa,hwa⟩:∃ y,w.alloc (.cells (aj m (k:Nat) d c) 39)=y:=⟨_,rfl⟩
 rw[hwa]at kA bA sA
 obtain⟨x,hx⟩:∃ y,w.heap.size=y:=⟨_,rfl⟩
 have HB:Hid (Below w.heap.size w wa):=bA
 have HSz:Hid (w.heap.size=x):=hx
 rw[hx]at kA sA
 have hS:∀ w',Below wa.heap.size wa w'→w'.cell? ⟨X,3,none⟩=some (Value.slice (af g 0) n cc)∧w'.cell? ⟨x,1,none⟩=some (Value.int .i64 (k:Nat))∧w'.cell? ⟨g,k*3,none⟩=some (ac hd 0)∧w'.cell? ⟨g,k*3+1,none⟩=some (ac dd 0)∧w'.cell? ⟨g,k*3+2,none⟩=some (ac dm 0):=fun w' b=>⟨ag (ag cv bA) b,ag (ae wa x 1 _ _ _ kA) b,ag (ag c0 bA) b,ag (ag c1 bA) b,ag (ag c2 bA) b⟩
 have HS0:=hS wa.drew (Below.drew (Below.refl _ _))
 have HSS:Hid (_):=hS
 have HE:Hid (_=wa):=hwa
 have HX:Hid (wa.heap.size=x+1):=sA
 have HK:Hid (wa.heap[x]?=some (.cells (aj m (k:Nat) d c) 39 (0,0))):=kA
 clear kA bA hwa hx hS sA cv c0 c1 c2
 have HC:Hid (_):=hC
 have HA:Hid (_):=hA
 have HLay:Hid (_):=hLay
 have HQb:Hid (_):=hQb
 have HQX:Hid (_):=hQX
 clear hC hA hLay hQb hQX
 have HI:Hid (_):=hI
 have HN:Hid (_):=hN
 clear hI hN
 go_enter func28,ntmps28
 go_upto_region 1 with fail
 rw[HE.out,HSz.out]
 refine wp_region_held_drew (S:=fun w'=>w'.cell? ⟨X,3,none⟩=some (Value.slice (af g 0) n cc)∧w'.cell? ⟨x,1,none⟩=some (Value.int .i64 (k:Nat))∧w'.cell? ⟨g,k*3,none⟩=some (ac hd 0)∧w'.cell? ⟨g,k*3+1,none⟩=some (ac dd 0)∧w'.cell? ⟨g,k*3+2,none⟩=some (ac dm 0)) (by kernel_rfl) HS0 (fun _=>?_)
 refine aq (i:=0) (v:=ac X 0) ?_
 refine aq (i:=1) (v:=ac X 0) ?_
 refine aq (i:=2) (v:=ac X 3) ?_
 refine aq (i:=3) (v:=Value.slice (af g 0) n cc) ?_
 refine aq (i:=4) (v:=ac x 1) ?_
 refine aq (i:=5) (v:=Value.int .i64 (k:Nat)) ?_
 refine aq (i:=6) (v:=ac g (k*3)) ?_
 refine aq (i:=7) (v:=Value.agg (aA hd dd dm)) ?_
 have b8:Below wa.heap.size wa (wa.drew.alloc (.cells aQ 80)):=(Below.drew (Below.refl _ _)).alloc (Nat.le_refl _) _
 refine cC (i:=8) (ac (x+1) 0) (wa.drew.alloc (.cells aQ 80)) (by kernel_rfl) rfl (by kernel_rfl) (by rw[← HX.out];go_simp) (HSS.out _ b8) ?_
 have s8:(wa.drew.alloc (.cells aQ 80)).heap[x+1]?=some (.cells aQ 80 (0,0)):=by rw[← HX.out];exact aB wa.drew _
 have b9:Below wa.heap.size wa ((((wa.drew.alloc (.cells aQ 80)).setCell ⟨x+1,0,none⟩ (ac hd 0)).setCell ⟨x+1,1,none⟩ (ac dd 0)).setCell ⟨x+1,2,none⟩ (ac dm 0)):=((b8.setCell (by rw[HX.out];exact Nat.le_refl _) _).setCell (by rw[HX.out];exact Nat.le_refl _) _).setCell (by rw[HX.out];exact Nat.le_refl _) _
 have s9:=nr (hd:=hd) (dd:=dd) (dm:=dm) s8
 obtain⟨wb,hwb⟩:∃ y,((((wa.drew.alloc (.cells aQ 80)).setCell ⟨x+1,0,none⟩ (ac hd 0)).setCell ⟨x+1,1,none⟩ (ac dd 0)).setCell ⟨x+1,2,none⟩ (ac dm 0))=y:=⟨_,rfl⟩
 rw[hwb]at b9 s9
 have hth:(wa.drew.alloc (.cells aQ 80)).there (x+1) 0 3:=bI s8 rfl
 have hwb2:(wa.drew.alloc (.cells aQ 80)).setCells (x+1) 0 (aA hd dd dm).toList=wb:=hwb
 refine bJ (i:=9) (by kernel_rfl) rfl (by kernel_rfl) 80 (.tmp 6) (.tmp 16) rfl (x+1) 0 (aA hd dd dm) (by kernel_rfl) (by kernel_rfl) hth (by kernel_rfl) (by kernel_rfl) (by rw[hwb2];exact HSS.out _ b9) ?_
 rw[hwb2]
 refine wpAnyH_done (by kernel_rfl) ?_ _
 have K:=(b9.block x (by rw[HX.out];omega)).trans HK.out
 have bW:Below w.heap.size w wb:=HB.out.trans (b9.mono (by rw[HX.out,HSz.out];omega))
 have q0:wb.cell? ⟨x,0,none⟩=some (.int .i64 m.k):=ae wb x 0 _ _ _ K
 have q1:wb.cell? ⟨x,1,none⟩=some (.int .i64 (k:Nat)):=ae wb x 1 _ _ _ K
 have q2:wb.cell? ⟨x,2,none⟩=some (.int .i64 m.s):=ae wb x 2 _ _ _ K
 have q3:wb.cell? ⟨x,3,none⟩=some (.int .i64 m.f):=ae wb x 3 _ _ _ K
 have q4:wb.cell? ⟨x,4,none⟩=some (.int .i64 m.a):=ae wb x 4 _ _ _ K
 have q5:wb.cell? ⟨x,5,none⟩=some (.int .u32 (m.w:Nat)):=ae wb x 5 _ _ _ K
 have q6:wb.cell? ⟨x,6,none⟩=some (.int .i64 m.n):=ae wb x 6 _ _ _ K
 have q7:wb.cell? ⟨x,7,none⟩=some (.bool m.h):=ae wb x 7 _ _ _ K
 have q8:wb.cell? ⟨x,8,none⟩=some (.slice d m.l c):=ae wb x 8 _ _ _ K
 have p0:wb.cell? ⟨x+1,0,none⟩=some (ac hd 0):=ae wb (x+1) 0 _ _ _ s9
 have p1:wb.cell? ⟨x+1,1,none⟩=some (ac dd 0):=ae wb (x+1) 1 _ _ _ s9
 have p2:wb.cell? ⟨x+1,2,none⟩=some (ac dm 0):=ae wb (x+1) 2 _ _ _ s9
 have HWb:Hid (Below w.heap.size w wb):=bW
 have HKb:Hid (_):=K
 have HCb:Hid (_):=s9
 clear hwb hwb2 hth b9 s9 b8 s8 K bW HE HK HSS HB HS0
 have hq1:=HLay.out wb HWb.out (by rw[HSz.out];exact HKb.out) (by rw[HSz.out];exact HCb.out)
 have HQ1:Hid (Q1 wb):=hq1
 clear hq1
 have hS9:∀ w',Below wb.heap.size wb w'→w'.cell? ⟨x+1,0,none⟩=some (ac hd 0)∧w'.cell? ⟨x+1,1,none⟩=some (ac dd 0)∧w'.cell? ⟨x+1,2,none⟩=some (ac dm 0)∧w'.cell? ⟨x,2,none⟩=some (Value.int .i64 m.s)∧w'.cell? ⟨x,6,none⟩=some (Value.int .i64 m.n):=fun w' b=>⟨ag p0 b,ag p1 b,ag p2 b,ag q2 b,ag q6 b⟩
 have HT0:=hS9 wb.drew (Below.drew (Below.refl _ _))
 have HSS9:Hid (_):=hS9
 clear hS9 q1 q2 q3 q4 q5 q6 q7 q8 p0 p1 p2
 go_upto_region 11 with fail
 refine wp_region_held_drew (S:=fun w'=>w'.cell? ⟨x+1,0,none⟩=some (ac hd 0)∧w'.cell? ⟨x+1,1,none⟩=some (ac dd 0)∧w'.cell? ⟨x+1,2,none⟩=some (ac dm 0)∧w'.cell? ⟨x,2,none⟩=some (Value.int .i64 m.s)∧w'.cell? ⟨x,6,none⟩=some (Value.int .i64 m.n)) (by kernel_rfl) HT0 (fun _=>?_)
 refine aq (i:=0) (v:=Value.agg (aA hd dd dm)) ?_
 refine aq (i:=1) (v:=ac x 2) ?_
 refine aq (i:=2) (v:=Value.int .i64 m.s) ?_
 refine aq (i:=4) (v:=ac x 6) ?_
 refine aq (i:=5) (v:=Value.int .i64 m.n) ?_
 refine aI (i:=3) 55 #[Value.agg (aA hd dd dm),Value.int .i64 m.s] (by kernel_rfl) rfl (by kernel_rfl) (by go_simp) ?_
 refine (show Calls prog 55 #[Value.agg (aA hd dd dm),Value.int .i64 m.s] wb.drew (fun r w'=>r=.returned (.iface T (ac P 0))∧Below wb.drew.heap.size wb.drew w') from HA.out wb.drew).mono ?_
 rintro r w3 ⟨rfl,b3⟩
 have b3':Below wb.heap.size wb w3:=((Below.drew (Below.refl wb.heap.size wb)).trans b3)
 have HQ3:Hid (Q1 w3):=HQb.out wb w3 HQ1.out b3'
 refine⟨_,rfl,HSS9.out w3 b3',?_⟩
 have HS3:=HSS9.out w3 b3'
 refine aI (i:=6) Fn #[ac P 0,Value.int .i64 m.n] (by kernel_rfl) rfl (by kernel_rfl) (by go_simp) ?_
 refine (show Calls prog Fn #[ac P 0,Value.int .i64 m.n] w3 (fun r w'=>r=.returned (.int .i64 E)∧Hid (Q2 w')) from HC.out w3 HQ3.out).mono ?_
 rintro r w4 ⟨rfl,H4⟩
 obtain⟨k4,k5⟩:=HQX.out w4 H4
 rw[HSz.out]at k4 k5
 have HS4:w4.cell? ⟨x+1,0,none⟩=some (ac hd 0)∧w4.cell? ⟨x+1,1,none⟩=some (ac dd 0)∧w4.cell? ⟨x+1,2,none⟩=some (ac dm 0)∧w4.cell? ⟨x,2,none⟩=some (Value.int .i64 m.s)∧w4.cell? ⟨x,6,none⟩=some (Value.int .i64 m.n):=⟨ae w4 (x+1) 0 _ _ _ k5,ae w4 (x+1) 1 _ _ _ k5,ae w4 (x+1) 2 _ _ _ k5,ae w4 x 2 _ _ _ k4,ae w4 x 6 _ _ _ k4⟩
 refine⟨_,rfl,HS4,?_⟩
 refine aq (i:=7) (v:=Value.int .i64 E) ?_
 refine aK (a':={ tmps:=#[ac X 0,Value.agg (aj m (k:Nat) d c),undef,ac x 0,Value.int .i64 0,Value.int .i64 0,ac (x+1) 0,Value.int .i64 E,undef,ac X 0,ac X 0,ac X 3,Value.slice (af g 0) n cc,ac x 1,Value.int .i64 (k:Nat),ac g (k*3),Value.agg (aA hd dd dm),ac x 0,Value.int .i64 m.k,Value.bool false,Value.bool false,undef,undef,undef,undef,undef,undef,Value.bool false,Value.bool false,Value.bool false,undef,undef,undef,undef,undef,Value.bool false,Value.bool false,undef,undef,undef,undef,undef,undef,undef,undef,undef,Value.bool true,Value.bool true,Value.agg (aA hd dd dm),ac x 2,Value.int .i64 m.s,Value.iface T (ac P 0),ac x 6,Value.int .i64 m.n,Value.int .i64 E,undef,undef,undef,undef,undef,undef,undef,undef,undef,undef,undef,undef,undef,undef,undef,undef,undef,undef,undef,undef,undef,undef,undef,undef,undef,undef,undef,undef,undef,undef,undef,undef,undef,undef,undef,undef,undef,undef,undef,undef,undef,undef,undef,undef,undef],defers:=[] }) (l':=#[true,true,true,true,true,true,true,true]) (by kernel_rfl) (by kernel_rfl) ?_
 refine wpAnyH_done (by kernel_rfl) ?_ _
 have q1:w4.cell? ⟨x,1,none⟩=some (.int .i64 (k:Nat)):=ae w4 x 1 _ _ _ k4
 have q2:w4.cell? ⟨x,2,none⟩=some (.int .i64 m.s):=ae w4 x 2 _ _ _ k4
 have q6:w4.cell? ⟨x,6,none⟩=some (.int .i64 (N:Nat)):=by rw[← HN.out];exact ae w4 x 6 _ _ _ k4
 have hIc:=(show Calls prog 56 #[ac X 0,.int .i64 E,.agg #[.int .i64 5,.int .i64 (k:Nat),.int .i64 m.s,.int .u32 0,.int .u32 (N:Nat),.bool false,.int .i64 0,.slice none 0 0]] w4 (fun r w'=>r=.returned (.tuple #[])∧Hid (Z w')) from HI.out w4 H4)
 clear HS4 HS3 HT0 k4 k5 b3 b3'
 go_wp2_with fail
 refine hIc.mono ?_
 rintro r w5 ⟨rfl,H5⟩
 go_wp2_with fail
 go_ret2
 exact⟨rfl,H5⟩
theorem aag (X g cc n k hd dd dm:Nat) (m:Mv) (d:Option Addr) (c:Nat) (T:TypeId) (Fn:FuncId) (P:Nat) (E:Int) (w:World) (Q1 Q2 Z:World→Prop) (cv:w.cell? ⟨X,3,none⟩=some (.slice (af g 0) n cc)) (c0:w.cell? ⟨g,k*3,none⟩=some (ac hd 0)) (c1:w.cell? ⟨g,k*3+1,none⟩=some (ac dd 0)) (c2:w.cell? ⟨g,k*3+2,none⟩=some (ac dm 0)) (hlt:((k:Nat):Int) < ((n:Nat):Int)) (h2:(m.k == 2)=false) (h3:(m.k == 3)=false) (h4:(m.k == 4)=false) (h1:(m.k == 1)=false) (h5:(m.k == 5)=false) (h6:(m.k == 6)=true)
  (hA:∀ w1,Calls prog 55 #[.agg (aA hd dd dm),.int .i64 m.s] w1 fun r w'=>r=.returned (.iface T (ac P 0))∧Below w1.heap.size w1 w')
  (hM : ∀ w1, (method 438 T (.pointer (some ⟨P, 0, none⟩)) "Ack").run prog w1 = .ok (Fn, .pointer (some ⟨P, 0, none⟩)) w1) (hF : ∀ u w1, (callFunc Fn u).run prog w1 = .ok (.enter Fn u) w1)
  (hLay:∀ w1,Below w.heap.size w w1→w1.heap[w.heap.size]?=some (.cells (aj m (k:Nat) d c) 39 (0,0))→w1.heap[w.heap.size+1]?=some (.cells (aA hd dd dm) 80 (0,0))→Q1 w1) (hQb:∀ w1 w2,Q1 w1→Below w1.heap.size w1 w2→Q1 w2)
  (hC:∀ w1,Q1 w1→Calls prog Fn #[ac P 0] w1 fun r w'=>r=.returned (.int .i64 E)∧Hid (Q2 w')) (hQX:∀ w1,Hid (Q2 w1)→w1.heap[w.heap.size]?=some (.cells (aj m (k:Nat) d c) 39 (0,0))∧w1.heap[w.heap.size+1]?=some (.cells (aA hd dd dm) 80 (0,0)))
  (hI:∀ w1,Hid (Q2 w1)→Calls prog 56 #[ac X 0,.int .i64 E,.agg #[.int .i64 6,.int .i64 (k:Nat),.int .i64 m.s,.int .u32 0,.int .u32 0,.bool false,.int .i64 0,.slice none 0 0]] w1 fun r w'=>r=.returned (.tuple #[])∧Hid (Z w')) :
  Calls prog 28 #[ac X 0,.agg (aj m (k:Nat) d c)] w fun r w'=>r=.returned (.tuple #[.int .i64 E,.int .i64 (-1)])∧Hid (Z w'):=by
 have kA:=aB w (.cells (aj m (k:Nat) d c) 39)
 have bA:=aF (Below.refl _ w) (.cells (aj m (k:Nat) d c) 39)
 have sA:(w.alloc (.cells (aj m (k:Nat) d c) 39)).heap.size=w.heap.size+1:=io _ _
 obtain⟨wa,hwa⟩:∃ y,w.alloc (.cells (aj m (k:Nat) d c) 39)=y:=⟨_,rfl⟩
 rw[hwa]at kA bA sA
 obtain⟨x,hx⟩:∃ y,w.heap.size=y:=⟨_,rfl⟩
 have HB:Hid (Below w.heap.size w wa):=bA
 have HSz:Hid (w.heap.size=x):=hx
 rw[hx]at kA sA
 have hS:∀ w',Below wa.heap.size wa w'→w'.cell? ⟨X,3,none⟩=some (Value.slice (af g 0) n cc)∧w'.cell? ⟨x,1,none⟩=some (Value.int .i64 (k:Nat))∧w'.cell? ⟨g,k*3,none⟩=some (ac hd 0)∧w'.cell? ⟨g,k*3+1,none⟩=some (ac dd 0)∧w'.cell? ⟨g,k*3+2,none⟩=some (ac dm 0):=fun w' b=>⟨ag (ag cv bA) b,ag (ae wa x 1 _ _ _ kA) b,ag (ag c0 bA) b,ag (ag c1 bA) b,ag (ag c2 bA) b⟩
 have HS0:=hS wa.drew (Below.drew (Below.refl _ _))
 have HSS:Hid (_):=hS
 have HE:Hid (_=wa):=hwa
 have HX:Hid (wa.heap.size=x+1):=sA
 have HK:Hid (wa.heap[x]?=some (.cells (aj m (k:Nat) d c) 39 (0,0))):=kA
 clear kA bA hwa hx hS sA cv c0 c1 c2
 have HC:Hid (_):=hC
 have HA:Hid (_):=hA
 have HLay:Hid (_):=hLay
 have HQb:Hid (_):=hQb
 have HQX:Hid (_):=hQX
 clear hC hA hLay hQb hQX
 have HI:Hid (_):=hI
 clear hI
 go_enter func28,ntmps28
 go_upto_region 1 with fail
 rw[HE.out,HSz.out]
 refine wp_region_held_drew (S:=fun w'=>w'.cell? ⟨X,3,none⟩=some (Value.slice (af g 0) n cc)∧w'.cell? ⟨x,1,none⟩=some (Value.int .i64 (k:Nat))∧w'.cell? ⟨g,k*3,none⟩=some (ac hd 0)∧w'.cell? ⟨g,k*3+1,none⟩=some (ac dd 0)∧w'.cell? ⟨g,k*3+2,none⟩=some (ac dm 0)) (by kernel_rfl) HS0 (fun _=>?_)
 refine aq (i:=0) (v:=ac X 0) ?_
 refine aq (i:=1) (v:=ac X 0) ?_
 refine aq (i:=2) (v:=ac X 3) ?_
 refine aq (i:=3) (v:=Value.slice (af g 0) n cc) ?_
 refine aq (i:=4) (v:=ac x 1) ?_
 refine aq (i:=5) (v:=Value.int .i64 (k:Nat)) ?_
 refine aq (i:=6) (v:=ac g (k*3)) ?_
 refine aq (i:=7) (v:=Value.agg (aA hd dd dm)) ?_
 have b8:Below wa.heap.size wa (wa.drew.alloc (.cells aQ 80)):=(Below.drew (Below.refl _ _)).alloc (Nat.le_refl _) _
 refine cC (i:=8) (ac (x+1) 0) (wa.drew.alloc (.cells aQ 80)) (by kernel_rfl) rfl (by kernel_rfl) (by rw[← HX.out];go_simp) (HSS.out _ b8) ?_
 have s8:(wa.drew.alloc (.cells aQ 80)).heap[x+1]?=some (.cells aQ 80 (0,0)):=by rw[← HX.out];exact aB wa.drew _
 have b9:Below wa.heap.size wa ((((wa.drew.alloc (.cells aQ 80)).setCell ⟨x+1,0,none⟩ (ac hd 0)).setCell ⟨x+1,1,none⟩ (ac dd 0)).setCell ⟨x+1,2,none⟩ (ac dm 0)):=((b8.setCell (by rw[HX.out];exact Nat.le_refl _) _).setCell (by rw[HX.out];exact Nat.le_refl _) _).setCell (by rw[HX.out];exact Nat.le_refl _) _
 have s9:=nr (hd:=hd) (dd:=dd) (dm:=dm) s8
 obtain⟨wb,hwb⟩:∃ y,((((wa.drew.alloc (.cells aQ 80)).setCell ⟨x+1,0,none⟩ (ac hd 0)).setCell ⟨x+1,1,none⟩ (ac dd 0)).setCell ⟨x+1,2,none⟩ (ac dm 0))=y:=⟨_,rfl⟩
 rw[hwb]at b9 s9
 have hth:(wa.drew.alloc (.cells aQ 80)).there (x+1) 0 3:=bI s8 rfl
 have hwb2:(wa.drew.alloc (.cells aQ 80)).setCells (x+1) 0 (aA hd dd dm).toList=wb:=hwb
 refine bJ (i:=9) (by kernel_rfl) rfl (by kernel_rfl) 80 (.tmp 6) (.tmp 16) rfl (x+1) 0 (aA hd dd dm) (by kernel_rfl) (by kernel_rfl) hth (by kernel_rfl) (by kernel_rfl) (by rw[hwb2];exact HSS.out _ b9) ?_
 rw[hwb2]
 refine wpAnyH_done (by kernel_rfl) ?_ _
 have K:=(b9.block x (by rw[HX.out];omega)).trans HK.out
 have bW:Below w.heap.size w wb:=HB.out.trans (b9.mono (by rw[HX.out,HSz.out];omega))
 have q0:wb.cell? ⟨x,0,none⟩=some (.int .i64 m.k):=ae wb x 0 _ _ _ K
 have q1:wb.cell? ⟨x,1,none⟩=some (.int .i64 (k:Nat)):=ae wb x 1 _ _ _ K
 have q2:wb.cell? ⟨x,2,none⟩=some (.int .i64 m.s):=ae wb x 2 _ _ _ K
 have q3:wb.cell? ⟨x,3,none⟩=some (.int .i64 m.f):=ae wb x 3 _ _ _ K
 have q4:wb.cell? ⟨x,4,none⟩=some (.int .i64 m.a):=ae wb x 4 _ _ _ K
 have q5:wb.cell? ⟨x,5,none⟩=some (.int .u32 (m.w:Nat)):=ae wb x 5 _ _ _ K
 have q6:wb.cell? ⟨x,6,none⟩=some (.int .i64 m.n):=ae wb x 6 _ _ _ K
 have q7:wb.cell? ⟨x,7,none⟩=some (.bool m.h):=ae wb x 7 _ _ _ K
 have q8:wb.cell? ⟨x,8,none⟩=some (.slice d m.l c):=ae wb x 8 _ _ _ K
 have p0:wb.cell? ⟨x+1,0,none⟩=some (ac hd 0):=ae wb (x+1) 0 _ _ _ s9
 have p1:wb.cell? ⟨x+1,1,none⟩=some (ac dd 0):=ae wb (x+1) 1 _ _ _ s9
 have p2:wb.cell? ⟨x+1,2,none⟩=some (ac dm 0):=ae wb (x+1) 2 _ _ _ s9
 have HWb:Hid (Below w.heap.size w wb):=bW
 have HKb:Hid (_):=K
 have HCb:Hid (_):=s9
 clear hwb hwb2 hth b9 s9 b8 s8 K bW HE HK HSS HB HS0
 have hq1:=HLay.out wb HWb.out (by rw[HSz.out];exact HKb.out) (by rw[HSz.out];exact HCb.out)
 have HQ1:Hid (Q1 wb):=hq1
 clear hq1
 have hAc:=(show Calls prog 55 #[Value.agg (aA hd dd dm),Value.int .i64 m.s] wb (fun r w'=>r=.returned (.iface T (ac P 0))∧Below wb.heap.size wb w') from HA.out wb)
 go_wp2_with fail
 refine hAc.mono ?_
 rintro r w3 ⟨rfl,b3'⟩
 clear hAc
 have hCc:=(show Calls prog Fn #[ac P 0] w3 (fun r w'=>r=.returned (.int .i64 E)∧Hid (Q2 w')) from HC.out w3 (HQb.out wb w3 HQ1.out b3'))
 clear q0 q1 q2 q3 q4 q5 q6 q7 q8 p0 p1 p2 b3'
 go_wp2_with fail
 refine hCc.mono ?_
 rintro r w4 ⟨rfl,H4⟩
 clear hCc
 obtain⟨k4,k5⟩:=HQX.out w4 H4
 rw[HSz.out]at k4 k5
 have q1:w4.cell? ⟨x,1,none⟩=some (.int .i64 (k:Nat)):=ae w4 x 1 _ _ _ k4
 have q2:w4.cell? ⟨x,2,none⟩=some (.int .i64 m.s):=ae w4 x 2 _ _ _ k4
 have hIc:=(show Calls prog 56 #[ac X 0,.int .i64 E,.agg #[.int .i64 6,.int .i64 (k:Nat),.int .i64 m.s,.int .u32 0,.int .u32 0,.bool false,.int .i64 0,.slice none 0 0]] w4 (fun r w'=>r=.returned (.tuple #[])∧Hid (Z w')) from HI.out w4 H4)
 clear k4 k5
 go_wp2_with fail
 refine hIc.mono ?_
 rintro r w5 ⟨rfl,H5⟩
 go_wp2_with fail
 go_ret2
 exact⟨rfl,H5⟩
theorem aah (X g cc n k hd dd dm:Nat) (m:Mv) (d:Option Addr) (c:Nat) (E:Int) (w:World) (Q1 Q2 Z:World→Prop) (cv:w.cell? ⟨X,3,none⟩=some (.slice (af g 0) n cc)) (c0:w.cell? ⟨g,k*3,none⟩=some (ac hd 0)) (c1:w.cell? ⟨g,k*3+1,none⟩=some (ac dd 0)) (c2:w.cell? ⟨g,k*3+2,none⟩=some (ac dm 0)) (hlt:((k:Nat):Int) < ((n:Nat):Int)) (h2:(m.k == 2)=false) (h3:(m.k == 3)=false) (h4:(m.k == 4)=false) (h1:(m.k == 1)=false) (h5:(m.k == 5)=false) (h6:(m.k == 6)=false) (h7:(m.k == 7)=true)
  (hLay:∀ w1,Below w.heap.size w w1→w1.heap[w.heap.size]?=some (.cells (aj m (k:Nat) d c) 39 (0,0))→w1.heap[w.heap.size+1]?=some (.cells (aA hd dd dm) 80 (0,0))→Q1 w1) (hQb:∀ w1 w2,Q1 w1→Below w1.heap.size w1 w2→Q1 w2)
  (hC:∀ w1,Q1 w1→Calls prog 57 #[ac X 0,.agg #[.int .i64 7,.int .i64 (k:Nat),.int .i64 m.s,.int .u32 0,.int .u32 0,.bool false,.int .i64 0,.slice none 0 0]] w1 fun r w'=>r=.returned (.tuple #[])∧Hid (Q2 w')) (hQX:∀ w1,Hid (Q2 w1)→w1.heap[w.heap.size]?=some (.cells (aj m (k:Nat) d c) 39 (0,0))∧w1.heap[w.heap.size+1]?=some (.cells (aA hd dd dm) 80 (0,0)))
  (hI:∀ w1,Hid (Q2 w1)→Calls prog 58 #[.agg (aA hd dd dm),.agg (aj m (k:Nat) d c)] w1 fun r w'=>r=.returned (.int .i64 E)∧Hid (Z w')) :
  Calls prog 28 #[ac X 0,.agg (aj m (k:Nat) d c)] w fun r w'=>r=.returned (.tuple #[.int .i64 E,.int .i64 (-1)])∧Hid (Z w'):=by
 have kA:=aB w (.cells (aj m (k:Nat) d c) 39)
 have bA:=aF (Below.refl _ w) (.cells (aj m (k:Nat) d c) 39)
 have sA:(w.alloc (.cells (aj m (k:Nat) d c) 39)).heap.size=w.heap.size+1:=io _ _
 obtain⟨wa,hwa⟩:∃ y,w.alloc (.cells (aj m (k:Nat) d c) 39)=y:=⟨_,rfl⟩
 rw[hwa]at kA bA sA
 obtain⟨x,hx⟩:∃ y,w.heap.size=y:=⟨_,rfl⟩
 have HB:Hid (Below w.heap.size w wa):=bA
 have HSz:Hid (w.heap.size=x):=hx
 rw[hx]at kA sA
 have hS:∀ w',Below wa.heap.size wa w'→w'.cell? ⟨X,3,none⟩=some (Value.slice (af g 0) n cc)∧w'.cell? ⟨x,1,none⟩=some (Value.int .i64 (k:Nat))∧w'.cell? ⟨g,k*3,none⟩=some (ac hd 0)∧w'.cell? ⟨g,k*3+1,none⟩=some (ac dd 0)∧w'.cell? ⟨g,k*3+2,none⟩=some (ac dm 0):=fun w' b=>⟨ag (ag cv bA) b,ag (ae wa x 1 _ _ _ kA) b,ag (ag c0 bA) b,ag (ag c1 bA) b,ag (ag c2 bA) b⟩
 have HS0:=hS wa.drew (Below.drew (Below.refl _ _))
 have HSS:Hid (_):=hS
 have HE:Hid (_=wa):=hwa
 have HX:Hid (wa.heap.size=x+1):=sA
 have HK:Hid (wa.heap[x]?=some (.cells (aj m (k:Nat) d c) 39 (0,0))):=kA
 clear kA bA hwa hx hS sA cv c0 c1 c2
 have HI:Hid (_):=hI
 have HC:Hid (_):=hC
 have HLay:Hid (_):=hLay
 have HQX:Hid (_):=hQX
 clear hI hC hLay hQX hQb
 go_enter func28,ntmps28
 go_upto_region 1 with fail
 rw[HE.out,HSz.out]
 refine wp_region_held_drew (S:=fun w'=>w'.cell? ⟨X,3,none⟩=some (Value.slice (af g 0) n cc)∧w'.cell? ⟨x,1,none⟩=some (Value.int .i64 (k:Nat))∧w'.cell? ⟨g,k*3,none⟩=some (ac hd 0)∧w'.cell? ⟨g,k*3+1,none⟩=some (ac dd 0)∧w'.cell? ⟨g,k*3+2,none⟩=some (ac dm 0)) (by kernel_rfl) HS0 (fun _=>?_)
 refine aq (i:=0) (v:=ac X 0) ?_
 refine aq (i:=1) (v:=ac X 0) ?_
 refine aq (i:=2) (v:=ac X 3) ?_
 refine aq (i:=3) (v:=Value.slice (af g 0) n cc) ?_
 refine aq (i:=4) (v:=ac x 1) ?_
 refine aq (i:=5) (v:=Value.int .i64 (k:Nat)) ?_
 refine aq (i:=6) (v:=ac g (k*3)) ?_
 refine aq (i:=7) (v:=Value.agg (aA hd dd dm)) ?_
 have b8:Below wa.heap.size wa (wa.drew.alloc (.cells aQ 80)):=(Below.drew (Below.refl _ _)).alloc (Nat.le_refl _) _
 refine cC (i:=8) (ac (x+1) 0) (wa.drew.alloc (.cells aQ 80)) (by kernel_rfl) rfl (by kernel_rfl) (by rw[← HX.out];go_simp) (HSS.out _ b8) ?_
 have s8:(wa.drew.alloc (.cells aQ 80)).heap[x+1]?=some (.cells aQ 80 (0,0)):=by rw[← HX.out];exact aB wa.drew _
 have b9:Below wa.heap.size wa ((((wa.drew.alloc (.cells aQ 80)).setCell ⟨x+1,0,none⟩ (ac hd 0)).setCell ⟨x+1,1,none⟩ (ac dd 0)).setCell ⟨x+1,2,none⟩ (ac dm 0)):=((b8.setCell (by rw[HX.out];exact Nat.le_refl _) _).setCell (by rw[HX.out];exact Nat.le_refl _) _).setCell (by rw[HX.out];exact Nat.le_refl _) _
 have s9:=nr (hd:=hd) (dd:=dd) (dm:=dm) s8
 obtain⟨wb,hwb⟩:∃ y,((((wa.drew.alloc (.cells aQ 80)).setCell ⟨x+1,0,none⟩ (ac hd 0)).setCell ⟨x+1,1,none⟩ (ac dd 0)).setCell ⟨x+1,2,none⟩ (ac dm 0))=y:=⟨_,rfl⟩
 rw[hwb]at b9 s9
 have hth:(wa.drew.alloc (.cells aQ 80)).there (x+1) 0 3:=bI s8 rfl
 have hwb2:(wa.drew.alloc (.cells aQ 80)).setCells (x+1) 0 (aA hd dd dm).toList=wb:=hwb
 refine bJ (i:=9) (by kernel_rfl) rfl (by kernel_rfl) 80 (.tmp 6) (.tmp 16) rfl (x+1) 0 (aA hd dd dm) (by kernel_rfl) (by kernel_rfl) hth (by kernel_rfl) (by kernel_rfl) (by rw[hwb2];exact HSS.out _ b9) ?_
 rw[hwb2]
 refine wpAnyH_done (by kernel_rfl) ?_ _
 have K:=(b9.block x (by rw[HX.out];omega)).trans HK.out
 have bW:Below w.heap.size w wb:=HB.out.trans (b9.mono (by rw[HX.out,HSz.out];omega))
 have q0:wb.cell? ⟨x,0,none⟩=some (.int .i64 m.k):=ae wb x 0 _ _ _ K
 have q1:wb.cell? ⟨x,1,none⟩=some (.int .i64 (k:Nat)):=ae wb x 1 _ _ _ K
 have q2:wb.cell? ⟨x,2,none⟩=some (.int .i64 m.s):=ae wb x 2 _ _ _ K
 have q3:wb.cell? ⟨x,3,none⟩=some (.int .i64 m.f):=ae wb x 3 _ _ _ K
 have q4:wb.cell? ⟨x,4,none⟩=some (.int .i64 m.a):=ae wb x 4 _ _ _ K
 have q5:wb.cell? ⟨x,5,none⟩=some (.int .u32 (m.w:Nat)):=ae wb x 5 _ _ _ K
 have q6:wb.cell? ⟨x,6,none⟩=some (.int .i64 m.n):=ae wb x 6 _ _ _ K
 have q7:wb.cell? ⟨x,7,none⟩=some (.bool m.h):=ae wb x 7 _ _ _ K
 have q8:wb.cell? ⟨x,8,none⟩=some (.slice d m.l c):=ae wb x 8 _ _ _ K
 have p0:wb.cell? ⟨x+1,0,none⟩=some (ac hd 0):=ae wb (x+1) 0 _ _ _ s9
 have p1:wb.cell? ⟨x+1,1,none⟩=some (ac dd 0):=ae wb (x+1) 1 _ _ _ s9
 have p2:wb.cell? ⟨x+1,2,none⟩=some (ac dm 0):=ae wb (x+1) 2 _ _ _ s9
 have HWb:Hid (Below w.heap.size w wb):=bW
 have HKb:Hid (_):=K
 have HCb:Hid (_):=s9
 clear hwb hwb2 hth b9 s9 b8 s8 K bW HE HK HSS HB HS0
 have hq1:=HLay.out wb HWb.out (by rw[HSz.out];exact HKb.out) (by rw[HSz.out];exact HCb.out)
 have HQ1:Hid (Q1 wb):=hq1
 clear hq1
 have hCc:=(show Calls prog 57 #[ac X 0,.agg #[.int .i64 7,.int .i64 (k:Nat),.int .i64 m.s,.int .u32 0,.int .u32 0,.bool false,.int .i64 0,.slice none 0 0]] wb (fun r w'=>r=.returned (.tuple #[])∧Hid (Q2 w')) from HC.out wb HQ1.out)
 go_wp2_with fail
 refine hCc.mono ?_
 rintro r w4 ⟨rfl,H4⟩
 clear hCc q0 q1 q2 q3 q4 q5 q6 q7 q8 p0 p1 p2
 obtain⟨k4,k5⟩:=HQX.out w4 H4
 rw[HSz.out]at k4 k5
 have q0:w4.cell? ⟨x,0,none⟩=some (.int .i64 m.k):=ae w4 x 0 _ _ _ k4
 have q1:w4.cell? ⟨x,1,none⟩=some (.int .i64 (k:Nat)):=ae w4 x 1 _ _ _ k4
 have q2:w4.cell? ⟨x,2,none⟩=some (.int .i64 m.s):=ae w4 x 2 _ _ _ k4
 have q3:w4.cell? ⟨x,3,none⟩=some (.int .i64 m.f):=ae w4 x 3 _ _ _ k4
 have q4:w4.cell? ⟨x,4,none⟩=some (.int .i64 m.a):=ae w4 x 4 _ _ _ k4
 have q5:w4.cell? ⟨x,5,none⟩=some (.int .u32 (m.w:Nat)):=ae w4 x 5 _ _ _ k4
 have q6:w4.cell? ⟨x,6,none⟩=some (.int .i64 m.n):=ae w4 x 6 _ _ _ k4
 have q7:w4.cell? ⟨x,7,none⟩=some (.bool m.h):=ae w4 x 7 _ _ _ k4
 have q8:w4.cell? ⟨x,8,none⟩=some (.slice d m.l c):=ae w4 x 8 _ _ _ k4
 have p0:w4.cell? ⟨x+1,0,none⟩=some (ac hd 0):=ae w4 (x+1) 0 _ _ _ k5
 have p1:w4.cell? ⟨x+1,1,none⟩=some (ac dd 0):=ae w4 (x+1) 1 _ _ _ k5
 have p2:w4.cell? ⟨x+1,2,none⟩=some (ac dm 0):=ae w4 (x+1) 2 _ _ _ k5
 have hIc:=(show Calls prog 58 #[.agg (aA hd dd dm),.agg (aj m (k:Nat) d c)] w4 (fun r w'=>r=.returned (.int .i64 E)∧Hid (Z w')) from HI.out w4 H4)
 clear k4 k5
 go_wp2_with fail
 refine hIc.mono ?_
 rintro r w5 ⟨rfl,H5⟩
 go_wp2_with fail
 go_ret2
 exact⟨rfl,H5⟩
theorem aco (X g cc n k hd dd dm:Nat) (m:Mv) (d:Option Addr) (c:Nat) (E:Int) (w:World) (Z:World→Prop) (cv:w.cell? ⟨X,3,none⟩=some (.slice (af g 0) n cc)) (c0:w.cell? ⟨g,k*3,none⟩=some (ac hd 0)) (c1:w.cell? ⟨g,k*3+1,none⟩=some (ac dd 0)) (c2:w.cell? ⟨g,k*3+2,none⟩=some (ac dm 0)) (hlt:((k:Nat):Int) < ((n:Nat):Int)) (h2:(m.k == 2)=false) (h3:(m.k == 3)=false) (h4:(m.k == 4)=false) (h1:(m.k == 1)=false) (h5:(m.k == 5)=false) (h6:(m.k == 6)=false) (h7:(m.k == 7)=false)
  (hC:∀ w1,Below w.heap.size w w1→Calls prog 59 #[ac dm 0,.int .i64 m.n] w1 fun r w'=>r=.returned (.int .i64 E)∧Hid (Z w')) :
  Calls prog 28 #[ac X 0,.agg (aj m (k:Nat) d c)] w fun r w'=>r=.returned (.tuple #[.int .i64 E,.int .i64 (-1)])∧Hid (Z w'):=by
 have kA:=aB w (.cells (aj m (k:Nat) d c) 39)
 have bA:=aF (Below.refl _ w) (.cells (aj m (k:Nat) d c) 39)
 have sA:(w.alloc (.cells (aj m (k:Nat) d c) 39)).heap.size=w.heap.size+1:=io _ _
 obtain⟨wa,hwa⟩:∃ y,w.alloc (.cells (aj m (k:Nat) d c) 39)=y:=⟨_,rfl⟩
 rw[hwa]at kA bA sA
 obtain⟨x,hx⟩:∃ y,w.heap.size=y:=⟨_,rfl⟩
 have HB:Hid (Below w.heap.size w wa):=bA
 have HSz:Hid (w.heap.size=x):=hx
 rw[hx]at kA sA
 have hS:∀ w',Below wa.heap.size wa w'→w'.cell? ⟨X,3,none⟩=some (Value.slice (af g 0) n cc)∧w'.cell? ⟨x,1,none⟩=some (Value.int .i64 (k:Nat))∧w'.cell? ⟨g,k*3,none⟩=some (ac hd 0)∧w'.cell? ⟨g,k*3+1,none⟩=some (ac dd 0)∧w'.cell? ⟨g,k*3+2,none⟩=some (ac dm 0):=fun w' b=>⟨ag (ag cv bA) b,ag (ae wa x 1 _ _ _ kA) b,ag (ag c0 bA) b,ag (ag c1 bA) b,ag (ag c2 bA) b⟩
 have HS0:=hS wa.drew (Below.drew (Below.refl _ _))
 have HSS:Hid (_):=hS
 have HE:Hid (_=wa):=hwa
 have HX:Hid (wa.heap.size=x+1):=sA
 have HK:Hid (wa.heap[x]?=some (.cells (aj m (k:Nat) d c) 39 (0,0))):=kA
 clear kA bA hwa hx hS sA cv c0 c1 c2
 have HC:Hid (_):=hC
 clear hC
 go_enter func28,ntmps28
 go_upto_region 1 with fail
 rw[HE.out,HSz.out]
 refine wp_region_held_drew (S:=fun w'=>w'.cell? ⟨X,3,none⟩=some (Value.slice (af g 0) n cc)∧w'.cell? ⟨x,1,none⟩=some (Value.int .i64 (k:Nat))∧w'.cell? ⟨g,k*3,none⟩=some (ac hd 0)∧w'.cell? ⟨g,k*3+1,none⟩=some (ac dd 0)∧w'.cell? ⟨g,k*3+2,none⟩=some (ac dm 0)) (by kernel_rfl) HS0 (fun _=>?_)
 refine aq (i:=0) (v:=ac X 0) ?_
 refine aq (i:=1) (v:=ac X 0) ?_
 refine aq (i:=2) (v:=ac X 3) ?_
 refine aq (i:=3) (v:=Value.slice (af g 0) n cc) ?_
 refine aq (i:=4) (v:=ac x 1) ?_
 refine aq (i:=5) (v:=Value.int .i64 (k:Nat)) ?_
 refine aq (i:=6) (v:=ac g (k*3)) ?_
 refine aq (i:=7) (v:=Value.agg (aA hd dd dm)) ?_
 have b8:Below wa.heap.size wa (wa.drew.alloc (.cells aQ 80)):=(Below.drew (Below.refl _ _)).alloc (Nat.le_refl _) _
 refine cC (i:=8) (ac (x+1) 0) (wa.drew.alloc (.cells aQ 80)) (by kernel_rfl) rfl (by kernel_rfl) (by rw[← HX.out];go_simp) (HSS.out _ b8) ?_
 have s8:(wa.drew.alloc (.cells aQ 80)).heap[x+1]?=some (.cells aQ 80 (0,0)):=by rw[← HX.out];exact aB wa.drew _
 have b9:Below wa.heap.size wa ((((wa.drew.alloc (.cells aQ 80)).setCell ⟨x+1,0,none⟩ (ac hd 0)).setCell ⟨x+1,1,none⟩ (ac dd 0)).setCell ⟨x+1,2,none⟩ (ac dm 0)):=((b8.setCell (by rw[HX.out];exact Nat.le_refl _) _).setCell (by rw[HX.out];exact Nat.le_refl _) _).setCell (by rw[HX.out];exact Nat.le_refl _) _
 have s9:=nr (hd:=hd) (dd:=dd) (dm:=dm) s8
 obtain⟨wb,hwb⟩:∃ y,((((wa.drew.alloc (.cells aQ 80)).setCell ⟨x+1,0,none⟩ (ac hd 0)).setCell ⟨x+1,1,none⟩ (ac dd 0)).setCell ⟨x+1,2,none⟩ (ac dm 0))=y:=⟨_,rfl⟩
 rw[hwb]at b9 s9
 have hth:(wa.drew.alloc (.cells aQ 80)).there (x+1) 0 3:=bI s8 rfl
 have hwb2:(wa.drew.alloc (.cells aQ 80)).setCells (x+1) 0 (aA hd dd dm).toList=wb:=hwb
 refine bJ (i:=9) (by kernel_rfl) rfl (by kernel_rfl) 80 (.tmp 6) (.tmp 16) rfl (x+1) 0 (aA hd dd dm) (by kernel_rfl) (by kernel_rfl) hth (by kernel_rfl) (by kernel_rfl) (by rw[hwb2];exact HSS.out _ b9) ?_
 rw[hwb2]
 refine wpAnyH_done (by kernel_rfl) ?_ _
 have K:=(b9.block x (by rw[HX.out];omega)).trans HK.out
 have bW:Below w.heap.size w wb:=HB.out.trans (b9.mono (by rw[HX.out,HSz.out];omega))
 have q0:wb.cell? ⟨x,0,none⟩=some (.int .i64 m.k):=ae wb x 0 _ _ _ K
 have q1:wb.cell? ⟨x,1,none⟩=some (.int .i64 (k:Nat)):=ae wb x 1 _ _ _ K
 have q2:wb.cell? ⟨x,2,none⟩=some (.int .i64 m.s):=ae wb x 2 _ _ _ K
 have q3:wb.cell? ⟨x,3,none⟩=some (.int .i64 m.f):=ae wb x 3 _ _ _ K
 have q4:wb.cell? ⟨x,4,none⟩=some (.int .i64 m.a):=ae wb x 4 _ _ _ K
 have q5:wb.cell? ⟨x,5,none⟩=some (.int .u32 (m.w:Nat)):=ae wb x 5 _ _ _ K
 have q6:wb.cell? ⟨x,6,none⟩=some (.int .i64 m.n):=ae wb x 6 _ _ _ K
 have q7:wb.cell? ⟨x,7,none⟩=some (.bool m.h):=ae wb x 7 _ _ _ K
 have q8:wb.cell? ⟨x,8,none⟩=some (.slice d m.l c):=ae wb x 8 _ _ _ K
 have p0:wb.cell? ⟨x+1,0,none⟩=some (ac hd 0):=ae wb (x+1) 0 _ _ _ s9
 have p1:wb.cell? ⟨x+1,1,none⟩=some (ac dd 0):=ae wb (x+1) 1 _ _ _ s9
 have p2:wb.cell? ⟨x+1,2,none⟩=some (ac dm 0):=ae wb (x+1) 2 _ _ _ s9
 have HWb:Hid (Below w.heap.size w wb):=bW
 have HKb:Hid (_):=K
 have HCb:Hid (_):=s9
 clear hwb hwb2 hth b9 s9 b8 s8 K bW HE HK HSS HB HS0
 have hCc:=(show Calls prog 59 #[ac dm 0,.int .i64 m.n] wb (fun r w'=>r=.returned (.int .i64 E)∧Hid (Z w')) from HC.out wb HWb.out)
 go_wp2_with fail
 refine hCc.mono ?_
 rintro r w2 ⟨rfl,H2⟩
 go_wp2_with fail
 go_ret2
 exact⟨rfl,H2⟩
end Go.Proofs.YtenilkloffnjlaaGreat
