/- Part 45: contracts that the proof rests on. -/
import Derived.Test.YtgaeofgdiaknpaaGreatPkR39
import Derived.Test.YtgaeofgdiaknpaaGreatPkR41
import Derived.Test.YtgaeofgdiaknpaaGreatPkR42
import Derived.Test.YtgaeofgdiaknpaaGreatPkR43
set_option maxHeartbeats 64000000
namespace Go.Proofs.YtgaeofgdiaknpaaGreat
set_option maxRecDepth 100000
open Go.RowKit Go.Maps
set_option linter.unusedVariables false
theorem wcarriedK (K:Int) (X b:Nat) (m:Mv) (d:Option Addr) (c:Nat) (f:Fm) (w:World) (Z:Option Addr→Nat→World→Prop)
  (cb:w.cell? ⟨X,4,none⟩=some (.pointer (some ⟨b,0,none⟩)))
  (hG:∀ wx,m.k=4→Below w.heap.size w wx→Calls Tryz.prog 82 #[.pointer (some ⟨b,0,none⟩),.int .i64 m.f,.int .i64 m.a,.int .u32 (m.w:Nat)] wx fun r w'=>∃ a cap,r=.returned (.tuple #[.slice a f.1 cap,.int .i64 K])∧Z a cap w'∧Below wx.heap.size wx w')
  (hT:∀ wx,m.k≠4→Below w.heap.size w wx→Calls Tryz.prog 83 #[.pointer (some ⟨b,0,none⟩),.int .i64 m.f] wx fun r w'=>∃ a cap,r=.returned (.tuple #[.slice a f.1 cap,.int .i64 K])∧Z a cap w'∧Below wx.heap.size wx w') :
  Calls Tryz.prog 65 #[.pointer (some ⟨X,0,none⟩),.agg #[.int .i64 m.k,.int .i64 m.c,.int .i64 m.s,.int .i64 m.f,.int .i64 m.a,.int .u32 (m.w:Nat),.int .i64 m.n,.bool m.h,.slice d m.l c]] w fun r w'=>∃ a cap,r=.returned (.tuple #[.slice a f.1 cap,.int .i64 K])∧Hid (Z a cap w'):=by
 have kA:=heap_alloc_new w (.cells #[.int .i64 m.k,.int .i64 m.c,.int .i64 m.s,.int .i64 m.f,.int .i64 m.a,.int .u32 (m.w:Nat),.int .i64 m.n,.bool m.h,.slice d m.l c] 38)
 have bA:=belY (Below.refl _ w) (.cells #[.int .i64 m.k,.int .i64 m.c,.int .i64 m.s,.int .i64 m.f,.int .i64 m.a,.int .u32 (m.w:Nat),.int .i64 m.n,.bool m.h,.slice d m.l c] 38)
 obtain⟨wa,hwa⟩:∃ y,w.alloc (.cells #[.int .i64 m.k,.int .i64 m.c,.int .i64 m.s,.int .i64 m.f,.int .i64 m.a,.int .u32 (m.w:Nat),.int .i64 m.n,.bool m.h,.slice d m.l c] 38)=y:=⟨_,rfl⟩
 rw[hwa]at kA bA
 obtain⟨x,hx⟩:∃ y,w.heap.size=y:=⟨_,rfl⟩
 have kB:wa.heap[x]?=some (.cells #[.int .i64 m.k,.int .i64 m.c,.int .i64 m.s,.int .i64 m.f,.int .i64 m.a,.int .u32 (m.w:Nat),.int .i64 m.n,.bool m.h,.slice d m.l c] 38 (0,0)):=by
  rw[← hx]
  exact kA
 have bd:Below wa.heap.size wa wa.drew:=Below.drew (Below.refl _ _)
 have q0:wa.cell? ⟨x,0,none⟩=some (.int .i64 m.k):=cell_of_row wa x 0 _ _ _ kB
 have hs:∀ wx,Below wa.heap.size wa wx→wx.cell? ⟨X,4,none⟩=some (Value.pointer (some ⟨b,0,none⟩))∧wx.cell? ⟨x,3,none⟩=some (Value.int .i64 m.f)∧wx.cell? ⟨x,4,none⟩=some (Value.int .i64 m.a)∧wx.cell? ⟨x,5,none⟩=some (Value.int .u32 (m.w:Nat)):=fun wx bx=>⟨cellY (cellY cb bA) bx,cellY (cell_of_row wa x 3 _ _ _ kB) bx,cellY (cell_of_row wa x 4 _ _ _ kB) bx,cellY (cell_of_row wa x 5 _ _ _ kB) bx⟩
 have HSx:=hs wa.drew bd
 have hG:m.k=4→Calls Tryz.prog 82 #[.pointer (some ⟨b,0,none⟩),.int .i64 m.f,.int .i64 m.a,.int .u32 (m.w:Nat)] wa.drew fun r w'=>∃ a cap,r=.returned (.tuple #[.slice a f.1 cap,.int .i64 K])∧Hid (Hid (Z a cap w')∧w'.cell? ⟨X,4,none⟩=some (Value.pointer (some ⟨b,0,none⟩))∧w'.cell? ⟨x,3,none⟩=some (Value.int .i64 m.f)∧w'.cell? ⟨x,4,none⟩=some (Value.int .i64 m.a)∧w'.cell? ⟨x,5,none⟩=some (Value.int .u32 (m.w:Nat))):=fun hk=>by
  refine (hG wa.drew hk (bA.trans (bd.mono bA.size))).mono ?_
  rintro r w' ⟨a,cap,rfl,hz,b2⟩
  exact⟨a,cap,rfl,hz,hs w' (bd.trans (b2.mono bd.size))⟩
 have hT:m.k≠4→Calls Tryz.prog 83 #[.pointer (some ⟨b,0,none⟩),.int .i64 m.f] wa.drew fun r w'=>∃ a cap,r=.returned (.tuple #[.slice a f.1 cap,.int .i64 K])∧Hid (Hid (Z a cap w')∧w'.cell? ⟨X,4,none⟩=some (Value.pointer (some ⟨b,0,none⟩))∧w'.cell? ⟨x,3,none⟩=some (Value.int .i64 m.f)∧w'.cell? ⟨x,4,none⟩=some (Value.int .i64 m.a)∧w'.cell? ⟨x,5,none⟩=some (Value.int .u32 (m.w:Nat))):=fun hk=>by
  refine (hT wa.drew hk (bA.trans (bd.mono bA.size))).mono ?_
  rintro r w' ⟨a,cap,rfl,hz,b2⟩
  exact⟨a,cap,rfl,hz,hs w' (bd.trans (b2.mono bd.size))⟩
 have HE:Hid (_=wa):=hwa
 have HS:Hid (_=x):=hx
 clear kA kB bA bd hs hwa hx cb
 obtain⟨fl,fb⟩:=f
 by_cases hk:m.k=4
 ·have hG:=hG hk
  have q:(m.k == 4)=true:=by simpa using hk
  clear hT hk
  go_enter Tryz.func65,Tryz.ntmps65
  go_upto_region 1 with fail
  rw[HE.out,HS.out]
  go_wp2_with fail
  refine wp_region_held_drew (S:=fun w'=>w'.cell? ⟨X,4,none⟩=some (Value.pointer (some ⟨b,0,none⟩))∧w'.cell? ⟨x,3,none⟩=some (Value.int .i64 m.f)∧w'.cell? ⟨x,4,none⟩=some (Value.int .i64 m.a)∧w'.cell? ⟨x,5,none⟩=some (Value.int .u32 (m.w:Nat))) (by kernel_rfl) HSx (fun _=>?_)
  refine tkH (i:=0) (v:=Value.pointer (some ⟨X,0,none⟩)) ?_
  refine tkH (i:=1) (v:=Value.pointer (some ⟨X,0,none⟩)) ?_
  refine tkH (i:=2) (v:=Value.pointer (some ⟨X,4,none⟩)) ?_
  refine tkH (i:=3) (v:=Value.pointer (some ⟨b,0,none⟩)) ?_
  refine tkH (i:=4) (v:=Value.pointer (some ⟨x,3,none⟩)) ?_
  refine tkH (i:=5) (v:=Value.int .i64 m.f) ?_
  refine tkH (i:=6) (v:=Value.pointer (some ⟨x,4,none⟩)) ?_
  refine tkH (i:=7) (v:=Value.int .i64 m.a) ?_
  refine tkH (i:=8) (v:=Value.pointer (some ⟨x,5,none⟩)) ?_
  refine tkH (i:=9) (v:=Value.int .u32 (m.w:Nat)) ?_
  refine held_call (i:=10) 82 #[Value.pointer (some ⟨b,0,none⟩),Value.int .i64 m.f,Value.int .i64 m.a,Value.int .u32 (m.w:Nat)] (by kernel_rfl) rfl (by kernel_rfl) (by go_simp) ?_
  refine hG.mono ?_
  rintro r w3 ⟨a,cap,rfl,H3⟩
  have HSy:w3.cell? ⟨X,4,none⟩=some (Value.pointer (some ⟨b,0,none⟩))∧w3.cell? ⟨x,3,none⟩=some (Value.int .i64 m.f)∧w3.cell? ⟨x,4,none⟩=some (Value.int .i64 m.a)∧w3.cell? ⟨x,5,none⟩=some (Value.int .u32 (m.w:Nat)):=H3.out.2
  refine⟨_,rfl,HSy,?_⟩
  refine tkH (i:=11) (v:=Value.slice a fl cap) ?_
  refine tkH (i:=12) (v:=Value.int .i64 K) ?_
  refine tkH (i:=13) (v:=Value.slice a fl cap) ?_
  refine tkH (i:=14) (v:=Value.int .i64 K) ?_
  refine wpAnyH_done (by kernel_rfl) ?_ _
  clear HSx HSy
  go_wp2_with fail
  go_ret2
  exact⟨a,cap,by kernel_rfl,H3.out.1⟩
 ·have hT:=hT hk
  have q:(m.k == 4)=false:=by simpa using hk
  clear hG hk
  go_enter Tryz.func65,Tryz.ntmps65
  go_upto_region 1 with fail
  rw[HE.out,HS.out]
  go_wp2_with fail
  refine wp_region_held_drew (S:=fun w'=>w'.cell? ⟨X,4,none⟩=some (Value.pointer (some ⟨b,0,none⟩))∧w'.cell? ⟨x,3,none⟩=some (Value.int .i64 m.f)∧w'.cell? ⟨x,4,none⟩=some (Value.int .i64 m.a)∧w'.cell? ⟨x,5,none⟩=some (Value.int .u32 (m.w:Nat))) (by kernel_rfl) HSx (fun _=>?_)
  refine tkH (i:=0) (v:=Value.pointer (some ⟨X,0,none⟩)) ?_
  refine tkH (i:=1) (v:=Value.pointer (some ⟨X,0,none⟩)) ?_
  refine tkH (i:=2) (v:=Value.pointer (some ⟨X,4,none⟩)) ?_
  refine tkH (i:=3) (v:=Value.pointer (some ⟨b,0,none⟩)) ?_
  refine tkH (i:=4) (v:=Value.pointer (some ⟨x,3,none⟩)) ?_
  refine tkH (i:=5) (v:=Value.int .i64 m.f) ?_
  refine held_call (i:=6) 83 #[Value.pointer (some ⟨b,0,none⟩),Value.int .i64 m.f] (by kernel_rfl) rfl (by kernel_rfl) (by go_simp) ?_
  refine hT.mono ?_
  rintro r w3 ⟨a,cap,rfl,H3⟩
  have HSy:w3.cell? ⟨X,4,none⟩=some (Value.pointer (some ⟨b,0,none⟩))∧w3.cell? ⟨x,3,none⟩=some (Value.int .i64 m.f)∧w3.cell? ⟨x,4,none⟩=some (Value.int .i64 m.a)∧w3.cell? ⟨x,5,none⟩=some (Value.int .u32 (m.w:Nat)):=H3.out.2
  refine⟨_,rfl,HSy,?_⟩
  refine tkH (i:=7) (v:=Value.slice a fl cap) ?_
  refine tkH (i:=8) (v:=Value.int .i64 K) ?_
  refine tkH (i:=9) (v:=Value.slice a fl cap) ?_
  refine tkH (i:=10) (v:=Value.int .i64 K) ?_
  refine wpAnyH_done (by kernel_rfl) ?_ _
  clear HSx HSy
  go_wp2_with fail
  go_ret2
  exact⟨a,cap,by kernel_rfl,H3.out.1⟩
def Ws.carE (S:Ws) (m:Mv):Int:=if m.f<0∨((S.bg.length:Nat):Int)≤m.f then 151 else if m.k=4 then mkErr (S.bg.getD m.f.toNat fm0).1 m.a m.w else 0
theorem pcarE (e:Nat→Nat) (w0 w:World) (t:Nat→Thing) (L:Pw) (m:Mv) (d:Option Addr) (c:Nat) (h:PW e w0 w t L) (hw:m.w<4294967296) (ha : -9223372036854775808≤m.a∧m.a<9223372036854775808) :
  Calls Tryz.prog 65 #[.pointer (some ⟨L.x,0,none⟩),.agg #[.int .i64 m.k,.int .i64 m.c,.int .i64 m.s,.int .i64 m.f,.int .i64 m.a,.int .u32 (m.w:Nat),.int .i64 m.n,.bool m.h,.slice d m.l c]] w fun r w'=>∃ a n cap,r=.returned (.tuple #[.slice a n cap,.int .i64 (L.S.carE m)])∧Hid (Below w.heap.size w w'):=by
 by_cases ho:m.f<0∨((L.S.bg.length:Nat):Int)≤m.f
 ·have e1:L.S.carE m=151:=if_pos ho
  rw[e1]
  refine (wcarriedK 151 L.x L.b m d c fm0 w (fun a cap w'=>Below w.heap.size w w') (cell_of_row w L.x 4 _ _ _ (h.2.wb h.1).blk) (fun wx hk bx=>?_) (fun wx hk bx=>?_)).mono ?_
  ·have hp:=h.below bx
   refine (bgarb_out 0 L.b L.m L.bv L.bs L.bp L.S.bg m.f m.a m.w wx (hp.2.bg hp.1).1 ho).mono ?_
   rintro r w' ⟨rfl,rfl⟩
   exact⟨none,0,rfl,bx,Below.refl _ _⟩
  ·have hp:=h.below bx
   refine (bget_out 0 L.b L.m L.bv L.bs L.bp L.S.bg m.f wx (hp.2.bg hp.1).1 ho).mono ?_
   rintro r w' ⟨rfl,rfl⟩
   exact⟨none,0,rfl,bx,Below.refl _ _⟩
  ·rintro r w' ⟨a,cap,rfl,H⟩
   exact⟨a,_,cap,rfl,H⟩
 ·by_cases hb:m.k=4∧mkErr (((L.S.bg.getD m.f.toNat fm0).1:Nat):Int) m.a m.w≠0
  ·have e1:L.S.carE m=mkErr (((L.S.bg.getD m.f.toNat fm0).1:Nat):Int) m.a m.w:=by
    unfold Ws.carE
    rw[if_neg ho,if_pos hb.1]
   rw[e1]
   have hlt:m.f.toNat<L.S.bg.length:=by omega
   have hI:((m.f.toNat:Nat):Int)=m.f:=by omega
   obtain⟨f,hf⟩:∃ y,L.S.bg.getD m.f.toNat fm0=y:=⟨_,rfl⟩
   have hg:L.S.bg[m.f.toNat]?=some f:=by
    rw[← hf,List.getD_eq_getElem?_getD,List.getElem?_eq_getElem hlt]
    rfl
   rw[hf]at hb ⊢
   refine (wcarriedK (mkErr ((f.1:Nat):Int) m.a m.w) L.x L.b m d c fm0 w (fun a cap w'=>Below w.heap.size w w') (cell_of_row w L.x 4 _ _ _ (h.2.wb h.1).blk) (fun wx hk bx=>?_) (fun wx hk bx=>absurd hb.1 hk)).mono ?_
   ·have hp:=h.below bx
    have:=bgarb_bad 0 L.b L.m L.bv L.bs L.bp L.S.bg m.f.toNat f m.a m.w wx (hp.2.bg hp.1).1 hg hw ha hb.2
    rw[hI]at this
    refine this.mono ?_
    rintro r w' ⟨rfl,H⟩
    exact⟨none,0,rfl,bx.trans (H.out.mono bx.size),H.out⟩
   ·rintro r w' ⟨a,cap,rfl,H⟩
    exact⟨a,_,cap,rfl,H⟩
  ·have e1:L.S.carE m=0:=by
    unfold Ws.carE
    rw[if_neg ho]
    by_cases z:m.k=4
    ·rw[if_pos z]
     exact Classical.byContradiction (fun q=>hb ⟨z,q⟩)
    ·rw[if_neg z]
   rw[e1]
   exact pcarB e w0 w t L m d c h (by omega) (by omega) hw (fun z=>Classical.byContradiction (fun q=>hb ⟨z,q⟩))
def Ws.rkE (S:Ws) (m:Mv):Int:=if m.k=3∨m.k=4 then S.carE m else if m.k=5∨m.k=7∨m.k=8 then (if m.n<0∨gnM m<m.n then 2 else 0) else 0
theorem bad_rf2 {S:Ws} {m:Mv} (hn:m.n≤9223372036854775807):rfE S.mv S.n m (S.rkE m)=S.bad m:=by
 unfold rfE Ws.bad
 by_cases q1:4096≤S.mv
 ·rw[if_pos q1,if_pos q1]
 rw[if_neg q1,if_neg q1]
 by_cases q2:m.k<1∨8<m.k
 ·rw[if_pos q2,if_pos q2]
 rw[if_neg q2,if_neg q2]
 by_cases q3:m.c<0∨((S.n:Nat):Int)≤m.c
 ·rw[if_pos q3,if_pos q3]
 rw[if_neg q3,if_neg q3]
 by_cases q4:sidedM m.k=true∧m.s≠1∧m.s≠2
 ·rw[if_pos q4,if_pos q4]
 rw[if_neg q4,if_neg q4]
 unfold Ws.rkE Ws.carE gnM
 by_cases k3:m.k=3
 ·rw[if_pos (.inl k3),if_pos k3,if_neg (by omega:¬ m.k=4)]
 rw[if_neg k3]
 by_cases k4:m.k=4
 ·rw[if_pos (.inr k4),if_pos k4,if_pos k4]
 rw[if_neg (by omega:¬ (m.k=3∨m.k=4)),if_neg k4]
 by_cases k5:m.k=5
 ·rw[if_pos (.inl k5),if_pos k5,if_pos k5]
 rw[if_neg k5,if_neg k5]
 by_cases k7:m.k=7
 ·rw[if_pos (.inr (.inl k7)),if_pos k7]
  by_cases s1:m.s=1
  ·rw[if_pos (show m.k=7∧m.s=1 from ⟨k7,s1⟩)]
   by_cases z:m.n<0∨0<m.n
   ·rw[if_pos z,if_pos (z.elim .inl (fun q=>.inr ⟨s1,q⟩))]
   ·rw[if_neg z,if_neg (fun q=>z (q.elim .inl (fun y=>.inr y.2)))]
  ·rw[if_neg (show ¬ (m.k=7∧m.s=1) from fun q=>s1 q.2)]
   by_cases z:m.n<0
   ·rw[if_pos (.inl z),if_pos (.inl z)]
   ·rw[if_neg (by omega:¬ (m.n<0∨9223372036854775807<m.n)),if_neg (fun q=>q.elim z (fun y=>s1 y.1))]
 rw[if_neg k7]
 by_cases k8:m.k=8
 ·rw[if_pos (.inr (.inr k8)),if_pos k8,if_neg (show ¬ (m.k=7∧m.s=1) from fun q=>k7 q.1)]
  by_cases z:m.n<0
  ·rw[if_pos (.inl z),if_pos z]
  ·rw[if_neg (by omega:¬ (m.n<0∨9223372036854775807<m.n)),if_neg z]
 ·rw[if_neg (by omega:¬ (m.k=5∨m.k=7∨m.k=8)),if_neg k8]
theorem prefAny (e:Nat→Nat) (w0 w:World) (t:Nat→Thing) (L:Pw) (m:Mv) (d:Option Addr) (c:Nat) (h:PW e w0 w t L) (ok:m.Ok) (hn:0<L.S.n):∀ w1,Below w.heap.size w w1→Calls Tryz.prog 24 #[.pointer (some ⟨L.x,0,none⟩),.agg #[.int .i64 m.k,.int .i64 m.c,.int .i64 m.s,.int .i64 m.f,.int .i64 m.a,.int .u32 (m.w:Nat),.int .i64 m.n,.bool m.h,.slice d m.l c]] w1 fun r w'=>r=.returned (.int .i64 (L.S.bad m))∧Hid (Below w1.heap.size w1 w'):=fun w1 b1=>by
 have hp:=h.below b1
 have hb:=(hp.2.wb hp.1).blk
 obtain⟨e1,_⟩:=(hp.2.wb hp.1).conn (k:=0) hn
 have cv:w1.cell? ⟨L.x,3,none⟩=some (.slice (some ⟨cgV L.vc,0,none⟩) L.S.n (ccV L.vc)):=(cell_of_row w1 L.x 3 _ _ _ hb).trans (congrArg some e1)
 have:=wrefusal L.x L.b L.S.n (ccV L.vc) L.S.mv (some ⟨cgV L.vc,0,none⟩) m d c w1 (L.S.rkE m) (cell_of_row w1 L.x 4 _ _ _ hb) (cell_of_row w1 L.x 5 _ _ _ hb) cv (fun _ _ _ _ _ _ w2 b2=>by
  have hp2:=hp.below b2
  have hc:∀ w3,Below w2.heap.size w2 w3→_:=fun w3 b3=>pcarE e w0 w3 t L m d c (hp2.below b3) ok.w ⟨ok.a.1,by have:=ok.a.2;omega⟩
  unfold Ws.rkE
  by_cases q3:m.k=3
  ·rw[if_pos (.inl q3)]
   exact wrk3 L.x m d c w2 (intEqT q3) _ hc
  by_cases q4:m.k=4
  ·rw[if_pos (.inr q4)]
   exact wrk4 L.x m d c w2 (intEqF q3) (intEqT q4) _ hc
  rw[if_neg (fun q=>q.elim q3 q4)]
  by_cases q5:m.k=5
  ·rw[if_pos (.inl q5)]
   exact wrk5 L.x m d c w2 (intEqF q3) (intEqF q4) (intEqT q5)
  by_cases q7:m.k=7
  ·rw[if_pos (.inr (.inl q7))]
   exact wrk7 L.x m d c w2 (intEqF q3) (intEqF q4) (intEqF q5) (intEqT q7)
  by_cases q8:m.k=8
  ·rw[if_pos (.inr (.inr q8))]
   exact wrk8 L.x m d c w2 (intEqF q3) (intEqF q4) (intEqF q5) (intEqF q7) (intEqT q8)
  rw[if_neg (fun q=>q.elim q5 (fun z=>z.elim q7 q8))]
  exact wrk0 L.x m d c w2 (intEqF q3) (intEqF q4) (intEqF q5) (intEqF q7) (intEqF q8))
 rw[bad_rf2 ok.n.2]at this
 exact this
open Go.RowKit
theorem nx_vz {mx n:Nat} {s:Ms} (hn:10≤n) (ho:s.off=false) (hl:0≤s.l) (hmx:mx<4294967296) :
  ((nx mx n s.bs false s).e=0→(nx mx n s.bs false s).v=vz s.bs+1∧vz (nx mx n s.bs false s).s.bs=vz s.bs+1∧vz s.bs<mx)∧((nx mx n s.bs false s).e≠0→vz (nx mx n s.bs false s).s.bs=vz s.bs):=by
 unfold nx
 rw[if_neg (by simp[ho])]
 by_cases hm:mx≤vz s.bs
 ·rw[if_pos hm]
  exact⟨fun e=>(by cases e),fun _=>rfl⟩
 ·rw[if_neg hm]
  rcases sq_all n (six (tg s.bs) (vz s.bs+1)) s (fun x hx=>(six_in _ _ n (tg_lt _) hn x hx).1) ho hl with ⟨h1,h2,_⟩ | ⟨h1,h2,_,h4⟩
  ·rw[if_pos h1]
   refine⟨fun _=>⟨rfl,?_,by omega⟩,fun e=>absurd rfl e⟩
   show vz (sqS n (six (tg s.bs) (vz s.bs+1)) s).bs=_
   rw[h2]
   exact vz_next _ _ (by omega) (by omega)
  ·rw[if_neg (by omega)]
   refine⟨fun e=>(by cases e),fun _=>?_⟩
   show vz (sqS n (six (tg s.bs) (vz s.bs+1)) s).bs=_
   rw[h2]
   refine vz_cut _ _ _ ?_
   have:(six (tg s.bs) (vz s.bs+1)).length=6:=rfl
   omega
theorem opS_vz {mx n:Nat} {s:Ms} (hl:0≤s.l) (hz:Bz s.bs):vz (opS mx n s).bs=vz s.bs:=by
 unfold opS
 by_cases h1:mx=0∨n<10
 ·rw[if_pos h1]
 ·rw[if_neg h1]
  by_cases h2:s.off=true
  ·rw[if_pos h2]
  ·rw[if_neg h2]
   rcases sq_all n (mend s.bs) s (fun x hx=>(mend_in s.bs n (by omega) x hx).1) (by simpa using h2) hl with ⟨_,e,_⟩ | ⟨_,e,_⟩
   ·rw[e]
    have:=vz_mend s.bs (mend s.bs).length hz
    rwa [List.take_length]at this
   ·rw[e]
    exact vz_mend s.bs _ hz
theorem reset_vz {mx n:Nat} (s:Sd) (k:Int) (hz:Bz s.ms.bs) (hl:0≤s.ms.l):vz (dresetS mx n s k).ms.bs=vz s.ms.bs∧(dresetS mx n s k).ms.t≤s.ms.t+6∧(dresetS mx n s k).L=s.L:=by
 unfold dresetS
 by_cases hk:k<0
 ·rw[if_pos hk];exact⟨rfl,by omega,rfl⟩
 ·rw[if_neg hk]
  have hb:(rsM s.ms k).bs=s.ms.bs∧(rsM s.ms k).t=s.ms.t∧0 ≤ (rsM s.ms k).l:=by
   unfold rsM arS
   split
   ·split
    ·exact⟨rfl,rfl,hl⟩
    ·exact⟨rfl,rfl,by show 0≤k-1;omega⟩
   ·exact⟨rfl,rfl,hl⟩
  refine⟨?_,?_,rfl⟩
  ·show vz (opS mx n (rsM s.ms k)).bs=_
   rw[opS_vz hb.2.2 (by rw[hb.1];exact hz),hb.1]
  ·have:=opS_t mx n (rsM s.ms k) hb.2.2
   show (opS mx n (rsM s.ms k)).t≤_
   omega
theorem DV.facts {w:World} {d m g n mx:Nat} {P:Pm} {U:List Nat} {s:Sd} (h:DV w d m g n mx P U s):Bz s.ms.bs∧0≤s.ms.l∧10≤n∧mx≠0∧mx<4294967296∧(s.st≠6→s.ms.off=false):=by
 obtain⟨B,x⟩:=h
 exact⟨fun i hi=>x.mem.byte i (by have:=x.n10;omega),x.mem.l0,x.n10,x.mx0,x.mxl,fun hs=>(x.cel hs).2.2⟩
theorem dvarm_any (d m g n mx:Nat) (P:Pm) (U:List Nat) (s:Sd) (p:Int) (w:World) (h:DV w d m g n mx P U s) (hp:p≤9223372036854775807) :
  Calls Tryz.prog 52 #[.pointer (some ⟨m,0,none⟩),.int .i64 p] w fun e w'=>e=.returned (.int .i64 (arE p))∧Hid (∃ U',Gr U w U' w'∧DV w' d m g n mx P U' { s with ms:=arS s.ms p }):=by
 obtain⟨B,x⟩:=h
 refine (arm_any m g n s.ms p w x.mem hp).mono ?_
 rintro e w' ⟨rfl,o,m'⟩
 refine⟨rfl,U,Gr.same (o.more (m:=[m,g,B.c]) (by simp)) x.memU,B,x.memd (o.more (by simp)) m' (A':=s.st≠6) (fun hs=>?_)⟩
 obtain⟨c1,c2,c3⟩:=x.cel hs
 have hne:B.c ∉ [m]:=fun hm=>by simp at hm;have:=x.kc.1;rw[hm,x.km.1]at this;omega
 have e1:(arS s.ms p).bs=s.ms.bs:=by unfold arS;split <;> rfl
 have e2:(arS s.ms p).off=s.ms.off:=by unfold arS;split <;> rfl
 rw[e1,e2]
 exact⟨c1,c2.off o hne,c3⟩
theorem callH {e:Nat→Nat} {w0 w:World} {t:Nat→Thing} {L:Pw} {S:Ws} {k:Nat} (h:PWn e w0 t L w S) (hk:k<S.n) {Fn:FuncId} {u:Array Value} {E:Int} {s':Sh} (hc:∀ U,HV w (L.hd k) (S.PH k) U (S.hs k)→Calls Tryz.prog Fn u w fun r w'=>r=.returned (.int .i64 E)∧Hid (∃ U',Gr U w U' w'∧HV w' (L.hd k) (S.PH k) U' s')):Calls Tryz.prog Fn u w fun r w'=>r=.returned (.int .i64 E)∧Hid (PWn e w0 t L w' (S.setH k s')):=by
 obtain⟨t1,L1,h1,hs,hx,he⟩:=h
 subst hs
 have hv:=h1.2.hv h1.1 hk
 rw[hx.hd]at hv
 refine (hc _ hv).mono ?_
 rintro r w' ⟨rfl,H⟩
 exact⟨rfl,PWn.bind hx he (h1.stepH hk (by rw[hx.hd];exact H.out))⟩
theorem callD {e:Nat→Nat} {w0 w:World} {t:Nat→Thing} {L:Pw} {S:Ws} {k:Nat} (h:PWn e w0 t L w S) (hk:k<S.n) {Fn:FuncId} {u:Array Value} {E:Int} {s':Sd} (hc:∀ g U,DV w (L.dd k) (L.dm k) g 16 S.mx (S.PD k) U (S.ds k)→Calls Tryz.prog Fn u w fun r w'=>r=.returned (.int .i64 E)∧Hid (∃ U',Gr U w U' w'∧DV w' (L.dd k) (L.dm k) g 16 S.mx (S.PD k) U' s')):Calls Tryz.prog Fn u w fun r w'=>r=.returned (.int .i64 E)∧Hid (PWn e w0 t L w' (S.setD k s')):=by
 obtain⟨t1,L1,h1,hs,hx,he⟩:=h
 subst hs
 have dv:=h1.2.dv h1.1 hk
 rw[hx.dd,hx.dm]at dv
 refine (hc _ _ dv).mono ?_
 rintro r w' ⟨rfl,H⟩
 exact⟨rfl,PWn.bind hx he (h1.stepD hk (by rw[hx.dd,hx.dm];exact H.out))⟩
theorem pnoteIfN {e:Nat→Nat} {w0 w:World} {t:Nat→Thing} {L:Pw} {S:Ws} (x:Int) (k c s ss nn:Nat) (h:PWn e w0 t L w S) (hF:S.fs.length≤100000):Calls Tryz.prog 49 #[.pointer (some ⟨L.x,0,none⟩),.int .i64 x,.agg #[.int .i64 (k:Nat),.int .i64 (c:Nat),.int .i64 (s:Nat),.int .u32 (ss:Nat),.int .u32 (nn:Nat),.bool false,.int .i64 0,.slice none 0 0]] w fun r w'=>r=.returned (.tuple #[])∧Hid (PWn e w0 t L w' (S.note (if x=0 then [⟨k,c,s,ss,nn,false,0,fm0⟩] else []))):=by
 obtain⟨t1,L1,h1,hs,hx,he⟩:=h
 subst hs
 have:=pnoteIf e w0 w t1 L1 x k c s ss nn h1 hF
 rw[hx.x]at this
 refine this.mono ?_
 rintro r w' ⟨rfl,H⟩
 exact⟨rfl,PWn.bind hx he H.out⟩
theorem pnote0N {e:Nat→Nat} {w0 w:World} {t:Nat→Thing} {L:Pw} {S:Ws} (k c s ss nn:Nat) (h:PWn e w0 t L w S) (hF:S.fs.length≤100000):Calls Tryz.prog 50 #[.pointer (some ⟨L.x,0,none⟩),.agg #[.int .i64 (k:Nat),.int .i64 (c:Nat),.int .i64 (s:Nat),.int .u32 (ss:Nat),.int .u32 (nn:Nat),.bool false,.int .i64 0,.slice none 0 0]] w fun r w'=>r=.returned (.tuple #[])∧Hid (PWn e w0 t L w' (S.note [⟨k,c,s,ss,nn,false,0,fm0⟩])):=by
 obtain⟨t1,L1,h1,hs,hx,he⟩:=h
 subst hs
 have:=pnote0 e w0 w t1 L1 k c s ss nn h1 hF
 rw[hx.x]at this
 refine this.mono ?_
 rintro r w' ⟨rfl,H⟩
 exact⟨rfl,PWn.bind hx he H.out⟩
theorem pact1H {e:Nat→Nat} {w0 w:World} {t:Nat→Thing} {L:Pw} {S:Ws} (k i:Nat) (m:Mv) (d:Option Addr) (c:Nat) (h:PWn e w0 t L w S) (F:Fre e t i) (hk:k<S.n) (hs:m.s=1) (h1:m.k=1) (j:Nat) (hj:j<2*i+1) (hq:∀ q,j≠e q) (hr:t j=r8Y d m.l c m.b):Calls Tryz.prog 26 #[.pointer (some ⟨L.x,0,none⟩),.agg #[.int .i64 m.k,.int .i64 (k:Nat),.int .i64 m.s,.int .i64 m.f,.int .i64 m.a,.int .u32 (m.w:Nat),.int .i64 m.n,.bool m.h,.slice d m.l c]] w fun r w'=>r=.returned (.tuple #[.int .i64 (hwriteE (S.PH k) m.l),.int .i64 (-1)])∧Hid (PWn e w0 t L w' (S.setH k (hwriteS (S.PH k) (S.hs k) m.l m.b m.h))):=by
 obtain⟨cv,c0,c1,c2⟩:=h.conn hk
 have i0:=F i (Nat.le_refl _)
 obtain⟨t2,ht2⟩:∃ y,putT t (2*i+1) (blT [(w.heap.size,.cells #[.int .i64 m.k,.int .i64 (k:Nat),.int .i64 m.s,.int .i64 m.f,.int .i64 m.a,.int .u32 (m.w:Nat),.int .i64 m.n,.bool m.h,.slice d m.l c] 38 (0,0)),(w.heap.size+1,.cells #[.pointer (some ⟨L.hd k,0,none⟩),.pointer (some ⟨L.dd k,0,none⟩),.pointer (some ⟨L.dm k,0,none⟩)] 73 (0,0))])=y:=⟨_,rfl⟩
 have e2:t2 (2*i+1)=blT [(w.heap.size,.cells #[.int .i64 m.k,.int .i64 (k:Nat),.int .i64 m.s,.int .i64 m.f,.int .i64 m.a,.int .u32 (m.w:Nat),.int .i64 m.n,.bool m.h,.slice d m.l c] 38 (0,0)),(w.heap.size+1,.cells #[.pointer (some ⟨L.hd k,0,none⟩),.pointer (some ⟨L.dd k,0,none⟩),.pointer (some ⟨L.dm k,0,none⟩)] 73 (0,0))]:=by rw[← ht2,putT_same]
 have hLay:∀ w1,Below w.heap.size w w1→w1.heap[w.heap.size]?=some (.cells #[.int .i64 m.k,.int .i64 (k:Nat),.int .i64 m.s,.int .i64 m.f,.int .i64 m.a,.int .u32 (m.w:Nat),.int .i64 m.n,.bool m.h,.slice d m.l c] 38 (0,0))→w1.heap[w.heap.size+1]?=some (.cells #[.pointer (some ⟨L.hd k,0,none⟩),.pointer (some ⟨L.dd k,0,none⟩),.pointer (some ⟨L.dm k,0,none⟩)] 73 (0,0))→PWn e w0 t2 L w1 S:=fun w1 b k1 k2=>by
  rw[← ht2]
  refine h.layL b i0.1 (fun p hp=>?_) (fun p hp=>?_)
  ·simp only[List.mem_cons,List.not_mem_nil,or_false]at hp
   rcases hp with rfl | rfl
   ·exact k1
   ·exact k2
  ·simp only[List.mem_cons,List.not_mem_nil,or_false]at hp
   rcases hp with rfl | rfl
   ·exact Nat.le_refl _
   ·exact Nat.le_succ _
 have hX:∀ S2 w1,PWn e w0 t2 L w1 S2→w1.heap[w.heap.size]?=some (.cells #[.int .i64 m.k,.int .i64 (k:Nat),.int .i64 m.s,.int .i64 m.f,.int .i64 m.a,.int .u32 (m.w:Nat),.int .i64 m.n,.bool m.h,.slice d m.l c] 38 (0,0))∧w1.heap[w.heap.size+1]?=some (.cells #[.pointer (some ⟨L.hd k,0,none⟩),.pointer (some ⟨L.dd k,0,none⟩),.pointer (some ⟨L.dm k,0,none⟩)] 73 (0,0)):=fun S2 w1 q=>⟨q.box i0.1 e2 _ (List.mem_cons_self ..),q.box i0.1 e2 _ (List.mem_cons_of_mem _ (List.mem_cons_self ..))⟩
 have hDrop:∀ S2 w1,PWn e w0 t2 L w1 S2→PWn e w0 t L w1 S2:=fun S2 w1 q=>by
  rw[← ht2]at q
  exact q.drop i0.1 i0.2
 have e3:t2 j=t j:=by rw[← ht2,putT_ne _ _ (by omega)]
 refine (wact1 L.x (cgV L.vc) (ccV L.vc) S.n k (L.hd k) (L.dd k) (L.dm k) m d c 69 236 (L.hd k) (hwriteE (S.PH k) m.l) w (fun w1 => PWn e w0 t2 L w1 S) (fun w1 => PWn e w0 t2 L w1 (S.setH k (hwriteS (S.PH k) (S.hs k) m.l m.b m.h))) cv c0 c1 c2 (by omega) (intEqF (by omega)) (intEqF (by omega)) (intEqF (by omega)) (intEqT h1) (fun w1 => by rw [hs]; exact patH (L.hd k) (L.dd k) (L.dm k) w1) (fun w1 => (by kernel_rfl : (method 415 69 (.pointer (some ⟨L.hd k, 0, none⟩)) "Write").run Tryz.prog w1 = .ok (236, .pointer (some ⟨L.hd k, 0, none⟩)) w1)) (fun u w1 => (by kernel_rfl : (callFunc 236 u).run Tryz.prog w1 = .ok (.enter 236 u) w1)) hLay (fun _ _ q b => q.below b) (fun w1 q => callH q hk (fun U hv => hwrite_any (L.hd k) (S.PH k) U (S.hs k) d m.l c m.b m.h w1 hv (q.rowq hq (e3.trans hr)))) (fun w1 q => hX _ _ q.out)).mono ?_
 rintro r w' ⟨rfl,H⟩
 exact⟨rfl,hDrop _ _ H.out⟩
theorem pact1D {e:Nat→Nat} {w0 w:World} {t:Nat→Thing} {L:Pw} {S:Ws} (k i:Nat) (m:Mv) (d:Option Addr) (c:Nat) (h:PWn e w0 t L w S) (F:Fre e t i) (hk:k<S.n) (hs:m.s=2) (h1:m.k=1) (j:Nat) (hj:j<2*i+1) (hq:∀ q,j≠e q) (hr:t j=r8Y d m.l c m.b):Calls Tryz.prog 26 #[.pointer (some ⟨L.x,0,none⟩),.agg #[.int .i64 m.k,.int .i64 (k:Nat),.int .i64 m.s,.int .i64 m.f,.int .i64 m.a,.int .u32 (m.w:Nat),.int .i64 m.n,.bool m.h,.slice d m.l c]] w fun r w'=>r=.returned (.tuple #[.int .i64 (dwriteE (S.PD k) (S.ds k) m.l),.int .i64 (-1)])∧Hid (PWn e w0 t L w' (S.setD k (dwriteS (S.PD k) (S.ds k) m.l m.b m.h))):=by
 obtain⟨cv,c0,c1,c2⟩:=h.conn hk
 have i0:=F i (Nat.le_refl _)
 obtain⟨t2,ht2⟩:∃ y,putT t (2*i+1) (blT [(w.heap.size,.cells #[.int .i64 m.k,.int .i64 (k:Nat),.int .i64 m.s,.int .i64 m.f,.int .i64 m.a,.int .u32 (m.w:Nat),.int .i64 m.n,.bool m.h,.slice d m.l c] 38 (0,0)),(w.heap.size+1,.cells #[.pointer (some ⟨L.hd k,0,none⟩),.pointer (some ⟨L.dd k,0,none⟩),.pointer (some ⟨L.dm k,0,none⟩)] 73 (0,0))])=y:=⟨_,rfl⟩
 have e2:t2 (2*i+1)=blT [(w.heap.size,.cells #[.int .i64 m.k,.int .i64 (k:Nat),.int .i64 m.s,.int .i64 m.f,.int .i64 m.a,.int .u32 (m.w:Nat),.int .i64 m.n,.bool m.h,.slice d m.l c] 38 (0,0)),(w.heap.size+1,.cells #[.pointer (some ⟨L.hd k,0,none⟩),.pointer (some ⟨L.dd k,0,none⟩),.pointer (some ⟨L.dm k,0,none⟩)] 73 (0,0))]:=by rw[← ht2,putT_same]
 have hLay:∀ w1,Below w.heap.size w w1→w1.heap[w.heap.size]?=some (.cells #[.int .i64 m.k,.int .i64 (k:Nat),.int .i64 m.s,.int .i64 m.f,.int .i64 m.a,.int .u32 (m.w:Nat),.int .i64 m.n,.bool m.h,.slice d m.l c] 38 (0,0))→w1.heap[w.heap.size+1]?=some (.cells #[.pointer (some ⟨L.hd k,0,none⟩),.pointer (some ⟨L.dd k,0,none⟩),.pointer (some ⟨L.dm k,0,none⟩)] 73 (0,0))→PWn e w0 t2 L w1 S:=fun w1 b k1 k2=>by
  rw[← ht2]
  refine h.layL b i0.1 (fun p hp=>?_) (fun p hp=>?_)
  ·simp only[List.mem_cons,List.not_mem_nil,or_false]at hp
   rcases hp with rfl | rfl
   ·exact k1
   ·exact k2
  ·simp only[List.mem_cons,List.not_mem_nil,or_false]at hp
   rcases hp with rfl | rfl
   ·exact Nat.le_refl _
   ·exact Nat.le_succ _
 have hX:∀ S2 w1,PWn e w0 t2 L w1 S2→w1.heap[w.heap.size]?=some (.cells #[.int .i64 m.k,.int .i64 (k:Nat),.int .i64 m.s,.int .i64 m.f,.int .i64 m.a,.int .u32 (m.w:Nat),.int .i64 m.n,.bool m.h,.slice d m.l c] 38 (0,0))∧w1.heap[w.heap.size+1]?=some (.cells #[.pointer (some ⟨L.hd k,0,none⟩),.pointer (some ⟨L.dd k,0,none⟩),.pointer (some ⟨L.dm k,0,none⟩)] 73 (0,0)):=fun S2 w1 q=>⟨q.box i0.1 e2 _ (List.mem_cons_self ..),q.box i0.1 e2 _ (List.mem_cons_of_mem _ (List.mem_cons_self ..))⟩
 have hDrop:∀ S2 w1,PWn e w0 t2 L w1 S2→PWn e w0 t L w1 S2:=fun S2 w1 q=>by
  rw[← ht2]at q
  exact q.drop i0.1 i0.2
 have e3:t2 j=t j:=by rw[← ht2,putT_ne _ _ (by omega)]
 refine (wact1 L.x (cgV L.vc) (ccV L.vc) S.n k (L.hd k) (L.dd k) (L.dm k) m d c 70 245 (L.dd k) (dwriteE (S.PD k) (S.ds k) m.l) w (fun w1 => PWn e w0 t2 L w1 S) (fun w1 => PWn e w0 t2 L w1 (S.setD k (dwriteS (S.PD k) (S.ds k) m.l m.b m.h))) cv c0 c1 c2 (by omega) (intEqF (by omega)) (intEqF (by omega)) (intEqF (by omega)) (intEqT h1) (fun w1 => by rw [hs]; exact patD (L.hd k) (L.dd k) (L.dm k) w1) (fun w1 => (by kernel_rfl : (method 415 70 (.pointer (some ⟨L.dd k, 0, none⟩)) "Write").run Tryz.prog w1 = .ok (245, .pointer (some ⟨L.dd k, 0, none⟩)) w1)) (fun u w1 => (by kernel_rfl : (callFunc 245 u).run Tryz.prog w1 = .ok (.enter 245 u) w1)) hLay (fun _ _ q b => q.below b) (fun w1 q => callD q hk (fun g U dv => dvwrite_any (L.dd k) (L.dm k) g 16 S.mx (S.PD k) U (S.ds k) d m.l c m.b m.h w1 dv (q.rowq hq (e3.trans hr)))) (fun w1 q => hX _ _ q.out)).mono ?_
 rintro r w' ⟨rfl,H⟩
 exact⟨rfl,hDrop _ _ H.out⟩
theorem pact5H {e:Nat→Nat} {w0 w:World} {t:Nat→Thing} {L:Pw} {S:Ws} (k i:Nat) (m:Mv) (d:Option Addr) (c:Nat) (h:PWn e w0 t L w S) (F:Fre e t i) (hk:k<S.n) (hs:m.s=1) (h5:m.k=5) (hn:0≤m.n∧m.n≤1048576) (hF:S.fs.length≤90000) (hL:(S.hs k).L.length<800000):Calls Tryz.prog 26 #[.pointer (some ⟨L.x,0,none⟩),.agg #[.int .i64 m.k,.int .i64 (k:Nat),.int .i64 m.s,.int .i64 m.f,.int .i64 m.a,.int .u32 (m.w:Nat),.int .i64 m.n,.bool m.h,.slice d m.l c]] w fun r w'=>r=.returned (.tuple #[.int .i64 (htickE m.n),.int .i64 (-1)])∧Hid (PWn e w0 t L w' ((S.setH k (htickS (S.PH k) (S.hs k) m.n)).note (if (htickE m.n)=0 then [⟨5,k,1,0,m.n.toNat,false,0,fm0⟩] else []))):=by
 obtain⟨cv,c0,c1,c2⟩:=h.conn hk
 have i0:=F i (Nat.le_refl _)
 obtain⟨t2,ht2⟩:∃ y,putT t (2*i+1) (blT [(w.heap.size,.cells #[.int .i64 m.k,.int .i64 (k:Nat),.int .i64 m.s,.int .i64 m.f,.int .i64 m.a,.int .u32 (m.w:Nat),.int .i64 m.n,.bool m.h,.slice d m.l c] 38 (0,0)),(w.heap.size+1,.cells #[.pointer (some ⟨L.hd k,0,none⟩),.pointer (some ⟨L.dd k,0,none⟩),.pointer (some ⟨L.dm k,0,none⟩)] 73 (0,0))])=y:=⟨_,rfl⟩
 have e2:t2 (2*i+1)=blT [(w.heap.size,.cells #[.int .i64 m.k,.int .i64 (k:Nat),.int .i64 m.s,.int .i64 m.f,.int .i64 m.a,.int .u32 (m.w:Nat),.int .i64 m.n,.bool m.h,.slice d m.l c] 38 (0,0)),(w.heap.size+1,.cells #[.pointer (some ⟨L.hd k,0,none⟩),.pointer (some ⟨L.dd k,0,none⟩),.pointer (some ⟨L.dm k,0,none⟩)] 73 (0,0))]:=by rw[← ht2,putT_same]
 have hLay:∀ w1,Below w.heap.size w w1→w1.heap[w.heap.size]?=some (.cells #[.int .i64 m.k,.int .i64 (k:Nat),.int .i64 m.s,.int .i64 m.f,.int .i64 m.a,.int .u32 (m.w:Nat),.int .i64 m.n,.bool m.h,.slice d m.l c] 38 (0,0))→w1.heap[w.heap.size+1]?=some (.cells #[.pointer (some ⟨L.hd k,0,none⟩),.pointer (some ⟨L.dd k,0,none⟩),.pointer (some ⟨L.dm k,0,none⟩)] 73 (0,0))→PWn e w0 t2 L w1 S:=fun w1 b k1 k2=>by
  rw[← ht2]
  refine h.layL b i0.1 (fun p hp=>?_) (fun p hp=>?_)
  ·simp only[List.mem_cons,List.not_mem_nil,or_false]at hp
   rcases hp with rfl | rfl
   ·exact k1
   ·exact k2
  ·simp only[List.mem_cons,List.not_mem_nil,or_false]at hp
   rcases hp with rfl | rfl
   ·exact Nat.le_refl _
   ·exact Nat.le_succ _
 have hX:∀ S2 w1,PWn e w0 t2 L w1 S2→w1.heap[w.heap.size]?=some (.cells #[.int .i64 m.k,.int .i64 (k:Nat),.int .i64 m.s,.int .i64 m.f,.int .i64 m.a,.int .u32 (m.w:Nat),.int .i64 m.n,.bool m.h,.slice d m.l c] 38 (0,0))∧w1.heap[w.heap.size+1]?=some (.cells #[.pointer (some ⟨L.hd k,0,none⟩),.pointer (some ⟨L.dd k,0,none⟩),.pointer (some ⟨L.dm k,0,none⟩)] 73 (0,0)):=fun S2 w1 q=>⟨q.box i0.1 e2 _ (List.mem_cons_self ..),q.box i0.1 e2 _ (List.mem_cons_of_mem _ (List.mem_cons_self ..))⟩
 have hDrop:∀ S2 w1,PWn e w0 t2 L w1 S2→PWn e w0 t L w1 S2:=fun S2 w1 q=>by
  rw[← ht2]at q
  exact q.drop i0.1 i0.2
 have hN:m.n=((m.n.toNat:Nat):Int):=by omega
 refine (wact5 L.x (cgV L.vc) (ccV L.vc) S.n k (L.hd k) (L.dd k) (L.dm k) m d c 69 235 (L.hd k) (htickE m.n) w m.n.toNat hN (by omega) (fun w1 => PWn e w0 t2 L w1 S) (fun w1 => PWn e w0 t2 L w1 (S.setH k (htickS (S.PH k) (S.hs k) m.n))) (fun w1 => PWn e w0 t2 L w1 ((S.setH k (htickS (S.PH k) (S.hs k) m.n)).note (if (htickE m.n) = 0 then [⟨5, k, 1, 0, m.n.toNat, false, 0, fm0⟩] else []))) cv c0 c1 c2 (by omega) (intEqF (by omega)) (intEqF (by omega)) (intEqF (by omega)) (intEqF (by omega)) (intEqT h5) (fun w1 => by rw [hs]; exact patH (L.hd k) (L.dd k) (L.dm k) w1) (fun w1 => (by kernel_rfl : (method 415 69 (.pointer (some ⟨L.hd k, 0, none⟩)) "Tick").run Tryz.prog w1 = .ok (235, .pointer (some ⟨L.hd k, 0, none⟩)) w1)) (fun u w1 => (by kernel_rfl : (callFunc 235 u).run Tryz.prog w1 = .ok (.enter 235 u) w1)) hLay (fun _ _ q b => q.below b) (fun w1 q => callH q hk (fun U hv => htick_any (L.hd k) (S.PH k) U (S.hs k) m.n w1 hv (by omega) hL)) (fun w1 q => hX _ _ q.out) (fun w1 q => by rw [hs]; exact pnoteIfN (htickE m.n) 5 k 1 0 m.n.toNat q.out (by show S.fs.length ≤ 100000; omega))).mono ?_
 rintro r w' ⟨rfl,H⟩
 exact⟨rfl,hDrop _ _ H.out⟩
theorem pact5D {e:Nat→Nat} {w0 w:World} {t:Nat→Thing} {L:Pw} {S:Ws} (k i:Nat) (m:Mv) (d:Option Addr) (c:Nat) (h:PWn e w0 t L w S) (F:Fre e t i) (hk:k<S.n) (hs:m.s=2) (h5:m.k=5) (hn:0≤m.n∧m.n≤1048576) (hF:S.fs.length≤90000) (hL:(S.ds k).L.length<800000):Calls Tryz.prog 26 #[.pointer (some ⟨L.x,0,none⟩),.agg #[.int .i64 m.k,.int .i64 (k:Nat),.int .i64 m.s,.int .i64 m.f,.int .i64 m.a,.int .u32 (m.w:Nat),.int .i64 m.n,.bool m.h,.slice d m.l c]] w fun r w'=>r=.returned (.tuple #[.int .i64 (dtickE (S.ds k) m.n),.int .i64 (-1)])∧Hid (PWn e w0 t L w' ((S.setD k (dtickS (S.PD k) (S.ds k) m.n)).note (if (dtickE (S.ds k) m.n)=0 then [⟨5,k,2,0,m.n.toNat,false,0,fm0⟩] else []))):=by
 obtain⟨cv,c0,c1,c2⟩:=h.conn hk
 have i0:=F i (Nat.le_refl _)
 obtain⟨t2,ht2⟩:∃ y,putT t (2*i+1) (blT [(w.heap.size,.cells #[.int .i64 m.k,.int .i64 (k:Nat),.int .i64 m.s,.int .i64 m.f,.int .i64 m.a,.int .u32 (m.w:Nat),.int .i64 m.n,.bool m.h,.slice d m.l c] 38 (0,0)),(w.heap.size+1,.cells #[.pointer (some ⟨L.hd k,0,none⟩),.pointer (some ⟨L.dd k,0,none⟩),.pointer (some ⟨L.dm k,0,none⟩)] 73 (0,0))])=y:=⟨_,rfl⟩
 have e2:t2 (2*i+1)=blT [(w.heap.size,.cells #[.int .i64 m.k,.int .i64 (k:Nat),.int .i64 m.s,.int .i64 m.f,.int .i64 m.a,.int .u32 (m.w:Nat),.int .i64 m.n,.bool m.h,.slice d m.l c] 38 (0,0)),(w.heap.size+1,.cells #[.pointer (some ⟨L.hd k,0,none⟩),.pointer (some ⟨L.dd k,0,none⟩),.pointer (some ⟨L.dm k,0,none⟩)] 73 (0,0))]:=by rw[← ht2,putT_same]
 have hLay:∀ w1,Below w.heap.size w w1→w1.heap[w.heap.size]?=some (.cells #[.int .i64 m.k,.int .i64 (k:Nat),.int .i64 m.s,.int .i64 m.f,.int .i64 m.a,.int .u32 (m.w:Nat),.int .i64 m.n,.bool m.h,.slice d m.l c] 38 (0,0))→w1.heap[w.heap.size+1]?=some (.cells #[.pointer (some ⟨L.hd k,0,none⟩),.pointer (some ⟨L.dd k,0,none⟩),.pointer (some ⟨L.dm k,0,none⟩)] 73 (0,0))→PWn e w0 t2 L w1 S:=fun w1 b k1 k2=>by
  rw[← ht2]
  refine h.layL b i0.1 (fun p hp=>?_) (fun p hp=>?_)
  ·simp only[List.mem_cons,List.not_mem_nil,or_false]at hp
   rcases hp with rfl | rfl
   ·exact k1
   ·exact k2
  ·simp only[List.mem_cons,List.not_mem_nil,or_false]at hp
   rcases hp with rfl | rfl
   ·exact Nat.le_refl _
   ·exact Nat.le_succ _
 have hX:∀ S2 w1,PWn e w0 t2 L w1 S2→w1.heap[w.heap.size]?=some (.cells #[.int .i64 m.k,.int .i64 (k:Nat),.int .i64 m.s,.int .i64 m.f,.int .i64 m.a,.int .u32 (m.w:Nat),.int .i64 m.n,.bool m.h,.slice d m.l c] 38 (0,0))∧w1.heap[w.heap.size+1]?=some (.cells #[.pointer (some ⟨L.hd k,0,none⟩),.pointer (some ⟨L.dd k,0,none⟩),.pointer (some ⟨L.dm k,0,none⟩)] 73 (0,0)):=fun S2 w1 q=>⟨q.box i0.1 e2 _ (List.mem_cons_self ..),q.box i0.1 e2 _ (List.mem_cons_of_mem _ (List.mem_cons_self ..))⟩
 have hDrop:∀ S2 w1,PWn e w0 t2 L w1 S2→PWn e w0 t L w1 S2:=fun S2 w1 q=>by
  rw[← ht2]at q
  exact q.drop i0.1 i0.2
 have hN:m.n=((m.n.toNat:Nat):Int):=by omega
 refine (wact5 L.x (cgV L.vc) (ccV L.vc) S.n k (L.hd k) (L.dd k) (L.dm k) m d c 70 244 (L.dd k) (dtickE (S.ds k) m.n) w m.n.toNat hN (by omega) (fun w1 => PWn e w0 t2 L w1 S) (fun w1 => PWn e w0 t2 L w1 (S.setD k (dtickS (S.PD k) (S.ds k) m.n))) (fun w1 => PWn e w0 t2 L w1 ((S.setD k (dtickS (S.PD k) (S.ds k) m.n)).note (if (dtickE (S.ds k) m.n) = 0 then [⟨5, k, 2, 0, m.n.toNat, false, 0, fm0⟩] else []))) cv c0 c1 c2 (by omega) (intEqF (by omega)) (intEqF (by omega)) (intEqF (by omega)) (intEqF (by omega)) (intEqT h5) (fun w1 => by rw [hs]; exact patD (L.hd k) (L.dd k) (L.dm k) w1) (fun w1 => (by kernel_rfl : (method 415 70 (.pointer (some ⟨L.dd k, 0, none⟩)) "Tick").run Tryz.prog w1 = .ok (244, .pointer (some ⟨L.dd k, 0, none⟩)) w1)) (fun u w1 => (by kernel_rfl : (callFunc 244 u).run Tryz.prog w1 = .ok (.enter 244 u) w1)) hLay (fun _ _ q b => q.below b) (fun w1 q => callD q hk (fun g U dv => dvtick_any (L.dd k) (L.dm k) g 16 S.mx (S.PD k) U (S.ds k) m.n w1 dv (by omega) hL)) (fun w1 q => hX _ _ q.out) (fun w1 q => by rw [hs]; exact pnoteIfN (dtickE (S.ds k) m.n) 5 k 2 0 m.n.toNat q.out (by show S.fs.length ≤ 100000; omega))).mono ?_
 rintro r w' ⟨rfl,H⟩
 exact⟨rfl,hDrop _ _ H.out⟩
theorem pact6H {e:Nat→Nat} {w0 w:World} {t:Nat→Thing} {L:Pw} {S:Ws} (k i:Nat) (m:Mv) (d:Option Addr) (c:Nat) (h:PWn e w0 t L w S) (F:Fre e t i) (hk:k<S.n) (hs:m.s=1) (h6:m.k=6) (hF:S.fs.length≤90000):Calls Tryz.prog 26 #[.pointer (some ⟨L.x,0,none⟩),.agg #[.int .i64 m.k,.int .i64 (k:Nat),.int .i64 m.s,.int .i64 m.f,.int .i64 m.a,.int .u32 (m.w:Nat),.int .i64 m.n,.bool m.h,.slice d m.l c]] w fun r w'=>r=.returned (.tuple #[.int .i64 (hackE (S.hs k)),.int .i64 (-1)])∧Hid (PWn e w0 t L w' ((S.setH k (hackS (S.hs k))).note (if (hackE (S.hs k))=0 then [fOne 6 k 1] else []))):=by
 obtain⟨cv,c0,c1,c2⟩:=h.conn hk
 have i0:=F i (Nat.le_refl _)
 obtain⟨t2,ht2⟩:∃ y,putT t (2*i+1) (blT [(w.heap.size,.cells #[.int .i64 m.k,.int .i64 (k:Nat),.int .i64 m.s,.int .i64 m.f,.int .i64 m.a,.int .u32 (m.w:Nat),.int .i64 m.n,.bool m.h,.slice d m.l c] 38 (0,0)),(w.heap.size+1,.cells #[.pointer (some ⟨L.hd k,0,none⟩),.pointer (some ⟨L.dd k,0,none⟩),.pointer (some ⟨L.dm k,0,none⟩)] 73 (0,0))])=y:=⟨_,rfl⟩
 have e2:t2 (2*i+1)=blT [(w.heap.size,.cells #[.int .i64 m.k,.int .i64 (k:Nat),.int .i64 m.s,.int .i64 m.f,.int .i64 m.a,.int .u32 (m.w:Nat),.int .i64 m.n,.bool m.h,.slice d m.l c] 38 (0,0)),(w.heap.size+1,.cells #[.pointer (some ⟨L.hd k,0,none⟩),.pointer (some ⟨L.dd k,0,none⟩),.pointer (some ⟨L.dm k,0,none⟩)] 73 (0,0))]:=by rw[← ht2,putT_same]
 have hLay:∀ w1,Below w.heap.size w w1→w1.heap[w.heap.size]?=some (.cells #[.int .i64 m.k,.int .i64 (k:Nat),.int .i64 m.s,.int .i64 m.f,.int .i64 m.a,.int .u32 (m.w:Nat),.int .i64 m.n,.bool m.h,.slice d m.l c] 38 (0,0))→w1.heap[w.heap.size+1]?=some (.cells #[.pointer (some ⟨L.hd k,0,none⟩),.pointer (some ⟨L.dd k,0,none⟩),.pointer (some ⟨L.dm k,0,none⟩)] 73 (0,0))→PWn e w0 t2 L w1 S:=fun w1 b k1 k2=>by
  rw[← ht2]
  refine h.layL b i0.1 (fun p hp=>?_) (fun p hp=>?_)
  ·simp only[List.mem_cons,List.not_mem_nil,or_false]at hp
   rcases hp with rfl | rfl
   ·exact k1
   ·exact k2
  ·simp only[List.mem_cons,List.not_mem_nil,or_false]at hp
   rcases hp with rfl | rfl
   ·exact Nat.le_refl _
   ·exact Nat.le_succ _
 have hX:∀ S2 w1,PWn e w0 t2 L w1 S2→w1.heap[w.heap.size]?=some (.cells #[.int .i64 m.k,.int .i64 (k:Nat),.int .i64 m.s,.int .i64 m.f,.int .i64 m.a,.int .u32 (m.w:Nat),.int .i64 m.n,.bool m.h,.slice d m.l c] 38 (0,0))∧w1.heap[w.heap.size+1]?=some (.cells #[.pointer (some ⟨L.hd k,0,none⟩),.pointer (some ⟨L.dd k,0,none⟩),.pointer (some ⟨L.dm k,0,none⟩)] 73 (0,0)):=fun S2 w1 q=>⟨q.box i0.1 e2 _ (List.mem_cons_self ..),q.box i0.1 e2 _ (List.mem_cons_of_mem _ (List.mem_cons_self ..))⟩
 have hDrop:∀ S2 w1,PWn e w0 t2 L w1 S2→PWn e w0 t L w1 S2:=fun S2 w1 q=>by
  rw[← ht2]at q
  exact q.drop i0.1 i0.2
 refine (wact6 L.x (cgV L.vc) (ccV L.vc) S.n k (L.hd k) (L.dd k) (L.dm k) m d c 69 234 (L.hd k) (hackE (S.hs k)) w (fun w1 => PWn e w0 t2 L w1 S) (fun w1 => PWn e w0 t2 L w1 (S.setH k (hackS (S.hs k)))) (fun w1 => PWn e w0 t2 L w1 ((S.setH k (hackS (S.hs k))).note (if (hackE (S.hs k)) = 0 then [fOne 6 k 1] else []))) cv c0 c1 c2 (by omega) (intEqF (by omega)) (intEqF (by omega)) (intEqF (by omega)) (intEqF (by omega)) (intEqF (by omega)) (intEqT h6) (fun w1 => by rw [hs]; exact patH (L.hd k) (L.dd k) (L.dm k) w1) (fun w1 => (by kernel_rfl : (method 415 69 (.pointer (some ⟨L.hd k, 0, none⟩)) "Ack").run Tryz.prog w1 = .ok (234, .pointer (some ⟨L.hd k, 0, none⟩)) w1)) (fun u w1 => (by kernel_rfl : (callFunc 234 u).run Tryz.prog w1 = .ok (.enter 234 u) w1)) hLay (fun _ _ q b => q.below b) (fun w1 q => callH q hk (fun U hv => hack_any (L.hd k) (S.PH k) U (S.hs k) w1 hv)) (fun w1 q => hX _ _ q.out) (fun w1 q => by rw [hs]; exact pnoteIfN (hackE (S.hs k)) 6 k 1 0 0 q.out (by show S.fs.length ≤ 100000; omega))).mono ?_
 rintro r w' ⟨rfl,H⟩
 exact⟨rfl,hDrop _ _ H.out⟩
theorem pact6D {e:Nat→Nat} {w0 w:World} {t:Nat→Thing} {L:Pw} {S:Ws} (k i:Nat) (m:Mv) (d:Option Addr) (c:Nat) (h:PWn e w0 t L w S) (F:Fre e t i) (hk:k<S.n) (hs:m.s=2) (h6:m.k=6) (hF:S.fs.length≤90000):Calls Tryz.prog 26 #[.pointer (some ⟨L.x,0,none⟩),.agg #[.int .i64 m.k,.int .i64 (k:Nat),.int .i64 m.s,.int .i64 m.f,.int .i64 m.a,.int .u32 (m.w:Nat),.int .i64 m.n,.bool m.h,.slice d m.l c]] w fun r w'=>r=.returned (.tuple #[.int .i64 (dackE (S.ds k)),.int .i64 (-1)])∧Hid (PWn e w0 t L w' ((S.setD k (dackS (S.ds k))).note (if (dackE (S.ds k))=0 then [fOne 6 k 2] else []))):=by
 obtain⟨cv,c0,c1,c2⟩:=h.conn hk
 have i0:=F i (Nat.le_refl _)
 obtain⟨t2,ht2⟩:∃ y,putT t (2*i+1) (blT [(w.heap.size,.cells #[.int .i64 m.k,.int .i64 (k:Nat),.int .i64 m.s,.int .i64 m.f,.int .i64 m.a,.int .u32 (m.w:Nat),.int .i64 m.n,.bool m.h,.slice d m.l c] 38 (0,0)),(w.heap.size+1,.cells #[.pointer (some ⟨L.hd k,0,none⟩),.pointer (some ⟨L.dd k,0,none⟩),.pointer (some ⟨L.dm k,0,none⟩)] 73 (0,0))])=y:=⟨_,rfl⟩
 have e2:t2 (2*i+1)=blT [(w.heap.size,.cells #[.int .i64 m.k,.int .i64 (k:Nat),.int .i64 m.s,.int .i64 m.f,.int .i64 m.a,.int .u32 (m.w:Nat),.int .i64 m.n,.bool m.h,.slice d m.l c] 38 (0,0)),(w.heap.size+1,.cells #[.pointer (some ⟨L.hd k,0,none⟩),.pointer (some ⟨L.dd k,0,none⟩),.pointer (some ⟨L.dm k,0,none⟩)] 73 (0,0))]:=by rw[← ht2,putT_same]
 have hLay:∀ w1,Below w.heap.size w w1→w1.heap[w.heap.size]?=some (.cells #[.int .i64 m.k,.int .i64 (k:Nat),.int .i64 m.s,.int .i64 m.f,.int .i64 m.a,.int .u32 (m.w:Nat),.int .i64 m.n,.bool m.h,.slice d m.l c] 38 (0,0))→w1.heap[w.heap.size+1]?=some (.cells #[.pointer (some ⟨L.hd k,0,none⟩),.pointer (some ⟨L.dd k,0,none⟩),.pointer (some ⟨L.dm k,0,none⟩)] 73 (0,0))→PWn e w0 t2 L w1 S:=fun w1 b k1 k2=>by
  rw[← ht2]
  refine h.layL b i0.1 (fun p hp=>?_) (fun p hp=>?_)
  ·simp only[List.mem_cons,List.not_mem_nil,or_false]at hp
   rcases hp with rfl | rfl
   ·exact k1
   ·exact k2
  ·simp only[List.mem_cons,List.not_mem_nil,or_false]at hp
   rcases hp with rfl | rfl
   ·exact Nat.le_refl _
   ·exact Nat.le_succ _
 have hX:∀ S2 w1,PWn e w0 t2 L w1 S2→w1.heap[w.heap.size]?=some (.cells #[.int .i64 m.k,.int .i64 (k:Nat),.int .i64 m.s,.int .i64 m.f,.int .i64 m.a,.int .u32 (m.w:Nat),.int .i64 m.n,.bool m.h,.slice d m.l c] 38 (0,0))∧w1.heap[w.heap.size+1]?=some (.cells #[.pointer (some ⟨L.hd k,0,none⟩),.pointer (some ⟨L.dd k,0,none⟩),.pointer (some ⟨L.dm k,0,none⟩)] 73 (0,0)):=fun S2 w1 q=>⟨q.box i0.1 e2 _ (List.mem_cons_self ..),q.box i0.1 e2 _ (List.mem_cons_of_mem _ (List.mem_cons_self ..))⟩
 have hDrop:∀ S2 w1,PWn e w0 t2 L w1 S2→PWn e w0 t L w1 S2:=fun S2 w1 q=>by
  rw[← ht2]at q
  exact q.drop i0.1 i0.2
 refine (wact6 L.x (cgV L.vc) (ccV L.vc) S.n k (L.hd k) (L.dd k) (L.dm k) m d c 70 243 (L.dd k) (dackE (S.ds k)) w (fun w1 => PWn e w0 t2 L w1 S) (fun w1 => PWn e w0 t2 L w1 (S.setD k (dackS (S.ds k)))) (fun w1 => PWn e w0 t2 L w1 ((S.setD k (dackS (S.ds k))).note (if (dackE (S.ds k)) = 0 then [fOne 6 k 2] else []))) cv c0 c1 c2 (by omega) (intEqF (by omega)) (intEqF (by omega)) (intEqF (by omega)) (intEqF (by omega)) (intEqF (by omega)) (intEqT h6) (fun w1 => by rw [hs]; exact patD (L.hd k) (L.dd k) (L.dm k) w1) (fun w1 => (by kernel_rfl : (method 415 70 (.pointer (some ⟨L.dd k, 0, none⟩)) "Ack").run Tryz.prog w1 = .ok (243, .pointer (some ⟨L.dd k, 0, none⟩)) w1)) (fun u w1 => (by kernel_rfl : (callFunc 243 u).run Tryz.prog w1 = .ok (.enter 243 u) w1)) hLay (fun _ _ q b => q.below b) (fun w1 q => callD q hk (fun g U dv => dvack_any (L.dd k) (L.dm k) g 16 S.mx (S.PD k) U (S.ds k) w1 dv)) (fun w1 q => hX _ _ q.out) (fun w1 q => by rw [hs]; exact pnoteIfN (dackE (S.ds k)) 6 k 2 0 0 q.out (by show S.fs.length ≤ 100000; omega))).mono ?_
 rintro r w' ⟨rfl,H⟩
 exact⟨rfl,hDrop _ _ H.out⟩
theorem pact7H {e:Nat→Nat} {w0 w:World} {t:Nat→Thing} {L:Pw} {S:Ws} (k i:Nat) (m:Mv) (d:Option Addr) (c:Nat) (h:PWn e w0 t L w S) (F:Fre e t i) (hk:k<S.n) (hs:m.s=1) (h7:m.k=7) (hc:m.c=((k:Nat):Int)) (hF:S.fs.length≤90000):Calls Tryz.prog 26 #[.pointer (some ⟨L.x,0,none⟩),.agg #[.int .i64 m.k,.int .i64 (k:Nat),.int .i64 m.s,.int .i64 m.f,.int .i64 m.a,.int .u32 (m.w:Nat),.int .i64 m.n,.bool m.h,.slice d m.l c]] w fun r w'=>r=.returned (.tuple #[.int .i64 0,.int .i64 (-1)])∧Hid (PWn e w0 t L w' ((S.note [fOne 7 k 1]).setH k (hlife (S.hs k)))):=by
 obtain⟨cv,c0,c1,c2⟩:=h.conn hk
 have i0:=F i (Nat.le_refl _)
 obtain⟨t2,ht2⟩:∃ y,putT t (2*i+1) (blT [(w.heap.size,.cells #[.int .i64 m.k,.int .i64 (k:Nat),.int .i64 m.s,.int .i64 m.f,.int .i64 m.a,.int .u32 (m.w:Nat),.int .i64 m.n,.bool m.h,.slice d m.l c] 38 (0,0)),(w.heap.size+1,.cells #[.pointer (some ⟨L.hd k,0,none⟩),.pointer (some ⟨L.dd k,0,none⟩),.pointer (some ⟨L.dm k,0,none⟩)] 73 (0,0))])=y:=⟨_,rfl⟩
 have e2:t2 (2*i+1)=blT [(w.heap.size,.cells #[.int .i64 m.k,.int .i64 (k:Nat),.int .i64 m.s,.int .i64 m.f,.int .i64 m.a,.int .u32 (m.w:Nat),.int .i64 m.n,.bool m.h,.slice d m.l c] 38 (0,0)),(w.heap.size+1,.cells #[.pointer (some ⟨L.hd k,0,none⟩),.pointer (some ⟨L.dd k,0,none⟩),.pointer (some ⟨L.dm k,0,none⟩)] 73 (0,0))]:=by rw[← ht2,putT_same]
 have hLay:∀ w1,Below w.heap.size w w1→w1.heap[w.heap.size]?=some (.cells #[.int .i64 m.k,.int .i64 (k:Nat),.int .i64 m.s,.int .i64 m.f,.int .i64 m.a,.int .u32 (m.w:Nat),.int .i64 m.n,.bool m.h,.slice d m.l c] 38 (0,0))→w1.heap[w.heap.size+1]?=some (.cells #[.pointer (some ⟨L.hd k,0,none⟩),.pointer (some ⟨L.dd k,0,none⟩),.pointer (some ⟨L.dm k,0,none⟩)] 73 (0,0))→PWn e w0 t2 L w1 S:=fun w1 b k1 k2=>by
  rw[← ht2]
  refine h.layL b i0.1 (fun p hp=>?_) (fun p hp=>?_)
  ·simp only[List.mem_cons,List.not_mem_nil,or_false]at hp
   rcases hp with rfl | rfl
   ·exact k1
   ·exact k2
  ·simp only[List.mem_cons,List.not_mem_nil,or_false]at hp
   rcases hp with rfl | rfl
   ·exact Nat.le_refl _
   ·exact Nat.le_succ _
 have hX:∀ S2 w1,PWn e w0 t2 L w1 S2→w1.heap[w.heap.size]?=some (.cells #[.int .i64 m.k,.int .i64 (k:Nat),.int .i64 m.s,.int .i64 m.f,.int .i64 m.a,.int .u32 (m.w:Nat),.int .i64 m.n,.bool m.h,.slice d m.l c] 38 (0,0))∧w1.heap[w.heap.size+1]?=some (.cells #[.pointer (some ⟨L.hd k,0,none⟩),.pointer (some ⟨L.dd k,0,none⟩),.pointer (some ⟨L.dm k,0,none⟩)] 73 (0,0)):=fun S2 w1 q=>⟨q.box i0.1 e2 _ (List.mem_cons_self ..),q.box i0.1 e2 _ (List.mem_cons_of_mem _ (List.mem_cons_self ..))⟩
 have hDrop:∀ S2 w1,PWn e w0 t2 L w1 S2→PWn e w0 t L w1 S2:=fun S2 w1 q=>by
  rw[← ht2]at q
  exact q.drop i0.1 i0.2
 refine (wact7 L.x (cgV L.vc) (ccV L.vc) S.n k (L.hd k) (L.dd k) (L.dm k) m d c 0 w (fun w1=>PWn e w0 t2 L w1 S) (fun w1=>PWn e w0 t2 L w1 (S.note [fOne 7 k 1])) (fun w1=>PWn e w0 t2 L w1 ((S.note [fOne 7 k 1]).setH k (hlife (S.hs k)))) cv c0 c1 c2 (by omega) (intEqF (by omega)) (intEqF (by omega)) (intEqF (by omega)) (intEqF (by omega)) (intEqF (by omega)) (intEqF (by omega)) (intEqT h7) hLay (fun _ _ q b=>q.below b) (fun w1 q=>by rw[hs];exact pnote0N 7 k 1 0 0 q (by omega)) (fun w1 q=>hX _ _ q.out) (fun w1 q=>by
   have:=wreset (L.hd k) (L.dd k) (L.dm k) m d c 0 w1 (fun w'=>PWn e w0 t2 L w' ((S.note [fOne 7 k 1]).setH k (hlife (S.hs k)))) (fun _ wx bx=>callH (q.out.below bx) hk (fun U hv=>hreset_any (L.hd k) (S.PH k) U (S.hs k) wx hv)) (fun z=>absurd hs z)
   rw[hc]at this
   exact this)).mono ?_
 rintro r w' ⟨rfl,H⟩
 exact⟨rfl,hDrop _ _ H.out⟩
theorem pact7D {e:Nat→Nat} {w0 w:World} {t:Nat→Thing} {L:Pw} {S:Ws} (k i:Nat) (m:Mv) (d:Option Addr) (c:Nat) (h:PWn e w0 t L w S) (F:Fre e t i) (hk:k<S.n) (hs:m.s=2) (h7:m.k=7) (hc:m.c=((k:Nat):Int)) (hF:S.fs.length≤90000) (hn:0≤m.n∧m.n≤9223372036854775807) (ht:(S.ds k).ms.t<9223372036854774000):Calls Tryz.prog 26 #[.pointer (some ⟨L.x,0,none⟩),.agg #[.int .i64 m.k,.int .i64 (k:Nat),.int .i64 m.s,.int .i64 m.f,.int .i64 m.a,.int .u32 (m.w:Nat),.int .i64 m.n,.bool m.h,.slice d m.l c]] w fun r w'=>r=.returned (.tuple #[.int .i64 (dresetE S.mx 16 (S.ds k) m.n),.int .i64 (-1)])∧Hid (PWn e w0 t L w' ((S.note [fOne 7 k 2]).setD k (dresetS S.mx 16 (S.ds k) m.n))):=by
 obtain⟨cv,c0,c1,c2⟩:=h.conn hk
 have i0:=F i (Nat.le_refl _)
 obtain⟨t2,ht2⟩:∃ y,putT t (2*i+1) (blT [(w.heap.size,.cells #[.int .i64 m.k,.int .i64 (k:Nat),.int .i64 m.s,.int .i64 m.f,.int .i64 m.a,.int .u32 (m.w:Nat),.int .i64 m.n,.bool m.h,.slice d m.l c] 38 (0,0)),(w.heap.size+1,.cells #[.pointer (some ⟨L.hd k,0,none⟩),.pointer (some ⟨L.dd k,0,none⟩),.pointer (some ⟨L.dm k,0,none⟩)] 73 (0,0))])=y:=⟨_,rfl⟩
 have e2:t2 (2*i+1)=blT [(w.heap.size,.cells #[.int .i64 m.k,.int .i64 (k:Nat),.int .i64 m.s,.int .i64 m.f,.int .i64 m.a,.int .u32 (m.w:Nat),.int .i64 m.n,.bool m.h,.slice d m.l c] 38 (0,0)),(w.heap.size+1,.cells #[.pointer (some ⟨L.hd k,0,none⟩),.pointer (some ⟨L.dd k,0,none⟩),.pointer (some ⟨L.dm k,0,none⟩)] 73 (0,0))]:=by rw[← ht2,putT_same]
 have hLay:∀ w1,Below w.heap.size w w1→w1.heap[w.heap.size]?=some (.cells #[.int .i64 m.k,.int .i64 (k:Nat),.int .i64 m.s,.int .i64 m.f,.int .i64 m.a,.int .u32 (m.w:Nat),.int .i64 m.n,.bool m.h,.slice d m.l c] 38 (0,0))→w1.heap[w.heap.size+1]?=some (.cells #[.pointer (some ⟨L.hd k,0,none⟩),.pointer (some ⟨L.dd k,0,none⟩),.pointer (some ⟨L.dm k,0,none⟩)] 73 (0,0))→PWn e w0 t2 L w1 S:=fun w1 b k1 k2=>by
  rw[← ht2]
  refine h.layL b i0.1 (fun p hp=>?_) (fun p hp=>?_)
  ·simp only[List.mem_cons,List.not_mem_nil,or_false]at hp
   rcases hp with rfl | rfl
   ·exact k1
   ·exact k2
  ·simp only[List.mem_cons,List.not_mem_nil,or_false]at hp
   rcases hp with rfl | rfl
   ·exact Nat.le_refl _
   ·exact Nat.le_succ _
 have hX:∀ S2 w1,PWn e w0 t2 L w1 S2→w1.heap[w.heap.size]?=some (.cells #[.int .i64 m.k,.int .i64 (k:Nat),.int .i64 m.s,.int .i64 m.f,.int .i64 m.a,.int .u32 (m.w:Nat),.int .i64 m.n,.bool m.h,.slice d m.l c] 38 (0,0))∧w1.heap[w.heap.size+1]?=some (.cells #[.pointer (some ⟨L.hd k,0,none⟩),.pointer (some ⟨L.dd k,0,none⟩),.pointer (some ⟨L.dm k,0,none⟩)] 73 (0,0)):=fun S2 w1 q=>⟨q.box i0.1 e2 _ (List.mem_cons_self ..),q.box i0.1 e2 _ (List.mem_cons_of_mem _ (List.mem_cons_self ..))⟩
 have hDrop:∀ S2 w1,PWn e w0 t2 L w1 S2→PWn e w0 t L w1 S2:=fun S2 w1 q=>by
  rw[← ht2]at q
  exact q.drop i0.1 i0.2
 refine (wact7 L.x (cgV L.vc) (ccV L.vc) S.n k (L.hd k) (L.dd k) (L.dm k) m d c (dresetE S.mx 16 (S.ds k) m.n) w (fun w1=>PWn e w0 t2 L w1 S) (fun w1=>PWn e w0 t2 L w1 (S.note [fOne 7 k 2])) (fun w1=>PWn e w0 t2 L w1 ((S.note [fOne 7 k 2]).setD k (dresetS S.mx 16 (S.ds k) m.n))) cv c0 c1 c2 (by omega) (intEqF (by omega)) (intEqF (by omega)) (intEqF (by omega)) (intEqF (by omega)) (intEqF (by omega)) (intEqF (by omega)) (intEqT h7) hLay (fun _ _ q b=>q.below b) (fun w1 q=>by rw[hs];exact pnote0N 7 k 2 0 0 q (by omega)) (fun w1 q=>hX _ _ q.out) (fun w1 q=>by
   have:=wreset (L.hd k) (L.dd k) (L.dm k) m d c (dresetE S.mx 16 (S.ds k) m.n) w1 (fun w'=>PWn e w0 t2 L w' ((S.note [fOne 7 k 2]).setD k (dresetS S.mx 16 (S.ds k) m.n))) (fun z=>absurd z (by omega)) (fun _ wx bx=>callD (q.out.below bx) hk (fun g U dv=>dvreset_any (L.dd k) (L.dm k) g 16 S.mx (S.PD k) U (S.ds k) m.n wx dv hn.1 hn.2 ht))
   rw[hc]at this
   exact this)).mono ?_
 rintro r w' ⟨rfl,H⟩
 exact⟨rfl,hDrop _ _ H.out⟩
theorem pact8 {e:Nat→Nat} {w0 w:World} {t:Nat→Thing} {L:Pw} {S:Ws} (k i:Nat) (m:Mv) (d:Option Addr) (c:Nat) (h:PWn e w0 t L w S) (F:Fre e t i) (hk:k<S.n) (h8:m.k=8) (hn:m.n≤9223372036854775807):Calls Tryz.prog 26 #[.pointer (some ⟨L.x,0,none⟩),.agg #[.int .i64 m.k,.int .i64 (k:Nat),.int .i64 m.s,.int .i64 m.f,.int .i64 m.a,.int .u32 (m.w:Nat),.int .i64 m.n,.bool m.h,.slice d m.l c]] w fun r w'=>r=.returned (.tuple #[.int .i64 (arE m.n),.int .i64 (-1)])∧Hid (PWn e w0 t L w' (S.setD k { S.ds k with ms:=arS (S.ds k).ms m.n })):=by
 obtain⟨cv,c0,c1,c2⟩:=h.conn hk
 exact wact8 L.x (cgV L.vc) (ccV L.vc) S.n k (L.hd k) (L.dd k) (L.dm k) m d c (arE m.n) w (fun w1=>PWn e w0 t L w1 (S.setD k { S.ds k with ms:=arS (S.ds k).ms m.n })) cv c0 c1 c2 (by omega) (intEqF (by omega)) (intEqF (by omega)) (intEqF (by omega)) (intEqF (by omega)) (intEqF (by omega)) (intEqF (by omega)) (intEqF (by omega)) (fun w1 b1=>callD (h.below b1) hk (fun g U dv=>dvarm_any (L.dd k) (L.dm k) g 16 S.mx (S.PD k) U (S.ds k) m.n w1 dv hn))
theorem wsee (X b g cc n k hd dd dm:Nat) (s:Int) (T:TypeId) (Fn:FuncId) (P:Nat) (s0 s1 s2 s3 s4:Nat) (la:Int) (rq on:Bool) (o:Nat) (bs:Nat→Nat) (w:World)
  (cb:w.cell? ⟨X,4,none⟩=some (.pointer (some ⟨b,0,none⟩))) (cv:w.cell? ⟨X,3,none⟩=some (.slice (some ⟨g,0,none⟩) n cc)) (c0:w.cell? ⟨g,k*3,none⟩=some (.pointer (some ⟨hd,0,none⟩))) (c1:w.cell? ⟨g,k*3+1,none⟩=some (.pointer (some ⟨dd,0,none⟩))) (c2:w.cell? ⟨g,k*3+2,none⟩=some (.pointer (some ⟨dm,0,none⟩))) (hlt:k<n) (hs:s=1∨s=2)
  (hA:∀ w1,Calls Tryz.prog 48 #[.agg #[.pointer (some ⟨hd,0,none⟩),.pointer (some ⟨dd,0,none⟩),.pointer (some ⟨dm,0,none⟩)],.int .i64 s] w1 fun r w'=>r=.returned (.iface T (.pointer (some ⟨P,0,none⟩)))∧Below w1.heap.size w1 w')
  (hM : ∀ w1, (method 415 T (.pointer (some ⟨P, 0, none⟩)) "See").run Tryz.prog w1 = .ok (Fn, .pointer (some ⟨P, 0, none⟩)) w1) (hF : ∀ u w1, (callFunc Fn u).run Tryz.prog w1 = .ok (.enter Fn u) w1)
  (hC:∀ w1,Below w.heap.size w w1→Calls Tryz.prog Fn #[.pointer (some ⟨P,0,none⟩)] w1 fun r w'=>∃ a ca,r=.returned (.agg #[.int .i64 (s0:Nat),.int .u32 (s1:Nat),.int .u32 (s2:Nat),.int .u32 (s3:Nat),.int .i64 (s4:Nat),.int .i64 la,.bool rq,.bool on,.slice a o ca])∧Hid (Below w1.heap.size w1 w'∧Row8 w' a o ca bs∧∀ y,a=some y→0<o→w1.heap.size≤y.block)) :
  Calls Tryz.prog 30 #[.pointer (some ⟨X,0,none⟩),.int .i64 (k:Nat),.int .i64 s] w fun r w'=>∃ a ca,r=.returned (.tuple #[.agg #[.int .i64 (s0:Nat),.int .u32 (s1:Nat),.int .u32 (s2:Nat),.int .u32 (s3:Nat),.int .i64 (s4:Nat),.int .i64 la,.bool rq,.bool on,.slice a o ca],.int .i64 0])∧Hid (Below w.heap.size w w'∧Row8 w' a o ca bs∧∀ y,a=some y→0<o→w.heap.size≤y.block):=by
 have kA:=heap_alloc_new w (.cells #[.int .i64 0,.int .u32 0,.int .u32 0,.int .u32 0,.int .i64 0,.int .i64 0,.bool false,.bool false,.slice none 0 0] 42)
 have bA:=belY (Below.refl _ w) (.cells #[.int .i64 0,.int .u32 0,.int .u32 0,.int .u32 0,.int .i64 0,.int .i64 0,.bool false,.bool false,.slice none 0 0] 42)
 have sA:=sz1 w (.cells #[.int .i64 0,.int .u32 0,.int .u32 0,.int .u32 0,.int .i64 0,.int .i64 0,.bool false,.bool false,.slice none 0 0] 42)
 obtain⟨wa,hwa⟩:∃ z,w.alloc (.cells #[.int .i64 0,.int .u32 0,.int .u32 0,.int .u32 0,.int .i64 0,.int .i64 0,.bool false,.bool false,.slice none 0 0] 42)=z:=⟨_,rfl⟩
 obtain⟨x,hx⟩:∃ z,w.heap.size=z:=⟨_,rfl⟩
 rw[hwa]at kA bA sA
 have HB:Hid (Below w.heap.size w wa):=bA
 have d3:=cellY cv bA
 have d0:=cellY c0 bA
 have d1:=cellY c1 bA
 have d2:=cellY c2 bA
 have hN:=pnone X b wa (cellY cb bA)
 have hH:=phas X (some ⟨g,0,none⟩) n cc ((k:Nat):Int) wa d3
 rw[decide_eq_true (by omega)]at hH
 have hI:=pisSide s wa
 rw[show ((s == 1) || (s == 2))=true by simpa using hs]at hI
 have hAc:=hA wa
 rw[hx]at kA sA
 have HK:Hid (_):=kA
 have HS:Hid (w.heap.size=x):=hx
 have HZ:Hid (wa.heap.size=x+1):=sA
 have HE:Hid (_=wa):=hwa
 have HC:Hid (_):=hC
 have hlt':((k:Nat):Int) < ((n:Nat):Int):=by omega
 clear kA bA sA hwa hx hC hA cb cv c0 c1 c2 hs hlt
 go_enter Tryz.func30,Tryz.ntmps30
 go_upto_region 1 with fail
 rw[HE.out,HS.out]
 go_wp2_with fail
 refine hN.mono ?_
 rintro r w2 ⟨rfl,hw⟩
 rw[hw]
 clear hw
 clear hN
 go_wp2_with fail
 refine hH.mono ?_
 rintro r w2 ⟨rfl,hw⟩
 rw[hw]
 clear hw
 clear hH
 go_wp2_with fail
 refine hI.mono ?_
 rintro r w2 ⟨rfl,hw⟩
 rw[hw]
 clear hw
 clear hI
 go_wp2_with fail
 refine hAc.mono ?_
 rintro r w4 ⟨rfl,b4⟩
 clear hAc d0 d1 d2 d3
 have hCc:=(show Calls Tryz.prog Fn #[.pointer (some ⟨P,0,none⟩)] w4 (fun r w'=>∃ a ca,r=.returned (.agg #[.int .i64 (s0:Nat),.int .u32 (s1:Nat),.int .u32 (s2:Nat),.int .u32 (s3:Nat),.int .i64 (s4:Nat),.int .i64 la,.bool rq,.bool on,.slice a o ca])∧Hid (Below w4.heap.size w4 w'∧Row8 w' a o ca bs∧∀ y,a=some y→0<o→w4.heap.size≤y.block)) from HC.out w4 (HB.out.trans (b4.mono HB.out.size)))
 have HB4:Hid (_):=b4
 clear b4
 go_wp2_with fail
 refine hCc.mono ?_
 rintro r w5 ⟨a,ca,rfl,H5⟩
 clear hCc
 have b45:Below wa.heap.size wa w5:=HB4.out.trans (H5.out.1.mono HB4.out.size)
 have k5:=(b45.block x (by rw[HZ.out];omega)).trans HK.out
 have y0:=cell_of_row w5 x 0 _ _ _ k5
 have y1:=cell_of_row w5 x 1 _ _ _ k5
 have y2:=cell_of_row w5 x 2 _ _ _ k5
 have y3:=cell_of_row w5 x 3 _ _ _ k5
 have y4:=cell_of_row w5 x 4 _ _ _ k5
 have y5:=cell_of_row w5 x 5 _ _ _ k5
 have y6:=cell_of_row w5 x 6 _ _ _ k5
 have y7:=cell_of_row w5 x 7 _ _ _ k5
 have y8:=cell_of_row w5 x 8 _ _ _ k5
 have yz:=fun j=>frozen_of_row w5 x j _ _ k5
 have HB5:Hid (_):=b45
 clear b45 k5
 go_wp2_with fail
 refine bodyPost_ret (v:=.tuple #[.agg #[.int .i64 (s0:Nat),.int .u32 (s1:Nat),.int .u32 (s2:Nat),.int .u32 (s3:Nat),.int .i64 (s4:Nat),.int .i64 la,.bool rq,.bool on,.slice a o ca],.int .i64 0]) (by simp[results,Tryz.results30,go_sem,y0,y1,y2,y3,y4,y5,y6,y7,y8]) rfl ?_
 have oo:Off [x] w5 (((((((((w5.setCell ⟨x,0,none⟩ (Value.int .i64 (s0:Nat))).setCell ⟨x,1,none⟩ (Value.int .u32 (s1:Nat))).setCell ⟨x,2,none⟩ (Value.int .u32 (s2:Nat))).setCell ⟨x,3,none⟩ (Value.int .u32 (s3:Nat))).setCell ⟨x,4,none⟩ (Value.int .i64 (s4:Nat))).setCell ⟨x,5,none⟩ (Value.int .i64 la)).setCell ⟨x,6,none⟩ (Value.bool rq)).setCell ⟨x,7,none⟩ (Value.bool on)).setCell ⟨x,8,none⟩ (Value.slice a o ca)):=((((((((Off.setCell x 0 w5 _).trans (Off.setCell x 1 _ _)).trans (Off.setCell x 2 _ _)).trans (Off.setCell x 3 _ _)).trans (Off.setCell x 4 _ _)).trans (Off.setCell x 5 _ _)).trans (Off.setCell x 6 _ _)).trans (Off.setCell x 7 _ _)).trans (Off.setCell x 8 _ _)
 have hb:=HB.out
 have h4:=HB4.out.size
 have h5:=HZ.out
 have hsx:=HS.out
 refine⟨a,ca,rfl,oo.below (hb.trans (HB5.out.mono hb.size)) (by simp;omega) (Nat.le_trans hb.size HB5.out.size),Row8.offY H5.out.2.1 oo (fun y hy hn hm=>?_),fun y hy hn=>?_⟩
 ·have:=H5.out.2.2 y hy hn
  simp at hm
  omega
 ·have:=H5.out.2.2 y hy hn
  omega
theorem PWn.bagp {e:Nat→Nat} {w0 w:World} {t:Nat→Thing} {L:Pw} {S:Ws} (h:PWn e w0 t L w S):∃ b,w.cell? ⟨L.x,4,none⟩=some (.pointer (some ⟨b,0,none⟩)):=by
 obtain⟨t1,L1,h1,hs,hx,he⟩:=h
 have c4:w.cell? ⟨L1.x,4,none⟩=some (.pointer (some ⟨L1.b,0,none⟩)):=cell_of_row w L1.x 4 _ _ _ (h1.2.wb h1.1).blk
 rw[hx.x]at c4
 exact⟨_,c4⟩
theorem pseeW1 {e:Nat→Nat} {w0 w:World} {t:Nat→Thing} {L:Pw} {S:Ws} {k:Nat} (h:PWn e w0 t L w S) (hk:k<S.n):Calls Tryz.prog 30 #[.pointer (some ⟨L.x,0,none⟩),.int .i64 (k:Nat),.int .i64 1] w fun r w'=>∃ a ca,r=.returned (.tuple #[.agg #[.int .i64 ((S.hs k).st:Nat),.int .u32 ((S.hs k).ss:Nat),.int .u32 ((S.hs k).nm:Nat),.int .u32 ((S.hs k).sn:Nat),.int .i64 ((S.hs k).dc:Nat),.int .i64 (S.hs k).v.lat,.bool (vreq (S.hs k).v),.bool (von (S.hs k).v),.slice a (S.PH k).i ca],.int .i64 0])∧Hid (Below w.heap.size w w'∧Row8 w' a (S.PH k).i ca (vout (S.hs k).v)∧∀ y,a=some y→0 < (S.PH k).i→w.heap.size≤y.block):=by
 obtain⟨cv,c0,c1,c2⟩:=h.conn hk
 obtain⟨b,cb⟩:=h.bagp
 exact wsee L.x b (cgV L.vc) (ccV L.vc) S.n k (L.hd k) (L.dd k) (L.dm k) 1 69 28 (L.hd k) _ _ _ _ _ _ _ _ _ _ w cb cv c0 c1 c2 hk (.inl rfl) (fun w1 => patH _ _ _ w1) (fun w1 => (by kernel_rfl : (method 415 69 (.pointer (some ⟨L.hd k, 0, none⟩)) "See").run Tryz.prog w1 = .ok (28, .pointer (some ⟨L.hd k, 0, none⟩)) w1)) (fun u w1 => (by kernel_rfl : (callFunc 28 u).run Tryz.prog w1 = .ok (.enter 28 u) w1)) (fun w1 b1 => by
  obtain⟨U,hv⟩:=(h.below b1).hv hk
  refine (hseeS_any (L.hd k) (S.PH k) U (S.hs k) w1 hv).mono ?_
  rintro r w' ⟨a,ca,rfl,H⟩
  exact⟨a,ca,rfl,H.out.2.2,H.out.2.1,H.out.1.newY⟩)
theorem pseeW2 {e:Nat→Nat} {w0 w:World} {t:Nat→Thing} {L:Pw} {S:Ws} {k:Nat} (h:PWn e w0 t L w S) (hk:k<S.n):Calls Tryz.prog 30 #[.pointer (some ⟨L.x,0,none⟩),.int .i64 (k:Nat),.int .i64 2] w fun r w'=>∃ a ca,r=.returned (.tuple #[.agg #[.int .i64 ((S.ds k).st:Nat),.int .u32 ((S.ds k).ss:Nat),.int .u32 ((S.ds k).nm:Nat),.int .u32 ((S.ds k).sn:Nat),.int .i64 ((S.ds k).dc:Nat),.int .i64 (S.ds k).v.lat,.bool (vreq (S.ds k).v),.bool (von (S.ds k).v),.slice a (S.PD k).o ca],.int .i64 0])∧Hid (Below w.heap.size w w'∧Row8 w' a (S.PD k).o ca (vout (S.ds k).v)∧∀ y,a=some y→0 < (S.PD k).o→w.heap.size≤y.block):=by
 obtain⟨cv,c0,c1,c2⟩:=h.conn hk
 obtain⟨b,cb⟩:=h.bagp
 exact wsee L.x b (cgV L.vc) (ccV L.vc) S.n k (L.hd k) (L.dd k) (L.dm k) 2 70 29 (L.dd k) _ _ _ _ _ _ _ _ _ _ w cb cv c0 c1 c2 hk (.inr rfl) (fun w1 => patD _ _ _ w1) (fun w1 => (by kernel_rfl : (method 415 70 (.pointer (some ⟨L.dd k, 0, none⟩)) "See").run Tryz.prog w1 = .ok (29, .pointer (some ⟨L.dd k, 0, none⟩)) w1)) (fun u w1 => (by kernel_rfl : (callFunc 29 u).run Tryz.prog w1 = .ok (.enter 29 u) w1)) (fun w1 b1 => by
  obtain⟨g,U,dv⟩:=(h.below b1).dv hk
  refine (seeS_any (L.dd k) (L.dm k) g 16 S.mx (S.PD k) U (S.ds k) w1 dv).mono ?_
  rintro r w' ⟨a,ca,rfl,H⟩
  exact⟨a,ca,rfl,H.out.2.2,H.out.2.1,H.out.1.newY⟩)
def rowT (T size:Nat) (v:Value) (n:Nat) (xs:List Value):Thing:=⟨v.ownBlock.toList,fun w=>w.ownsRow 0 T size v n xs,fun _ _ _ h o hl=>own_offY h o (fun k hk=>hl k (by rw[hk];simp))⟩
def cn3 (h d m:Nat):List Value:=[.pointer (some ⟨h,0,none⟩),.pointer (some ⟨d,0,none⟩),.pointer (some ⟨m,0,none⟩)]
theorem cnL_succ (n:Nat) (h d m:Nat→Nat):cnL (n+1) h d m=cnL n h d m ++ cn3 (h n) (d n) (m n):=by
 unfold cnL cn3
 rw[List.range_succ,List.flatMap_append]
 simp
theorem cnL_put (n x y z:Nat) (h d m:Nat→Nat):∀ i,i≤n→cnL i (putF h n x) (putF d n y) (putF m n z)=cnL i h d m:=by
 intro i hi
 induction i with
 | zero=>rfl
 | succ i ih=>rw[cnL_succ,cnL_succ,ih (by omega),putF_ne _ _ (by omega),putF_ne _ _ (by omega),putF_ne _ _ (by omega)]
structure Ng where
 X:Nat
 b:Nat
 m:Nat
 x:Nat
 v0:Value
 v1:Value
 vc:Value
 n:Nat
 i:Nat
 mx:Nat
 PH:Nat→Pm
 PD:Nat→Pm
 h:Nat→Nat
 d:Nat→Nat
 dm:Nat→Nat
 g:Nat→Nat
 hU:Nat→List Nat
 dU:Nat→List Nat
 ob:Obj
def Ng.blk (G:Ng):Obj:=.cells #[G.v0,G.v1,.int .u32 (G.mx:Nat),G.vc,.pointer (some ⟨G.b,0,none⟩),.int .i64 0,.slice none 0 0] 68 (0,0)
def Ng.t (G:Ng) (q:Nat):Thing:=
 if q=0 then blT [(G.X,G.blk)] else if q=1 then rowT 50 5 G.v0 G.n (flM G.n G.PH) else if q=2 then rowT 50 5 G.v1 G.n (flM G.n G.PD)
 else if q=3 then rowT 73 3 G.vc G.i (cnL G.i G.h G.d G.dm) else if q=4 then bgT G.b G.m (.slice none 0 0) [] none [] else if q=5 then blT [(G.x,G.ob)]
 else if q-6<2*G.i then (if q % 2=0 then hvT ⟨G.h ((q-6) / 2),G.PH ((q-6) / 2),hnew⟩ (G.hU ((q-6) / 2)) else dvY ⟨G.d ((q-6) / 2),G.dm ((q-6) / 2),G.g ((q-6) / 2),16,G.mx,G.PD ((q-6) / 2),dnew M0⟩ (G.dU ((q-6) / 2)))
 else noT
def Ng.more (G:Ng) (vc:Value) (h d dm g:Nat) (hU dU:List Nat):Ng:={ G with vc:=vc,i:=G.i+1,h:=putF G.h G.i h,d:=putF G.d G.i d,dm:=putF G.dm G.i dm,g:=putF G.g G.i g,hU:=putF G.hU G.i hU,dU:=putF G.dU G.i dU }
theorem Ng.more_t (G:Ng) (vc:Value) (h d dm g:Nat) (hU dU:List Nat):∀ q,(G.more vc h d dm g hU dU).t q=putT (putT (putT (putT G.t (6+2*G.i) (hvT ⟨h,G.PH G.i,hnew⟩ hU)) (7+2*G.i) (dvY ⟨d,dm,g,16,G.mx,G.PD G.i,dnew M0⟩ dU)) 3 (rowT 73 3 vc (G.i+1) (cnL G.i G.h G.d G.dm ++ cn3 h d dm))) 0 (blT [(G.X,(G.more vc h d dm g hU dU).blk)]) q:=by
 intro q
 by_cases q0:q=0
 ·subst q0
  rw[putT_same]
  rfl
 rw[putT_ne _ _ q0]
 by_cases q3:q=3
 ·subst q3
  rw[putT_same]
  show rowT _ 3 vc (G.i+1) (cnL (G.i+1) (putF G.h G.i h) (putF G.d G.i d) (putF G.dm G.i dm))=_
  rw[cnL_succ,cnL_put _ _ _ _ _ _ _ _ (Nat.le_refl _),putF_same,putF_same,putF_same]
 rw[putT_ne _ _ q3]
 by_cases q7:q=7+2*G.i
 ·subst q7
  rw[putT_same]
  unfold Ng.t
  rw[if_neg q0,if_neg (by omega),if_neg (by omega),if_neg q3,if_neg (by omega),if_neg (by omega),if_pos (show 7+2*G.i-6<2 * (G.more vc h d dm g hU dU).i by show 7+2*G.i-6<2 * (G.i+1);omega),if_neg (by omega),show (7+2*G.i-6) / 2=G.i by omega]
  show dvY ⟨putF G.d G.i d G.i,putF G.dm G.i dm G.i,putF G.g G.i g G.i,16,G.mx,G.PD G.i,dnew M0⟩ (putF G.dU G.i dU G.i)=_
  rw[putF_same,putF_same,putF_same,putF_same]
 rw[putT_ne _ _ q7]
 by_cases q6:q=6+2*G.i
 ·subst q6
  rw[putT_same]
  unfold Ng.t
  rw[if_neg q0,if_neg (by omega),if_neg (by omega),if_neg q3,if_neg (by omega),if_neg (by omega),if_pos (show 6+2*G.i-6<2 * (G.more vc h d dm g hU dU).i by show 6+2*G.i-6<2 * (G.i+1);omega),if_pos (by omega),show (6+2*G.i-6) / 2=G.i by omega]
  show hvT ⟨putF G.h G.i h G.i,G.PH G.i,hnew⟩ (putF G.hU G.i hU G.i)=_
  rw[putF_same,putF_same]
 rw[putT_ne _ _ q6]
 unfold Ng.t
 rw[if_neg q0,if_neg q0]
 by_cases q1:q=1
 ·rw[if_pos q1,if_pos q1]
  rfl
 rw[if_neg q1,if_neg q1]
 by_cases q2:q=2
 ·rw[if_pos q2,if_pos q2]
  rfl
 rw[if_neg q2,if_neg q2,if_neg q3,if_neg q3]
 by_cases q4:q=4
 ·rw[if_pos q4,if_pos q4]
  rfl
 rw[if_neg q4,if_neg q4]
 by_cases q5:q=5
 ·rw[if_pos q5,if_pos q5]
  rfl
 rw[if_neg q5,if_neg q5]
 by_cases hl:q-6<2*G.i
 ·have hne:(q-6) / 2≠G.i:=by omega
  rw[if_pos hl,if_pos (show q-6<2 * (G.more vc h d dm g hU dU).i by show q-6<2 * (G.i+1);omega)]
  by_cases he:q % 2=0
  ·rw[if_pos he,if_pos he]
   show hvT ⟨putF G.h G.i h ((q-6) / 2),G.PH ((q-6) / 2),hnew⟩ (putF G.hU G.i hU ((q-6) / 2))=_
   rw[putF_ne _ _ hne,putF_ne _ _ hne]
  ·rw[if_neg he,if_neg he]
   show dvY ⟨putF G.d G.i d ((q-6) / 2),putF G.dm G.i dm ((q-6) / 2),putF G.g G.i g ((q-6) / 2),16,G.mx,G.PD ((q-6) / 2),dnew M0⟩ (putF G.dU G.i dU ((q-6) / 2))=_
   rw[putF_ne _ _ hne,putF_ne _ _ hne,putF_ne _ _ hne,putF_ne _ _ hne]
 ·rw[if_neg hl,if_neg (show ¬ q-6<2 * (G.more vc h d dm g hU dU).i by show ¬ q-6<2 * (G.i+1);omega)]
theorem Ng.step {w0 w w5 w6 w7 w8:World} {G:Ng} (A:Al w0 w G.t) (b5:Below w.heap.size w w5) {h d dm g:Nat} {hU dU:List Nat} (hv:HV w5 h (G.PH G.i) hU hnew) (dv:DV w5 d dm g 16 G.mx (G.PD G.i) dU (dnew M0)) (hUg:∀ k,k ∈ hU→w.heap.size≤k) (dUg:∀ k,k ∈ dU→w.heap.size≤k) (hd:∀ k,k ∈ hU→k ∉ dU)
  (b6:Below w5.heap.size w5 w6) {vc:Value} (o7:w7.ownsRow 0 73 3 vc (G.i+1) (cnL G.i G.h G.d G.dm ++ cn3 h d dm)) (g7:w6.grownBy w7 G.vc.ownBlock) (p7:vc.ownBlock=G.vc.ownBlock∨vc.ownBlock=some w6.heap.size)
  (o8:Off [G.X] w7 w8) (k8:w8.heap[G.X]?=some (G.more vc h d dm g hU dU).blk):Al w0 w8 (G.more vc h d dm g hU dU).t:=by
 refine Al.same ?_ (G.more_t vc h d dm g hU dU)
 have sz:=A.size
 have s5:=b5.size
 have A5:=A.below b5
 have A5h:Al w0 w5 (putT G.t (6+2*G.i) (hvT ⟨h,G.PH G.i,hnew⟩ hU)):=A5.turn _ _ (Off.refl _ _) hv (fun k hk=>⟨Nat.le_trans sz (hUg k hk),HV.ult hv k hk⟩) (fun k hk j hj hm=>by
  have:=(A.lt j k hm).2
  have:=hUg k hk
  omega)
 have A5d:Al w0 w5 (putT (putT G.t (6+2*G.i) (hvT ⟨h,G.PH G.i,hnew⟩ hU)) (7+2*G.i) (dvY ⟨d,dm,g,16,G.mx,G.PD G.i,dnew M0⟩ dU)):=A5h.turn _ _ (Off.refl _ _) dv (fun k hk=>⟨Nat.le_trans sz (dUg k hk),DV.ult dv k hk⟩) (fun k hk j hj hm=>by
  by_cases z:j=6+2*G.i
  ·subst z
   rw[putT_same]at hm
   exact hd k hm hk
  ·rw[putT_ne _ _ z]at hm
   have:=(A.lt j k hm).2
   have:=dUg k hk
   omega)
 have A6:=A5d.below b6
 have A7:=A6.step 3 (rowT 73 3 vc (G.i+1) (cnL G.i G.h G.d G.dm ++ cn3 h d dm)) (U:=G.vc.ownBlock.toList) (by rw[putT_ne _ _ (by omega),putT_ne _ _ (by omega)];rfl) (w':=w7) ⟨⟨g7.os,g7.tape,g7.output,g7.size,fun k hk hb=>g7.block k hk (fun e=>hb (by rw[← e];simp))⟩,fun k hk=>by
  have hk:k ∈ vc.ownBlock.toList:=hk
  rw[Option.mem_toList]at hk
  rcases p7 with p | p
  ·exact .inl (by rw[← p,hk];simp)
  ·rw[hk]at p
   injection p with p
   exact .inr (by omega)⟩ o7 (fun k hk=>by
  have hk:k ∈ vc.ownBlock.toList:=hk
  rw[Option.mem_toList]at hk
  exact (o7.lt k hk).2)
 refine A7.step 0 (blT [(G.X,(G.more vc h d dm g hU dU).blk)]) (U:=[G.X]) (by rw[putT_ne _ _ (by omega),putT_ne _ _ (by omega),putT_ne _ _ (by omega)];rfl) ⟨o8,fun k hk=>.inl hk⟩ (fun p hp=>?_) (fun k hk=>?_)
 ·simp only[List.mem_cons,List.not_mem_nil,or_false]at hp
  subst hp
  exact k8
 ·have hk:k=G.X:=by
   have hk:k ∈ [G.X]:=hk
   simpa using hk
  subst hk
  exact (Array.getElem?_eq_some_iff.1 k8).1
structure Vok (s:Vs):Prop where
 fr:s.lat=0→s.fr=false
 sm:s.sm=true→s.lat=0
theorem Vok.new:Vok vnew:=⟨fun _=>rfl,fun h=>by cases h⟩
theorem Vok.trip {s:Vs} (h:Vok s) (x:Int):Vok (vtrip s x):=by
 unfold vtrip
 split
 ·exact h
 ·exact⟨fun _=>rfl,fun h=>by cases h⟩
theorem Vok.run {s:Vs} (h:Vok s) (o:Bool):Vok (vrun s o):=by
 unfold vrun
 split
 ·exact h
 ·exact⟨h.fr,fun h=>by cases h⟩
theorem Vok.hold {s:Vs} (h:Vok s) (o:Bool):Vok (vhold s o):=⟨h.fr,h.sm⟩
theorem Vok.fresh {s:Vs} (h:Vok s):Vok (vfresh s):=⟨fun e=>by show (s.lat != 0)=false;rw[show s.lat=0 from e];rfl,h.sm⟩
theorem Vok.take {s:Vs} (h:Vok s) (bs:Nat→Nat):Vok (vtake s bs):=by
 unfold vtake
 split
 ·rename_i k
  exact⟨h.fr,fun _=>k.2⟩
 ·exact h
theorem Vok.ack {s:Vs} (h:Vok s):Vok (vack s):=by
 unfold vack
 split
 ·exact⟨fun _=>rfl,fun _=>rfl⟩
 ·exact h
structure Bk2 where
 c:Nat
 M:List Nat
 cp:Value
 lv:Value
 vv:Value
 av:Value
 col:Nat→Nat
section
variable {w w':World} {d m g n mx:Nat} {P:Pm} {U:List Nat} {s s':Sd} {B:Bk2} {A A':Prop}
end
end Go.Proofs.YtgaeofgdiaknpaaGreat
namespace Go.Proofs.YtgaeofgdiaknpaaGreat
set_option maxRecDepth 100000
open Go.RowKit
structure Iv (P:Pm) (s:Sd):Prop where
 st1:1≤s.st
 st6:s.st≤6
 ss:s.ss<4294967296
 nm:s.nm<4294967296
 sn:s.sn<4294967296
 hs:s.st=2∨s.st=3→s.sn=0∧s.nm=0∧s.ss≠0
 run:s.st=4→s.sn≤s.nm∧s.nm<P.n∧s.ss≠0
 od:s.od<4
 vr:s.v.run=decide (s.st=4)
 vok:Vok s.v
 s0:s.ss=0→s.nm=0
 z:s.ss=0∨s.ss=vz s.ms.bs
 d6:s.st=6→s.ap=(fun _=>0)∧s.hd=false
structure Mo (mx n:Nat) (s:Sd):Prop where
 n10:10≤n
 mx0:mx≠0
 mxl:mx<4294967296
 l0:0≤s.ms.l
 bz:Bz s.ms.bs
 off:s.st≠6→s.ms.off=false
theorem Mo.of {w:World} {d m g n mx:Nat} {P:Pm} {U:List Nat} {s:Sd} (h:DV w d m g n mx P U s):Mo mx n s:=by
 obtain⟨a,b,c,e,f,g⟩:=h.facts
 exact⟨c,e,f,b,a,g⟩
section
variable {P:Pm} {mx n:Nat} {s:Sd}
theorem vtrip_run (v:Vs) (x:Int):(vtrip v x).run=v.run:=by unfold vtrip;split <;> rfl
theorem vrun_run (v:Vs) (o:Bool):(vrun v o).run=o:=by
 unfold vrun
 split
 ·assumption
 ·rfl
theorem vtake_run (v:Vs) (bs:Nat→Nat):(vtake v bs).run=v.run:=by unfold vtake;split <;> rfl
theorem vack_run (v:Vs):(vack v).run=v.run:=by unfold vack;split <;> rfl
theorem dlatch_v (s:Sd) (x:Int):(dlatch s x).v=vtrip s.v x:=by unfold dlatch dnote;split <;> rfl
theorem dlatch_flds (s:Sd) (x:Int):(dlatch s x).st=s.st∧(dlatch s x).ss=s.ss∧(dlatch s x).nm=s.nm∧(dlatch s x).sn=s.sn∧(dlatch s x).od=s.od∧(dlatch s x).ms=s.ms∧(dlatch s x).ap=s.ap∧(dlatch s x).hd=s.hd:=by unfold dlatch dnote;split <;> exact⟨rfl,rfl,rfl,rfl,rfl,rfl,rfl,rfl⟩
theorem Iv.latch (h:Iv P s) (x:Int):Iv P (dlatch s x):=by
 unfold dlatch dnote
 split
 ·exact⟨h.st1,h.st6,h.ss,h.nm,h.sn,h.hs,h.run,h.od,(vtrip_run _ _).trans h.vr,h.vok.trip x,h.s0,h.z,h.d6⟩
 ·exact⟨h.st1,h.st6,h.ss,h.nm,h.sn,h.hs,h.run,h.od,(vtrip_run _ _).trans h.vr,h.vok.trip x,h.s0,h.z,h.d6⟩
theorem Iv.note (h:Iv P s) (x:Int):Iv P (dnote s x):=⟨h.st1,h.st6,h.ss,h.nm,h.sn,h.hs,h.run,h.od,h.vr,h.vok,h.s0,h.z,h.d6⟩
theorem Iv.leave (hv:Vok s.v) {k:Nat} (h1:1≤k) (h5:k≤5) (h4:k≠4) (h2:k≠2) (h3:k≠3):Iv P (dleave s k):=
 ⟨h1,Nat.le_succ_of_le h5,by show (0:Nat)<_;omega,by show (0:Nat)<_;omega,by show (0:Nat)<_;omega,fun e=>by have e:k=2∨k=3:=e;omega,fun e=>absurd e h4,by show (0:Nat)<4;omega,by
  show (vrun s.v false).run=decide (k=4)
  rw[vrun_run,decide_eq_false h4],hv.run false,fun _=>rfl,.inl rfl,fun e=>by have e:k=6:=e;omega⟩
theorem Iv.life {k:Nat} (h1:1≤k) (h6:k≤6) (h4:k≠4) (h2:k≠2) (h3:k≠3):Iv P (dlife s k):=
 ⟨h1,h6,by show (0:Nat)<_;omega,by show (0:Nat)<_;omega,by show (0:Nat)<_;omega,fun e=>by have e:k=2∨k=3:=e;omega,fun e=>absurd e h4,by show (0:Nat)<4;omega,(decide_eq_false h4).symm,Vok.new,fun _=>rfl,.inl rfl,fun _=>⟨rfl,rfl⟩⟩
theorem Iv.odd (h:Iv P s):Iv P (dodd s):=by
 unfold dodd
 split
 ·split
  ·rename_i h4
   exact⟨h.st1,h.st6,h.ss,h.nm,h.sn,h.hs,h.run,h4,h.vr,h.vok,h.s0,h.z,h.d6⟩
  ·refine Iv.leave ?_ (by omega) (by omega) (by omega) (by omega) (by omega)
   split
   ·rw[dlatch_v];exact h.vok.trip _
   ·exact h.vok
 ·exact h
theorem Iv.begin_ (h:Iv P s) (M:Mo mx n s) (hu:s.st≠6):Iv P (dbegin P mx n s).s:=by
 have hv:=nx_vz (mx:=mx) (n:=n) (s:=s.ms) M.n10 (M.off hu) M.l0 M.mxl
 unfold dbegin
 generalize nx mx n s.ms.bs false s.ms=X at *
 have hm:=M.mxl
 split
 ·refine Iv.leave ?_ (by omega) (by omega) (by omega) (by omega) (by omega)
  rw[dlatch_v];exact h.vok.trip _
 ·split
  ·exact Iv.life (by omega) (by omega) (by omega) (by omega) (by omega)
  ·rename_i e0
   have e0:X.e=0:=by simpa using e0
   obtain⟨v1,v2,v3⟩:=hv.1 e0
   refine⟨by show 1≤2;omega,by show 2≤6;omega,by show X.v<_;omega,by show (0:Nat)<_;omega,by show (0:Nat)<_;omega,fun _=>⟨rfl,rfl,by show X.v≠0;omega⟩,fun e=>by have e:(2:Nat)=4:=e;omega,by show (0:Nat)<4;omega,?_,h.vok.run false,fun _=>rfl,.inr ?_,fun e=>by have e:(2:Nat)=6:=e;omega⟩
   ·show (vrun s.v false).run=decide ((2:Nat)=4)
    rw[vrun_run];rfl
   ·show X.v=vz X.s.bs
    omega
theorem Mo.odd (M:Mo mx n s):Mo mx n (dodd s):=by
 refine⟨M.n10,M.mx0,M.mxl,by rw[dodd_ms];exact M.l0,by rw[dodd_ms];exact M.bz,fun _=>?_⟩
 rw[dodd_ms]
 by_cases h6:s.st=6
 ·exfalso
  have:dodd s=s:=by unfold dodd dbusy;rw[h6];rfl
  rename_i hh
  rw[this]at hh
  exact hh h6
 ·exact M.off h6
theorem Iv.wish (h:Iv P s) (M:Mo mx n s) (hu:s.st≠6):Iv P (dwish P mx n s).s:=by
 unfold dwish
 split
 ·exact h.odd
 ·split
  ·exact h.odd
  ·exact h.odd.begin_ M.odd (dodd_up hu)
theorem Iv.echo (h:Iv P s):Iv P (dechoS s):=by
 unfold dechoS
 split
 ·rename_i h2
  have hq:=h.hs (.inl h2)
  refine⟨by show 1≤3;omega,by show 3≤6;omega,h.ss,h.nm,h.sn,fun _=>hq,fun e=>by have e:(3:Nat)=4:=e;omega,by show (0:Nat)<4;omega,?_,h.vok.fresh,h.s0,h.z,fun e=>by have e:(3:Nat)=6:=e;omega⟩
  show s.v.run=decide ((3:Nat)=4)
  rw[h.vr,h2];rfl
 ·exact h
theorem Iv.start (h:Iv P s) (hP:Pok P):Iv P (dstartS s):=by
 unfold dstartS
 split
 ·rename_i h3
  have hq:=h.hs (.inr h3)
  have:=hP.n2
  refine⟨by show 1≤4;omega,by show 4≤6;omega,h.ss,h.nm,h.sn,fun e=>by have e:(4:Nat)=2∨(4:Nat)=3:=e;omega,fun _=>⟨by show s.sn≤s.nm;omega,by show s.nm<_;omega,hq.2.2⟩,by show (0:Nat)<4;omega,?_,(h.vok.run true).fresh,h.s0,h.z,fun e=>by have e:(4:Nat)=6:=e;omega⟩
  show (vrun s.v true).run=decide ((4:Nat)=4)
  rw[vrun_run];rfl
 ·exact h
theorem Iv.data (h:Iv P s) (hP:Pok P) {num fl:Nat} {bs:Nat→Nat} (h4:s.st=4) (hn:s.nm<num) (hc:num<P.n):Iv P (ddataS s num fl bs):=by
 have hq:=h.run h4
 have hp:=hP.n
 refine⟨h.st1,h.st6,h.ss,by show num<_;omega,by show s.sn+1<_;omega,fun e=>by have e:s.st=2∨s.st=3:=e;omega,fun _=>⟨by show s.sn+1≤num;omega,hc,hq.2.2⟩,by show (0:Nat)<4;omega,?_,(h.vok.fresh.hold _).take _,fun e=>absurd e hq.2.2,h.z,fun e=>by have e:s.st=6:=e;omega⟩
 show (vtake (vhold (vfresh s.v) (decide (8≤fl))) bs).run=decide (s.st=4)
 rw[vtake_run];exact h.vr
theorem Iv.last (h:Iv P s) (hP:Pok P) (h4:s.st=4):Iv P (dendS (dlastS P s)):=by
 have hq:=h.run h4
 have hp:=hP.n
 obtain⟨l1,l2,l3,l4,l5,l6,l7,l8⟩:=dlatch_flds (don { s with nm:=P.n }) 80
 refine⟨by show 1≤5;omega,by show 5≤6;omega,?_,?_,hp,fun e=>by have e:(5:Nat)=2∨(5:Nat)=3:=e;omega,fun e=>by have e:(5:Nat)=4:=e;omega,?_,?_,?_,?_,?_,fun e=>by have e:(5:Nat)=6:=e;omega⟩
 ·show (dlatch (don { s with nm:=P.n }) 80).ss<_
  rw[l2];exact h.ss
 ·show (dlatch (don { s with nm:=P.n }) 80).nm<_
  rw[l3];exact hp
 ·show (dlatch (don { s with nm:=P.n }) 80).od<4
  rw[l5];show (0:Nat)<4;omega
 ·show (vrun (dlatch (don { s with nm:=P.n }) 80).v false).run=decide ((5:Nat)=4)
  rw[vrun_run];rfl
 ·show Vok (vrun (dlatch (don { s with nm:=P.n }) 80).v false)
  rw[dlatch_v]
  exact (h.vok.fresh.trip _).run _
 ·intro e
  have e:(dlatch (don { s with nm:=P.n }) 80).ss=0:=e
  rw[l2]at e
  exact absurd e hq.2.2
 ·show (dlatch (don { s with nm:=P.n }) 80).ss=0∨(dlatch (don { s with nm:=P.n }) 80).ss=vz (dlatch (don { s with nm:=P.n }) 80).ms.bs
  rw[l2,l6];exact h.z
theorem Iv.take (h:Iv P s) (hP:Pok P) (M:Mo mx n s) (hu:s.st≠6) (k ss num fl len:Nat) (bs:Nat→Nat):Iv P (dtake P mx n s k ss num fl len bs).s:=by
 unfold dtake
 split
 ·split
  ·exact h.wish M hu
  ·exact h.odd
 ·split
  ·split
   ·exact h.echo
   ·exact h.odd
  ·split
   ·exact h.start hP
   ·split
    ·rename_i hh
     exact h.data hP hh.2.1.2.1 hh.2.1.2.2 hh.2.2.1
    ·split
     ·rename_i hh
      exact h.last hP hh.2.1.2.1
     ·exact h.odd
theorem Iv.hear (h:Iv P s) (hP:Pok P) (M:Mo mx n s) (hu:s.st≠6) (len:Nat) (bs:Nat→Nat):Iv P (dhear P mx n s len bs).s:=by
 unfold dhear
 split
 ·exact h
 ·split
  ·exact h
  ·split
   ·exact h
   ·exact h.take hP M hu _ _ _ _ _ _
theorem Iv.recv (h:Iv P s) (hP:Pok P) (M:Mo mx n s) (len:Nat) (bs:Nat→Nat):Iv P (drecv P mx n s len bs).s:=by
 unfold drecv
 split
 ·exact h
 ·rename_i hu
  split
  ·exact (h.hear hP M hu len bs).note _
  ·exact h.hear hP M hu len bs
theorem Iv.write (h:Iv P s) (len:Nat) (bs:Nat→Nat) (o:Bool):Iv P (dwriteS P s len bs o):=by
 unfold dwriteS
 split
 ·exact h
 ·rename_i h6
  split
  ·exact⟨h.st1,h.st6,h.ss,h.nm,h.sn,h.hs,h.run,h.od,h.vr,h.vok,h.s0,h.z,fun e=>absurd e h6⟩
  ·exact h
theorem Iv.tick (h:Iv P s) (k:Int):Iv P (dtickS P s k):=by
 unfold dtickS
 split
 ·exact h
 ·split
  ·exact h
  ·have h':Iv P { s with dc:=tk P.t s.dc k.toNat }:=⟨h.st1,h.st6,h.ss,h.nm,h.sn,h.hs,h.run,h.od,h.vr,h.vok,h.s0,h.z,h.d6⟩
   split
   ·exact h'.latch _
   ·exact h'
theorem Iv.ack (h:Iv P s):Iv P (dackS s):=by
 unfold dackS
 split
 ·exact h
 ·exact⟨h.st1,h.st6,h.ss,h.nm,h.sn,h.hs,h.run,h.od,(vack_run _).trans h.vr,h.vok.ack,h.s0,h.z,h.d6⟩
theorem Iv.reset (h:Iv P s) (k:Int):Iv P (dresetS mx n s k):=by
 unfold dresetS
 split
 ·exact h
 ·split
  ·exact Iv.life (by omega) (by omega) (by omega) (by omega) (by omega)
  ·exact Iv.life (by omega) (by omega) (by omega) (by omega) (by omega)
theorem Iv.arm (h:Iv P s) (p:Int):Iv P { s with ms:=arS s.ms p }:=
 ⟨h.st1,h.st6,h.ss,h.nm,h.sn,h.hs,h.run,h.od,h.vr,h.vok,h.s0,by
  have:(arS s.ms p).bs=s.ms.bs:=by unfold arS;split <;> rfl
  show s.ss=0∨s.ss=vz (arS s.ms p).bs
  rw[this];exact h.z,h.d6⟩
theorem Iv.new_ (ms:Ms):Iv P (dnew ms):=
 ⟨by show 1≤1;omega,by show 1≤6;omega,by show (0:Nat)<_;omega,by show (0:Nat)<_;omega,by show (0:Nat)<_;omega,fun e=>by have e:(1:Nat)=2∨(1:Nat)=3:=e;omega,fun e=>by have e:(1:Nat)=4:=e;omega,by show (0:Nat)<4;omega,rfl,Vok.new,fun _=>rfl,.inl rfl,fun e=>by have e:(1:Nat)=6:=e;omega⟩
theorem Iv.sent (h:Iv P s) (hP:Pok P):s.st=4→s.sn+1<4294967296:=fun e=>by
 have:=h.run e
 have:=hP.n
 omega
def Gw (a b:Sd):Prop:=b.L.length≤a.L.length+3∧b.ms.t≤a.ms.t+6
theorem dbegin_t (M:Mo mx n s):(dbegin P mx n s).s.ms.t≤s.ms.t+6:=by
 have ht:=nx_t mx n s.ms.bs false s.ms M.n10 M.l0
 unfold dbegin
 generalize nx mx n s.ms.bs false s.ms=X at *
 split
 ·show (dlatch { s with ms:=X.s } 80).ms.t≤_
  rw[dlatch_ms];exact ht
 ·split
  ·exact ht
  ·exact ht
theorem dwish_t (M:Mo mx n s):(dwish P mx n s).s.ms.t≤s.ms.t+6:=by
 have e:=dodd_ms s
 unfold dwish
 split
 ·show (dodd s).ms.t≤_;rw[e];omega
 ·split
  ·show (dodd s).ms.t≤_;rw[e];omega
  ·have:=dbegin_t (P:=P) M.odd
   rw[e]at this;exact this
theorem dtake_t (M:Mo mx n s) (k ss num fl len:Nat) (bs:Nat→Nat):(dtake P mx n s k ss num fl len bs).s.ms.t≤s.ms.t+6:=by
 have e:=dodd_ms s
 have r:∀ x:Int,(drefuse P s x).s.ms.t≤s.ms.t+6:=fun x=>by show (dodd s).ms.t≤_;rw[e];omega
 unfold dtake
 split
 ·split
  ·exact dwish_t M
  ·exact r _
 ·split
  ·split
   ·show (dechoS s).ms.t≤_;unfold dechoS;split <;> (show s.ms.t≤_;omega)
   ·exact r _
  ·split
   ·show (dstartS s).ms.t≤_;unfold dstartS;split <;> (show s.ms.t≤_;omega)
   ·split
    ·show s.ms.t≤_;omega
    ·split
     ·show (dlatch (don { s with nm:=P.n }) 80).ms.t≤_
      rw[dlatch_ms];show s.ms.t≤_;omega
     ·exact r _
theorem gw_recv (M:Mo mx n s) (len:Nat) (bs:Nat→Nat):Gw s (drecv P mx n s len bs).s:=by
 have h1:=dhear_len P mx n s len bs
 have h2:(dhear P mx n s len bs).s.ms.t≤s.ms.t+6:=by
  unfold dhear
  split
  ·show s.ms.t≤_;omega
  ·split
   ·show s.ms.t≤_;omega
   ·split
    ·show s.ms.t≤_;omega
    ·exact dtake_t M _ _ _ _ _ _
 unfold drecv
 split
 ·exact⟨by show s.L.length≤_;omega,by show s.ms.t≤_;omega⟩
 ·split
  ·exact⟨by show ((dhear P mx n s len bs).s.L ++ [_]).length≤_;simp;omega,h2⟩
  ·exact⟨by omega,h2⟩
theorem gw_tick (k:Int):Gw s (dtickS P s k):=by
 unfold dtickS
 split
 ·exact⟨by omega,by omega⟩
 ·split
  ·exact⟨by omega,by omega⟩
  ·split
   ·refine⟨?_,?_⟩
    ·have:=dlatch_len { s with dc:=tk P.t s.dc k.toNat } 100
     have e:({ s with dc:=tk P.t s.dc k.toNat }:Sd).L.length=s.L.length:=rfl
     omega
    ·rw[dlatch_ms];show s.ms.t≤_;omega
   ·exact⟨by show s.L.length≤_;omega,by show s.ms.t≤_;omega⟩
theorem gw_ack:Gw s (dackS s):=by
 unfold dackS
 split <;> exact⟨by show s.L.length≤_;omega,by show s.ms.t≤_;omega⟩
theorem gw_write (len:Nat) (bs:Nat→Nat) (o:Bool):Gw s (dwriteS P s len bs o):=by
 unfold dwriteS
 split
 ·exact⟨by omega,by omega⟩
 ·split <;> exact⟨by show s.L.length≤_;omega,by show s.ms.t≤_;omega⟩
theorem gw_reset (M:Mo mx n s) (k:Int):Gw s (dresetS mx n s k):=by
 obtain⟨_,h2,h3⟩:=reset_vz (mx:=mx) (n:=n) s k M.bz M.l0
 exact⟨by rw[h3];omega,h2⟩
theorem gw_arm (p:Int):Gw s { s with ms:=arS s.ms p }:=⟨by show s.L.length≤_;omega,by
 have:(arS s.ms p).t=s.ms.t:=by unfold arS;split <;> rfl
 show (arS s.ms p).t≤_;omega⟩
end
end Go.Proofs.YtgaeofgdiaknpaaGreat
namespace Go.Proofs.YtgaeofgdiaknpaaGreat
set_option maxRecDepth 100000
open Go.RowKit
section
variable {P:Pm} {s:Sh}
theorem hlatch_v (s:Sh) (x:Int):(hlatch s x).v=vtrip s.v x:=by unfold hlatch hnote;split <;> rfl
theorem hlatch_flds (s:Sh) (x:Int):(hlatch s x).st=s.st∧(hlatch s x).ss=s.ss∧(hlatch s x).nm=s.nm∧(hlatch s x).sn=s.sn∧(hlatch s x).wt=s.wt∧(hlatch s x).ms=s.ms∧(hlatch s x).ap=s.ap∧(hlatch s x).hd=s.hd∧(hlatch s x).dc=s.dc:=by unfold hlatch hnote;split <;> exact⟨rfl,rfl,rfl,rfl,rfl,rfl,rfl,rfl,rfl⟩
theorem hlatch_len (s:Sh) (x:Int):(hlatch s x).L.length≤s.L.length+1:=by unfold hlatch hnote;split <;> simp
theorem vtrip_lat {v:Vs} {x:Int} (hx:x≠0):(vtrip v x).lat≠0:=by
 unfold vtrip
 rw[if_neg hx]
 show (if v.lat=0 then x else v.lat)≠0
 split <;> assumption
theorem vtrip_lat' {v:Vs} {x:Int} (h:v.lat≠0):(vtrip v x).lat≠0:=by
 unfold vtrip
 by_cases hx:x=0
 ·rw[if_pos hx];exact h
 ·rw[if_neg hx]
  show (if v.lat=0 then x else v.lat)≠0
  rw[if_neg h];exact h
theorem vrun_latH (v:Vs) (o:Bool):(vrun v o).lat=v.lat:=by unfold vrun;split <;> rfl
theorem Ih.new_ (P:Pm):Ih P hnew:=⟨by show 1≤1;omega,by show 1≤5;omega,by show 0<_;omega,by show 0<_;omega,by show 0<_;omega,by show 0<4;omega,fun e=>by have e:(1:Nat)=2∨(1:Nat)=3∨(1:Nat)=4:=e;omega,fun _ _=>⟨rfl,rfl⟩,fun e=>by have e:(1:Nat)=4:=e;omega,rfl,fun e=>by have e:(1:Nat)=5:=e;omega⟩
theorem Ih.life (P:Pm) (s:Sh):Ih P (hlife s):=⟨by show 1≤1;omega,by show 1≤5;omega,by show 0<_;omega,by show 0<_;omega,by show 0<_;omega,by show 0<4;omega,fun e=>by have e:(1:Nat)=2∨(1:Nat)=3∨(1:Nat)=4:=e;omega,fun _ _=>⟨rfl,rfl⟩,fun e=>by have e:(1:Nat)=4:=e;omega,rfl,fun e=>by have e:(1:Nat)=5:=e;omega⟩
theorem Ih.note (h:Ih P s) (x:Int):Ih P (hnote s x):=⟨h.st1,h.st5,h.ss,h.nm,h.sn,h.ms,h.s4,h.hs,h.run,h.vr,h.lat5⟩
theorem Ih.latch (h:Ih P s) (x:Int):Ih P (hlatch s x):=by
 unfold hlatch hnote
 split
 ·exact⟨h.st1,h.st5,h.ss,h.nm,h.sn,h.ms,h.s4,h.hs,h.run,(vtrip_run _ _).trans h.vr,fun e=>vtrip_lat' (h.lat5 e)⟩
 ·exact⟨h.st1,h.st5,h.ss,h.nm,h.sn,h.ms,h.s4,h.hs,h.run,(vtrip_run _ _).trans h.vr,fun e=>vtrip_lat' (h.lat5 e)⟩
theorem Ih.give_of (h:s.ss<4294967296):Ih P (hgive s):=⟨by show 1≤1;omega,by show 1≤5;omega,h,by show 0<_;omega,by show 0<_;omega,by show 0<4;omega,fun e=>by have e:(1:Nat)=2∨(1:Nat)=3∨(1:Nat)=4:=e;omega,fun _ _=>⟨rfl,rfl⟩,fun e=>by have e:(1:Nat)=4:=e;omega,vrun_run _ _,fun e=>by have e:(1:Nat)=5:=e;omega⟩
theorem Ih.miss (h:Ih P s):Ih P (hmiss s):=by
 unfold hmiss
 split
 ·exact h
 ·split
  ·rename_i h4
   exact⟨h.st1,h.st5,h.ss,h.nm,h.sn,h4,h.s4,h.hs,h.run,h.vr,h.lat5⟩
  ·refine Ih.give_of ?_
   split
   ·rw[(hlatch_flds _ _).2.1];exact h.ss
   ·exact h.ss
theorem Ih.exh (h1:s.ss<4294967296) (h2:s.nm<4294967296) (h3:s.sn<4294967296) (h4:s.ms<4):Ih P (hexh s):=by
 obtain⟨_,f2,f3,f4,_,f6,_⟩:=hlatch_flds s 80
 refine⟨by show 1≤5;omega,by show 5≤5;omega,by show (hlatch s 80).ss<_;omega,by show (hlatch s 80).nm<_;omega,by show (hlatch s 80).sn<_;omega,by show (hlatch s 80).ms<4;omega,fun e=>by have e:(5:Nat)=2∨(5:Nat)=3∨(5:Nat)=4:=e;omega,fun _ e=>absurd rfl e,fun e=>by have e:(5:Nat)=4:=e;omega,vrun_run _ _,fun _=>?_⟩
 show (vrun (hlatch s 80).v false).lat≠0
 rw[vrun_latH,hlatch_v]
 exact vtrip_lat (by omega)
theorem Ih.next (hP:Pok P) (h:Ih P s) (h5:s.st≠5):Ih P (hnext P s).1:=by
 unfold hnext
 by_cases c1:s.st=1
 ·rw[if_pos c1];exact h
 ·rw[if_neg c1]
  by_cases c2:s.st=2
  ·rw[if_pos c2];exact h
  ·rw[if_neg c2]
   by_cases c3:s.st=3
   ·rw[if_pos c3];exact h
   ·rw[if_neg c3]
    have h4:s.st=4:=by have:=h.st1;have:=h.st5;omega
    have hr:=h.run h4
    have hn:=hP.n
    by_cases c4:s.sn+1=P.n
    ·rw[if_pos c4]
     exact Ih.exh (s:={ s with sn:=s.sn+1 }) h.ss h.nm (by show s.sn+1<_;omega) h.ms
    ·rw[if_neg c4]
     exact⟨h.st1,h.st5,h.ss,h.nm,by show s.sn+1<_;omega,h.ms,h.s4,fun e=>absurd h4 e,fun _=>⟨by show s.sn+1<P.n;omega,hr.2⟩,h.vr,h.lat5⟩
theorem hmiss_st5 (h:s.st≠5):(hmiss s).st≠5:=by
 unfold hmiss
 split
 ·exact h
 ·split
  ·exact h
  ·show (1:Nat)≠5;omega
theorem Ih.wait (h:Ih P s):Ih P { s with wt:=true }:=⟨h.st1,h.st5,h.ss,h.nm,h.sn,h.ms,h.s4,h.hs,h.run,h.vr,h.lat5⟩
theorem Ih.send (hP:Pok P) (h:Ih P s):Ih P (hsendS P s):=by
 unfold hsendS
 by_cases c:s.st=5
 ·rw[if_pos c];exact h
 ·rw[if_neg c];exact (h.miss.next hP (hmiss_st5 c)).wait
theorem Ih.on_ (h:Ih P s):Ih P (hon s):=⟨h.st1,h.st5,h.ss,h.nm,h.sn,by show 0<4;omega,h.s4,h.hs,h.run,h.vr,h.lat5⟩
theorem Ih.recv (hP:Pok P) (h:Ih P s) (len:Nat) (bs:Nat→Nat) (hb:∀ i,i<len→bs i<256):Ih P (hrecvS P s len bs):=by
 unfold hrecvS
 by_cases hE:hrecvE P s len bs≠0
 ·rw[if_pos hE];exact h.note _
 ·rw[if_neg hE]
  have hE:hrecvE P s len bs=0:=by omega
  unfold hrecvE at hE
  by_cases hD:DE bs len≠0
  ·rw[if_pos hD]at hE;exact absurd hE hD
  ·rw[if_neg hD]at hE
   have hD:DE bs len=0:=by omega
   have hl:19≤len:=(DE_zero hD).1
   have hs5:w4v bs 5<4294967296:=w4v_lt fun j hj=>hb _ (by omega)
   have hs9:w4v bs 9<4294967296:=w4v_lt fun j hj=>hb _ (by omega)
   generalize w4v bs 5=ss at *
   generalize w4v bs 9=num at *
   generalize (fun i=>bs (15+i))=ds at *
   generalize bs 13=fl at *
   generalize bs 0=k at *
   have hn2:2≤P.n:=by have:=hP.ok.2.2.2.2;omega
   have hn:=hP.n
   unfold hrefE at hE
   by_cases hK:devK (k:Int)=false
   ·rw[if_pos hK]at hE;omega
   ·rw[if_neg hK]at hE
    by_cases hC:w4v bs 1≠P.c
    ·rw[if_pos hC]at hE;omega
    ·rw[if_neg hC]at hE
     by_cases h1:s.st=1
     ·rw[if_pos h1]at hE
      unfold hoffE at hE
      by_cases hk:k≠17∨ss≤s.ss
      ·rw[if_pos hk]at hE;omega
      ·obtain rfl:k=17:=by omega
       have h0:=h.hs (by omega) (by omega)
       unfold htake
       rw[if_pos rfl]
       refine Ih.on_ ⟨by show 1≤2;omega,by show 2≤5;omega,hs5,h.nm,h.sn,h.ms,fun _=>by show ss≠0;omega,fun _ _=>h0,fun e=>by have e:(2:Nat)=4:=e;omega,?_,fun e=>by have e:(2:Nat)=5:=e;omega⟩
       show s.v.run=decide ((2:Nat)=4)
       rw[h.vr,h1];rfl
     ·rw[if_neg h1]at hE
      by_cases ha:ss≠s.ss∨hawaits P s k num (len-19)=false
      ·rw[if_pos ha]at hE;omega
      ·have ha2:hawaits P s k num (len-19)=true:=by
        cases hh:hawaits P s k num (len-19) with
        | true=>rfl
        | false=>exact absurd (.inr hh) ha
       unfold hawaits at ha2
       have ha3:=of_decide_eq_true ha2
       unfold htake
       rcases ha3 with ⟨rfl,h2⟩ | ⟨rfl,h3⟩ | ⟨rfl,⟨⟨h4,hm⟩,hp⟩,_⟩ | ⟨rfl,⟨h4,hm⟩,rfl⟩
       ·rw[if_neg (by omega),if_pos rfl]
        have h0:=h.hs (by omega) (by omega)
        refine Ih.on_ ⟨by show 1≤3;omega,by show 3≤5;omega,h.ss,h.nm,h.sn,h.ms,fun _=>h.s4 (.inl h2),fun _ _=>h0,fun e=>by have e:(3:Nat)=4:=e;omega,?_,fun e=>by have e:(3:Nat)=5:=e;omega⟩
        show s.v.run=decide ((3:Nat)=4)
        rw[h.vr,h2];rfl
       ·rw[if_neg (by omega),if_neg (by omega),if_pos rfl]
        have h0:=h.hs (by omega) (by omega)
        refine Ih.on_ ⟨by show 1≤4;omega,by show 4≤5;omega,h.ss,h.nm,h.sn,h.ms,fun _=>h.s4 (.inr (.inl h3)),fun e=>absurd rfl e,fun _=>⟨by show s.sn<P.n;omega,by show s.nm<P.n;omega⟩,vrun_run _ _,fun e=>by have e:(4:Nat)=5:=e;omega⟩
       ·rw[if_neg (by omega),if_neg (by omega),if_neg (by omega),if_pos rfl]
        have hr:=h.run h4
        refine⟨h.st1,h.st5,h.ss,hs9,h.sn,by show 0<4;omega,h.s4,fun e=>absurd h4 e,fun _=>⟨hr.1,hp⟩,?_,fun e=>by have e:s.st=5:=e;omega⟩
        show (vtake (vhold (vfresh s.v) (decide (8≤fl))) ds).run=decide (s.st=4)
        rw[vtake_run];exact h.vr
       ·rw[if_neg (by omega),if_neg (by omega),if_neg (by omega),if_neg (by omega),if_pos rfl]
        exact Ih.exh (s:=hon { s with nm:=P.n }) h.ss (by show P.n<_;omega) h.sn (by show 0<4;omega)
theorem Ih.tick (h:Ih P s) (k:Int):Ih P (htickS P s k):=by
 unfold htickS
 by_cases c:k<0
 ·rw[if_pos c];exact h
 ·rw[if_neg c]
  have h':Ih P { s with dc:=tk P.t s.dc k.toNat }:=⟨h.st1,h.st5,h.ss,h.nm,h.sn,h.ms,h.s4,h.hs,h.run,h.vr,h.lat5⟩
  split
  ·exact h'.latch 100
  ·exact h'
theorem Ih.ack (h:Ih P s):Ih P (hackS s):=by
 refine⟨h.st1,h.st5,h.ss,h.nm,h.sn,h.ms,h.s4,h.hs,h.run,(vack_run _).trans h.vr,fun e=>?_⟩
 have e:s.st=5:=e
 have hr:s.v.run=false:=by rw[h.vr,e];rfl
 show (vack s.v).lat≠0
 unfold vack vreq
 rw[hr,if_neg (by simp)]
 exact h.lat5 e
theorem Ih.write (h:Ih P s) (len:Nat) (bs:Nat→Nat) (o:Bool):Ih P (hwriteS P s len bs o):=by
 unfold hwriteS
 split
 ·exact⟨h.st1,h.st5,h.ss,h.nm,h.sn,h.ms,h.s4,h.hs,h.run,h.vr,h.lat5⟩
 ·exact h
theorem hexh_len (s:Sh):(hexh s).L.length≤s.L.length+1:=hlatch_len s 80
theorem hmiss_len (s:Sh):(hmiss s).L.length≤s.L.length+1:=by
 unfold hmiss
 split
 ·omega
 ·split
  ·show s.L.length≤_;omega
  ·show (hgive _).L.length≤_
   unfold hgive
   split
   ·exact hlatch_len { s with ms:=s.ms+1 } 131
   ·show s.L.length≤_;omega
theorem hnext_len (P:Pm) (s:Sh):(hnext P s).1.L.length≤s.L.length+1:=by
 unfold hnext
 by_cases c1:s.st=1
 ·rw[if_pos c1];show s.L.length≤_;omega
 ·rw[if_neg c1]
  by_cases c2:s.st=2
  ·rw[if_pos c2];show s.L.length≤_;omega
  ·rw[if_neg c2]
   by_cases c3:s.st=3
   ·rw[if_pos c3];show s.L.length≤_;omega
   ·rw[if_neg c3]
    by_cases c4:s.sn+1=P.n
    ·rw[if_pos c4];exact hexh_len { s with sn:=s.sn+1 }
    ·rw[if_neg c4];show s.L.length≤_;omega
theorem hsend_len (P:Pm) (s:Sh):(hsendS P s).L.length≤s.L.length+2:=by
 unfold hsendS
 by_cases c:s.st=5
 ·rw[if_pos c];omega
 ·rw[if_neg c]
  show (hnext P (hmiss s)).1.L.length≤_
  have:=hnext_len P (hmiss s)
  have:=hmiss_len s
  omega
end
end Go.Proofs.YtgaeofgdiaknpaaGreat
