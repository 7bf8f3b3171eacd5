/- Part 47: contracts that the proof rests on. -/
import Derived.Test.YtenilkloffnjlaaGreatPkH45
set_option maxHeartbeats 64000000
set_option maxRecDepth 100000
namespace Go.Proofs.YtenilkloffnjlaaGreat
open Tryz
open Go.RowKit Go.Maps Go.Sort
set_option linter.unusedVariables false
theorem bP {w:World} {b o:Nat} {cs:Array Value} {T:TypeId} {z:Nat × Nat} {v:Value} (h:w.heap[b]?=some (.cells cs T z)) (hv:cs[o]?=some v):w.setCell ⟨b,o,none⟩ v=w:=by
 have e:cs.setIfInBounds o v=cs:=by
  apply Array.ext
  ·simp
  ·intro i h1 h2
   rw[Array.getElem_setIfInBounds]
   split
   ·next q=>
    subst q
    rw[Array.getElem?_eq_getElem h2]at hv
    exact (Option.some.inj hv).symm
   ·rfl
 have hm:w.heap.modify b (fun x=>match x with
   | .cells c elem frozen=>.cells (if (⟨b,o,none⟩:Addr).spot.isSome then c else c.setIfInBounds o v) elem frozen
   | x=>x)=w.heap:=by
  apply Array.ext
  ·simp
  ·intro i h1 h2
   rw[Array.getElem_modify]
   split
   ·next q=>
    subst q
    have:w.heap[b]=.cells cs T z:=by
     rw[Array.getElem?_eq_getElem h2]at h
     exact Option.some.inj h
    rw[this]
    simp[e]
   ·rfl
 unfold World.setCell
 exact congrArg (fun x=>({ w with heap:=x }:World)) hm
theorem lU {fn:Func} {t u:Tmp} {ty:TypeId} {b o b' o':Nat} {v v':Value} (h:fn.results=#[.cell t ty,.cell u ty]) (tmps:Array Value) (P:Program) (w:World) (ht:tmps.getD t undef=ac b o) (hu:tmps.getD u undef=ac b' o') (hl:(loadVar ty ⟨b,o,none⟩).run P w=.ok v w) (hl':(loadVar ty ⟨b',o',none⟩).run P w=.ok v' w):(results fn tmps).run P w=.ok (.tuple #[v,v']) w:=by
 rw[Array.getD_eq_getD_getElem?]at ht hu
 simp[results,h,ht,hu,asAddr,hl,hl']
theorem acp (X k hn dn:Nat) (h0 h1 h2 h3 h4 h5 d0 d1 d2 d3 d4 d5:Int) (hq ho dq dO:Bool) (bh bd:Nat→Nat) (w:World) (hH:∀ w1,Below w.heap.size w w1→Calls prog 34 #[ac X 0,.int .i64 (k:Nat),.int .i64 1] w1 fun r w'=>∃ a ca,r=.returned (.tuple #[.agg #[.int .i64 h0,.int .u32 h1,.int .u32 h2,.int .u32 h3,.int .i64 h4,.int .i64 h5,.bool hq,.bool ho,.slice a hn ca],.int .i64 0])∧Hid (Below w1.heap.size w1 w'∧Row8 w' a hn ca bh∧∀ y,a=some y→0<hn→w1.heap.size≤y.block)) (hD:∀ w1,Below w.heap.size w w1→Calls prog 34 #[ac X 0,.int .i64 (k:Nat),.int .i64 2] w1 fun r w'=>∃ b cb,r=.returned (.tuple #[.agg #[.int .i64 d0,.int .u32 d1,.int .u32 d2,.int .u32 d3,.int .i64 d4,.int .i64 d5,.bool dq,.bool dO,.slice b dn cb],.int .i64 0])∧Hid (Below w1.heap.size w1 w'∧Row8 w' b dn cb bd∧∀ y,b=some y→0<dn→w1.heap.size≤y.block)):Calls prog 13 #[ac X 0,.int .i64 (k:Nat)] w fun r w'=>∃ a ca b cb,r=.returned (.tuple #[.agg #[.int .i64 h0,.int .u32 h1,.int .u32 h2,.int .u32 h3,.int .i64 h4,.int .i64 h5,.bool hq,.bool ho,.slice a hn ca],.agg #[.int .i64 d0,.int .u32 d1,.int .u32 d2,.int .u32 d3,.int .i64 d4,.int .i64 d5,.bool dq,.bool dO,.slice b dn cb]])∧Hid (Row8 w' a hn ca bh∧Row8 w' b dn cb bd∧Below w.heap.size w w'∧(∀ y,a=some y→0<hn→w.heap.size≤y.block)∧(∀ y,b=some y→0<dn→w.heap.size≤y.block)∧∀ y z,a=some y→b=some z→0<hn→0<dn→y.block≠z.block):=by
 have s1:=io w (.cells dA 43)
 have bW:Below w.heap.size w ((w.alloc (.cells dA 43)).alloc (.cells dA 43)):=aF (aF (Below.refl _ w) _) _
 have kp:((w.alloc (.cells dA 43)).alloc (.cells dA 43)).heap[w.heap.size]?=some (.cells dA 43 (0,0)):=(Below.heap_alloc _ _ _ (by omega)).trans (aB w _)
 have kq:=aB (w.alloc (.cells dA 43)) (.cells dA 43)
 rw[s1]at kq
 obtain⟨W,hW⟩:∃ z,((w.alloc (.cells dA 43)).alloc (.cells dA 43))=z:=⟨_,rfl⟩
 rw[hW]at bW kp kq
 obtain⟨x,hx⟩:∃ z,w.heap.size=z:=⟨_,rfl⟩
 have HB:Hid (Below w.heap.size w W):=bW
 have HK:Hid (W.heap[x]?=some (.cells dA 43 (0,0))∧W.heap[x+1]?=some (.cells dA 43 (0,0))):=by rw[hx]at kp kq;exact⟨kp,kq⟩
 have HE:Hid (_=W):=hW
 have HS:Hid (w.heap.size=x):=hx
 have hA:=hH W bW
 clear s1 bW kp kq hW hx
 go_enter func13,ntmps13
 go_upto_region 1 with fail
 rw[HE.out,HS.out]
 go_wp2_with fail
 refine hA.mono ?_
 rintro r w1 ⟨a,ca,rfl,H1⟩
 clear hA
 have b2:Below w1.heap.size w1 (w1.alloc (.cells #[.int .i64 h0,.int .u32 h1,.int .u32 h2,.int .u32 h3,.int .i64 h4,.int .i64 h5,.bool hq,.bool ho,.slice a hn ca] 43)):=aF (Below.refl _ _) _
 have k2:=aB w1 (.cells #[.int .i64 h0,.int .u32 h1,.int .u32 h2,.int .u32 h3,.int .i64 h4,.int .i64 h5,.bool hq,.bool ho,.slice a hn ca] 43)
 obtain⟨w2,hw2⟩:∃ z,w1.alloc (.cells #[.int .i64 h0,.int .u32 h1,.int .u32 h2,.int .u32 h3,.int .i64 h4,.int .i64 h5,.bool hq,.bool ho,.slice a hn ca] 43)=z:=⟨_,rfl⟩
 obtain⟨y,hy⟩:∃ z,w1.heap.size=z:=⟨_,rfl⟩
 rw[hw2]at b2 k2
 have HW2:Hid (Below W.heap.size W w2):=H1.out.1.trans (b2.mono H1.out.1.size)
 have HR1:Hid (_):=H1.out.2.1.below b2
 rw[hy]at k2
 have hB:=hD w2 (HB.out.trans (HW2.out.mono HB.out.size))
 have HE2:Hid (_=w2):=hw2
 have HY:Hid (w1.heap.size=y):=hy
 have HK2:Hid (w2.heap[y]?=some (.cells #[.int .i64 h0,.int .u32 h1,.int .u32 h2,.int .u32 h3,.int .i64 h4,.int .i64 h5,.bool hq,.bool ho,.slice a hn ca] 43 (0,0))):=k2
 have HxY:Hid (x+1<y):=by
  have l1:=(Array.getElem?_eq_some_iff.1 HK.out.2).1
  have l2:=H1.out.1.size
  show x+1<y
  omega
 clear b2 k2 hw2 hy
 go_upto_region 2 with fail
 rw[HE2.out,HY.out]
 go_wp2_with fail
 refine hB.mono ?_
 rintro r w3 ⟨b,cb,rfl,H3⟩
 clear hB
 have b4:Below w3.heap.size w3 (w3.alloc (.cells #[.int .i64 d0,.int .u32 d1,.int .u32 d2,.int .u32 d3,.int .i64 d4,.int .i64 d5,.bool dq,.bool dO,.slice b dn cb] 43)):=aF (Below.refl _ _) _
 have k4:=aB w3 (.cells #[.int .i64 d0,.int .u32 d1,.int .u32 d2,.int .u32 d3,.int .i64 d4,.int .i64 d5,.bool dq,.bool dO,.slice b dn cb] 43)
 obtain⟨w4,hw4⟩:∃ z,w3.alloc (.cells #[.int .i64 d0,.int .u32 d1,.int .u32 d2,.int .u32 d3,.int .i64 d4,.int .i64 d5,.bool dq,.bool dO,.slice b dn cb] 43)=z:=⟨_,rfl⟩
 obtain⟨z,hz⟩:∃ q,w3.heap.size=q:=⟨_,rfl⟩
 rw[hw4]at b4 k4
 have b24:Below w2.heap.size w2 w4:=H3.out.1.trans (b4.mono H3.out.1.size)
 have ly:=(Array.getElem?_eq_some_iff.1 HK2.out).1
 have lz:y<z:=by have:=H3.out.1.size;omega
 rw[hz]at k4
 have ky4:=(b24.block y ly).trans HK2.out
 have hS:∀ w',Off [x,x+1] w4 w'→w'.cell? ⟨y,0,none⟩=some (Value.int .i64 h0)∧w'.cell? ⟨y,1,none⟩=some (Value.int .u32 h1)∧w'.cell? ⟨y,2,none⟩=some (Value.int .u32 h2)∧w'.cell? ⟨y,3,none⟩=some (Value.int .u32 h3)∧w'.cell? ⟨y,4,none⟩=some (Value.int .i64 h4)∧w'.cell? ⟨y,5,none⟩=some (Value.int .i64 h5)∧w'.cell? ⟨y,6,none⟩=some (Value.bool hq)∧w'.cell? ⟨y,7,none⟩=some (Value.bool ho)∧w'.cell? ⟨y,8,none⟩=some (Value.slice a hn ca)∧w'.cell? ⟨z,0,none⟩=some (Value.int .i64 d0)∧w'.cell? ⟨z,1,none⟩=some (Value.int .u32 d1)∧w'.cell? ⟨z,2,none⟩=some (Value.int .u32 d2)∧w'.cell? ⟨z,3,none⟩=some (Value.int .u32 d3)∧w'.cell? ⟨z,4,none⟩=some (Value.int .i64 d4)∧w'.cell? ⟨z,5,none⟩=some (Value.int .i64 d5)∧w'.cell? ⟨z,6,none⟩=some (Value.bool dq)∧w'.cell? ⟨z,7,none⟩=some (Value.bool dO)∧w'.cell? ⟨z,8,none⟩=some (Value.slice b dn cb):=fun w' o=>by
  have q1:=(o.block y (Nat.lt_of_lt_of_le ly b24.size) (by have:=HxY.out;simp;omega)).trans ky4
  have q2:=(o.block z (Array.getElem?_eq_some_iff.1 k4).1 (by have:=HxY.out;simp;omega)).trans k4
  exact⟨ae w' y 0 _ _ _ q1,ae w' y 1 _ _ _ q1,ae w' y 2 _ _ _ q1,ae w' y 3 _ _ _ q1,ae w' y 4 _ _ _ q1,ae w' y 5 _ _ _ q1,ae w' y 6 _ _ _ q1,ae w' y 7 _ _ _ q1,ae w' y 8 _ _ _ q1,ae w' z 0 _ _ _ q2,ae w' z 1 _ _ _ q2,ae w' z 2 _ _ _ q2,ae w' z 3 _ _ _ q2,ae w' z 4 _ _ _ q2,ae w' z 5 _ _ _ q2,ae w' z 6 _ _ _ q2,ae w' z 7 _ _ _ q2,ae w' z 8 _ _ _ q2⟩
 have W4:Below W.heap.size W w4:=HW2.out.trans (b24.mono HW2.out.size)
 have lw:=HK.out
 have kx:=(W4.block x (Array.getElem?_eq_some_iff.1 lw.1).1).trans lw.1
 have kx1:=(W4.block (x+1) (Array.getElem?_eq_some_iff.1 lw.2).1).trans lw.2
 have HSS:Hid (_):=hS
 have od0:Off [x,x+1] w4 w4.drew:=Off.of_below (Below.drew (Below.refl _ _))
 have HS0:=hS w4.drew od0
 have HR3:Hid (_):=And.intro (HR1.out.below b24) (And.intro (H3.out.2.1.below b4) W4)
 have HE4:Hid (_=w4):=hw4
 have HZ:Hid (w3.heap.size=z):=hz
 clear b4 k4 hw4 hz b24 ly lz ky4 hS W4 lw
 go_upto_region 3 with fail
 rw[HE4.out,HZ.out]
 refine wp_region_held_drew (S:=fun w'=>w'.cell? ⟨y,0,none⟩=some (Value.int .i64 h0)∧w'.cell? ⟨y,1,none⟩=some (Value.int .u32 h1)∧w'.cell? ⟨y,2,none⟩=some (Value.int .u32 h2)∧w'.cell? ⟨y,3,none⟩=some (Value.int .u32 h3)∧w'.cell? ⟨y,4,none⟩=some (Value.int .i64 h4)∧w'.cell? ⟨y,5,none⟩=some (Value.int .i64 h5)∧w'.cell? ⟨y,6,none⟩=some (Value.bool hq)∧w'.cell? ⟨y,7,none⟩=some (Value.bool ho)∧w'.cell? ⟨y,8,none⟩=some (Value.slice a hn ca)∧w'.cell? ⟨z,0,none⟩=some (Value.int .i64 d0)∧w'.cell? ⟨z,1,none⟩=some (Value.int .u32 d1)∧w'.cell? ⟨z,2,none⟩=some (Value.int .u32 d2)∧w'.cell? ⟨z,3,none⟩=some (Value.int .u32 d3)∧w'.cell? ⟨z,4,none⟩=some (Value.int .i64 d4)∧w'.cell? ⟨z,5,none⟩=some (Value.int .i64 d5)∧w'.cell? ⟨z,6,none⟩=some (Value.bool dq)∧w'.cell? ⟨z,7,none⟩=some (Value.bool dO)∧w'.cell? ⟨z,8,none⟩=some (Value.slice b dn cb)) (by kernel_rfl) HS0 (fun _=>?_)
 refine aq (i:=0) (v:=Value.agg #[Value.int .i64 h0,Value.int .u32 h1,Value.int .u32 h2,Value.int .u32 h3,Value.int .i64 h4,Value.int .i64 h5,Value.bool hq,Value.bool ho,Value.slice a hn ca]) ?_
 refine aq (i:=1) (v:=Value.agg #[Value.int .i64 d0,Value.int .u32 d1,Value.int .u32 d2,Value.int .u32 d3,Value.int .i64 d4,Value.int .i64 d5,Value.bool dq,Value.bool dO,Value.slice b dn cb]) ?_
 have kd:w4.drew.heap[x]?=some (.cells dA 43 (0,0)):=kx
 have kd1:w4.drew.heap[x+1]?=some (.cells dA 43 (0,0)):=kx1
 have h8:w4.drew.there x 0 9:=bI kd rfl
 have o8:=cE w4.drew x 0 #[Value.int .i64 h0,Value.int .u32 h1,Value.int .u32 h2,Value.int .u32 h3,Value.int .i64 h4,Value.int .i64 h5,Value.bool hq,Value.bool ho,Value.slice a hn ca].toList
 have r8:=World.rangeAt_setCells_same w4.drew x 0 #[Value.int .i64 h0,Value.int .u32 h1,Value.int .u32 h2,Value.int .u32 h3,Value.int .i64 h4,Value.int .i64 h5,Value.bool hq,Value.bool ho,Value.slice a hn ca].toList h8
 have oo8:Off [x,x+1] w4 (w4.drew.setCells x 0 #[Value.int .i64 h0,Value.int .u32 h1,Value.int .u32 h2,Value.int .u32 h3,Value.int .i64 h4,Value.int .i64 h5,Value.bool hq,Value.bool ho,Value.slice a hn ca].toList):=od0.trans (o8.more (by simp))
 refine bJ (i:=2) (by kernel_rfl) rfl (by kernel_rfl) 43 (.tmp 4) (.tmp 22) rfl x 0 #[Value.int .i64 h0,Value.int .u32 h1,Value.int .u32 h2,Value.int .u32 h3,Value.int .i64 h4,Value.int .i64 h5,Value.bool hq,Value.bool ho,Value.slice a hn ca] (by kernel_rfl) (by kernel_rfl) h8 (by kernel_rfl) (by kernel_rfl) (HSS.out _ oo8) ?_
 obtain⟨w5,hw5⟩:∃ q,w4.drew.setCells x 0 #[Value.int .i64 h0,Value.int .u32 h1,Value.int .u32 h2,Value.int .u32 h3,Value.int .i64 h4,Value.int .i64 h5,Value.bool hq,Value.bool ho,Value.slice a hn ca].toList=q:=⟨_,rfl⟩
 rw[hw5]at r8 o8 oo8 ⊢
 have k5:w5.heap[x+1]?=some (.cells dA 43 (0,0)):=(o8.block (x+1) (Array.getElem?_eq_some_iff.1 kd1).1 (by simp)).trans kd1
 have h9:w5.there (x+1) 0 9:=bI k5 rfl
 have o9:=cE w5 (x+1) 0 #[Value.int .i64 d0,Value.int .u32 d1,Value.int .u32 d2,Value.int .u32 d3,Value.int .i64 d4,Value.int .i64 d5,Value.bool dq,Value.bool dO,Value.slice b dn cb].toList
 have r9:=World.rangeAt_setCells_same w5 (x+1) 0 #[Value.int .i64 d0,Value.int .u32 d1,Value.int .u32 d2,Value.int .u32 d3,Value.int .i64 d4,Value.int .i64 d5,Value.bool dq,Value.bool dO,Value.slice b dn cb].toList h9
 have oo9:Off [x,x+1] w4 (w5.setCells (x+1) 0 #[Value.int .i64 d0,Value.int .u32 d1,Value.int .u32 d2,Value.int .u32 d3,Value.int .i64 d4,Value.int .i64 d5,Value.bool dq,Value.bool dO,Value.slice b dn cb].toList):=oo8.trans (o9.more (by simp))
 refine bJ (i:=3) (by kernel_rfl) rfl (by kernel_rfl) 43 (.tmp 5) (.tmp 23) rfl (x+1) 0 #[Value.int .i64 d0,Value.int .u32 d1,Value.int .u32 d2,Value.int .u32 d3,Value.int .i64 d4,Value.int .i64 d5,Value.bool dq,Value.bool dO,Value.slice b dn cb] (by kernel_rfl) (by kernel_rfl) h9 (by kernel_rfl) (by kernel_rfl) (HSS.out _ oo9) ?_
 obtain⟨w6,hw6⟩:∃ q,w5.setCells (x+1) 0 #[Value.int .i64 d0,Value.int .u32 d1,Value.int .u32 d2,Value.int .u32 d3,Value.int .i64 d4,Value.int .i64 d5,Value.bool dq,Value.bool dO,Value.slice b dn cb].toList=q:=⟨_,rfl⟩
 rw[hw6]at r9 o9 oo9 ⊢
 have lx5:x<w5.heap.size:=Nat.lt_of_lt_of_le (Array.getElem?_eq_some_iff.1 kd).1 o8.size
 have r8':w6.rangeAt x 0 #[Value.int .i64 h0,Value.int .u32 h1,Value.int .u32 h2,Value.int .u32 h3,Value.int .i64 h4,Value.int .i64 h5,Value.bool hq,Value.bool ho,Value.slice a hn ca].toList:=fun j v hv=>(World.cell?_of_block (a:=⟨x,0+j,none⟩) (o9.block x lx5 (by simp))).trans (r8 j v hv)
 have hl1:(loadVar 43 ⟨x,0,none⟩).run prog w6=.ok (.agg #[Value.int .i64 h0,Value.int .u32 h1,Value.int .u32 h2,Value.int .u32 h3,Value.int .i64 h4,Value.int .i64 h5,Value.bool hq,Value.bool ho,Value.slice a hn ca]) w6:=run_loadVar_mid (P:=prog) _ x 0 43 #[Value.int .i64 h0,Value.int .u32 h1,Value.int .u32 h2,Value.int .u32 h3,Value.int .i64 h4,Value.int .i64 h5,Value.bool hq,Value.bool ho,Value.slice a hn ca].toList _ r8' underlying43 rfl (by kernel_rfl)
 have hl2:(loadVar 43 ⟨x+1,0,none⟩).run prog w6=.ok (.agg #[Value.int .i64 d0,Value.int .u32 d1,Value.int .u32 d2,Value.int .u32 d3,Value.int .i64 d4,Value.int .i64 d5,Value.bool dq,Value.bool dO,Value.slice b dn cb]) w6:=run_loadVar_mid (P:=prog) _ (x+1) 0 43 #[Value.int .i64 d0,Value.int .u32 d1,Value.int .u32 d2,Value.int .u32 d3,Value.int .i64 d4,Value.int .i64 d5,Value.bool dq,Value.bool dO,Value.slice b dn cb].toList _ r9 underlying43 rfl (by kernel_rfl)
 have HO:Hid (_):=oo9
 have HL:Hid (_):=And.intro hl1 hl2
 clear h8 h9 o8 o9 r8 r9 r8' kd kd1 k5 lx5 oo8 oo9 od0 hw5 hw6 kx kx1 HSS HS0 hl1 hl2
 refine wpAnyH_done (by kernel_rfl) ?_ _
 go_wp2_with fail
 refine bodyPost_ret (v:=.tuple #[.agg #[Value.int .i64 h0,Value.int .u32 h1,Value.int .u32 h2,Value.int .u32 h3,Value.int .i64 h4,Value.int .i64 h5,Value.bool hq,Value.bool ho,Value.slice a hn ca],.agg #[Value.int .i64 d0,Value.int .u32 d1,Value.int .u32 d2,Value.int .u32 d3,Value.int .i64 d4,Value.int .i64 d5,Value.bool dq,Value.bool dO,Value.slice b dn cb]]) (lU (t:=4) (u:=5) (ty:=43) rfl _ prog w6 (by kernel_rfl) (by kernel_rfl) HL.out.1 HL.out.2) rfl ?_
 obtain⟨R1,R3,W4⟩:=HR3.out
 have lw:=(Array.getElem?_eq_some_iff.1 HK.out.2).1
 have bw4:Below w.heap.size w w4:=HB.out.trans (W4.mono HB.out.size)
 have hs:w.heap.size=x:=HS.out
 have zW:=HB.out.size
 have zw2:=HW2.out.size
 refine⟨a,ca,b,cb,rfl,?_,?_,HO.out.below bw4 (fun q hq=>by simp at hq;omega) bw4.size,fun y hy h0=>by have:=H1.out.2.2 y hy h0;omega,fun y hy h0=>by have:=H3.out.2.2 y hy h0;omega,fun y z hy hz h0 h0'=>?_⟩
 ·exact R1.offY HO.out (fun q hq h0=>by have:=H1.out.2.2 q hq h0;simp;omega)
 ·exact R3.offY HO.out (fun q hq h0=>by have:=H3.out.2.2 q hq h0;have:=HW2.out.size;simp;omega)
 ·have l1:=World.block_lt_of_cell? w1 _ (H1.out.2.1.src y hy 0 h0)
  have hb:(y.add 0).block=y.block:=by unfold Addr.add;split <;> rfl
  have l2:=H3.out.2.2 z hz h0'
  have l3:=HK2.out
  have l4:=(Array.getElem?_eq_some_iff.1 l3).1
  have l5:w1.heap.size=_:=HY.out
  omega
open Go.RowKit Go.Maps
theorem un (w:World) {A B:Array Value} (hs:A.size=9) (ho:A.all (·.oneCell')=true) (hs':B.size=9) (ho':B.all (·.oneCell')=true):∃ wy wz,(storeCells ⟨w.heap.size,0,none⟩ A.toList).run prog ((w.alloc (.cells dA 43)).alloc (.cells dA 43))=.ok () wy∧(storeCells ⟨w.heap.size+1,0,none⟩ B.toList).run prog wy=.ok () wz∧wz.rangeAt w.heap.size 0 A.toList∧wz.rangeAt (w.heap.size+1) 0 B.toList∧Below w.heap.size w wz:=by
 have z1:=io w (.cells dA 43)
 have kq:=aB (w.alloc (.cells dA 43)) (.cells dA 43)
 have kp:((w.alloc (.cells dA 43)).alloc (.cells dA 43)).heap[w.heap.size]?=some (.cells dA 43 (0,0)):=(Below.heap_alloc _ _ _ (by omega)).trans (aB w _)
 have bW:Below w.heap.size w ((w.alloc (.cells dA 43)).alloc (.cells dA 43)):=aF (aF (Below.refl _ w) _) _
 rw[z1]at kq
 obtain⟨W,hW⟩:∃ z,(w.alloc (.cells dA 43)).alloc (.cells dA 43)=z:=⟨_,rfl⟩
 rw[hW]at kp kq bW ⊢
 have h1:W.there w.heap.size 0 A.size:=bI kp (by rw[hs];rfl)
 have o1:=cE W w.heap.size 0 A.toList
 have r1:=World.rangeAt_setCells_same W w.heap.size 0 A.toList (by simpa using h1)
 have k1:=(o1.block (w.heap.size+1) (Array.getElem?_eq_some_iff.1 kq).1 (by simp)).trans kq
 have h2:(W.setCells w.heap.size 0 A.toList).there (w.heap.size+1) 0 B.size:=bI k1 (by rw[hs'];rfl)
 have o2:=cE (W.setCells w.heap.size 0 A.toList) (w.heap.size+1) 0 B.toList
 have r2:=World.rangeAt_setCells_same (W.setCells w.heap.size 0 A.toList) (w.heap.size+1) 0 B.toList (by simpa using h2)
 have b1:=o1.below bW (by simp) bW.size
 refine⟨_,_,iD h1 ho,iD h2 ho',fun j v hv=>(World.cell?_of_block (a:=⟨w.heap.size,0+j,none⟩) (o2.block w.heap.size (Nat.lt_of_lt_of_le (Array.getElem?_eq_some_iff.1 kp).1 o1.size) (by simp))).trans (r1 j v hv),r2,o2.below b1 (fun k hk=>by simp at hk;omega) b1.size⟩
theorem yX (w:World):Calls prog 22 #[.int .i64 1] w fun r w'=>∃ a0 c0 a1 c1,r=.returned (.agg #[.slice a0 2 c0,.slice a1 2 c1,.int .u32 50])∧Hid (w'.ownsRow (w.heap.size+2) 83 5 (.slice a0 2 c0) 2 (fW 2 j6)∧w'.ownsRow (w.heap.size+2) 83 5 (.slice a1 2 c1) 2 (fW 2 j6)∧(∀ g,(Value.slice a0 2 c0).ownBlock=some g→(Value.slice a1 2 c1).ownBlock≠some g)∧Below w.heap.size w w'):=by
 have hS:=fun wx=>wI wx
 go_enter func22,ntmps22
 go_wp2_with fail
 have HS:Hid (Sp w ((w.alloc (.cells #[.slice none 0 0,.slice none 0 0,.int .u32 0] 30)).alloc (.cells #[.slice none 0 0,.slice none 0 0,.int .u32 50] 30)) 0 none 0 none 0):=by
  have a1':=aB w (.cells #[.slice none 0 0,.slice none 0 0,.int .u32 0] 30)
  have a2':=aB (w.alloc (.cells #[.slice none 0 0,.slice none 0 0,.int .u32 0] 30)) (.cells #[.slice none 0 0,.slice none 0 0,.int .u32 50] 30)
  simp only[World.size_alloc]at a1' a2'
  refine⟨aF (aF (Below.refl _ _) _) _,?_,a2',⟨by simp[fW],.inl ⟨rfl,rfl⟩⟩,⟨by simp[fW],.inl ⟨rfl,rfl⟩⟩,fun g hg=>by cases hg⟩
  exact ((aF (Below.refl _ _) _).block _ (by simp)).trans a1'
 go_loopw [4,5,7,8,9,10,11,12,13,14,15,16,17,18,19,20,21,22,23,24,25,26,27,28,29,30,31,32,33,34] (fun c _ _ _ _ _ _ _ _ _ _ _ _ _ _ _ _ _ _ _ _ _ _ _ _ _ _ _ _ _ wr=>∃ (i:Nat) (va:Option Addr) (vc:Nat) (ua:Option Addr) (uc:Nat),i≤2∧c=.int .i64 ((i:Nat):Int)∧Hid (Sp w wr i va vc ua uc)) (fun c _ _ _ _ _ _ _ _ _ _ _ _ _ _ _ _ _ _ _ _ _ _ _ _ _ _ _ _ _ _=>2-jt c)
 case atStart=>exact⟨0,none,0,none,0,by omega,rfl,HS⟩
 case round=>
  obtain⟨i,va,vc,ua,uc,hi,rfl,HI⟩:=hrel
  clear HS
  have hi3:i=0∨i=1∨i=2:=by omega
  rcases hi3 with rfl | rfl | rfl
  ·obtain⟨i0,hI,hz0,hz1,hz2⟩:=info_parts fG
   go_wp2_with fail
   refine (hS _).mono ?_
   rintro r w3 ⟨rfl,b3⟩
   have q0:=ag (ae wr _ 0 _ _ _ HI.out.xb) (aF b3 (.cells bC 83))
   have q1:=ag (ae wr _ 1 _ _ _ HI.out.xb) (aF b3 (.cells bC 83))
   have b4:=aF (aF b3 (.cells bC 83)) (.cells bC 83)
   have hrow:=cW HI.out.ov b4
   have lx:=(Array.getElem?_eq_some_iff.1 HI.out.xb).1
   have s3:=b3.size
   have nk:=aB (w3.alloc (.cells bC 83)) (.cells bC 83)
   simp only[World.size_alloc]at nk
   have hcl:∀ j u,(j6 0).cs[j]?=some u→((w3.alloc (.cells bC 83)).alloc (.cells bC 83)).cell? ((⟨w3.heap.size+1,0,none⟩:Addr).add j)=some u:=iX nk
   have hbs:w.heap.size+2 ≤ ((w3.alloc (.cells bC 83)).alloc (.cells bC 83)).heap.size:=by simp;omega
   go_wp2_with (at_builtin;refine wpList_append_own_at _ rfl (.tmp 24) (.tmp 26) 27 rfl (w.heap.size+2) 83 i0 (.agg #[.int .u32 0,.int .i64 0,.int .i64 0,.int .i64 0,.int .u32 0]) 5 40 underlying27 hI hz0 hz1 hz2 rfl (by decide) (.slice va 0 vc) 0 (fW 0 j6) rfl hrow ⟨w3.heap.size+1,0,none⟩ 1 1 (j6 0).cs rfl rfl hcl (jV _) (by unfold maxLen;omega) (by omega) hbs ?_)
   intro v5 w5 o5 g5 _ s5
   obtain⟨x5,y5,rfl,hx5⟩:=iV (n:=0) o5
   have nb:=fun g (hg:(Value.slice va 0 vc).ownBlock=some g)=>HI.out.ov.lt g hg
   have nu:=fun g (hg:(Value.slice ua 0 uc).ownBlock=some g)=>HI.out.ou.lt g hg
   have k5:w5.heap[w.heap.size+1]?=some (.cells #[.slice va 0 vc,.slice ua 0 uc,.int .u32 50] 30 (0,0)):=(g5.block _ (by simp;omega) (fun e=>by have:=(nb _ e.symm).1;omega)).trans ((b4.block _ lx).trans HI.out.xb)
   have p5:w5.heap[w3.heap.size]?=some (.cells bC 83 (0,0)):=(g5.block _ (by simp;omega) (fun e=>by have:=(nb _ e.symm).2;omega)).trans (((aF (Below.refl _ _) _).block w3.heap.size (by simp)).trans (aB w3 (.cells bC 83)))
   have u5:w5.ownsRow (w.heap.size+2) 83 5 (.slice ua 0 uc) 0 (fW 0 j6):=bZ (cW HI.out.ou b4) (fun g hg=>g5.block g (by have:=(nu g hg).2;simp;omega) (fun e=>HI.out.dis g e.symm hg))
   have r0:=ae w5 _ 0 _ _ _ k5
   have r1:=ae w5 _ 1 _ _ _ k5
   have rz:=fun k=>frozen_of_row w5 _ k _ _ k5
   have t0:=ae w5 _ 0 _ _ _ p5
   have t1:=ae w5 _ 1 _ _ _ p5
   have t2:=ae w5 _ 2 _ _ _ p5
   have t3:=ae w5 _ 3 _ _ _ p5
   have t4:=ae w5 _ 4 _ _ _ p5
   have s5s:=g5.size
   simp only[World.size_alloc]at s5s
   have o6:Off [w.heap.size+1] w5 (w5.setCell ⟨w.heap.size+1,0,none⟩ (.slice (af x5 0) 1 y5)):=Off.setCell _ _ _ _
   have u7:((w5.setCell ⟨w.heap.size+1,0,none⟩ (.slice (af x5 0) 1 y5)).alloc (.cells bC 83)).ownsRow (w.heap.size+2) 83 5 (.slice ua 0 uc) 0 (fW 0 j6):=cW (bZ u5 (fun g hg=>o6.block g (by have:=(u5.lt g hg).2;omega) (by have:=(u5.lt g hg).1;simp;omega))) (aF (Below.refl _ _) _)
   have nk7:=aB (w5.setCell ⟨w.heap.size+1,0,none⟩ (.slice (af x5 0) 1 y5)) (.cells bC 83)
   have hs6:(w5.setCell ⟨w.heap.size+1,0,none⟩ (.slice (af x5 0) 1 y5)).heap.size=w5.heap.size:=by simp[World.setCell]
   rw[hs6]at nk7
   have hcl7:∀ j u,(j6 0).cs[j]?=some u→((w5.setCell ⟨w.heap.size+1,0,none⟩ (.slice (af x5 0) 1 y5)).alloc (.cells bC 83)).cell? ((⟨w5.heap.size,0,none⟩:Addr).add j)=some u:=iX nk7
   have hbs7:w.heap.size+2 ≤ ((w5.setCell ⟨w.heap.size+1,0,none⟩ (.slice (af x5 0) 1 y5)).alloc (.cells bC 83)).heap.size:=by rw[World.size_alloc,hs6];omega
   have HH:Hid (_):=And.intro o5 (And.intro g5 (And.intro s5 (And.intro k5 (And.intro p5 (And.intro u5 (And.intro nb (And.intro nu b4)))))))
   clear o5 g5 s5 k5 p5 u5 hrow hcl hbs nk q0 q1 nk7 o6 nb nu
   go_wp2_with (at_builtin;refine wpList_append_own_at _ rfl (.tmp 30) (.tmp 32) 27 rfl (w.heap.size+2) 83 i0 (.agg #[.int .u32 0,.int .i64 0,.int .i64 0,.int .i64 0,.int .u32 0]) 5 40 underlying27 hI hz0 hz1 hz2 rfl (by decide) (.slice ua 0 uc) 0 (fW 0 j6) rfl u7 ⟨w5.heap.size,0,none⟩ 1 1 (j6 0).cs rfl rfl hcl7 (jV _) (by unfold maxLen;omega) (by omega) hbs7 ?_)
   intro v8 w8 o8 g8 _ s8
   obtain⟨x8,y8,rfl,hx8⟩:=iV (n:=0) o8
   have key:Hid (Sp w (w8.setCell ⟨w.heap.size+1,1,none⟩ (.slice (af x8 0) 1 y8)) 1 (af x5 0) y5 (af x8 0) y8∧w8.heap[w.heap.size+1]?=some (.cells #[.slice (af x5 0) 1 y5,.slice ua 0 uc,.int .u32 50] 30 (0,0))):=by
    obtain⟨o5,g5,s5,k5,p5,u5,nb,nu,b4⟩:=HH.out
    have hI':=HI.out
    have o6:Off [w.heap.size+1] w5 (w5.setCell ⟨w.heap.size+1,0,none⟩ (.slice (af x5 0) 1 y5)):=Off.setCell _ _ _ _
    have o9:Off [w.heap.size+1] w8 (w8.setCell ⟨w.heap.size+1,1,none⟩ (.slice (af x8 0) 1 y8)):=Off.setCell _ _ _ _
    have g8s:=g8.size
    rw[World.size_alloc,hs6]at g8s
    have wr2:w.heap.size+2≤wr.heap.size:=by omega
    have thr:∀ k,k<w5.heap.size→k≠w.heap.size+1→(∀ g,(Value.slice ua 0 uc).ownBlock=some g→k≠g)→(w8.setCell ⟨w.heap.size+1,1,none⟩ (.slice (af x8 0) 1 y8)).heap[k]?=w5.heap[k]?:=fun k hk h1 h2=>
     (o9.block k (by omega) (by simpa using h1)).trans ((g8.block k (by rw[World.size_alloc,hs6];omega) (fun e=>h2 k e.symm rfl)).trans (((aF (Below.refl _ _) _).block k (by rw[hs6];exact hk)).trans (o6.block k hk (by simpa using h1))))
    have kk6:(w5.setCell ⟨w.heap.size+1,0,none⟩ (.slice (af x5 0) 1 y5)).heap[w.heap.size+1]?=some (.cells #[.slice (af x5 0) 1 y5,.slice ua 0 uc,.int .u32 50] 30 (0,0)):=heap_setCell_same _ _ _ _ _ _ k5
    have kk8:w8.heap[w.heap.size+1]?=some (.cells #[.slice (af x5 0) 1 y5,.slice ua 0 uc,.int .u32 50] 30 (0,0)):=(g8.block _ (by rw[World.size_alloc,hs6];omega) (fun e=>by have:=(nu _ e.symm).1;omega)).trans (((aF (Below.refl _ _) _).block _ (by rw[hs6];omega)).trans kk6)
    have b5:Below w.heap.size w w5:=(hI'.bel.trans (b4.mono (by omega))).grown g5 (by simp;omega) (fun j hj=>by have:=(nb j hj).1;omega)
    have l5:=(o5.lt x5 rfl).2
    have xu:∀ g,(Value.slice ua 0 uc).ownBlock=some g→x5≠g:=fun g hg e=>by
     subst e
     rcases s5 with h | h
     ·exact hI'.dis x5 (h.symm.trans rfl) hg
     ·have h2:some x5=some _:=h
      simp only[Option.some.injEq]at h2
      have:=(nu _ hg).2
      omega
    refine⟨⟨?_,?_,heap_setCell_same _ _ _ _ _ _ kk8,?_,?_,?_⟩,kk8⟩
    ·have b6:=o6.below b5 (fun k hk=>by simp at hk;omega) b5.size
     have b7:=(b6.alloc (by rw[hs6];exact b5.size) (.cells bC 83)).grown g8 (by rw[World.size_alloc,hs6];have:=b5.size;omega) (fun j hj=>by have:=(nu j hj).1;omega)
     exact o9.below b7 (fun k hk=>by simp at hk;omega) b7.size
    ·rw[thr _ (by omega) (by omega) (fun g hg=>by have:=(nu g hg).1;omega)]
     exact (g5.block _ (by simp;omega) (fun e=>by have:=(nb _ e.symm).1;omega)).trans ((b4.block _ (by omega)).trans hI'.rb)
    ·rw[dx]
     exact bZ o5 (fun g hg=>by
      have e:g=x5:=by simpa [Value.ownBlock] using hg.symm
      subst e
      exact thr g l5 (by omega) xu)
    ·rw[dx]
     exact bZ o8 (fun g hg=>by
      have e:g=x8:=by simpa [Value.ownBlock] using hg.symm
      subst e
      exact o9.block g (o8.lt g rfl).2 (by simp;omega))
    ·intro g hg hg'
     cases hg
     have e8:x8=x5:=by simpa [Value.ownBlock] using hg'
     rcases s8 with h | h
     ·have h2:some x8=_:=h
      exact xu x8 h2.symm e8.symm
     ·have h2:some x8=some _:=h
      simp only[Option.some.injEq]at h2
      omega
   have HS:Hid (_):=key.out.1
   have f0:=ae w8 _ 0 _ _ _ key.out.2
   have f1:=ae w8 _ 1 _ _ _ key.out.2
   have fz:=fun k=>frozen_of_row w8 _ k _ _ key.out.2
   clear key o8 g8 s8 HH u7 hcl7 hbs7 HI
   go_wp2_with fail
   go_roundw
   case rel=>exact⟨1,_,_,_,_,by omega,by go_num,HS⟩
   case measure=>simp[jt]
  ·obtain⟨i0,hI,hz0,hz1,hz2⟩:=info_parts fG
   go_wp2_with fail
   refine (hS _).mono ?_
   rintro r w3 ⟨rfl,b3⟩
   have q0:=ag (ae wr _ 0 _ _ _ HI.out.xb) (aF b3 (.cells #[.int .u32 8,.int .i64 2,.int .i64 1,.int .i64 11,.int .u32 9] 83))
   have q1:=ag (ae wr _ 1 _ _ _ HI.out.xb) (aF b3 (.cells #[.int .u32 8,.int .i64 2,.int .i64 1,.int .i64 11,.int .u32 9] 83))
   have b4:=aF (aF b3 (.cells #[.int .u32 8,.int .i64 2,.int .i64 1,.int .i64 11,.int .u32 9] 83)) (.cells #[.int .u32 8,.int .i64 2,.int .i64 1,.int .i64 11,.int .u32 9] 83)
   have hrow:=cW HI.out.ov b4
   have lx:=(Array.getElem?_eq_some_iff.1 HI.out.xb).1
   have s3:=b3.size
   have nk:=aB (w3.alloc (.cells #[.int .u32 8,.int .i64 2,.int .i64 1,.int .i64 11,.int .u32 9] 83)) (.cells #[.int .u32 8,.int .i64 2,.int .i64 1,.int .i64 11,.int .u32 9] 83)
   simp only[World.size_alloc]at nk
   have hcl:∀ j u,(j6 1).cs[j]?=some u→((w3.alloc (.cells #[.int .u32 8,.int .i64 2,.int .i64 1,.int .i64 11,.int .u32 9] 83)).alloc (.cells #[.int .u32 8,.int .i64 2,.int .i64 1,.int .i64 11,.int .u32 9] 83)).cell? ((⟨w3.heap.size+1,0,none⟩:Addr).add j)=some u:=iX nk
   have hbs:w.heap.size+2 ≤ ((w3.alloc (.cells #[.int .u32 8,.int .i64 2,.int .i64 1,.int .i64 11,.int .u32 9] 83)).alloc (.cells #[.int .u32 8,.int .i64 2,.int .i64 1,.int .i64 11,.int .u32 9] 83)).heap.size:=by simp;omega
   go_wp2_with (at_builtin;refine wpList_append_own_at _ rfl (.tmp 24) (.tmp 26) 27 rfl (w.heap.size+2) 83 i0 (.agg #[.int .u32 0,.int .i64 0,.int .i64 0,.int .i64 0,.int .u32 0]) 5 40 underlying27 hI hz0 hz1 hz2 rfl (by decide) (.slice va 1 vc) 1 (fW 1 j6) rfl hrow ⟨w3.heap.size+1,0,none⟩ 1 1 (j6 1).cs rfl rfl hcl (jV _) (by unfold maxLen;omega) (by omega) hbs ?_)
   intro v5 w5 o5 g5 _ s5
   obtain⟨x5,y5,rfl,hx5⟩:=iV (n:=1) o5
   have nb:=fun g (hg:(Value.slice va 1 vc).ownBlock=some g)=>HI.out.ov.lt g hg
   have nu:=fun g (hg:(Value.slice ua 1 uc).ownBlock=some g)=>HI.out.ou.lt g hg
   have k5:w5.heap[w.heap.size+1]?=some (.cells #[.slice va 1 vc,.slice ua 1 uc,.int .u32 50] 30 (0,0)):=(g5.block _ (by simp;omega) (fun e=>by have:=(nb _ e.symm).1;omega)).trans ((b4.block _ lx).trans HI.out.xb)
   have p5:w5.heap[w3.heap.size]?=some (.cells #[.int .u32 8,.int .i64 2,.int .i64 1,.int .i64 11,.int .u32 9] 83 (0,0)):=(g5.block _ (by simp;omega) (fun e=>by have:=(nb _ e.symm).2;omega)).trans (((aF (Below.refl _ _) _).block w3.heap.size (by simp)).trans (aB w3 (.cells #[.int .u32 8,.int .i64 2,.int .i64 1,.int .i64 11,.int .u32 9] 83)))
   have u5:w5.ownsRow (w.heap.size+2) 83 5 (.slice ua 1 uc) 1 (fW 1 j6):=bZ (cW HI.out.ou b4) (fun g hg=>g5.block g (by have:=(nu g hg).2;simp;omega) (fun e=>HI.out.dis g e.symm hg))
   have r0:=ae w5 _ 0 _ _ _ k5
   have r1:=ae w5 _ 1 _ _ _ k5
   have rz:=fun k=>frozen_of_row w5 _ k _ _ k5
   have t0:=ae w5 _ 0 _ _ _ p5
   have t1:=ae w5 _ 1 _ _ _ p5
   have t2:=ae w5 _ 2 _ _ _ p5
   have t3:=ae w5 _ 3 _ _ _ p5
   have t4:=ae w5 _ 4 _ _ _ p5
   have s5s:=g5.size
   simp only[World.size_alloc]at s5s
   have o6:Off [w.heap.size+1] w5 (w5.setCell ⟨w.heap.size+1,0,none⟩ (.slice (af x5 0) 2 y5)):=Off.setCell _ _ _ _
   have u7:((w5.setCell ⟨w.heap.size+1,0,none⟩ (.slice (af x5 0) 2 y5)).alloc (.cells #[.int .u32 8,.int .i64 2,.int .i64 1,.int .i64 11,.int .u32 9] 83)).ownsRow (w.heap.size+2) 83 5 (.slice ua 1 uc) 1 (fW 1 j6):=cW (bZ u5 (fun g hg=>o6.block g (by have:=(u5.lt g hg).2;omega) (by have:=(u5.lt g hg).1;simp;omega))) (aF (Below.refl _ _) _)
   have nk7:=aB (w5.setCell ⟨w.heap.size+1,0,none⟩ (.slice (af x5 0) 2 y5)) (.cells #[.int .u32 8,.int .i64 2,.int .i64 1,.int .i64 11,.int .u32 9] 83)
   have hs6:(w5.setCell ⟨w.heap.size+1,0,none⟩ (.slice (af x5 0) 2 y5)).heap.size=w5.heap.size:=by simp[World.setCell]
   rw[hs6]at nk7
   have hcl7:∀ j u,(j6 1).cs[j]?=some u→((w5.setCell ⟨w.heap.size+1,0,none⟩ (.slice (af x5 0) 2 y5)).alloc (.cells #[.int .u32 8,.int .i64 2,.int .i64 1,.int .i64 11,.int .u32 9] 83)).cell? ((⟨w5.heap.size,0,none⟩:Addr).add j)=some u:=iX nk7
   have hbs7:w.heap.size+2 ≤ ((w5.setCell ⟨w.heap.size+1,0,none⟩ (.slice (af x5 0) 2 y5)).alloc (.cells #[.int .u32 8,.int .i64 2,.int .i64 1,.int .i64 11,.int .u32 9] 83)).heap.size:=by rw[World.size_alloc,hs6];omega
   have HH:Hid (_):=And.intro o5 (And.intro g5 (And.intro s5 (And.intro k5 (And.intro p5 (And.intro u5 (And.intro nb (And.intro nu b4)))))))
   clear o5 g5 s5 k5 p5 u5 hrow hcl hbs nk q0 q1 nk7 o6 nb nu
   go_wp2_with (at_builtin;refine wpList_append_own_at _ rfl (.tmp 30) (.tmp 32) 27 rfl (w.heap.size+2) 83 i0 (.agg #[.int .u32 0,.int .i64 0,.int .i64 0,.int .i64 0,.int .u32 0]) 5 40 underlying27 hI hz0 hz1 hz2 rfl (by decide) (.slice ua 1 uc) 1 (fW 1 j6) rfl u7 ⟨w5.heap.size,0,none⟩ 1 1 (j6 1).cs rfl rfl hcl7 (jV _) (by unfold maxLen;omega) (by omega) hbs7 ?_)
   intro v8 w8 o8 g8 _ s8
   obtain⟨x8,y8,rfl,hx8⟩:=iV (n:=1) o8
   have key:Hid (Sp w (w8.setCell ⟨w.heap.size+1,1,none⟩ (.slice (af x8 0) 2 y8)) 2 (af x5 0) y5 (af x8 0) y8∧w8.heap[w.heap.size+1]?=some (.cells #[.slice (af x5 0) 2 y5,.slice ua 1 uc,.int .u32 50] 30 (0,0))):=by
    obtain⟨o5,g5,s5,k5,p5,u5,nb,nu,b4⟩:=HH.out
    have hI':=HI.out
    have o6:Off [w.heap.size+1] w5 (w5.setCell ⟨w.heap.size+1,0,none⟩ (.slice (af x5 0) 2 y5)):=Off.setCell _ _ _ _
    have o9:Off [w.heap.size+1] w8 (w8.setCell ⟨w.heap.size+1,1,none⟩ (.slice (af x8 0) 2 y8)):=Off.setCell _ _ _ _
    have g8s:=g8.size
    rw[World.size_alloc,hs6]at g8s
    have wr2:w.heap.size+2≤wr.heap.size:=by omega
    have thr:∀ k,k<w5.heap.size→k≠w.heap.size+1→(∀ g,(Value.slice ua 1 uc).ownBlock=some g→k≠g)→(w8.setCell ⟨w.heap.size+1,1,none⟩ (.slice (af x8 0) 2 y8)).heap[k]?=w5.heap[k]?:=fun k hk h1 h2=>
     (o9.block k (by omega) (by simpa using h1)).trans ((g8.block k (by rw[World.size_alloc,hs6];omega) (fun e=>h2 k e.symm rfl)).trans (((aF (Below.refl _ _) _).block k (by rw[hs6];exact hk)).trans (o6.block k hk (by simpa using h1))))
    have kk6:(w5.setCell ⟨w.heap.size+1,0,none⟩ (.slice (af x5 0) 2 y5)).heap[w.heap.size+1]?=some (.cells #[.slice (af x5 0) 2 y5,.slice ua 1 uc,.int .u32 50] 30 (0,0)):=heap_setCell_same _ _ _ _ _ _ k5
    have kk8:w8.heap[w.heap.size+1]?=some (.cells #[.slice (af x5 0) 2 y5,.slice ua 1 uc,.int .u32 50] 30 (0,0)):=(g8.block _ (by rw[World.size_alloc,hs6];omega) (fun e=>by have:=(nu _ e.symm).1;omega)).trans (((aF (Below.refl _ _) _).block _ (by rw[hs6];omega)).trans kk6)
    have b5:Below w.heap.size w w5:=(hI'.bel.trans (b4.mono (by omega))).grown g5 (by simp;omega) (fun j hj=>by have:=(nb j hj).1;omega)
    have l5:=(o5.lt x5 rfl).2
    have xu:∀ g,(Value.slice ua 1 uc).ownBlock=some g→x5≠g:=fun g hg e=>by
     subst e
     rcases s5 with h | h
     ·exact hI'.dis x5 (h.symm.trans rfl) hg
     ·have h2:some x5=some _:=h
      simp only[Option.some.injEq]at h2
      have:=(nu _ hg).2
      omega
    refine⟨⟨?_,?_,heap_setCell_same _ _ _ _ _ _ kk8,?_,?_,?_⟩,kk8⟩
    ·have b6:=o6.below b5 (fun k hk=>by simp at hk;omega) b5.size
     have b7:=(b6.alloc (by rw[hs6];exact b5.size) (.cells #[.int .u32 8,.int .i64 2,.int .i64 1,.int .i64 11,.int .u32 9] 83)).grown g8 (by rw[World.size_alloc,hs6];have:=b5.size;omega) (fun j hj=>by have:=(nu j hj).1;omega)
     exact o9.below b7 (fun k hk=>by simp at hk;omega) b7.size
    ·rw[thr _ (by omega) (by omega) (fun g hg=>by have:=(nu g hg).1;omega)]
     exact (g5.block _ (by simp;omega) (fun e=>by have:=(nb _ e.symm).1;omega)).trans ((b4.block _ (by omega)).trans hI'.rb)
    ·rw[dx]
     exact bZ o5 (fun g hg=>by
      have e:g=x5:=by simpa [Value.ownBlock] using hg.symm
      subst e
      exact thr g l5 (by omega) xu)
    ·rw[dx]
     exact bZ o8 (fun g hg=>by
      have e:g=x8:=by simpa [Value.ownBlock] using hg.symm
      subst e
      exact o9.block g (o8.lt g rfl).2 (by simp;omega))
    ·intro g hg hg'
     cases hg
     have e8:x8=x5:=by simpa [Value.ownBlock] using hg'
     rcases s8 with h | h
     ·have h2:some x8=_:=h
      exact xu x8 h2.symm e8.symm
     ·have h2:some x8=some _:=h
      simp only[Option.some.injEq]at h2
      omega
   have HS:Hid (_):=key.out.1
   have f0:=ae w8 _ 0 _ _ _ key.out.2
   have f1:=ae w8 _ 1 _ _ _ key.out.2
   have fz:=fun k=>frozen_of_row w8 _ k _ _ key.out.2
   clear key o8 g8 s8 HH u7 hcl7 hbs7 HI
   go_wp2_with fail
   go_roundw
   case rel=>exact⟨2,_,_,_,_,by omega,by go_num,HS⟩
   case measure=>simp[jt]
  ·have x0:=ae wr _ 0 _ _ _ HI.out.xb
   have x1:=ae wr _ 1 _ _ _ HI.out.xb
   have x2:=ae wr _ 2 _ _ _ HI.out.xb
   have y0:=ae wr _ 0 _ _ _ HI.out.rb
   have y1:=ae wr _ 1 _ _ _ HI.out.rb
   have y2:=ae wr _ 2 _ _ _ HI.out.rb
   have yz:=fun k=>frozen_of_row wr _ k _ _ HI.out.rb
   go_wp2_with fail
   refine bodyPost_ret (v:=.agg #[.slice va 2 vc,.slice ua 2 uc,.int .u32 50]) (by simp[results,results22,go_sem,y0,y1,y2]) rfl ?_
   have o:Off [w.heap.size] wr (((wr.setCell ⟨w.heap.size,0,none⟩ (.slice va 2 vc)).setCell ⟨w.heap.size,1,none⟩ (.slice ua 2 uc)).setCell ⟨w.heap.size,2,none⟩ (.int .u32 50)):=((Off.setCell _ _ _ _).trans (Off.setCell _ _ _ _)).trans (Off.setCell _ _ _ _)
   have hI:=HI.out
   exact⟨va,vc,ua,uc,rfl,(bZ hI.ov (fun g hg=>o.block g (hI.ov.lt g hg).2 (by have:=(hI.ov.lt g hg).1;simp;omega))),(bZ hI.ou (fun g hg=>o.block g (hI.ou.lt g hg).2 (by have:=(hI.ou.lt g hg).1;simp;omega))),hI.dis,o.below hI.bel (fun k hk=>by simp at hk;omega) hI.bel.size⟩
theorem ab8 (w:World):Calls prog 8 #[.int .i64 1,.int .u32 9] w fun r w'=>∃ g0 c0 g1 c1,r=.returned (.agg #[.slice (af g0 0) 2 c0,.slice (af g1 0) 2 c1,.int .u32 50])∧Hid (2≤c0∧2≤c1∧PqRow w' (af g0 0) 2 j6∧PqRow w' (af g1 0) 2 j6∧Below w.heap.size w w'):=by
 have hP:=fun wx=>yX wx
 have kx:=aB w (.cells #[.slice none 0 0,.slice none 0 0,.int .u32 0] 30)
 have bx:=aF (Below.refl _ w) (.cells #[.slice none 0 0,.slice none 0 0,.int .u32 0] 30)
 have zx:=io w (.cells #[.slice none 0 0,.slice none 0 0,.int .u32 0] 30)
 go_enter func8,ntmps8
 go_wp2_with fail
 refine (hP _).mono ?_
 rintro r w1 ⟨a0,c0,a1,c1,rfl,H1⟩
 obtain⟨g0,rfl,hg0⟩:=jv H1.out.1 (by decide)
 obtain⟨g1,rfl,hg1⟩:=jv H1.out.2.1 (by decide)
 clear hP
 have b1:=H1.out.2.2.2
 have kx1:=(b1.block w.heap.size (by rw[zx];omega)).trans kx
 have b2:Below w1.heap.size w1 (w1.alloc (.cells #[.slice (af g0 0) 2 c0,.slice (af g1 0) 2 c1,.int .u32 50] 30)):=aF (Below.refl _ _) _
 have ky:=aB w1 (.cells #[.slice (af g0 0) 2 c0,.slice (af g1 0) 2 c1,.int .u32 50] 30)
 have lx1:w.heap.size<w1.heap.size:=(Array.getElem?_eq_some_iff.1 kx1).1
 have kx2:=(b2.block w.heap.size lx1).trans kx1
 have o0:=cW H1.out.1 b2
 have o1:=cW H1.out.2.1 b2
 have hg01:g0≠g1:=fun e=>H1.out.2.2.1 g0 rfl (by rw[e];rfl)
 obtain⟨w2,hw2⟩:∃ z,(w1.alloc (.cells #[.slice (af g0 0) 2 c0,.slice (af g1 0) 2 c1,.int .u32 50] 30))=z:=⟨_,rfl⟩
 rw[hw2]at ky kx2 o0 o1 b2
 obtain⟨cur0,k0⟩:=aT o0 rfl
 obtain⟨cur1,k1⟩:=aT o1 rfl
 have own_at0:∀ j u,(fW 2 j6)[j]?=some u→cur0[j]?=some u:=fun j u hu=>(ae w2 g0 j _ _ _ k0).symm.trans (ju o0 j u hu)
 have own_at1:∀ j u,(fW 2 j6)[j]?=some u→cur1[j]?=some u:=fun j u hu=>(ae w2 g1 j _ _ _ k1).symm.trans (ju o1 j u hu)
 have s00:w2.setCell ⟨g0,4,none⟩ (.int .u32 9)=w2:=bP k0 (own_at0 (4) _ rfl)
 have e00:w2.cell? ⟨g0,4,none⟩=some (.int .u32 9):=(ae w2 g0 4 _ _ _ k0).trans (own_at0 (4) _ rfl)
 have z00:w2.frozen? ⟨g0,4,none⟩=false:=frozen_of_row w2 g0 4 _ _ k0
 have s01:w2.setCell ⟨g0,9,none⟩ (.int .u32 9)=w2:=bP k0 (own_at0 (9) _ rfl)
 have e01:w2.cell? ⟨g0,9,none⟩=some (.int .u32 9):=(ae w2 g0 9 _ _ _ k0).trans (own_at0 (9) _ rfl)
 have z01:w2.frozen? ⟨g0,9,none⟩=false:=frozen_of_row w2 g0 9 _ _ k0
 have s10:w2.setCell ⟨g1,4,none⟩ (.int .u32 9)=w2:=bP k1 (own_at1 (4) _ rfl)
 have e10:w2.cell? ⟨g1,4,none⟩=some (.int .u32 9):=(ae w2 g1 4 _ _ _ k1).trans (own_at1 (4) _ rfl)
 have z10:w2.frozen? ⟨g1,4,none⟩=false:=frozen_of_row w2 g1 4 _ _ k1
 have s11:w2.setCell ⟨g1,9,none⟩ (.int .u32 9)=w2:=bP k1 (own_at1 (9) _ rfl)
 have e11:w2.cell? ⟨g1,9,none⟩=some (.int .u32 9):=(ae w2 g1 9 _ _ _ k1).trans (own_at1 (9) _ rfl)
 have z11:w2.frozen? ⟨g1,9,none⟩=false:=frozen_of_row w2 g1 9 _ _ k1
 have y0:=ae w2 _ 0 _ _ _ ky
 have y1:=ae w2 _ 1 _ _ _ ky
 have y2:=ae w2 _ 2 _ _ _ ky
 have x0:=ae w2 _ 0 _ _ _ kx2
 have x1:=ae w2 _ 1 _ _ _ kx2
 have x2:=ae w2 _ 2 _ _ _ kx2
 have xz:=fun k=>frozen_of_row w2 _ k _ _ kx2
 have HF:Hid (_):=And.intro o0 (And.intro o1 (And.intro b2 (And.intro b1 (And.intro hg0 hg1))))
 have HE:Hid ((w1.alloc (.cells #[.slice (af g0 0) 2 c0,.slice (af g1 0) 2 c1,.int .u32 50] 30))=w2):=hw2
 have HX:Hid (_):=And.intro bx zx
 clear ky kx2 o0 o1 b2 b1 k0 k1 own_at0 own_at1 kx kx1 hw2 H1 bx
 go_upto_region 2 with fail
 rw[HE.out]
 go_wp2_with fail
 refine wp_loop_rounds 3 ?_
 rw[rounds_succ]
 go_wp2_with fail
 rw[rounds_succ]
 go_wp2_with fail
 rw[rounds_succ]
 go_wp2_with fail
 refine bodyPost_ret (v:=.agg #[.slice (af g0 0) 2 c0,.slice (af g1 0) 2 c1,.int .u32 50]) (by simp[results,results8,go_sem,x0,x1,x2]) rfl ?_
 have o:Off [w.heap.size] w2 (((w2.setCell ⟨w.heap.size,0,none⟩ (.slice (af g0 0) 2 c0)).setCell ⟨w.heap.size,1,none⟩ (.slice (af g1 0) 2 c1)).setCell ⟨w.heap.size,2,none⟩ (.int .u32 50)):=((Off.setCell _ _ _ _).trans (Off.setCell _ _ _ _)).trans (Off.setCell _ _ _ _)
 obtain⟨o0,o1,b2,b1,hg0,hg1⟩:=HF.out
 obtain⟨bx,zx⟩:=HX.out
 have bz:Below w.heap.size w w2:=(bx.trans (b1.mono bx.size)).trans (b2.mono (Nat.le_trans bx.size b1.size))
 exact⟨g0,c0,g1,c1,rfl,pS o0 (by decide),pS o1 (by decide),PqRow.ofOwn (bZ o0 (fun g hg=>o.block g (o0.lt g hg).2 (by have:=(o0.lt g hg).1;rw[zx]at this;simp;omega))),PqRow.ofOwn (bZ o1 (fun g hg=>o.block g (o1.lt g hg).2 (by have:=(o1.lt g hg).1;rw[zx]at this;simp;omega))),o.below bz (fun k hk=>by simp at hk;omega) bz.size⟩
section
variable {P:Pm}
end
end Go.Proofs.YtenilkloffnjlaaGreat
namespace Go.Proofs.YtenilkloffnjlaaGreat
open Tryz
open Go.RowKit Go.Maps
set_option linter.unusedVariables false
theorem at9 {A:Array Value} {n:Nat} {v0 v1 v2 v3 v4 v5 v6 v7 v8:Value} (h0:A.toList[n+0]?=some v0) (h1:A.toList[n+1]?=some v1) (h2:A.toList[n+2]?=some v2) (h3:A.toList[n+3]?=some v3) (h4:A.toList[n+4]?=some v4) (h5:A.toList[n+5]?=some v5) (h6:A.toList[n+6]?=some v6) (h7:A.toList[n+7]?=some v7) (h8:A.toList[n+8]?=some v8):∀ j v,(#[v0,v1,v2,v3,v4,v5,v6,v7,v8]:Array Value).toList[j]?=some v→A.toList[n+j]?=some v:=fun j v hv=>by
 have hj:j<9:=(List.getElem?_eq_some_iff.1 hv).1
 have:j=0∨j=1∨j=2∨j=3∨j=4∨j=5∨j=6∨j=7∨j=8:=by omega
 rcases this with rfl | rfl | rfl | rfl | rfl | rfl | rfl | rfl | rfl
 ·exact h0.trans hv
 ·exact h1.trans hv
 ·exact h2.trans hv
 ·exact h3.trans hv
 ·exact h4.trans hv
 ·exact h5.trans hv
 ·exact h6.trans hv
 ·exact h7.trans hv
 ·exact h8.trans hv
theorem sJ:∀ k,k<2→Pok (rE k):=fun k hk=>by
 have:k=0∨k=1:=by omega
 rcases this with rfl | rfl <;> exact⟨by unfold tW rE;decide,by decide,by decide⟩
theorem yT:ckE 2 2 50 (fun i=>(rE i).q) (fun i=>(rE i).q)=0:=by decide
theorem mz (w:World) (o:Array Value) (wx:World) (hb:Below (w.alloc (.cells o 39)).heap.size (w.alloc (.cells o 39)) wx) (i:Nat):wx.cell? ⟨w.heap.size,i,none⟩=o[i]?:=by
 rw[hb.cell (p:=⟨w.heap.size,i,none⟩) (by simp)]
 exact ae _ _ _ _ _ _ (aB _ _)
theorem kV (w:World) (o:Array Value) (i:Nat) (wx:World) (hb:Below (w.alloc (.cells o 39)).heap.size (w.alloc (.cells o 39)) wx):wx.frozen? ⟨w.heap.size,i,none⟩=false:=by
 rw[hb.frozen (p:=⟨w.heap.size,i,none⟩) (by simp)]
 simp
theorem aa1 (m:Mv) (d:Option Addr) (e:Nat) (w:World) (hr:Row8 w d m.l e m.b) (hlen:m.l≤140737488351232):Calls prog 10 #[.agg (aj m m.c d e)] w fun r w'=>∃ a' c',r=.returned (.agg (aj m m.c a' c'))∧Hid (Row8 w' a' m.l c' m.b∧Below w.heap.size w w'∧∀ y,a'=some y→0<m.l→w.heap.size≤y.block):=by
 obtain⟨i0,hi,hz0,hz1,hz2⟩:=info_parts cq
 have hbd:=ya
 have hX:=fun wx hb=>mz w (aj m m.c d e) wx hb
 have hXf:=fun i wx hb=>kV w (aj m m.c d e) i wx hb
 obtain⟨wa,hwa⟩:∃ x,x=w.alloc (.cells (aj m m.c d e) 39):=⟨_,rfl⟩
 rw[← hwa]at hX hXf
 have hA:Below w.heap.size w wa:=by rw[hwa];exact (Below.refl _ _).alloc (Nat.le_refl _) _
 have hAs:wa.heap.size=w.heap.size+1:=by rw[hwa];simp
 have hY:=fun wx hb=>mz wa #[.int .i64 0,.int .i64 0,.int .i64 0,.int .i64 0,.int .i64 0,.int .u32 0,.int .i64 0,.bool false,.slice none 0 0] wx hb
 have hYf:=fun i wx hb=>kV wa #[.int .i64 0,.int .i64 0,.int .i64 0,.int .i64 0,.int .i64 0,.int .u32 0,.int .i64 0,.bool false,.slice none 0 0] i wx hb
 obtain⟨wb,hwb⟩:∃ x,x=wa.alloc (.cells #[.int .i64 0,.int .i64 0,.int .i64 0,.int .i64 0,.int .i64 0,.int .u32 0,.int .i64 0,.bool false,.slice none 0 0] 39):=⟨_,rfl⟩
 rw[← hwb]at hY hYf
 have hB:Below wa.heap.size wa wb:=by rw[hwb];exact (Below.refl _ _).alloc (Nat.le_refl _) _
 have hBs:wb.heap.size=w.heap.size+1+1:=by rw[hwb,hwa];simp
 have hC:Below wb.heap.size wb (wb.alloc (.cells #[] 5)):=(Below.refl _ _).alloc (Nat.le_refl _) _
 have O0:(wb.alloc (.cells #[] 5)).ownsRow wb.heap.size 5 1 (.slice (af wb.heap.size 0) 0 0) 0 (CB m.b 0):=World.ownsRow_made wb #[] 0 (Nat.le_refl _) (Nat.zero_le _) rfl
 have hszC:=hC.size
 have R0:=((hr.below hA).below hB).below hC
 rw[hAs]at hY hYf
 go_enter func10,ntmps10
 go_upto_region 1 with fail
 try rw[← hwa]
 try rw[← hwb]
 have H0:Hid (_):=And.intro hwa (And.intro hwb (And.intro hAs hBs))
 clear hwa hwb
 have x8:(wb.alloc (.cells #[] 5)).cell? ⟨w.heap.size,8,none⟩=some (.slice d m.l e):=hX (wb.alloc (.cells #[] 5)) (hB.trans (hC.mono (by omega))) 8
 clear hAs hBs
 go_wp2_with (at_builtin;refine aP rfl (.tmp 3) (.tmp 5) 37 rfl wb.heap.size 5 i0 (.int .u8 0) underlying37 hi hz0 hz1 hz2 rfl _ 0 _ rfl O0 d m.l e m.b rfl R0 (by unfold maxLen;omega) (by omega) hszC ?_)
 intro v2 w2 hown2 hgrow2
 have hbel2:Below wb.heap.size wb w2:=hC.grown hgrow2 hszC (fun j hj=>(O0.lt j hj).1)
 rw[show CB m.b 0=[] from rfl,List.nil_append]at hown2
 have hlt:w.heap.size<wb.heap.size∧w.heap.size+1<wb.heap.size:=by have:=H0.out;omega
 have hbelA:Below wa.heap.size wa w2:=hB.trans (hbel2.mono (by have:=H0.out;omega))
 have x0:w2.cell? ⟨w.heap.size,0,none⟩=some ((.int .i64 m.k)):=hX w2 hbelA 0
 have x1:w2.cell? ⟨w.heap.size,1,none⟩=some ((.int .i64 m.c)):=hX w2 hbelA 1
 have x2:w2.cell? ⟨w.heap.size,2,none⟩=some ((.int .i64 m.s)):=hX w2 hbelA 2
 have x3:w2.cell? ⟨w.heap.size,3,none⟩=some ((.int .i64 m.f)):=hX w2 hbelA 3
 have x4:w2.cell? ⟨w.heap.size,4,none⟩=some ((.int .i64 m.a)):=hX w2 hbelA 4
 have x5:w2.cell? ⟨w.heap.size,5,none⟩=some ((.int .u32 (m.w:Nat))):=hX w2 hbelA 5
 have x6:w2.cell? ⟨w.heap.size,6,none⟩=some ((.int .i64 m.n)):=hX w2 hbelA 6
 have x7:w2.cell? ⟨w.heap.size,7,none⟩=some ((.bool m.h)):=hX w2 hbelA 7
 have x8:w2.cell? ⟨w.heap.size,8,none⟩=some ((.slice d m.l e)):=hX w2 hbelA 8
 have y0:w2.cell? ⟨w.heap.size+1,0,none⟩=some (.int .i64 0):=hY w2 hbel2 0
 have y1:w2.cell? ⟨w.heap.size+1,1,none⟩=some (.int .i64 0):=hY w2 hbel2 1
 have y2:w2.cell? ⟨w.heap.size+1,2,none⟩=some (.int .i64 0):=hY w2 hbel2 2
 have y3:w2.cell? ⟨w.heap.size+1,3,none⟩=some (.int .i64 0):=hY w2 hbel2 3
 have y4:w2.cell? ⟨w.heap.size+1,4,none⟩=some (.int .i64 0):=hY w2 hbel2 4
 have y5:w2.cell? ⟨w.heap.size+1,5,none⟩=some (.int .u32 0):=hY w2 hbel2 5
 have y6:w2.cell? ⟨w.heap.size+1,6,none⟩=some (.int .i64 0):=hY w2 hbel2 6
 have y7:w2.cell? ⟨w.heap.size+1,7,none⟩=some (.bool false):=hY w2 hbel2 7
 have y8:w2.cell? ⟨w.heap.size+1,8,none⟩=some (.slice none 0 0):=hY w2 hbel2 8
 have xf:=fun i=>hXf i w2 hbelA
 have yf:=fun i=>hYf i w2 hbel2
 obtain⟨a2,c2,rfl,R2⟩:=aY hown2 hr.byte
 have HR:Hid (w2.ownsRow wb.heap.size 5 1 (.slice a2 m.l c2) m.l (CB m.b m.l)∧Below wb.heap.size wb w2):=⟨hown2,hbel2⟩
 clear hgrow2 O0 R0 hC hszC hX hY hXf hYf hown2 R2 hbel2 hbelA hbd
 go_wp2_with fail
 refine bodyPost_ret (v:=.agg (aj m m.c a2 c2)) (by simp[results,results10,go_sem,y0,y1,y2,y3,y4,y5,y6,y7,y8]) rfl ⟨a2,c2,rfl,?_,?_,?_⟩
 ·obtain⟨a3,c3,e,R3⟩:=aY (ownsRow_setCell_below (ownsRow_setCell_below (ownsRow_setCell_below (ownsRow_setCell_below (ownsRow_setCell_below (ownsRow_setCell_below (ownsRow_setCell_below (ownsRow_setCell_below (ownsRow_setCell_below (ownsRow_setCell_below HR.out.1 (a:=⟨w.heap.size,8,none⟩) hlt.1 _) (a:=⟨w.heap.size+1,0,none⟩) hlt.2 _) (a:=⟨w.heap.size+1,1,none⟩) hlt.2 _) (a:=⟨w.heap.size+1,2,none⟩) hlt.2 _) (a:=⟨w.heap.size+1,3,none⟩) hlt.2 _) (a:=⟨w.heap.size+1,4,none⟩) hlt.2 _) (a:=⟨w.heap.size+1,5,none⟩) hlt.2 _) (a:=⟨w.heap.size+1,6,none⟩) hlt.2 _) (a:=⟨w.heap.size+1,7,none⟩) hlt.2 _) (a:=⟨w.heap.size+1,8,none⟩) hlt.2 _) hr.byte
  simp only[Value.slice.injEq,true_and]at e
  obtain⟨rfl,rfl⟩:=e
  exact R3
 ·have hb:Below w.heap.size w w2:=(hA.trans (hB.mono (by have:=H0.out;omega))).trans (HR.out.2.mono (by omega))
  exact ((((((((((hb.setCell (p:=⟨w.heap.size,8,none⟩) (Nat.le_refl _) _).setCell (p:=⟨w.heap.size+1,0,none⟩) (Nat.le_succ _) _).setCell (p:=⟨w.heap.size+1,1,none⟩) (Nat.le_succ _) _).setCell (p:=⟨w.heap.size+1,2,none⟩) (Nat.le_succ _) _).setCell (p:=⟨w.heap.size+1,3,none⟩) (Nat.le_succ _) _).setCell (p:=⟨w.heap.size+1,4,none⟩) (Nat.le_succ _) _).setCell (p:=⟨w.heap.size+1,5,none⟩) (Nat.le_succ _) _).setCell (p:=⟨w.heap.size+1,6,none⟩) (Nat.le_succ _) _).setCell (p:=⟨w.heap.size+1,7,none⟩) (Nat.le_succ _) _).setCell (p:=⟨w.heap.size+1,8,none⟩) (Nat.le_succ _) _)
 ·intro y hy hn
  rcases HR.out.1.2 with ⟨e,_⟩ | ⟨g,cap,cur,e,hg,_⟩
  ·simp only[Value.slice.injEq]at e
   rw[e.1]at hy
   cases hy
  ·simp only[Value.slice.injEq]at e
   rw[e.1]at hy
   cases hy
   have:=hlt.1
   show w.heap.size≤g
   omega
end Go.Proofs.YtenilkloffnjlaaGreat
