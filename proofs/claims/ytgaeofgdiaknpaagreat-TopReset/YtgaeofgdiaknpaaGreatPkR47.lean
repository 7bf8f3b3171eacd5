/- Part 48: contracts that the proof rests on. -/
import Derived.Test.YtgaeofgdiaknpaaGreatPkR46
set_option maxHeartbeats 64000000
namespace Go.Proofs.YtgaeofgdiaknpaaGreat
set_option maxRecDepth 100000
open Go.RowKit Go.Maps Go.Sort
set_option linter.unusedVariables false
def pgM (i:Nat):Pm:=⟨7+i,2,1,10+i,9⟩
def pgP (i:Nat):Pq:=(pgM i).q
theorem own_capP {w:World} {B e sz n c:Nat} {a:Option Addr} {xs:List Value} (h:w.ownsRow B e sz (.slice a n c) n xs) (h0:n≠0):n≤c:=by
 rcases h.2 with ⟨_,hn⟩ | ⟨g,cap,cur,e1,hg,hgg,h1,rest⟩
 ·exact absurd hn h0
 ·simp only[Value.slice.injEq]at e1
  obtain⟨_,_,rfl⟩:=e1
  exact h1
theorem csQ_one (p:Pq):∀ u ∈ p.cs,u.oneCell'=true:=by
 intro u hu
 simp[Pq.cs]at hu
 rcases hu with rfl | rfl | rfl | rfl | rfl <;> rfl
theorem pq_cells {W:World} {g:Nat} {p:Pq} (h:W.heap[g]?=some (.cells p.cs.toArray 50 (0,0))):∀ j u,p.cs[j]?=some u→W.cell? ((⟨g,0,none⟩:Addr).add j)=some u:=fun j u hu=>by
 have e:(Addr.add ⟨g,0,none⟩ j)=⟨g,j,none⟩:=by unfold Addr.add;simp;omega
 rw[e,cell_of_row W g j _ _ _ h]
 simpa using hu
theorem own_slcP {w:World} {B e size n:Nat} {v:Value} {xs:List Value} (h:w.ownsRow B e size v (n+1) xs):∃ g cap,v=.slice (some ⟨g,0,none⟩) (n+1) cap∧B≤g:=by
 rcases h.2 with ⟨_,hn⟩ | ⟨g,cap,cur,rfl,hg,hgg,rest⟩
 ·omega
 ·exact⟨g,cap,rfl,hg⟩
theorem own_belowP {w w':World} {B e sz n:Nat} {v:Value} {xs:List Value} (h:w.ownsRow B e sz v n xs) (b:Below w.heap.size w w'):w'.ownsRow B e sz v n xs:=by
 refine⟨h.1,?_⟩
 rcases h.2 with hn | ⟨g,cap,cur,rfl,hg,hgg,rest⟩
 ·exact .inl hn
 ·exact .inr ⟨g,cap,cur,rfl,hg,(b.block g (Array.getElem?_eq_some_iff.1 hgg).1).trans hgg,rest⟩
theorem own_keepP {w w':World} {B e s n:Nat} {v:Value} {xs:List Value} (h:w.ownsRow B e s v n xs) (hk:∀ g,v.ownBlock=some g→w'.heap[g]?=w.heap[g]?):w'.ownsRow B e s v n xs:=by
 obtain⟨h0,h1 | ⟨g,cap,cur,rfl,hg,hgg,rest⟩⟩:=h
 ·exact⟨h0,.inl h1⟩
 ·exact⟨h0,.inr ⟨g,cap,cur,rfl,hg,(hk g rfl).trans hgg,rest⟩⟩
structure Sp (w wr:World) (i:Nat) (va:Option Addr) (vc:Nat) (ua:Option Addr) (uc:Nat):Prop where
 bel:Below w.heap.size w wr
 rb:wr.heap[w.heap.size]?=some (.cells #[.slice none 0 0,.slice none 0 0,.int .u32 0] 26 (0,0))
 xb:wr.heap[w.heap.size+1]?=some (.cells #[.slice va i vc,.slice ua i uc,.int .u32 50] 26 (0,0))
 ov:wr.ownsRow (w.heap.size+2) 50 5 (.slice va i vc) i (flQ i pgP)
 ou:wr.ownsRow (w.heap.size+2) 50 5 (.slice ua i uc) i (flQ i pgP)
 dis:∀ g,(Value.slice va i vc).ownBlock=some g→(Value.slice ua i uc).ownBlock≠some g
theorem setCell_self {w:World} {b o:Nat} {cs:Array Value} {T:TypeId} {z:Nat × Nat} {v:Value} (h:w.heap[b]?=some (.cells cs T z)) (hv:cs[o]?=some v):w.setCell ⟨b,o,none⟩ v=w:=by
 have e:cs.setIfInBounds o v=cs:=by
  apply Array.ext
  ·simp
  ·intro i h1 h2
   rw[Array.getElem_setIfInBounds]
   split
   ·next q=>
    subst q
    rw[Array.getElem?_eq_getElem h2]at hv
    exact (Option.some.inj hv).symm
   ·rfl
 have hm:w.heap.modify b (fun x=>match x with
   | .cells c elem frozen=>.cells (if (⟨b,o,none⟩:Addr).spot.isSome then c else c.setIfInBounds o v) elem frozen
   | x=>x)=w.heap:=by
  apply Array.ext
  ·simp
  ·intro i h1 h2
   rw[Array.getElem_modify]
   split
   ·next q=>
    subst q
    have:w.heap[b]=.cells cs T z:=by
     rw[Array.getElem?_eq_getElem h2]at h
     exact Option.some.inj h
    rw[this]
    simp[e]
   ·rfl
 unfold World.setCell
 exact congrArg (fun x=>({ w with heap:=x }:World)) hm
theorem results_cell2 {fn:Func} {t u:Tmp} {ty:TypeId} {b o b' o':Nat} {v v':Value} (h:fn.results=#[.cell t ty,.cell u ty]) (tmps:Array Value) (P:Program) (w:World) (ht:tmps.getD t undef=.pointer (some ⟨b,o,none⟩)) (hu:tmps.getD u undef=.pointer (some ⟨b',o',none⟩)) (hl:(loadVar ty ⟨b,o,none⟩).run P w=.ok v w) (hl':(loadVar ty ⟨b',o',none⟩).run P w=.ok v' w):(results fn tmps).run P w=.ok (.tuple #[v,v']) w:=by
 rw[Array.getD_eq_getD_getElem?]at ht hu
 simp[results,h,ht,hu,asAddr,hl,hl']
theorem wends (X k hn dn:Nat) (h0 h1 h2 h3 h4 h5 d0 d1 d2 d3 d4 d5:Int) (hq ho dq dO:Bool) (bh bd:Nat→Nat) (w:World) (hH:∀ w1,Below w.heap.size w w1→Calls Tryz.prog 30 #[.pointer (some ⟨X,0,none⟩),.int .i64 (k:Nat),.int .i64 1] w1 fun r w'=>∃ a ca,r=.returned (.tuple #[.agg #[.int .i64 h0,.int .u32 h1,.int .u32 h2,.int .u32 h3,.int .i64 h4,.int .i64 h5,.bool hq,.bool ho,.slice a hn ca],.int .i64 0])∧Hid (Below w1.heap.size w1 w'∧Row8 w' a hn ca bh∧∀ y,a=some y→0<hn→w1.heap.size≤y.block)) (hD:∀ w1,Below w.heap.size w w1→Calls Tryz.prog 30 #[.pointer (some ⟨X,0,none⟩),.int .i64 (k:Nat),.int .i64 2] w1 fun r w'=>∃ b cb,r=.returned (.tuple #[.agg #[.int .i64 d0,.int .u32 d1,.int .u32 d2,.int .u32 d3,.int .i64 d4,.int .i64 d5,.bool dq,.bool dO,.slice b dn cb],.int .i64 0])∧Hid (Below w1.heap.size w1 w'∧Row8 w' b dn cb bd∧∀ y,b=some y→0<dn→w1.heap.size≤y.block)):Calls Tryz.prog 13 #[.pointer (some ⟨X,0,none⟩),.int .i64 (k:Nat)] w fun r w'=>∃ a ca b cb,r=.returned (.tuple #[.agg #[.int .i64 h0,.int .u32 h1,.int .u32 h2,.int .u32 h3,.int .i64 h4,.int .i64 h5,.bool hq,.bool ho,.slice a hn ca],.agg #[.int .i64 d0,.int .u32 d1,.int .u32 d2,.int .u32 d3,.int .i64 d4,.int .i64 d5,.bool dq,.bool dO,.slice b dn cb]])∧Hid (Row8 w' a hn ca bh∧Row8 w' b dn cb bd∧Below w.heap.size w w'):=by
 have s1:=sz1 w (.cells #[.int .i64 0,.int .u32 0,.int .u32 0,.int .u32 0,.int .i64 0,.int .i64 0,.bool false,.bool false,.slice none 0 0] 42)
 have bW:Below w.heap.size w ((w.alloc (.cells #[.int .i64 0,.int .u32 0,.int .u32 0,.int .u32 0,.int .i64 0,.int .i64 0,.bool false,.bool false,.slice none 0 0] 42)).alloc (.cells #[.int .i64 0,.int .u32 0,.int .u32 0,.int .u32 0,.int .i64 0,.int .i64 0,.bool false,.bool false,.slice none 0 0] 42)):=belY (belY (Below.refl _ w) _) _
 have kp:((w.alloc (.cells #[.int .i64 0,.int .u32 0,.int .u32 0,.int .u32 0,.int .i64 0,.int .i64 0,.bool false,.bool false,.slice none 0 0] 42)).alloc (.cells #[.int .i64 0,.int .u32 0,.int .u32 0,.int .u32 0,.int .i64 0,.int .i64 0,.bool false,.bool false,.slice none 0 0] 42)).heap[w.heap.size]?=some (.cells #[.int .i64 0,.int .u32 0,.int .u32 0,.int .u32 0,.int .i64 0,.int .i64 0,.bool false,.bool false,.slice none 0 0] 42 (0,0)):=(Below.heap_alloc _ _ _ (by omega)).trans (heap_alloc_new w _)
 have kq:=heap_alloc_new (w.alloc (.cells #[.int .i64 0,.int .u32 0,.int .u32 0,.int .u32 0,.int .i64 0,.int .i64 0,.bool false,.bool false,.slice none 0 0] 42)) (.cells #[.int .i64 0,.int .u32 0,.int .u32 0,.int .u32 0,.int .i64 0,.int .i64 0,.bool false,.bool false,.slice none 0 0] 42)
 rw[s1]at kq
 obtain⟨W,hW⟩:∃ z,((w.alloc (.cells #[.int .i64 0,.int .u32 0,.int .u32 0,.int .u32 0,.int .i64 0,.int .i64 0,.bool false,.bool false,.slice none 0 0] 42)).alloc (.cells #[.int .i64 0,.int .u32 0,.int .u32 0,.int .u32 0,.int .i64 0,.int .i64 0,.bool false,.bool false,.slice none 0 0] 42))=z:=⟨_,rfl⟩
 rw[hW]at bW kp kq
 obtain⟨x,hx⟩:∃ z,w.heap.size=z:=⟨_,rfl⟩
 have HB:Hid (Below w.heap.size w W):=bW
 have HK:Hid (W.heap[x]?=some (.cells #[.int .i64 0,.int .u32 0,.int .u32 0,.int .u32 0,.int .i64 0,.int .i64 0,.bool false,.bool false,.slice none 0 0] 42 (0,0))∧W.heap[x+1]?=some (.cells #[.int .i64 0,.int .u32 0,.int .u32 0,.int .u32 0,.int .i64 0,.int .i64 0,.bool false,.bool false,.slice none 0 0] 42 (0,0))):=by rw[hx]at kp kq;exact⟨kp,kq⟩
 have HE:Hid (_=W):=hW
 have HS:Hid (w.heap.size=x):=hx
 have hA:=hH W bW
 clear s1 bW kp kq hW hx
 go_enter Tryz.func13,Tryz.ntmps13
 go_upto_region 1 with fail
 rw[HE.out,HS.out]
 go_wp2_with fail
 refine hA.mono ?_
 rintro r w1 ⟨a,ca,rfl,H1⟩
 clear hA
 have b2:Below w1.heap.size w1 (w1.alloc (.cells #[.int .i64 h0,.int .u32 h1,.int .u32 h2,.int .u32 h3,.int .i64 h4,.int .i64 h5,.bool hq,.bool ho,.slice a hn ca] 42)):=belY (Below.refl _ _) _
 have k2:=heap_alloc_new w1 (.cells #[.int .i64 h0,.int .u32 h1,.int .u32 h2,.int .u32 h3,.int .i64 h4,.int .i64 h5,.bool hq,.bool ho,.slice a hn ca] 42)
 obtain⟨w2,hw2⟩:∃ z,w1.alloc (.cells #[.int .i64 h0,.int .u32 h1,.int .u32 h2,.int .u32 h3,.int .i64 h4,.int .i64 h5,.bool hq,.bool ho,.slice a hn ca] 42)=z:=⟨_,rfl⟩
 obtain⟨y,hy⟩:∃ z,w1.heap.size=z:=⟨_,rfl⟩
 rw[hw2]at b2 k2
 have HW2:Hid (Below W.heap.size W w2):=H1.out.1.trans (b2.mono H1.out.1.size)
 have HR1:Hid (_):=H1.out.2.1.below b2
 rw[hy]at k2
 have hB:=hD w2 (HB.out.trans (HW2.out.mono HB.out.size))
 have HE2:Hid (_=w2):=hw2
 have HY:Hid (w1.heap.size=y):=hy
 have HK2:Hid (w2.heap[y]?=some (.cells #[.int .i64 h0,.int .u32 h1,.int .u32 h2,.int .u32 h3,.int .i64 h4,.int .i64 h5,.bool hq,.bool ho,.slice a hn ca] 42 (0,0))):=k2
 have HxY:Hid (x+1<y):=by
  have l1:=(Array.getElem?_eq_some_iff.1 HK.out.2).1
  have l2:=H1.out.1.size
  show x+1<y
  omega
 clear b2 k2 hw2 hy
 go_upto_region 2 with fail
 rw[HE2.out,HY.out]
 go_wp2_with fail
 refine hB.mono ?_
 rintro r w3 ⟨b,cb,rfl,H3⟩
 clear hB
 have b4:Below w3.heap.size w3 (w3.alloc (.cells #[.int .i64 d0,.int .u32 d1,.int .u32 d2,.int .u32 d3,.int .i64 d4,.int .i64 d5,.bool dq,.bool dO,.slice b dn cb] 42)):=belY (Below.refl _ _) _
 have k4:=heap_alloc_new w3 (.cells #[.int .i64 d0,.int .u32 d1,.int .u32 d2,.int .u32 d3,.int .i64 d4,.int .i64 d5,.bool dq,.bool dO,.slice b dn cb] 42)
 obtain⟨w4,hw4⟩:∃ z,w3.alloc (.cells #[.int .i64 d0,.int .u32 d1,.int .u32 d2,.int .u32 d3,.int .i64 d4,.int .i64 d5,.bool dq,.bool dO,.slice b dn cb] 42)=z:=⟨_,rfl⟩
 obtain⟨z,hz⟩:∃ q,w3.heap.size=q:=⟨_,rfl⟩
 rw[hw4]at b4 k4
 have b24:Below w2.heap.size w2 w4:=H3.out.1.trans (b4.mono H3.out.1.size)
 have ly:=(Array.getElem?_eq_some_iff.1 HK2.out).1
 have lz:y<z:=by have:=H3.out.1.size;omega
 rw[hz]at k4
 have ky4:=(b24.block y ly).trans HK2.out
 have hS:∀ w',Off [x,x+1] w4 w'→w'.cell? ⟨y,0,none⟩=some (Value.int .i64 h0)∧w'.cell? ⟨y,1,none⟩=some (Value.int .u32 h1)∧w'.cell? ⟨y,2,none⟩=some (Value.int .u32 h2)∧w'.cell? ⟨y,3,none⟩=some (Value.int .u32 h3)∧w'.cell? ⟨y,4,none⟩=some (Value.int .i64 h4)∧w'.cell? ⟨y,5,none⟩=some (Value.int .i64 h5)∧w'.cell? ⟨y,6,none⟩=some (Value.bool hq)∧w'.cell? ⟨y,7,none⟩=some (Value.bool ho)∧w'.cell? ⟨y,8,none⟩=some (Value.slice a hn ca)∧w'.cell? ⟨z,0,none⟩=some (Value.int .i64 d0)∧w'.cell? ⟨z,1,none⟩=some (Value.int .u32 d1)∧w'.cell? ⟨z,2,none⟩=some (Value.int .u32 d2)∧w'.cell? ⟨z,3,none⟩=some (Value.int .u32 d3)∧w'.cell? ⟨z,4,none⟩=some (Value.int .i64 d4)∧w'.cell? ⟨z,5,none⟩=some (Value.int .i64 d5)∧w'.cell? ⟨z,6,none⟩=some (Value.bool dq)∧w'.cell? ⟨z,7,none⟩=some (Value.bool dO)∧w'.cell? ⟨z,8,none⟩=some (Value.slice b dn cb):=fun w' o=>by
  have q1:=(o.block y (Nat.lt_of_lt_of_le ly b24.size) (by have:=HxY.out;simp;omega)).trans ky4
  have q2:=(o.block z (Array.getElem?_eq_some_iff.1 k4).1 (by have:=HxY.out;simp;omega)).trans k4
  exact⟨cell_of_row w' y 0 _ _ _ q1,cell_of_row w' y 1 _ _ _ q1,cell_of_row w' y 2 _ _ _ q1,cell_of_row w' y 3 _ _ _ q1,cell_of_row w' y 4 _ _ _ q1,cell_of_row w' y 5 _ _ _ q1,cell_of_row w' y 6 _ _ _ q1,cell_of_row w' y 7 _ _ _ q1,cell_of_row w' y 8 _ _ _ q1,cell_of_row w' z 0 _ _ _ q2,cell_of_row w' z 1 _ _ _ q2,cell_of_row w' z 2 _ _ _ q2,cell_of_row w' z 3 _ _ _ q2,cell_of_row w' z 4 _ _ _ q2,cell_of_row w' z 5 _ _ _ q2,cell_of_row w' z 6 _ _ _ q2,cell_of_row w' z 7 _ _ _ q2,cell_of_row w' z 8 _ _ _ q2⟩
 have W4:Below W.heap.size W w4:=HW2.out.trans (b24.mono HW2.out.size)
 have lw:=HK.out
 have kx:=(W4.block x (Array.getElem?_eq_some_iff.1 lw.1).1).trans lw.1
 have kx1:=(W4.block (x+1) (Array.getElem?_eq_some_iff.1 lw.2).1).trans lw.2
 have HSS:Hid (_):=hS
 have od0:Off [x,x+1] w4 w4.drew:=Off.of_below (Below.drew (Below.refl _ _))
 have HS0:=hS w4.drew od0
 have HR3:Hid (_):=And.intro (HR1.out.below b24) (And.intro (H3.out.2.1.below b4) W4)
 have HE4:Hid (_=w4):=hw4
 have HZ:Hid (w3.heap.size=z):=hz
 clear b4 k4 hw4 hz b24 ly lz ky4 hS W4 lw
 go_upto_region 3 with fail
 rw[HE4.out,HZ.out]
 refine wp_region_held_drew (S:=fun w'=>w'.cell? ⟨y,0,none⟩=some (Value.int .i64 h0)∧w'.cell? ⟨y,1,none⟩=some (Value.int .u32 h1)∧w'.cell? ⟨y,2,none⟩=some (Value.int .u32 h2)∧w'.cell? ⟨y,3,none⟩=some (Value.int .u32 h3)∧w'.cell? ⟨y,4,none⟩=some (Value.int .i64 h4)∧w'.cell? ⟨y,5,none⟩=some (Value.int .i64 h5)∧w'.cell? ⟨y,6,none⟩=some (Value.bool hq)∧w'.cell? ⟨y,7,none⟩=some (Value.bool ho)∧w'.cell? ⟨y,8,none⟩=some (Value.slice a hn ca)∧w'.cell? ⟨z,0,none⟩=some (Value.int .i64 d0)∧w'.cell? ⟨z,1,none⟩=some (Value.int .u32 d1)∧w'.cell? ⟨z,2,none⟩=some (Value.int .u32 d2)∧w'.cell? ⟨z,3,none⟩=some (Value.int .u32 d3)∧w'.cell? ⟨z,4,none⟩=some (Value.int .i64 d4)∧w'.cell? ⟨z,5,none⟩=some (Value.int .i64 d5)∧w'.cell? ⟨z,6,none⟩=some (Value.bool dq)∧w'.cell? ⟨z,7,none⟩=some (Value.bool dO)∧w'.cell? ⟨z,8,none⟩=some (Value.slice b dn cb)) (by kernel_rfl) HS0 (fun _=>?_)
 refine tkH (i:=0) (v:=Value.agg #[Value.int .i64 h0,Value.int .u32 h1,Value.int .u32 h2,Value.int .u32 h3,Value.int .i64 h4,Value.int .i64 h5,Value.bool hq,Value.bool ho,Value.slice a hn ca]) ?_
 refine tkH (i:=1) (v:=Value.agg #[Value.int .i64 d0,Value.int .u32 d1,Value.int .u32 d2,Value.int .u32 d3,Value.int .i64 d4,Value.int .i64 d5,Value.bool dq,Value.bool dO,Value.slice b dn cb]) ?_
 have kd:w4.drew.heap[x]?=some (.cells #[.int .i64 0,.int .u32 0,.int .u32 0,.int .u32 0,.int .i64 0,.int .i64 0,.bool false,.bool false,.slice none 0 0] 42 (0,0)):=kx
 have kd1:w4.drew.heap[x+1]?=some (.cells #[.int .i64 0,.int .u32 0,.int .u32 0,.int .u32 0,.int .i64 0,.int .i64 0,.bool false,.bool false,.slice none 0 0] 42 (0,0)):=kx1
 have h8:w4.drew.there x 0 9:=there_row kd rfl
 have o8:=off_setCells w4.drew x 0 #[Value.int .i64 h0,Value.int .u32 h1,Value.int .u32 h2,Value.int .u32 h3,Value.int .i64 h4,Value.int .i64 h5,Value.bool hq,Value.bool ho,Value.slice a hn ca].toList
 have r8:=World.rangeAt_setCells_same w4.drew x 0 #[Value.int .i64 h0,Value.int .u32 h1,Value.int .u32 h2,Value.int .u32 h3,Value.int .i64 h4,Value.int .i64 h5,Value.bool hq,Value.bool ho,Value.slice a hn ca].toList h8
 have oo8:Off [x,x+1] w4 (w4.drew.setCells x 0 #[Value.int .i64 h0,Value.int .u32 h1,Value.int .u32 h2,Value.int .u32 h3,Value.int .i64 h4,Value.int .i64 h5,Value.bool hq,Value.bool ho,Value.slice a hn ca].toList):=od0.trans (o8.more (by simp))
 refine held_storeA (i:=2) (by kernel_rfl) rfl (by kernel_rfl) 42 (.tmp 4) (.tmp 22) rfl x 0 #[Value.int .i64 h0,Value.int .u32 h1,Value.int .u32 h2,Value.int .u32 h3,Value.int .i64 h4,Value.int .i64 h5,Value.bool hq,Value.bool ho,Value.slice a hn ca] (by kernel_rfl) (by kernel_rfl) h8 (by kernel_rfl) (by kernel_rfl) (HSS.out _ oo8) ?_
 obtain⟨w5,hw5⟩:∃ q,w4.drew.setCells x 0 #[Value.int .i64 h0,Value.int .u32 h1,Value.int .u32 h2,Value.int .u32 h3,Value.int .i64 h4,Value.int .i64 h5,Value.bool hq,Value.bool ho,Value.slice a hn ca].toList=q:=⟨_,rfl⟩
 rw[hw5]at r8 o8 oo8 ⊢
 have k5:w5.heap[x+1]?=some (.cells #[.int .i64 0,.int .u32 0,.int .u32 0,.int .u32 0,.int .i64 0,.int .i64 0,.bool false,.bool false,.slice none 0 0] 42 (0,0)):=(o8.block (x+1) (Array.getElem?_eq_some_iff.1 kd1).1 (by simp)).trans kd1
 have h9:w5.there (x+1) 0 9:=there_row k5 rfl
 have o9:=off_setCells w5 (x+1) 0 #[Value.int .i64 d0,Value.int .u32 d1,Value.int .u32 d2,Value.int .u32 d3,Value.int .i64 d4,Value.int .i64 d5,Value.bool dq,Value.bool dO,Value.slice b dn cb].toList
 have r9:=World.rangeAt_setCells_same w5 (x+1) 0 #[Value.int .i64 d0,Value.int .u32 d1,Value.int .u32 d2,Value.int .u32 d3,Value.int .i64 d4,Value.int .i64 d5,Value.bool dq,Value.bool dO,Value.slice b dn cb].toList h9
 have oo9:Off [x,x+1] w4 (w5.setCells (x+1) 0 #[Value.int .i64 d0,Value.int .u32 d1,Value.int .u32 d2,Value.int .u32 d3,Value.int .i64 d4,Value.int .i64 d5,Value.bool dq,Value.bool dO,Value.slice b dn cb].toList):=oo8.trans (o9.more (by simp))
 refine held_storeA (i:=3) (by kernel_rfl) rfl (by kernel_rfl) 42 (.tmp 5) (.tmp 23) rfl (x+1) 0 #[Value.int .i64 d0,Value.int .u32 d1,Value.int .u32 d2,Value.int .u32 d3,Value.int .i64 d4,Value.int .i64 d5,Value.bool dq,Value.bool dO,Value.slice b dn cb] (by kernel_rfl) (by kernel_rfl) h9 (by kernel_rfl) (by kernel_rfl) (HSS.out _ oo9) ?_
 obtain⟨w6,hw6⟩:∃ q,w5.setCells (x+1) 0 #[Value.int .i64 d0,Value.int .u32 d1,Value.int .u32 d2,Value.int .u32 d3,Value.int .i64 d4,Value.int .i64 d5,Value.bool dq,Value.bool dO,Value.slice b dn cb].toList=q:=⟨_,rfl⟩
 rw[hw6]at r9 o9 oo9 ⊢
 have lx5:x<w5.heap.size:=Nat.lt_of_lt_of_le (Array.getElem?_eq_some_iff.1 kd).1 o8.size
 have r8':w6.rangeAt x 0 #[Value.int .i64 h0,Value.int .u32 h1,Value.int .u32 h2,Value.int .u32 h3,Value.int .i64 h4,Value.int .i64 h5,Value.bool hq,Value.bool ho,Value.slice a hn ca].toList:=fun j v hv=>(World.cell?_of_block (a:=⟨x,0+j,none⟩) (o9.block x lx5 (by simp))).trans (r8 j v hv)
 have hl1:(loadVar 42 ⟨x,0,none⟩).run Tryz.prog w6=.ok (.agg #[Value.int .i64 h0,Value.int .u32 h1,Value.int .u32 h2,Value.int .u32 h3,Value.int .i64 h4,Value.int .i64 h5,Value.bool hq,Value.bool ho,Value.slice a hn ca]) w6:=run_loadVar_mid (P:=Tryz.prog) _ x 0 42 #[Value.int .i64 h0,Value.int .u32 h1,Value.int .u32 h2,Value.int .u32 h3,Value.int .i64 h4,Value.int .i64 h5,Value.bool hq,Value.bool ho,Value.slice a hn ca].toList _ r8' Tryz.underlying42 rfl (by kernel_rfl)
 have hl2:(loadVar 42 ⟨x+1,0,none⟩).run Tryz.prog w6=.ok (.agg #[Value.int .i64 d0,Value.int .u32 d1,Value.int .u32 d2,Value.int .u32 d3,Value.int .i64 d4,Value.int .i64 d5,Value.bool dq,Value.bool dO,Value.slice b dn cb]) w6:=run_loadVar_mid (P:=Tryz.prog) _ (x+1) 0 42 #[Value.int .i64 d0,Value.int .u32 d1,Value.int .u32 d2,Value.int .u32 d3,Value.int .i64 d4,Value.int .i64 d5,Value.bool dq,Value.bool dO,Value.slice b dn cb].toList _ r9 Tryz.underlying42 rfl (by kernel_rfl)
 have HO:Hid (_):=oo9
 have HL:Hid (_):=And.intro hl1 hl2
 clear h8 h9 o8 o9 r8 r9 r8' kd kd1 k5 lx5 oo8 oo9 od0 hw5 hw6 kx kx1 HSS HS0 hl1 hl2
 refine wpAnyH_done (by kernel_rfl) ?_ _
 go_wp2_with fail
 refine bodyPost_ret (v:=.tuple #[.agg #[Value.int .i64 h0,Value.int .u32 h1,Value.int .u32 h2,Value.int .u32 h3,Value.int .i64 h4,Value.int .i64 h5,Value.bool hq,Value.bool ho,Value.slice a hn ca],.agg #[Value.int .i64 d0,Value.int .u32 d1,Value.int .u32 d2,Value.int .u32 d3,Value.int .i64 d4,Value.int .i64 d5,Value.bool dq,Value.bool dO,Value.slice b dn cb]]) (results_cell2 (t:=4) (u:=5) (ty:=42) rfl _ Tryz.prog w6 (by kernel_rfl) (by kernel_rfl) HL.out.1 HL.out.2) rfl ?_
 obtain⟨R1,R3,W4⟩:=HR3.out
 have lw:=(Array.getElem?_eq_some_iff.1 HK.out.2).1
 have bw4:Below w.heap.size w w4:=HB.out.trans (W4.mono HB.out.size)
 have hs:w.heap.size=x:=HS.out
 refine⟨a,ca,b,cb,rfl,?_,?_,HO.out.below bw4 (fun q hq=>by simp at hq;omega) bw4.size⟩
 ·exact R1.offY HO.out (fun q hq h0=>by have:=H1.out.2.2 q hq h0;simp;omega)
 ·exact R3.offY HO.out (fun q hq h0=>by have:=H3.out.2.2 q hq h0;have:=HW2.out.size;simp;omega)
open Go.RowKit
open Go.RowKit Go.Maps
section
variable {w wr w':World} {g:Nat} {fs:List Fa}
end
end Go.Proofs.YtgaeofgdiaknpaaGreat
namespace Go.Proofs.YtgaeofgdiaknpaaGreat
set_option maxRecDepth 100000
open Go.RowKit Go.Maps
set_option linter.unusedVariables false
theorem play_n (S:Ws) (m:Mv):(S.play m).S.n=S.n:=by
 unfold Ws.play
 split
 ·rfl
 ·exact act_n _ _
def Ws.actDF (S:Ws) (m:Mv):Sd:=if m.k=1 then (if m.s=1 then S.ds m.c.toNat else dwriteS (S.PD m.c.toNat) (S.ds m.c.toNat) m.l m.b m.h) else if m.k=2 then S.ds m.c.toNat else if m.k=3∨m.k=4 then (if m.s=1 then S.ds m.c.toNat else (drecv (S.PD m.c.toNat) S.mx 16 (S.ds m.c.toNat) (S.fr m).1 (S.fr m).2).s) else if m.k=5 then (if m.s=1 then S.ds m.c.toNat else dtickS (S.PD m.c.toNat) (S.ds m.c.toNat) m.n) else if m.k=6 then (if m.s=1 then S.ds m.c.toNat else dackS (S.ds m.c.toNat)) else if m.k=7 then (if m.s=1 then S.ds m.c.toNat else dresetS S.mx 16 (S.ds m.c.toNat) m.n) else { S.ds m.c.toNat with ms:=arS (S.ds m.c.toNat).ms m.n }
def Ws.actHF (S:Ws) (m:Mv):Sh:=if m.k=1 then (if m.s=1 then hwriteS (S.PH m.c.toNat) (S.hs m.c.toNat) m.l m.b m.h else S.hs m.c.toNat) else if m.k=2 then hsendS (S.PH m.c.toNat) (S.hs m.c.toNat) else if m.k=3∨m.k=4 then (if m.s=1 then hrecvS (S.PH m.c.toNat) (S.hs m.c.toNat) (S.fr m).1 (S.fr m).2 else S.hs m.c.toNat) else if m.k=5 then (if m.s=1 then htickS (S.PH m.c.toNat) (S.hs m.c.toNat) m.n else S.hs m.c.toNat) else if m.k=6 then (if m.s=1 then hackS (S.hs m.c.toNat) else S.hs m.c.toNat) else if m.k=7 then (if m.s=1 then hlife (S.hs m.c.toNat) else S.hs m.c.toNat) else S.hs m.c.toNat
def Ws.actEF (S:Ws) (m:Mv):Int:=if m.k=1 then (if m.s=1 then hwriteE (S.PH m.c.toNat) m.l else dwriteE (S.PD m.c.toNat) (S.ds m.c.toNat) m.l) else if m.k=2 then hsendE (S.hs m.c.toNat) else if m.k=3∨m.k=4 then (if m.s=1 then hrecvE (S.PH m.c.toNat) (S.hs m.c.toNat) (S.fr m).1 (S.fr m).2 else (drecv (S.PD m.c.toNat) S.mx 16 (S.ds m.c.toNat) (S.fr m).1 (S.fr m).2).e) else if m.k=5 then (if m.s=1 then htickE m.n else dtickE (S.ds m.c.toNat) m.n) else if m.k=6 then (if m.s=1 then hackE (S.hs m.c.toNat) else dackE (S.ds m.c.toNat)) else if m.k=7 then (if m.s=1 then 0 else dresetE S.mx 16 (S.ds m.c.toNat) m.n) else arE m.n
theorem toD2_ds (S:Ws) (k:Nat) (f:Fm):(S.toD2 k f).ds=putF S.ds k (drecv (S.PD k) S.mx 16 (S.ds k) f.1 f.2).s:=by
 unfold Ws.toD2
 split <;> rfl
theorem toD2_hs (S:Ws) (k:Nat) (f:Fm):(S.toD2 k f).hs=S.hs:=by
 unfold Ws.toD2
 split <;> rfl
theorem actD (S:Ws) (m:Mv):(S.act m).S.ds m.c.toNat=S.actDF m:=by
 unfold Ws.act Ws.actDF
 dsimp only
 by_cases h1:m.k=1
 ·rw[if_pos h1,if_pos h1]
  by_cases hs:m.s=1
  ·rw[if_pos hs,if_pos hs]
   first | rfl | exact putF_same _ _ _ | (unfold Ws.snd;dsimp only;rw[(put_n _ _ _ _).2.1];rfl) | (unfold Ws.toH;dsimp only;split <;> rfl) | (unfold Ws.toD;dsimp only;rw[(put_n _ _ _ _).2.1,toD2_ds];exact putF_same _ _ _)
  ·rw[if_neg hs,if_neg hs]
   first | rfl | exact putF_same _ _ _ | (unfold Ws.snd;dsimp only;rw[(put_n _ _ _ _).2.1];rfl) | (unfold Ws.toH;dsimp only;split <;> rfl) | (unfold Ws.toD;dsimp only;rw[(put_n _ _ _ _).2.1,toD2_ds];exact putF_same _ _ _)
 rw[if_neg h1,if_neg h1]
 by_cases h2:m.k=2
 ·rw[if_pos h2,if_pos h2]
  first | rfl | exact putF_same _ _ _ | (unfold Ws.snd;dsimp only;rw[(put_n _ _ _ _).2.1];rfl) | (unfold Ws.toH;dsimp only;split <;> rfl) | (unfold Ws.toD;dsimp only;rw[(put_n _ _ _ _).2.1,toD2_ds];exact putF_same _ _ _)
 rw[if_neg h2,if_neg h2]
 by_cases h3:m.k=3∨m.k=4
 ·rw[if_pos h3,if_pos h3]
  by_cases hs:m.s=1
  ·rw[if_pos hs,if_pos hs]
   first | rfl | exact putF_same _ _ _ | (unfold Ws.snd;dsimp only;rw[(put_n _ _ _ _).2.1];rfl) | (unfold Ws.toH;dsimp only;split <;> rfl) | (unfold Ws.toD;dsimp only;rw[(put_n _ _ _ _).2.1,toD2_ds];exact putF_same _ _ _)
  ·rw[if_neg hs,if_neg hs]
   first | rfl | exact putF_same _ _ _ | (unfold Ws.snd;dsimp only;rw[(put_n _ _ _ _).2.1];rfl) | (unfold Ws.toH;dsimp only;split <;> rfl) | (unfold Ws.toD;dsimp only;rw[(put_n _ _ _ _).2.1,toD2_ds];exact putF_same _ _ _)
 rw[if_neg h3,if_neg h3]
 by_cases h5:m.k=5
 ·rw[if_pos h5,if_pos h5]
  by_cases hs:m.s=1
  ·rw[if_pos hs,if_pos hs]
   first | rfl | exact putF_same _ _ _ | (unfold Ws.snd;dsimp only;rw[(put_n _ _ _ _).2.1];rfl) | (unfold Ws.toH;dsimp only;split <;> rfl) | (unfold Ws.toD;dsimp only;rw[(put_n _ _ _ _).2.1,toD2_ds];exact putF_same _ _ _)
  ·rw[if_neg hs,if_neg hs]
   first | rfl | exact putF_same _ _ _ | (unfold Ws.snd;dsimp only;rw[(put_n _ _ _ _).2.1];rfl) | (unfold Ws.toH;dsimp only;split <;> rfl) | (unfold Ws.toD;dsimp only;rw[(put_n _ _ _ _).2.1,toD2_ds];exact putF_same _ _ _)
 rw[if_neg h5,if_neg h5]
 by_cases h6:m.k=6
 ·rw[if_pos h6,if_pos h6]
  by_cases hs:m.s=1
  ·rw[if_pos hs,if_pos hs]
   first | rfl | exact putF_same _ _ _ | (unfold Ws.snd;dsimp only;rw[(put_n _ _ _ _).2.1];rfl) | (unfold Ws.toH;dsimp only;split <;> rfl) | (unfold Ws.toD;dsimp only;rw[(put_n _ _ _ _).2.1,toD2_ds];exact putF_same _ _ _)
  ·rw[if_neg hs,if_neg hs]
   first | rfl | exact putF_same _ _ _ | (unfold Ws.snd;dsimp only;rw[(put_n _ _ _ _).2.1];rfl) | (unfold Ws.toH;dsimp only;split <;> rfl) | (unfold Ws.toD;dsimp only;rw[(put_n _ _ _ _).2.1,toD2_ds];exact putF_same _ _ _)
 rw[if_neg h6,if_neg h6]
 by_cases h7:m.k=7
 ·rw[if_pos h7,if_pos h7]
  by_cases hs:m.s=1
  ·rw[if_pos hs,if_pos hs]
   first | rfl | exact putF_same _ _ _ | (unfold Ws.snd;dsimp only;rw[(put_n _ _ _ _).2.1];rfl) | (unfold Ws.toH;dsimp only;split <;> rfl) | (unfold Ws.toD;dsimp only;rw[(put_n _ _ _ _).2.1,toD2_ds];exact putF_same _ _ _)
  ·rw[if_neg hs,if_neg hs]
   first | rfl | exact putF_same _ _ _ | (unfold Ws.snd;dsimp only;rw[(put_n _ _ _ _).2.1];rfl) | (unfold Ws.toH;dsimp only;split <;> rfl) | (unfold Ws.toD;dsimp only;rw[(put_n _ _ _ _).2.1,toD2_ds];exact putF_same _ _ _)
 rw[if_neg h7,if_neg h7]
 first | rfl | exact putF_same _ _ _ | (unfold Ws.snd;dsimp only;rw[(put_n _ _ _ _).2.1];rfl) | (unfold Ws.toH;dsimp only;split <;> rfl) | (unfold Ws.toD;dsimp only;rw[(put_n _ _ _ _).2.1,toD2_ds];exact putF_same _ _ _)
theorem actH (S:Ws) (m:Mv):(S.act m).S.hs m.c.toNat=S.actHF m:=by
 unfold Ws.act Ws.actHF
 dsimp only
 by_cases h1:m.k=1
 ·rw[if_pos h1,if_pos h1]
  by_cases hs:m.s=1
  ·rw[if_pos hs,if_pos hs]
   first | rfl | exact putF_same _ _ _ | (unfold Ws.snd;dsimp only;rw[(put_n _ _ _ _).2.2.1];exact putF_same _ _ _) | (unfold Ws.toH;dsimp only;split <;> exact putF_same _ _ _) | (unfold Ws.toD;dsimp only;rw[(put_n _ _ _ _).2.2.1,toD2_hs])
  ·rw[if_neg hs,if_neg hs]
   first | rfl | exact putF_same _ _ _ | (unfold Ws.snd;dsimp only;rw[(put_n _ _ _ _).2.2.1];exact putF_same _ _ _) | (unfold Ws.toH;dsimp only;split <;> exact putF_same _ _ _) | (unfold Ws.toD;dsimp only;rw[(put_n _ _ _ _).2.2.1,toD2_hs])
 rw[if_neg h1,if_neg h1]
 by_cases h2:m.k=2
 ·rw[if_pos h2,if_pos h2]
  first | rfl | exact putF_same _ _ _ | (unfold Ws.snd;dsimp only;rw[(put_n _ _ _ _).2.2.1];exact putF_same _ _ _) | (unfold Ws.toH;dsimp only;split <;> exact putF_same _ _ _) | (unfold Ws.toD;dsimp only;rw[(put_n _ _ _ _).2.2.1,toD2_hs])
 rw[if_neg h2,if_neg h2]
 by_cases h3:m.k=3∨m.k=4
 ·rw[if_pos h3,if_pos h3]
  by_cases hs:m.s=1
  ·rw[if_pos hs,if_pos hs]
   first | rfl | exact putF_same _ _ _ | (unfold Ws.snd;dsimp only;rw[(put_n _ _ _ _).2.2.1];exact putF_same _ _ _) | (unfold Ws.toH;dsimp only;split <;> exact putF_same _ _ _) | (unfold Ws.toD;dsimp only;rw[(put_n _ _ _ _).2.2.1,toD2_hs])
  ·rw[if_neg hs,if_neg hs]
   first | rfl | exact putF_same _ _ _ | (unfold Ws.snd;dsimp only;rw[(put_n _ _ _ _).2.2.1];exact putF_same _ _ _) | (unfold Ws.toH;dsimp only;split <;> exact putF_same _ _ _) | (unfold Ws.toD;dsimp only;rw[(put_n _ _ _ _).2.2.1,toD2_hs])
 rw[if_neg h3,if_neg h3]
 by_cases h5:m.k=5
 ·rw[if_pos h5,if_pos h5]
  by_cases hs:m.s=1
  ·rw[if_pos hs,if_pos hs]
   first | rfl | exact putF_same _ _ _ | (unfold Ws.snd;dsimp only;rw[(put_n _ _ _ _).2.2.1];exact putF_same _ _ _) | (unfold Ws.toH;dsimp only;split <;> exact putF_same _ _ _) | (unfold Ws.toD;dsimp only;rw[(put_n _ _ _ _).2.2.1,toD2_hs])
  ·rw[if_neg hs,if_neg hs]
   first | rfl | exact putF_same _ _ _ | (unfold Ws.snd;dsimp only;rw[(put_n _ _ _ _).2.2.1];exact putF_same _ _ _) | (unfold Ws.toH;dsimp only;split <;> exact putF_same _ _ _) | (unfold Ws.toD;dsimp only;rw[(put_n _ _ _ _).2.2.1,toD2_hs])
 rw[if_neg h5,if_neg h5]
 by_cases h6:m.k=6
 ·rw[if_pos h6,if_pos h6]
  by_cases hs:m.s=1
  ·rw[if_pos hs,if_pos hs]
   first | rfl | exact putF_same _ _ _ | (unfold Ws.snd;dsimp only;rw[(put_n _ _ _ _).2.2.1];exact putF_same _ _ _) | (unfold Ws.toH;dsimp only;split <;> exact putF_same _ _ _) | (unfold Ws.toD;dsimp only;rw[(put_n _ _ _ _).2.2.1,toD2_hs])
  ·rw[if_neg hs,if_neg hs]
   first | rfl | exact putF_same _ _ _ | (unfold Ws.snd;dsimp only;rw[(put_n _ _ _ _).2.2.1];exact putF_same _ _ _) | (unfold Ws.toH;dsimp only;split <;> exact putF_same _ _ _) | (unfold Ws.toD;dsimp only;rw[(put_n _ _ _ _).2.2.1,toD2_hs])
 rw[if_neg h6,if_neg h6]
 by_cases h7:m.k=7
 ·rw[if_pos h7,if_pos h7]
  by_cases hs:m.s=1
  ·rw[if_pos hs,if_pos hs]
   first | rfl | exact putF_same _ _ _ | (unfold Ws.snd;dsimp only;rw[(put_n _ _ _ _).2.2.1];exact putF_same _ _ _) | (unfold Ws.toH;dsimp only;split <;> exact putF_same _ _ _) | (unfold Ws.toD;dsimp only;rw[(put_n _ _ _ _).2.2.1,toD2_hs])
  ·rw[if_neg hs,if_neg hs]
   first | rfl | exact putF_same _ _ _ | (unfold Ws.snd;dsimp only;rw[(put_n _ _ _ _).2.2.1];exact putF_same _ _ _) | (unfold Ws.toH;dsimp only;split <;> exact putF_same _ _ _) | (unfold Ws.toD;dsimp only;rw[(put_n _ _ _ _).2.2.1,toD2_hs])
 rw[if_neg h7,if_neg h7]
 first | rfl | exact putF_same _ _ _ | (unfold Ws.snd;dsimp only;rw[(put_n _ _ _ _).2.2.1];exact putF_same _ _ _) | (unfold Ws.toH;dsimp only;split <;> exact putF_same _ _ _) | (unfold Ws.toD;dsimp only;rw[(put_n _ _ _ _).2.2.1,toD2_hs])
theorem actE (S:Ws) (m:Mv):(S.act m).e=S.actEF m:=by
 unfold Ws.act Ws.actEF
 dsimp only
 by_cases h1:m.k=1
 ·rw[if_pos h1,if_pos h1]
  by_cases hs:m.s=1
  ·rw[if_pos hs,if_pos hs]
   try rfl
  ·rw[if_neg hs,if_neg hs]
   try rfl
 rw[if_neg h1,if_neg h1]
 by_cases h2:m.k=2
 ·rw[if_pos h2,if_pos h2]
  try rfl
 rw[if_neg h2,if_neg h2]
 by_cases h3:m.k=3∨m.k=4
 ·rw[if_pos h3,if_pos h3]
  by_cases hs:m.s=1
  ·rw[if_pos hs,if_pos hs]
   try rfl
  ·rw[if_neg hs,if_neg hs]
   try rfl
 rw[if_neg h3,if_neg h3]
 by_cases h5:m.k=5
 ·rw[if_pos h5,if_pos h5]
  by_cases hs:m.s=1
  ·rw[if_pos hs,if_pos hs]
   try rfl
  ·rw[if_neg hs,if_neg hs]
   try rfl
 rw[if_neg h5,if_neg h5]
 by_cases h6:m.k=6
 ·rw[if_pos h6,if_pos h6]
  by_cases hs:m.s=1
  ·rw[if_pos hs,if_pos hs]
   try rfl
  ·rw[if_neg hs,if_neg hs]
   try rfl
 rw[if_neg h6,if_neg h6]
 by_cases h7:m.k=7
 ·rw[if_pos h7,if_pos h7]
  by_cases hs:m.s=1
  ·rw[if_pos hs,if_pos hs]
   try rfl
  ·rw[if_neg hs,if_neg hs]
   try rfl
 rw[if_neg h7,if_neg h7]
 try rfl
theorem play_ends (S:Ws) {m:Mv} (hb:S.bad m=0):(S.play m).S.ds m.c.toNat=S.actDF m∧(S.play m).S.hs m.c.toNat=S.actHF m∧(S.play m).e=S.actEF m:=by
 have hp:S.play m=⟨(S.up.act m).e,(S.up.act m).i,(S.up.act m).S.note [oH (S.up.act m).S m.c.toNat,oD (S.up.act m).S m.c.toNat]⟩:=by
  unfold Ws.play
  rw[if_neg (fun q=>q hb)]
  rfl
 rw[hp]
 exact⟨actD S.up m,actH S.up m,actE S.up m⟩
theorem play_else {S:Ws} (I:S.In) (K:S.Kn) {m:Mv} (hb:S.bad m=0) {j:Nat} (hj:j≠m.c.toNat):(S.play m).S.ds j=S.ds j∧(S.play m).S.hs j=S.hs j:=by
 have l:=Ws.Law.of hb
 have K':S.up.Kn:=⟨K.ph,K.pd,K.ha,K.da,K.mo,K.fb⟩
 have q:=stpAct K' (I.ih _ l.kn) (I.iv _ l.kn) l
 have hp:S.play m=⟨(S.up.act m).e,(S.up.act m).i,(S.up.act m).S.note [oH (S.up.act m).S m.c.toNat,oD (S.up.act m).S m.c.toNat]⟩:=by
  unfold Ws.play
  rw[if_neg (fun q=>q hb)]
  rfl
 rw[hp]
 exact⟨q.ds j hj,q.hs j hj⟩
section
variable {P:Pm} {mx n:Nat} {s s':Sd}
end
end Go.Proofs.YtgaeofgdiaknpaaGreat
namespace Go.Proofs.YtgaeofgdiaknpaaGreat
set_option maxRecDepth 100000
open Go.RowKit Go.Maps
set_option linter.unusedVariables false
structure Enc (A:Array Value) (st ss nm sn dc:Nat) (lat:Int) (rq on:Bool):Prop where
 c0:A.toList[0]?=some (.int .i64 (st:Nat))
 c1:A.toList[1]?=some (.int .u32 (ss:Nat))
 c2:A.toList[2]?=some (.int .u32 (nm:Nat))
 c3:A.toList[3]?=some (.int .u32 (sn:Nat))
 c4:A.toList[4]?=some (.int .i64 (dc:Nat))
 c5:A.toList[5]?=some (.int .i64 lat)
 c6:A.toList[6]?=some (.bool rq)
 c7:A.toList[7]?=some (.bool on)
theorem pends {e:Nat→Nat} {w0 w:World} {t:Nat→Thing} {L:Pw} {S:Ws} {k:Nat} (h:PWn e w0 t L w S) (hk:k<S.n):Calls Tryz.prog 13 #[.pointer (some ⟨L.x,0,none⟩),.int .i64 (k:Nat)] w fun r w'=>∃ A B:Array Value,r=.returned (.tuple #[.agg A,.agg B])∧A.size=9∧A.all (·.oneCell')=true∧B.size=9∧B.all (·.oneCell')=true∧Hid (Enc A (S.hs k).st (S.hs k).ss (S.hs k).nm (S.hs k).sn (S.hs k).dc (S.hs k).v.lat (vreq (S.hs k).v) (von (S.hs k).v)∧Enc B (S.ds k).st (S.ds k).ss (S.ds k).nm (S.ds k).sn (S.ds k).dc (S.ds k).v.lat (vreq (S.ds k).v) (von (S.ds k).v)∧Below w.heap.size w w'):=by
 refine (wends L.x k (S.PH k).i (S.PD k).o _ _ _ _ _ _ _ _ _ _ _ _ _ _ _ _ (vout (S.hs k).v) (vout (S.ds k).v) w (fun w1 b1=>pseeW1 (h.below b1) hk) (fun w1 b1=>pseeW2 (h.below b1) hk)).mono ?_
 rintro r w' ⟨a,ca,b,cb,rfl,H⟩
 exact⟨_,_,rfl,rfl,by kernel_rfl,rfl,by kernel_rfl,⟨rfl,rfl,rfl,rfl,rfl,rfl,rfl,rfl⟩,⟨rfl,rfl,rfl,rfl,rfl,rfl,rfl,rfl⟩,H.out.2.2⟩
theorem storeEnds (w:World) {A B:Array Value} (hs:A.size=9) (ho:A.all (·.oneCell')=true) (hs':B.size=9) (ho':B.all (·.oneCell')=true):∃ wy wz,(storeCells ⟨w.heap.size,0,none⟩ A.toList).run Tryz.prog ((w.alloc (.cells #[.int .i64 0,.int .u32 0,.int .u32 0,.int .u32 0,.int .i64 0,.int .i64 0,.bool false,.bool false,.slice none 0 0] 42)).alloc (.cells #[.int .i64 0,.int .u32 0,.int .u32 0,.int .u32 0,.int .i64 0,.int .i64 0,.bool false,.bool false,.slice none 0 0] 42))=.ok () wy∧(storeCells ⟨w.heap.size+1,0,none⟩ B.toList).run Tryz.prog wy=.ok () wz∧wz.rangeAt w.heap.size 0 A.toList∧wz.rangeAt (w.heap.size+1) 0 B.toList∧Below w.heap.size w wz:=by
 have z1:=sz1 w (.cells #[.int .i64 0,.int .u32 0,.int .u32 0,.int .u32 0,.int .i64 0,.int .i64 0,.bool false,.bool false,.slice none 0 0] 42)
 have kq:=heap_alloc_new (w.alloc (.cells #[.int .i64 0,.int .u32 0,.int .u32 0,.int .u32 0,.int .i64 0,.int .i64 0,.bool false,.bool false,.slice none 0 0] 42)) (.cells #[.int .i64 0,.int .u32 0,.int .u32 0,.int .u32 0,.int .i64 0,.int .i64 0,.bool false,.bool false,.slice none 0 0] 42)
 have kp:((w.alloc (.cells #[.int .i64 0,.int .u32 0,.int .u32 0,.int .u32 0,.int .i64 0,.int .i64 0,.bool false,.bool false,.slice none 0 0] 42)).alloc (.cells #[.int .i64 0,.int .u32 0,.int .u32 0,.int .u32 0,.int .i64 0,.int .i64 0,.bool false,.bool false,.slice none 0 0] 42)).heap[w.heap.size]?=some (.cells #[.int .i64 0,.int .u32 0,.int .u32 0,.int .u32 0,.int .i64 0,.int .i64 0,.bool false,.bool false,.slice none 0 0] 42 (0,0)):=(Below.heap_alloc _ _ _ (by omega)).trans (heap_alloc_new w _)
 have bW:Below w.heap.size w ((w.alloc (.cells #[.int .i64 0,.int .u32 0,.int .u32 0,.int .u32 0,.int .i64 0,.int .i64 0,.bool false,.bool false,.slice none 0 0] 42)).alloc (.cells #[.int .i64 0,.int .u32 0,.int .u32 0,.int .u32 0,.int .i64 0,.int .i64 0,.bool false,.bool false,.slice none 0 0] 42)):=belY (belY (Below.refl _ w) _) _
 rw[z1]at kq
 obtain⟨W,hW⟩:∃ z,(w.alloc (.cells #[.int .i64 0,.int .u32 0,.int .u32 0,.int .u32 0,.int .i64 0,.int .i64 0,.bool false,.bool false,.slice none 0 0] 42)).alloc (.cells #[.int .i64 0,.int .u32 0,.int .u32 0,.int .u32 0,.int .i64 0,.int .i64 0,.bool false,.bool false,.slice none 0 0] 42)=z:=⟨_,rfl⟩
 rw[hW]at kp kq bW ⊢
 have h1:W.there w.heap.size 0 A.size:=there_row kp (by rw[hs];rfl)
 have o1:=off_setCells W w.heap.size 0 A.toList
 have r1:=World.rangeAt_setCells_same W w.heap.size 0 A.toList (by simpa using h1)
 have k1:=(o1.block (w.heap.size+1) (Array.getElem?_eq_some_iff.1 kq).1 (by simp)).trans kq
 have h2:(W.setCells w.heap.size 0 A.toList).there (w.heap.size+1) 0 B.size:=there_row k1 (by rw[hs'];rfl)
 have o2:=off_setCells (W.setCells w.heap.size 0 A.toList) (w.heap.size+1) 0 B.toList
 have r2:=World.rangeAt_setCells_same (W.setCells w.heap.size 0 A.toList) (w.heap.size+1) 0 B.toList (by simpa using h2)
 have b1:=o1.below bW (by simp) bW.size
 refine⟨_,_,storeY_run h1 ho,storeY_run h2 ho',fun j v hv=>(World.cell?_of_block (a:=⟨w.heap.size,0+j,none⟩) (o2.block w.heap.size (Nat.lt_of_lt_of_le (Array.getElem?_eq_some_iff.1 kp).1 o1.size) (by simp))).trans (r1 j v hv),r2,o2.below b1 (fun k hk=>by simp at hk;omega) b1.size⟩
open Go.RowKit Go.Maps Go.Sort
theorem ppairO1 (w:World):Calls Tryz.prog 17 #[.int .i64 1] w fun r w'=>∃ a0 c0 a1 c1,r=.returned (.agg #[.slice a0 2 c0,.slice a1 2 c1,.int .u32 50])∧Hid (w'.ownsRow (w.heap.size+2) 50 5 (.slice a0 2 c0) 2 (flQ 2 pgP)∧w'.ownsRow (w.heap.size+2) 50 5 (.slice a1 2 c1) 2 (flQ 2 pgP)∧(∀ g,(Value.slice a0 2 c0).ownBlock=some g→(Value.slice a1 2 c1).ownBlock≠some g)∧Below w.heap.size w w'):=by
 have hS:=fun wx=>psmall wx
 go_enter Tryz.func17,Tryz.ntmps17
 go_wp2_with fail
 have HS:Hid (Sp w ((w.alloc (.cells #[.slice none 0 0,.slice none 0 0,.int .u32 0] 26)).alloc (.cells #[.slice none 0 0,.slice none 0 0,.int .u32 50] 26)) 0 none 0 none 0):=by
  have a1':=heap_alloc_new w (.cells #[.slice none 0 0,.slice none 0 0,.int .u32 0] 26)
  have a2':=heap_alloc_new (w.alloc (.cells #[.slice none 0 0,.slice none 0 0,.int .u32 0] 26)) (.cells #[.slice none 0 0,.slice none 0 0,.int .u32 50] 26)
  simp only[World.size_alloc]at a1' a2'
  refine⟨belY (belY (Below.refl _ _) _) _,?_,a2',⟨by simp[flQ],.inl ⟨rfl,rfl⟩⟩,⟨by simp[flQ],.inl ⟨rfl,rfl⟩⟩,fun g hg=>by cases hg⟩
  exact ((belY (Below.refl _ _) _).block _ (by simp)).trans a1'
 go_loopw [4,5,7,8,9,10,11,12,13,14,15,16,17,18,19,20,21,22,23,24,25,26,27,28,29,30,31,32,33,34] (fun c _ _ _ _ _ _ _ _ _ _ _ _ _ _ _ _ _ _ _ _ _ _ _ _ _ _ _ _ _ wr=>∃ (i:Nat) (va:Option Addr) (vc:Nat) (ua:Option Addr) (uc:Nat),i≤2∧c=.int .i64 ((i:Nat):Int)∧Hid (Sp w wr i va vc ua uc)) (fun c _ _ _ _ _ _ _ _ _ _ _ _ _ _ _ _ _ _ _ _ _ _ _ _ _ _ _ _ _ _=>2-natQ c)
 case atStart=>exact⟨0,none,0,none,0,by omega,rfl,HS⟩
 case round=>
  obtain⟨i,va,vc,ua,uc,hi,rfl,HI⟩:=hrel
  clear HS
  have hi3:i=0∨i=1∨i=2:=by omega
  rcases hi3 with rfl | rfl | rfl
  ·obtain⟨i0,hI,hz0,hz1,hz2⟩:=info_parts info_parY
   go_wp2_with fail
   refine (hS _).mono ?_
   rintro r w3 ⟨rfl,b3⟩
   have q0:=cellY (cell_of_row wr _ 0 _ _ _ HI.out.xb) (belY b3 (.cells #[.int .u32 7,.int .i64 2,.int .i64 1,.int .i64 10,.int .u32 9] 50))
   have q1:=cellY (cell_of_row wr _ 1 _ _ _ HI.out.xb) (belY b3 (.cells #[.int .u32 7,.int .i64 2,.int .i64 1,.int .i64 10,.int .u32 9] 50))
   have b4:=belY (belY b3 (.cells #[.int .u32 7,.int .i64 2,.int .i64 1,.int .i64 10,.int .u32 9] 50)) (.cells #[.int .u32 7,.int .i64 2,.int .i64 1,.int .i64 10,.int .u32 9] 50)
   have hrow:=own_belowP HI.out.ov b4
   have lx:=(Array.getElem?_eq_some_iff.1 HI.out.xb).1
   have s3:=b3.size
   have nk:=heap_alloc_new (w3.alloc (.cells #[.int .u32 7,.int .i64 2,.int .i64 1,.int .i64 10,.int .u32 9] 50)) (.cells #[.int .u32 7,.int .i64 2,.int .i64 1,.int .i64 10,.int .u32 9] 50)
   simp only[World.size_alloc]at nk
   have hcl:∀ j u,(pgP 0).cs[j]?=some u→((w3.alloc (.cells #[.int .u32 7,.int .i64 2,.int .i64 1,.int .i64 10,.int .u32 9] 50)).alloc (.cells #[.int .u32 7,.int .i64 2,.int .i64 1,.int .i64 10,.int .u32 9] 50)).cell? ((⟨w3.heap.size+1,0,none⟩:Addr).add j)=some u:=pq_cells nk
   have hbs:w.heap.size+2 ≤ ((w3.alloc (.cells #[.int .u32 7,.int .i64 2,.int .i64 1,.int .i64 10,.int .u32 9] 50)).alloc (.cells #[.int .u32 7,.int .i64 2,.int .i64 1,.int .i64 10,.int .u32 9] 50)).heap.size:=by simp;omega
   go_wp2_with (at_builtin;refine wpList_append_own_at _ rfl (.tmp 24) (.tmp 26) 23 rfl (w.heap.size+2) 50 i0 (.agg #[.int .u32 0,.int .i64 0,.int .i64 0,.int .i64 0,.int .u32 0]) 5 40 Tryz.underlying23 hI hz0 hz1 hz2 rfl (by decide) (.slice va 0 vc) 0 (flQ 0 pgP) rfl hrow ⟨w3.heap.size+1,0,none⟩ 1 1 (pgP 0).cs rfl rfl hcl (csQ_one _) (by unfold maxLen;omega) (by omega) hbs ?_)
   intro v5 w5 o5 g5 _ s5
   obtain⟨x5,y5,rfl,hx5⟩:=own_slcP (n:=0) o5
   have nb:=fun g (hg:(Value.slice va 0 vc).ownBlock=some g)=>HI.out.ov.lt g hg
   have nu:=fun g (hg:(Value.slice ua 0 uc).ownBlock=some g)=>HI.out.ou.lt g hg
   have k5:w5.heap[w.heap.size+1]?=some (.cells #[.slice va 0 vc,.slice ua 0 uc,.int .u32 50] 26 (0,0)):=(g5.block _ (by simp;omega) (fun e=>by have:=(nb _ e.symm).1;omega)).trans ((b4.block _ lx).trans HI.out.xb)
   have p5:w5.heap[w3.heap.size]?=some (.cells #[.int .u32 7,.int .i64 2,.int .i64 1,.int .i64 10,.int .u32 9] 50 (0,0)):=(g5.block _ (by simp;omega) (fun e=>by have:=(nb _ e.symm).2;omega)).trans (((belY (Below.refl _ _) _).block w3.heap.size (by simp)).trans (heap_alloc_new w3 (.cells #[.int .u32 7,.int .i64 2,.int .i64 1,.int .i64 10,.int .u32 9] 50)))
   have u5:w5.ownsRow (w.heap.size+2) 50 5 (.slice ua 0 uc) 0 (flQ 0 pgP):=own_keepP (own_belowP HI.out.ou b4) (fun g hg=>g5.block g (by have:=(nu g hg).2;simp;omega) (fun e=>HI.out.dis g e.symm hg))
   have r0:=cell_of_row w5 _ 0 _ _ _ k5
   have r1:=cell_of_row w5 _ 1 _ _ _ k5
   have rz:=fun k=>frozen_of_row w5 _ k _ _ k5
   have t0:=cell_of_row w5 _ 0 _ _ _ p5
   have t1:=cell_of_row w5 _ 1 _ _ _ p5
   have t2:=cell_of_row w5 _ 2 _ _ _ p5
   have t3:=cell_of_row w5 _ 3 _ _ _ p5
   have t4:=cell_of_row w5 _ 4 _ _ _ p5
   have s5s:=g5.size
   simp only[World.size_alloc]at s5s
   have o6:Off [w.heap.size+1] w5 (w5.setCell ⟨w.heap.size+1,0,none⟩ (.slice (some ⟨x5,0,none⟩) 1 y5)):=Off.setCell _ _ _ _
   have u7:((w5.setCell ⟨w.heap.size+1,0,none⟩ (.slice (some ⟨x5,0,none⟩) 1 y5)).alloc (.cells #[.int .u32 7,.int .i64 2,.int .i64 1,.int .i64 10,.int .u32 9] 50)).ownsRow (w.heap.size+2) 50 5 (.slice ua 0 uc) 0 (flQ 0 pgP):=own_belowP (own_keepP u5 (fun g hg=>o6.block g (by have:=(u5.lt g hg).2;omega) (by have:=(u5.lt g hg).1;simp;omega))) (belY (Below.refl _ _) _)
   have nk7:=heap_alloc_new (w5.setCell ⟨w.heap.size+1,0,none⟩ (.slice (some ⟨x5,0,none⟩) 1 y5)) (.cells #[.int .u32 7,.int .i64 2,.int .i64 1,.int .i64 10,.int .u32 9] 50)
   have hs6:(w5.setCell ⟨w.heap.size+1,0,none⟩ (.slice (some ⟨x5,0,none⟩) 1 y5)).heap.size=w5.heap.size:=by simp[World.setCell]
   rw[hs6]at nk7
   have hcl7:∀ j u,(pgP 0).cs[j]?=some u→((w5.setCell ⟨w.heap.size+1,0,none⟩ (.slice (some ⟨x5,0,none⟩) 1 y5)).alloc (.cells #[.int .u32 7,.int .i64 2,.int .i64 1,.int .i64 10,.int .u32 9] 50)).cell? ((⟨w5.heap.size,0,none⟩:Addr).add j)=some u:=pq_cells nk7
   have hbs7:w.heap.size+2 ≤ ((w5.setCell ⟨w.heap.size+1,0,none⟩ (.slice (some ⟨x5,0,none⟩) 1 y5)).alloc (.cells #[.int .u32 7,.int .i64 2,.int .i64 1,.int .i64 10,.int .u32 9] 50)).heap.size:=by rw[World.size_alloc,hs6];omega
   have HH:Hid (_):=And.intro o5 (And.intro g5 (And.intro s5 (And.intro k5 (And.intro p5 (And.intro u5 (And.intro nb (And.intro nu b4)))))))
   clear o5 g5 s5 k5 p5 u5 hrow hcl hbs nk q0 q1 nk7 o6 nb nu
   go_wp2_with (at_builtin;refine wpList_append_own_at _ rfl (.tmp 30) (.tmp 32) 23 rfl (w.heap.size+2) 50 i0 (.agg #[.int .u32 0,.int .i64 0,.int .i64 0,.int .i64 0,.int .u32 0]) 5 40 Tryz.underlying23 hI hz0 hz1 hz2 rfl (by decide) (.slice ua 0 uc) 0 (flQ 0 pgP) rfl u7 ⟨w5.heap.size,0,none⟩ 1 1 (pgP 0).cs rfl rfl hcl7 (csQ_one _) (by unfold maxLen;omega) (by omega) hbs7 ?_)
   intro v8 w8 o8 g8 _ s8
   obtain⟨x8,y8,rfl,hx8⟩:=own_slcP (n:=0) o8
   have key:Hid (Sp w (w8.setCell ⟨w.heap.size+1,1,none⟩ (.slice (some ⟨x8,0,none⟩) 1 y8)) 1 (some ⟨x5,0,none⟩) y5 (some ⟨x8,0,none⟩) y8∧w8.heap[w.heap.size+1]?=some (.cells #[.slice (some ⟨x5,0,none⟩) 1 y5,.slice ua 0 uc,.int .u32 50] 26 (0,0))):=by
    obtain⟨o5,g5,s5,k5,p5,u5,nb,nu,b4⟩:=HH.out
    have hI':=HI.out
    have o6:Off [w.heap.size+1] w5 (w5.setCell ⟨w.heap.size+1,0,none⟩ (.slice (some ⟨x5,0,none⟩) 1 y5)):=Off.setCell _ _ _ _
    have o9:Off [w.heap.size+1] w8 (w8.setCell ⟨w.heap.size+1,1,none⟩ (.slice (some ⟨x8,0,none⟩) 1 y8)):=Off.setCell _ _ _ _
    have g8s:=g8.size
    rw[World.size_alloc,hs6]at g8s
    have wr2:w.heap.size+2≤wr.heap.size:=by omega
    have thr:∀ k,k<w5.heap.size→k≠w.heap.size+1→(∀ g,(Value.slice ua 0 uc).ownBlock=some g→k≠g)→(w8.setCell ⟨w.heap.size+1,1,none⟩ (.slice (some ⟨x8,0,none⟩) 1 y8)).heap[k]?=w5.heap[k]?:=fun k hk h1 h2=>
     (o9.block k (by omega) (by simpa using h1)).trans ((g8.block k (by rw[World.size_alloc,hs6];omega) (fun e=>h2 k e.symm rfl)).trans (((belY (Below.refl _ _) _).block k (by rw[hs6];exact hk)).trans (o6.block k hk (by simpa using h1))))
    have kk6:(w5.setCell ⟨w.heap.size+1,0,none⟩ (.slice (some ⟨x5,0,none⟩) 1 y5)).heap[w.heap.size+1]?=some (.cells #[.slice (some ⟨x5,0,none⟩) 1 y5,.slice ua 0 uc,.int .u32 50] 26 (0,0)):=heap_setCell_same _ _ _ _ _ _ k5
    have kk8:w8.heap[w.heap.size+1]?=some (.cells #[.slice (some ⟨x5,0,none⟩) 1 y5,.slice ua 0 uc,.int .u32 50] 26 (0,0)):=(g8.block _ (by rw[World.size_alloc,hs6];omega) (fun e=>by have:=(nu _ e.symm).1;omega)).trans (((belY (Below.refl _ _) _).block _ (by rw[hs6];omega)).trans kk6)
    have b5:Below w.heap.size w w5:=(hI'.bel.trans (b4.mono (by omega))).grown g5 (by simp;omega) (fun j hj=>by have:=(nb j hj).1;omega)
    have l5:=(o5.lt x5 rfl).2
    have xu:∀ g,(Value.slice ua 0 uc).ownBlock=some g→x5≠g:=fun g hg e=>by
     subst e
     rcases s5 with h | h
     ·exact hI'.dis x5 (h.symm.trans rfl) hg
     ·have h2:some x5=some _:=h
      simp only[Option.some.injEq]at h2
      have:=(nu _ hg).2
      omega
    refine⟨⟨?_,?_,heap_setCell_same _ _ _ _ _ _ kk8,?_,?_,?_⟩,kk8⟩
    ·have b6:=o6.below b5 (fun k hk=>by simp at hk;omega) b5.size
     have b7:=(b6.alloc (by rw[hs6];exact b5.size) (.cells #[.int .u32 7,.int .i64 2,.int .i64 1,.int .i64 10,.int .u32 9] 50)).grown g8 (by rw[World.size_alloc,hs6];have:=b5.size;omega) (fun j hj=>by have:=(nu j hj).1;omega)
     exact o9.below b7 (fun k hk=>by simp at hk;omega) b7.size
    ·rw[thr _ (by omega) (by omega) (fun g hg=>by have:=(nu g hg).1;omega)]
     exact (g5.block _ (by simp;omega) (fun e=>by have:=(nb _ e.symm).1;omega)).trans ((b4.block _ (by omega)).trans hI'.rb)
    ·rw[flQ_succ]
     exact own_keepP o5 (fun g hg=>by
      have e:g=x5:=by simpa [Value.ownBlock] using hg.symm
      subst e
      exact thr g l5 (by omega) xu)
    ·rw[flQ_succ]
     exact own_keepP o8 (fun g hg=>by
      have e:g=x8:=by simpa [Value.ownBlock] using hg.symm
      subst e
      exact o9.block g (o8.lt g rfl).2 (by simp;omega))
    ·intro g hg hg'
     cases hg
     have e8:x8=x5:=by simpa [Value.ownBlock] using hg'
     rcases s8 with h | h
     ·have h2:some x8=_:=h
      exact xu x8 h2.symm e8.symm
     ·have h2:some x8=some _:=h
      simp only[Option.some.injEq]at h2
      omega
   have HS:Hid (_):=key.out.1
   have f0:=cell_of_row w8 _ 0 _ _ _ key.out.2
   have f1:=cell_of_row w8 _ 1 _ _ _ key.out.2
   have fz:=fun k=>frozen_of_row w8 _ k _ _ key.out.2
   clear key o8 g8 s8 HH u7 hcl7 hbs7 HI
   go_wp2_with fail
   go_roundw
   case rel=>exact⟨1,_,_,_,_,by omega,by go_num,HS⟩
   case measure=>simp[natQ]
  ·obtain⟨i0,hI,hz0,hz1,hz2⟩:=info_parts info_parY
   go_wp2_with fail
   refine (hS _).mono ?_
   rintro r w3 ⟨rfl,b3⟩
   have q0:=cellY (cell_of_row wr _ 0 _ _ _ HI.out.xb) (belY b3 (.cells #[.int .u32 8,.int .i64 2,.int .i64 1,.int .i64 11,.int .u32 9] 50))
   have q1:=cellY (cell_of_row wr _ 1 _ _ _ HI.out.xb) (belY b3 (.cells #[.int .u32 8,.int .i64 2,.int .i64 1,.int .i64 11,.int .u32 9] 50))
   have b4:=belY (belY b3 (.cells #[.int .u32 8,.int .i64 2,.int .i64 1,.int .i64 11,.int .u32 9] 50)) (.cells #[.int .u32 8,.int .i64 2,.int .i64 1,.int .i64 11,.int .u32 9] 50)
   have hrow:=own_belowP HI.out.ov b4
   have lx:=(Array.getElem?_eq_some_iff.1 HI.out.xb).1
   have s3:=b3.size
   have nk:=heap_alloc_new (w3.alloc (.cells #[.int .u32 8,.int .i64 2,.int .i64 1,.int .i64 11,.int .u32 9] 50)) (.cells #[.int .u32 8,.int .i64 2,.int .i64 1,.int .i64 11,.int .u32 9] 50)
   simp only[World.size_alloc]at nk
   have hcl:∀ j u,(pgP 1).cs[j]?=some u→((w3.alloc (.cells #[.int .u32 8,.int .i64 2,.int .i64 1,.int .i64 11,.int .u32 9] 50)).alloc (.cells #[.int .u32 8,.int .i64 2,.int .i64 1,.int .i64 11,.int .u32 9] 50)).cell? ((⟨w3.heap.size+1,0,none⟩:Addr).add j)=some u:=pq_cells nk
   have hbs:w.heap.size+2 ≤ ((w3.alloc (.cells #[.int .u32 8,.int .i64 2,.int .i64 1,.int .i64 11,.int .u32 9] 50)).alloc (.cells #[.int .u32 8,.int .i64 2,.int .i64 1,.int .i64 11,.int .u32 9] 50)).heap.size:=by simp;omega
   go_wp2_with (at_builtin;refine wpList_append_own_at _ rfl (.tmp 24) (.tmp 26) 23 rfl (w.heap.size+2) 50 i0 (.agg #[.int .u32 0,.int .i64 0,.int .i64 0,.int .i64 0,.int .u32 0]) 5 40 Tryz.underlying23 hI hz0 hz1 hz2 rfl (by decide) (.slice va 1 vc) 1 (flQ 1 pgP) rfl hrow ⟨w3.heap.size+1,0,none⟩ 1 1 (pgP 1).cs rfl rfl hcl (csQ_one _) (by unfold maxLen;omega) (by omega) hbs ?_)
   intro v5 w5 o5 g5 _ s5
   obtain⟨x5,y5,rfl,hx5⟩:=own_slcP (n:=1) o5
   have nb:=fun g (hg:(Value.slice va 1 vc).ownBlock=some g)=>HI.out.ov.lt g hg
   have nu:=fun g (hg:(Value.slice ua 1 uc).ownBlock=some g)=>HI.out.ou.lt g hg
   have k5:w5.heap[w.heap.size+1]?=some (.cells #[.slice va 1 vc,.slice ua 1 uc,.int .u32 50] 26 (0,0)):=(g5.block _ (by simp;omega) (fun e=>by have:=(nb _ e.symm).1;omega)).trans ((b4.block _ lx).trans HI.out.xb)
   have p5:w5.heap[w3.heap.size]?=some (.cells #[.int .u32 8,.int .i64 2,.int .i64 1,.int .i64 11,.int .u32 9] 50 (0,0)):=(g5.block _ (by simp;omega) (fun e=>by have:=(nb _ e.symm).2;omega)).trans (((belY (Below.refl _ _) _).block w3.heap.size (by simp)).trans (heap_alloc_new w3 (.cells #[.int .u32 8,.int .i64 2,.int .i64 1,.int .i64 11,.int .u32 9] 50)))
   have u5:w5.ownsRow (w.heap.size+2) 50 5 (.slice ua 1 uc) 1 (flQ 1 pgP):=own_keepP (own_belowP HI.out.ou b4) (fun g hg=>g5.block g (by have:=(nu g hg).2;simp;omega) (fun e=>HI.out.dis g e.symm hg))
   have r0:=cell_of_row w5 _ 0 _ _ _ k5
   have r1:=cell_of_row w5 _ 1 _ _ _ k5
   have rz:=fun k=>frozen_of_row w5 _ k _ _ k5
   have t0:=cell_of_row w5 _ 0 _ _ _ p5
   have t1:=cell_of_row w5 _ 1 _ _ _ p5
   have t2:=cell_of_row w5 _ 2 _ _ _ p5
   have t3:=cell_of_row w5 _ 3 _ _ _ p5
   have t4:=cell_of_row w5 _ 4 _ _ _ p5
   have s5s:=g5.size
   simp only[World.size_alloc]at s5s
   have o6:Off [w.heap.size+1] w5 (w5.setCell ⟨w.heap.size+1,0,none⟩ (.slice (some ⟨x5,0,none⟩) 2 y5)):=Off.setCell _ _ _ _
   have u7:((w5.setCell ⟨w.heap.size+1,0,none⟩ (.slice (some ⟨x5,0,none⟩) 2 y5)).alloc (.cells #[.int .u32 8,.int .i64 2,.int .i64 1,.int .i64 11,.int .u32 9] 50)).ownsRow (w.heap.size+2) 50 5 (.slice ua 1 uc) 1 (flQ 1 pgP):=own_belowP (own_keepP u5 (fun g hg=>o6.block g (by have:=(u5.lt g hg).2;omega) (by have:=(u5.lt g hg).1;simp;omega))) (belY (Below.refl _ _) _)
   have nk7:=heap_alloc_new (w5.setCell ⟨w.heap.size+1,0,none⟩ (.slice (some ⟨x5,0,none⟩) 2 y5)) (.cells #[.int .u32 8,.int .i64 2,.int .i64 1,.int .i64 11,.int .u32 9] 50)
   have hs6:(w5.setCell ⟨w.heap.size+1,0,none⟩ (.slice (some ⟨x5,0,none⟩) 2 y5)).heap.size=w5.heap.size:=by simp[World.setCell]
   rw[hs6]at nk7
   have hcl7:∀ j u,(pgP 1).cs[j]?=some u→((w5.setCell ⟨w.heap.size+1,0,none⟩ (.slice (some ⟨x5,0,none⟩) 2 y5)).alloc (.cells #[.int .u32 8,.int .i64 2,.int .i64 1,.int .i64 11,.int .u32 9] 50)).cell? ((⟨w5.heap.size,0,none⟩:Addr).add j)=some u:=pq_cells nk7
   have hbs7:w.heap.size+2 ≤ ((w5.setCell ⟨w.heap.size+1,0,none⟩ (.slice (some ⟨x5,0,none⟩) 2 y5)).alloc (.cells #[.int .u32 8,.int .i64 2,.int .i64 1,.int .i64 11,.int .u32 9] 50)).heap.size:=by rw[World.size_alloc,hs6];omega
   have HH:Hid (_):=And.intro o5 (And.intro g5 (And.intro s5 (And.intro k5 (And.intro p5 (And.intro u5 (And.intro nb (And.intro nu b4)))))))
   clear o5 g5 s5 k5 p5 u5 hrow hcl hbs nk q0 q1 nk7 o6 nb nu
   go_wp2_with (at_builtin;refine wpList_append_own_at _ rfl (.tmp 30) (.tmp 32) 23 rfl (w.heap.size+2) 50 i0 (.agg #[.int .u32 0,.int .i64 0,.int .i64 0,.int .i64 0,.int .u32 0]) 5 40 Tryz.underlying23 hI hz0 hz1 hz2 rfl (by decide) (.slice ua 1 uc) 1 (flQ 1 pgP) rfl u7 ⟨w5.heap.size,0,none⟩ 1 1 (pgP 1).cs rfl rfl hcl7 (csQ_one _) (by unfold maxLen;omega) (by omega) hbs7 ?_)
   intro v8 w8 o8 g8 _ s8
   obtain⟨x8,y8,rfl,hx8⟩:=own_slcP (n:=1) o8
   have key:Hid (Sp w (w8.setCell ⟨w.heap.size+1,1,none⟩ (.slice (some ⟨x8,0,none⟩) 2 y8)) 2 (some ⟨x5,0,none⟩) y5 (some ⟨x8,0,none⟩) y8∧w8.heap[w.heap.size+1]?=some (.cells #[.slice (some ⟨x5,0,none⟩) 2 y5,.slice ua 1 uc,.int .u32 50] 26 (0,0))):=by
    obtain⟨o5,g5,s5,k5,p5,u5,nb,nu,b4⟩:=HH.out
    have hI':=HI.out
    have o6:Off [w.heap.size+1] w5 (w5.setCell ⟨w.heap.size+1,0,none⟩ (.slice (some ⟨x5,0,none⟩) 2 y5)):=Off.setCell _ _ _ _
    have o9:Off [w.heap.size+1] w8 (w8.setCell ⟨w.heap.size+1,1,none⟩ (.slice (some ⟨x8,0,none⟩) 2 y8)):=Off.setCell _ _ _ _
    have g8s:=g8.size
    rw[World.size_alloc,hs6]at g8s
    have wr2:w.heap.size+2≤wr.heap.size:=by omega
    have thr:∀ k,k<w5.heap.size→k≠w.heap.size+1→(∀ g,(Value.slice ua 1 uc).ownBlock=some g→k≠g)→(w8.setCell ⟨w.heap.size+1,1,none⟩ (.slice (some ⟨x8,0,none⟩) 2 y8)).heap[k]?=w5.heap[k]?:=fun k hk h1 h2=>
     (o9.block k (by omega) (by simpa using h1)).trans ((g8.block k (by rw[World.size_alloc,hs6];omega) (fun e=>h2 k e.symm rfl)).trans (((belY (Below.refl _ _) _).block k (by rw[hs6];exact hk)).trans (o6.block k hk (by simpa using h1))))
    have kk6:(w5.setCell ⟨w.heap.size+1,0,none⟩ (.slice (some ⟨x5,0,none⟩) 2 y5)).heap[w.heap.size+1]?=some (.cells #[.slice (some ⟨x5,0,none⟩) 2 y5,.slice ua 1 uc,.int .u32 50] 26 (0,0)):=heap_setCell_same _ _ _ _ _ _ k5
    have kk8:w8.heap[w.heap.size+1]?=some (.cells #[.slice (some ⟨x5,0,none⟩) 2 y5,.slice ua 1 uc,.int .u32 50] 26 (0,0)):=(g8.block _ (by rw[World.size_alloc,hs6];omega) (fun e=>by have:=(nu _ e.symm).1;omega)).trans (((belY (Below.refl _ _) _).block _ (by rw[hs6];omega)).trans kk6)
    have b5:Below w.heap.size w w5:=(hI'.bel.trans (b4.mono (by omega))).grown g5 (by simp;omega) (fun j hj=>by have:=(nb j hj).1;omega)
    have l5:=(o5.lt x5 rfl).2
    have xu:∀ g,(Value.slice ua 1 uc).ownBlock=some g→x5≠g:=fun g hg e=>by
     subst e
     rcases s5 with h | h
     ·exact hI'.dis x5 (h.symm.trans rfl) hg
     ·have h2:some x5=some _:=h
      simp only[Option.some.injEq]at h2
      have:=(nu _ hg).2
      omega
    refine⟨⟨?_,?_,heap_setCell_same _ _ _ _ _ _ kk8,?_,?_,?_⟩,kk8⟩
    ·have b6:=o6.below b5 (fun k hk=>by simp at hk;omega) b5.size
     have b7:=(b6.alloc (by rw[hs6];exact b5.size) (.cells #[.int .u32 8,.int .i64 2,.int .i64 1,.int .i64 11,.int .u32 9] 50)).grown g8 (by rw[World.size_alloc,hs6];have:=b5.size;omega) (fun j hj=>by have:=(nu j hj).1;omega)
     exact o9.below b7 (fun k hk=>by simp at hk;omega) b7.size
    ·rw[thr _ (by omega) (by omega) (fun g hg=>by have:=(nu g hg).1;omega)]
     exact (g5.block _ (by simp;omega) (fun e=>by have:=(nb _ e.symm).1;omega)).trans ((b4.block _ (by omega)).trans hI'.rb)
    ·rw[flQ_succ]
     exact own_keepP o5 (fun g hg=>by
      have e:g=x5:=by simpa [Value.ownBlock] using hg.symm
      subst e
      exact thr g l5 (by omega) xu)
    ·rw[flQ_succ]
     exact own_keepP o8 (fun g hg=>by
      have e:g=x8:=by simpa [Value.ownBlock] using hg.symm
      subst e
      exact o9.block g (o8.lt g rfl).2 (by simp;omega))
    ·intro g hg hg'
     cases hg
     have e8:x8=x5:=by simpa [Value.ownBlock] using hg'
     rcases s8 with h | h
     ·have h2:some x8=_:=h
      exact xu x8 h2.symm e8.symm
     ·have h2:some x8=some _:=h
      simp only[Option.some.injEq]at h2
      omega
   have HS:Hid (_):=key.out.1
   have f0:=cell_of_row w8 _ 0 _ _ _ key.out.2
   have f1:=cell_of_row w8 _ 1 _ _ _ key.out.2
   have fz:=fun k=>frozen_of_row w8 _ k _ _ key.out.2
   clear key o8 g8 s8 HH u7 hcl7 hbs7 HI
   go_wp2_with fail
   go_roundw
   case rel=>exact⟨2,_,_,_,_,by omega,by go_num,HS⟩
   case measure=>simp[natQ]
  ·have x0:=cell_of_row wr _ 0 _ _ _ HI.out.xb
   have x1:=cell_of_row wr _ 1 _ _ _ HI.out.xb
   have x2:=cell_of_row wr _ 2 _ _ _ HI.out.xb
   have y0:=cell_of_row wr _ 0 _ _ _ HI.out.rb
   have y1:=cell_of_row wr _ 1 _ _ _ HI.out.rb
   have y2:=cell_of_row wr _ 2 _ _ _ HI.out.rb
   have yz:=fun k=>frozen_of_row wr _ k _ _ HI.out.rb
   go_wp2_with fail
   refine bodyPost_ret (v:=.agg #[.slice va 2 vc,.slice ua 2 uc,.int .u32 50]) (by simp[results,Tryz.results17,go_sem,y0,y1,y2]) rfl ?_
   have o:Off [w.heap.size] wr (((wr.setCell ⟨w.heap.size,0,none⟩ (.slice va 2 vc)).setCell ⟨w.heap.size,1,none⟩ (.slice ua 2 uc)).setCell ⟨w.heap.size,2,none⟩ (.int .u32 50)):=((Off.setCell _ _ _ _).trans (Off.setCell _ _ _ _)).trans (Off.setCell _ _ _ _)
   have hI:=HI.out
   exact⟨va,vc,ua,uc,rfl,(own_keepP hI.ov (fun g hg=>o.block g (hI.ov.lt g hg).2 (by have:=(hI.ov.lt g hg).1;simp;omega))),(own_keepP hI.ou (fun g hg=>o.block g (hI.ou.lt g hg).2 (by have:=(hI.ou.lt g hg).1;simp;omega))),hI.dis,o.below hI.bel (fun k hk=>by simp at hk;omega) hI.bel.size⟩
end Go.Proofs.YtgaeofgdiaknpaaGreat
