/- Part 38: contracts that the proof rests on. -/
import Derived.Deep.DeepCutAuto
import Derived.Deep.CutBlock
import Derived.Deep.RegionWith
import Derived.Test.YtfgnmadnmjdbiaaGreatPkU36
set_option maxHeartbeats 64000000
set_option maxRecDepth 100000
namespace Go.Proofs.YtfgnmadnmjdbiaaGreat
open Tryz
open Go.RowKit Go.Maps
set_option linter.unusedVariables false
theorem ym (X b g cc n k hd dd dm:Nat) (s:Int) (T:TypeId) (Fn:FuncId) (P:Nat) (s0 s1 s2 s3 s4:Nat) (la:Int) (rq on:Bool) (o:Nat) (bs:Nat→Nat) (w:World)
  (cb:w.cell? ⟨X,4,none⟩=some (ac b 0)) (cv:w.cell? ⟨X,3,none⟩=some (.slice (af g 0) n cc)) (c0:w.cell? ⟨g,k*3,none⟩=some (ac hd 0)) (c1:w.cell? ⟨g,k*3+1,none⟩=some (ac dd 0)) (c2:w.cell? ⟨g,k*3+2,none⟩=some (ac dm 0)) (hlt:k<n) (hs:s=1∨s=2)
  (hA:∀ w1,Calls prog 38 #[.agg (ay hd dd dm),.int .i64 s] w1 fun r w'=>r=.returned (.iface T (ac P 0))∧Below w1.heap.size w1 w')
  (hM : ∀ w1, (method 415 T (.pointer (some ⟨P, 0, none⟩)) "See").run prog w1 = .ok (Fn, .pointer (some ⟨P, 0, none⟩)) w1) (hF : ∀ u w1, (callFunc Fn u).run prog w1 = .ok (.enter Fn u) w1)
  (hC:∀ w1,Below w.heap.size w w1→Calls prog Fn #[ac P 0] w1 fun r w'=>∃ a ca,r=.returned (.agg (bf s0 s1 s2 s3 s4 la rq on a o ca))∧Hid (Below w1.heap.size w1 w'∧Row8 w' a o ca bs∧∀ y,a=some y→0<o→w1.heap.size≤y.block)) :
  Calls prog 20 #[ac X 0,.int .i64 (k:Nat),.int .i64 s] w fun r w'=>∃ a ca,r=.returned (.tuple #[.agg (bf s0 s1 s2 s3 s4 la rq on a o ca),.int .i64 0])∧Hid (Below w.heap.size w w'∧Row8 w' a o ca bs∧∀ y,a=some y→0<o→w.heap.size≤y.block):=by
 have kA:=aC w (.cells lF 54)
 have bA:=aJ (Below.refl _ w) (.cells lF 54)
 have sA:=gU w (.cells lF 54)
 obtain⟨wa,hwa⟩:∃ z,w.alloc (.cells lF 54)=z:=⟨_,rfl⟩
 obtain⟨x,hx⟩:∃ z,w.heap.size=z:=⟨_,rfl⟩
 rw[hwa]at kA bA sA
 have HB:Hid (Below w.heap.size w wa):=bA
 have d3:=ag cv bA
 have d0:=ag c0 bA
 have d1:=ag c1 bA
 have d2:=ag c2 bA
 have hN:=wg X b wa (ag cb bA)
 have hH:=zl X (af g 0) n cc ((k:Nat):Int) wa d3
 rw[decide_eq_true (by omega)]at hH
 have hI:=pM s wa
 rw[show ((s == 1) || (s == 2))=true by simpa using hs]at hI
 have hAc:=hA wa
 rw[hx]at kA sA
 have HK:Hid (_):=kA
 have HS:Hid (w.heap.size=x):=hx
 have HZ:Hid (wa.heap.size=x+1):=sA
 have HE:Hid (_=wa):=hwa
 have HC:Hid (_):=hC
 have hlt':((k:Nat):Int) < ((n:Nat):Int):=by omega
 clear kA bA sA hwa hx hC hA cb cv c0 c1 c2 hs hlt
 go_enter func20,ntmps20
 go_upto_region 1 with fail
 rw[HE.out,HS.out]
 go_wp2_with fail
 refine hN.mono ?_
 rintro r w2 ⟨rfl,hw⟩
 rw[hw]
 clear hw
 clear hN
 go_wp2_with fail
 refine hH.mono ?_
 rintro r w2 ⟨rfl,hw⟩
 rw[hw]
 clear hw
 clear hH
 go_wp2_with fail
 refine hI.mono ?_
 rintro r w2 ⟨rfl,hw⟩
 rw[hw]
 clear hw
 clear hI
 go_wp2_with fail
 refine hAc.mono ?_
 rintro r w4 ⟨rfl,b4⟩
 clear hAc d0 d1 d2 d3
 have hCc:=(show Calls prog Fn #[ac P 0] w4 (fun r w'=>∃ a ca,r=.returned (.agg (bf s0 s1 s2 s3 s4 la rq on a o ca))∧Hid (Below w4.heap.size w4 w'∧Row8 w' a o ca bs∧∀ y,a=some y→0<o→w4.heap.size≤y.block)) from HC.out w4 (HB.out.trans (b4.mono HB.out.size)))
 have HB4:Hid (_):=b4
 clear b4
 go_wp2_with fail
 refine hCc.mono ?_
 rintro r w5 ⟨a,ca,rfl,H5⟩
 clear hCc
 have b45:Below wa.heap.size wa w5:=HB4.out.trans (H5.out.1.mono HB4.out.size)
 have k5:=(b45.block x (by rw[HZ.out];omega)).trans HK.out
 have y0:=ae w5 x 0 _ _ _ k5
 have y1:=ae w5 x 1 _ _ _ k5
 have y2:=ae w5 x 2 _ _ _ k5
 have y3:=ae w5 x 3 _ _ _ k5
 have y4:=ae w5 x 4 _ _ _ k5
 have y5:=ae w5 x 5 _ _ _ k5
 have y6:=ae w5 x 6 _ _ _ k5
 have y7:=ae w5 x 7 _ _ _ k5
 have y8:=ae w5 x 8 _ _ _ k5
 have yz:=fun j=>frozen_of_row w5 x j _ _ k5
 have HB5:Hid (_):=b45
 clear b45 k5
 go_wp2_with fail
 refine bodyPost_ret (v:=.tuple #[.agg (bf s0 s1 s2 s3 s4 la rq on a o ca),.int .i64 0]) (by simp[results,results20,go_sem,y0,y1,y2,y3,y4,y5,y6,y7,y8]) rfl ?_
 have oo:Off [x] w5 (((((((((w5.setCell ⟨x,0,none⟩ (Value.int .i64 (s0:Nat))).setCell ⟨x,1,none⟩ (Value.int .u32 (s1:Nat))).setCell ⟨x,2,none⟩ (Value.int .u32 (s2:Nat))).setCell ⟨x,3,none⟩ (Value.int .u32 (s3:Nat))).setCell ⟨x,4,none⟩ (Value.int .i64 (s4:Nat))).setCell ⟨x,5,none⟩ (Value.int .i64 la)).setCell ⟨x,6,none⟩ (Value.bool rq)).setCell ⟨x,7,none⟩ (Value.bool on)).setCell ⟨x,8,none⟩ (Value.slice a o ca)):=((((((((Off.setCell x 0 w5 _).trans (Off.setCell x 1 _ _)).trans (Off.setCell x 2 _ _)).trans (Off.setCell x 3 _ _)).trans (Off.setCell x 4 _ _)).trans (Off.setCell x 5 _ _)).trans (Off.setCell x 6 _ _)).trans (Off.setCell x 7 _ _)).trans (Off.setCell x 8 _ _)
 have hb:=HB.out
 have h4:=HB4.out.size
 have h5:=HZ.out
 have hsx:=HS.out
 refine⟨a,ca,rfl,oo.below (hb.trans (HB5.out.mono hb.size)) (by simp;omega) (Nat.le_trans hb.size HB5.out.size),Row8.offY H5.out.2.1 oo (fun y hy hn hm=>?_),fun y hy hn=>?_⟩
 ·have:=H5.out.2.2 y hy hn
  simp at hm
  omega
 ·have:=H5.out.2.2 y hy hn
  omega
theorem PWn.bagp {e:Nat→Nat} {w0 w:World} {t:Nat→Thing} {L:Pw} {S:Ws} (h:PWn e w0 t L w S):∃ b,w.cell? ⟨L.x,4,none⟩=some (ac b 0):=by
 obtain⟨t1,L1,h1,hs,hx,he⟩:=h
 have c4:w.cell? ⟨L1.x,4,none⟩=some (ac L1.b 0):=ae w L1.x 4 _ _ _ (h1.2.wb h1.1).blk
 rw[hx.x]at c4
 exact⟨_,c4⟩
theorem xj {e:Nat→Nat} {w0 w:World} {t:Nat→Thing} {L:Pw} {S:Ws} {k:Nat} (h:PWn e w0 t L w S) (hk:k<S.n):Calls prog 20 #[ac L.x 0,.int .i64 (k:Nat),.int .i64 1] w fun r w'=>∃ a ca,r=.returned (.tuple #[.agg #[.int .i64 ((S.hs k).st:Nat),.int .u32 ((S.hs k).ss:Nat),.int .u32 ((S.hs k).nm:Nat),.int .u32 ((S.hs k).sn:Nat),.int .i64 ((S.hs k).dc:Nat),.int .i64 (S.hs k).v.lat,.bool (aq (S.hs k).v),.bool (aA (S.hs k).v),.slice a (S.PH k).i ca],.int .i64 0])∧Hid (Below w.heap.size w w'∧Row8 w' a (S.PH k).i ca (cF (S.hs k).v)∧∀ y,a=some y→0 < (S.PH k).i→w.heap.size≤y.block):=by
 obtain⟨cv,c0,c1,c2⟩:=h.conn hk
 obtain⟨b,cb⟩:=h.bagp
 exact ym L.x b (fa L.vc) (gW L.vc) S.n k (L.hd k) (L.dd k) (L.dm k) 1 75 34 (L.hd k) _ _ _ _ _ _ _ _ _ _ w cb cv c0 c1 c2 hk (.inl rfl) (fun w1 => rW _ _ _ w1) (fun w1 => (by kernel_rfl : (method 415 75 (.pointer (some ⟨L.hd k, 0, none⟩)) "See").run prog w1 = .ok (34, .pointer (some ⟨L.hd k, 0, none⟩)) w1)) (fun u w1 => (by kernel_rfl : (callFunc 34 u).run prog w1 = .ok (.enter 34 u) w1)) (fun w1 b1 => by
  obtain⟨U,hv⟩:=(h.below b1).hv hk
  refine (iL (L.hd k) (S.PH k) U (S.hs k) w1 hv).mono ?_
  rintro r w' ⟨a,ca,rfl,H⟩
  exact⟨a,ca,rfl,H.out.2.2,H.out.2.1,H.out.1.newY⟩)
theorem wW {e:Nat→Nat} {w0 w:World} {t:Nat→Thing} {L:Pw} {S:Ws} {k:Nat} (h:PWn e w0 t L w S) (hk:k<S.n):Calls prog 20 #[ac L.x 0,.int .i64 (k:Nat),.int .i64 2] w fun r w'=>∃ a ca,r=.returned (.tuple #[.agg #[.int .i64 ((S.ds k).st:Nat),.int .u32 ((S.ds k).ss:Nat),.int .u32 ((S.ds k).nm:Nat),.int .u32 ((S.ds k).sn:Nat),.int .i64 ((S.ds k).dc:Nat),.int .i64 (S.ds k).v.lat,.bool (aq (S.ds k).v),.bool (aA (S.ds k).v),.slice a (S.PD k).o ca],.int .i64 0])∧Hid (Below w.heap.size w w'∧Row8 w' a (S.PD k).o ca (cF (S.ds k).v)∧∀ y,a=some y→0 < (S.PD k).o→w.heap.size≤y.block):=by
 obtain⟨cv,c0,c1,c2⟩:=h.conn hk
 obtain⟨b,cb⟩:=h.bagp
 exact ym L.x b (fa L.vc) (gW L.vc) S.n k (L.hd k) (L.dd k) (L.dm k) 2 76 35 (L.dd k) _ _ _ _ _ _ _ _ _ _ w cb cv c0 c1 c2 hk (.inr rfl) (fun w1 => sb _ _ _ w1) (fun w1 => (by kernel_rfl : (method 415 76 (.pointer (some ⟨L.dd k, 0, none⟩)) "See").run prog w1 = .ok (35, .pointer (some ⟨L.dd k, 0, none⟩)) w1)) (fun u w1 => (by kernel_rfl : (callFunc 35 u).run prog w1 = .ok (.enter 35 u) w1)) (fun w1 b1 => by
  obtain⟨g,U,dv⟩:=(h.below b1).dv hk
  refine (io (L.dd k) (L.dm k) g 16 S.mx (S.PD k) U (S.ds k) w1 dv).mono ?_
  rintro r w' ⟨a,ca,rfl,H⟩
  exact⟨a,ca,rfl,H.out.2.2,H.out.2.1,H.out.1.newY⟩)
def sN (n mx:Nat) (PH PD:Nat→Pm):Ws:=⟨n,PH,PD,fun _=>bG,fun _=>dw M0,mx,[],0,[]⟩
theorem yj (n mx:Nat) (PH PD:Nat→Pm):(sN n mx PH PD).In:=
 ⟨fun k hk=>Ih.new_ _,fun k hk=>Iv.new_ _,fun k hk=>Nat.le_refl _,fun k hk=>⟨Nat.le_refl _,by show (0:Int)≤6 * ((0:Nat):Int);decide⟩,Nat.le_refl _,Nat.le_refl _⟩
open Go.RowKit Go.Maps Go.Sort
section
variable {P:Pm}
end
end Go.Proofs.YtfgnmadnmjdbiaaGreat
namespace Go.Proofs.YtfgnmadnmjdbiaaGreat
open Tryz
open Go.RowKit Go.Maps
set_option linter.unusedVariables false
theorem PWn.turnB {e:Nat→Nat} {w0 w w':World} {t:Nat→Thing} {L:Pw} {S:Ws} {i q:Nat} {ob ob':Obj} (h:PWn e w0 (aG t i (eZ [(q,ob)])) L w S) (hi:∀ j,i≠e j) (o:Off [q] w w') (hob:w'.heap[q]?=some ob'):PWn e w0 (aG t i (eZ [(q,ob')])) L w' S:=by
 obtain⟨t1,L1,h1,hs,hx,he⟩:=h
 have e1:t1 i=eZ [(q,ob)]:=by rw[he i hi,ak]
 have u1:(t1 i).U=[q]:=by rw[e1];rfl
 have lq:=(Array.getElem?_eq_some_iff.1 hob).1
 have hq:=h1.1.lt i q (by rw[u1];exact List.mem_singleton.2 rfl)
 refine⟨aG t1 i (eZ [(q,ob')]),L1,⟨h1.1.turn i _ (by rw[u1];exact o) ?_ ?_ ?_,h1.2.1,fun j=>by rw[an _ _ (fun z=>hi j z.symm)];exact h1.2.2 j⟩,hs,hx,fun k hk=>?_⟩
 ·intro p hp
  obtain rfl:=List.mem_singleton.1 hp
  exact hob
 ·intro k hk
  have hk:k ∈ [q]:=hk
  obtain rfl:=List.mem_singleton.1 hk
  exact⟨hq.1,lq⟩
 ·intro k hk j hj
  have hk:k ∈ [q]:=hk
  exact h1.1.dis i j (fun z=>hj z.symm) k (by rw[u1];exact hk)
 ·by_cases z:k=i
  ·subst z
   rw[ak,ak]
  ·rw[an _ _ z,an _ _ z,he k hk,an _ _ z]
theorem zV {A:Array Value} {n:Nat} {v0 v1 v2 v3 v4 v5 v6 v7 v8:Value} (h0:A.toList[n+0]?=some v0) (h1:A.toList[n+1]?=some v1) (h2:A.toList[n+2]?=some v2) (h3:A.toList[n+3]?=some v3) (h4:A.toList[n+4]?=some v4) (h5:A.toList[n+5]?=some v5) (h6:A.toList[n+6]?=some v6) (h7:A.toList[n+7]?=some v7) (h8:A.toList[n+8]?=some v8):∀ j v,(#[v0,v1,v2,v3,v4,v5,v6,v7,v8]:Array Value).toList[j]?=some v→A.toList[n+j]?=some v:=fun j v hv=>by
 have hj:j<9:=(List.getElem?_eq_some_iff.1 hv).1
 have:j=0∨j=1∨j=2∨j=3∨j=4∨j=5∨j=6∨j=7∨j=8:=by omega
 rcases this with rfl | rfl | rfl | rfl | rfl | rfl | rfl | rfl | rfl
 ·exact h0.trans hv
 ·exact h1.trans hv
 ·exact h2.trans hv
 ·exact h3.trans hv
 ·exact h4.trans hv
 ·exact h5.trans hv
 ·exact h6.trans hv
 ·exact h7.trans hv
 ·exact h8.trans hv
theorem dQ (w:World) {A:Array Value} (hs:A.size=9) (ho:A.all (·.oneCell')=true):∃ wz,(storeCells ⟨w.heap.size,0,none⟩ A.toList).run prog (w.alloc (.cells lF 54))=.ok () wz∧wz.rangeAt w.heap.size 0 A.toList∧Below w.heap.size w wz∧wz.there w.heap.size 0 9:=by
 have kr:=aC w (.cells lF 54)
 have h9:(w.alloc (.cells lF 54)).there w.heap.size 0 9:=bc kr rfl
 have hth:(w.alloc (.cells lF 54)).there w.heap.size 0 A.size:=by rw[hs];exact h9
 exact⟨_,fD hth ho,World.rangeAt_setCells_same _ w.heap.size 0 A.toList (by simpa using hth),(bN _ w.heap.size 0 A.toList).below (aJ (Below.refl _ _) _) (by simp) (by rw[gU];omega),World.there_setCells h9 _ _ _⟩
theorem bP {P:Program} {ops:Array Oper} {rest:List Oper} {op:Oper} {a:Act} {w:World} {Q:Exit→Act→World→Prop} (hw:Region.wanted op (yielded ops a.tmps)=true) (ty:TypeId) (x:Operand) (ho:op.op=.load ty x)
  (b o:Nat) (hx:a.eval x=ac b o) (A:Array Value) (d:TypeDesc) (hc:w.rangeAt b o A.toList)
  (hu:P.underlying ty=some d) (hd:d.isRow=true) (hi:(P.info? ty).map (·.size)=some A.size)
  (h:wpList P ops Q rest (a.put op.dst (.agg A)) w):wpList P ops Q (op :: rest) a w:=
 iC hw ty x ho b o hx A.toList d hc hu hd (by simpa using hi) (by simpa using h)
theorem fV (w:World) {A:Array Value} (hs:A.size=29) (ho:A.all (·.oneCell')=true):∃ wz,(storeCells ⟨w.heap.size,0,none⟩ A.toList).run prog (w.alloc (.cells cu 56))=.ok () wz∧wz.rangeAt w.heap.size 0 A.toList∧Below w.heap.size w wz:=by
 have kr:=aC w (.cells cu 56)
 have hth:(w.alloc (.cells cu 56)).there w.heap.size 0 A.size:=bc kr (by rw[hs];rfl)
 exact⟨_,fD hth ho,World.rangeAt_setCells_same _ w.heap.size 0 A.toList (by simpa using hth),(bN _ w.heap.size 0 A.toList).below (aJ (Below.refl _ _) _) (by simp) (by rw[gU];omega)⟩
open Go.ChangeShapes Go.WideShapes Go.ChangeAt Go.RowKit Go.Joins Go.Deep
section
variable {H:Type} {enc:TypeId × Value→H} {w:World} {base:Nat} {spare:TypeId→Bool} {held:Bool}
end
end Go.Proofs.YtfgnmadnmjdbiaaGreat
namespace Go.Proofs.YtfgnmadnmjdbiaaGreat
open Tryz
open Go.RowKit Go.Maps
set_option linter.unusedVariables false
def j7:Value→Nat
 | .int _ i=>i.toNat
 | _=>0
theorem gS {w0 w:World} {t:Nat→Thing} {L:Pw} {S:Ws} {i:Nat} (m:Mv) (d:Option Addr) (c:Nat) (h:PWn ev w0 t L w S) (F:Fre ev t i) (I:S.In) (ok:m.Ok) (hn:0<S.n) (R:Row8 w d m.l c m.b) (hd:∀ y,d=some y→0<m.l→y.block≠L.x) (hl:m.l≤140737488351232):Calls prog 16 #[ac L.x 0,.agg (aj m m.c d c)] w fun r w'=>∃ (A:Array Value) (E:Int),r=.returned (.tuple #[.agg A,.int .i64 E])∧A.size=29∧A.all (·.oneCell')=true∧Hid (E=S.bad m∧PWn ev w0 t L w' (S.play m).S∧(S.bad m=0→A.toList[9]?=some (.int .i64 (S.play m).e)∧A.toList[10]?=some (.int .i64 (S.play m).i)∧∃ (hV dV:Array Value) (ah:Option Addr) (ch:Nat) (ad:Option Addr) (cd:Nat),hV=#[Value.int .i64 (((S.play m).S.hs m.c.toNat).st:Nat),Value.int .u32 (((S.play m).S.hs m.c.toNat).ss:Nat),Value.int .u32 (((S.play m).S.hs m.c.toNat).nm:Nat),Value.int .u32 (((S.play m).S.hs m.c.toNat).sn:Nat),Value.int .i64 (((S.play m).S.hs m.c.toNat).dc:Nat),Value.int .i64 ((S.play m).S.hs m.c.toNat).v.lat,Value.bool (aq ((S.play m).S.hs m.c.toNat).v),Value.bool (aA ((S.play m).S.hs m.c.toNat).v),Value.slice ah ((S.play m).S.PH m.c.toNat).i ch]∧dV=#[Value.int .i64 (((S.play m).S.ds m.c.toNat).st:Nat),Value.int .u32 (((S.play m).S.ds m.c.toNat).ss:Nat),Value.int .u32 (((S.play m).S.ds m.c.toNat).nm:Nat),Value.int .u32 (((S.play m).S.ds m.c.toNat).sn:Nat),Value.int .i64 (((S.play m).S.ds m.c.toNat).dc:Nat),Value.int .i64 ((S.play m).S.ds m.c.toNat).v.lat,Value.bool (aq ((S.play m).S.ds m.c.toNat).v),Value.bool (aA ((S.play m).S.ds m.c.toNat).v),Value.slice ad ((S.play m).S.PD m.c.toNat).o cd]∧(∀ j v,hV.toList[j]?=some v→A.toList[11+j]?=some v)∧(∀ j v,dV.toList[j]?=some v→A.toList[20+j]?=some v)∧Row8 w' ah ((S.play m).S.PH m.c.toNat).i ch (cF ((S.play m).S.hs m.c.toNat).v)∧Row8 w' ad ((S.play m).S.PD m.c.toNat).o cd (cF ((S.play m).S.ds m.c.toNat).v))):=by
 obtain⟨t1,L1,h1,hs,hx,he⟩:=h
 subst hs
 have F1:=F.els he
 have hP:=uN ev w0 w t1 L1 i m d c h1 F1 I ok hn R (fun y hy h0=>by rw[hx.x];exact hd y hy h0) hl
 rw[hx.x]at hP
 refine hP.mono ?_
 rintro r w' (⟨hb,rfl,H⟩ | ⟨hb,a',c',ah,ch,ad,cd,rfl,H⟩)
 ·refine⟨_,_,rfl,rfl,by kernel_rfl,rfl,?_,fun q=>absurd q hb⟩
  have hp:(L1.S.play m).S=L1.S:=by
   unfold Ws.play
   rw[if_pos hb]
  rw[hp]
  exact PWn.bind hx he H.out.1.n
 ·have r1:=H.out.rowq (q:=2 * (i+2)+1) (fun j=>by unfold ev;omega) (by unfold uz;rw[an _ _ (by omega)];exact ak _ _ _)
  have r2:=H.out.rowq (q:=2 * (i+3)+1) (fun j=>by unfold ev;omega) (by unfold uz;exact ak _ _ _)
  exact⟨_,_,rfl,rfl,by kernel_rfl,hb.symm,PWn.bind hx he (H.out.dropR F1),fun _=>⟨rfl,rfl,_,_,ah,ch,ad,cd,rfl,rfl,zV (n:=11) rfl rfl rfl rfl rfl rfl rfl rfl rfl,zV (n:=20) rfl rfl rfl rfl rfl rfl rfl rfl rfl,r1,r2⟩⟩
theorem jz {k c s f n:Nat} (hk:k≤10000) (hc:c≤10000) (hs:s≤10000) (hf:f≤10000) (hn:n≤10000000) (l:Nat) (b:Nat→Nat):Mv.Ok ⟨(k:Nat),(c:Nat),(s:Nat),(f:Nat),0,0,(n:Nat),false,l,b⟩:=⟨by dsimp only;omega,by dsimp only;omega,by dsimp only;omega,by dsimp only;omega,by dsimp only;omega,by dsimp only;omega,by dsimp only;omega⟩
theorem PWn.rowB {w0 w:World} {t:Nat→Thing} {L:Pw} {S:Ws} {i q:Nat} {ob:Obj} {A:Array Value} (F:Fre ev t i) (h:PWn ev w0 (aG t (2*i+1) (eZ [(q,ob)])) L w S) (hth:w.there q 0 29) (hs:A.size=29) (ho:A.all (·.oneCell')=true):∃ w' ob',(storeCells ⟨q,0,none⟩ A.toList).run prog w=.ok () w'∧PWn ev w0 (aG t (2*i+1) (eZ [(q,ob')])) L w' S∧w'.there q 0 29∧w'.rangeAt q 0 A.toList∧(∀ w1:World,Below w1.heap.size w1 w→w1.heap.size≤q→Below w1.heap.size w1 w'):=by
 have ta:w.there q 0 A.size:=by rw[hs];exact hth
 have t2:=World.there_setCells hth q 0 A.toList
 obtain⟨v0,hv0⟩:=Option.isSome_iff_exists.1 (t2 0 (by decide)).1
 have lt:=World.block_lt_of_cell? _ _ hv0
 exact⟨w.setCells q 0 A.toList,_,fD ta ho,h.turnB (F i (Nat.le_refl _)).1 (bN w q 0 A.toList) (Array.getElem?_eq_getElem lt),t2,World.rangeAt_setCells_same w q 0 A.toList (by simpa using ta),fun w1 hb hq=>(bN w q 0 A.toList).below hb (fun k hk=>by simp at hk;omega) hb.size⟩
theorem gN {w w':World} {b n:Nat} (h:w.there b 0 n) (e:w'.heap[b]?=w.heap[b]?):w'.there b 0 n:=fun j hj=>by
 obtain⟨h1,h2⟩:=h j hj
 exact⟨by rw[World.cell?_of_block (a:=⟨b,0+j,none⟩) e];exact h1,by rw[World.frozen?_of_block (a:=⟨b,0+j,none⟩) e];exact h2⟩
theorem ub {w:World} {b:Nat} {A:Array Value} (hs:A.size=29) (hr:w.rangeAt b 0 A.toList):(loadVar 56 ⟨b,0,none⟩).run prog w=.ok (.agg A) w:=by
 have hi:(prog.info? 56).map (·.size)=some A.toList.length:=by rw[Array.length_toList,hs];kernel_rfl
 have:=run_loadVar_mid w b 0 56 A.toList _ hr underlying56 rfl hi
 rw[Array.toArray_toList]at this
 exact this
theorem yI {w0 w:World} {t:Nat→Thing} {L:Pw} {S:Ws} {i c s f:Nat} (h:PWn ev w0 t L w S) (F:Fre ev t i) (I:S.In) (hn:0<S.n) (hc:c≤10000) (hs:s≤10000) (hf:f≤10000):Calls prog 18 #[ac L.x 0,.int .i64 (c:Nat),.int .i64 (s:Nat),.int .i64 (f:Nat)] w fun r w'=>∃ (A:Array Value) (E:Int),r=.returned (.tuple #[.agg A,.int .i64 E])∧A.size=29∧A.all (·.oneCell')=true∧Hid (E=S.bad (be c s f)∧PWn ev w0 t L w' (S.play (be c s f)).S∧(S.bad (be c s f)=0→A.toList[9]?=some (.int .i64 (S.play (be c s f)).e)∧A.toList[10]?=some (.int .i64 (S.play (be c s f)).i))):=by
 have kR:=aC w (.cells cu 56)
 have bR:=aJ (Below.refl _ w) (.cells cu 56)
 obtain⟨wa,hwa⟩:∃ z,w.alloc (.cells cu 56)=z:=⟨_,rfl⟩
 rw[hwa]at kR bR
 have h1:=h.layL bR (i:=2*i+1) (F i (Nat.le_refl _)).1 (l:=[(w.heap.size,.cells cu 56 (0,0))]) (fun p hp=>by
  simp only[List.mem_cons,List.not_mem_nil,or_false]at hp
  subst hp
  exact kR) (fun p hp=>by
  simp only[List.mem_cons,List.not_mem_nil,or_false]at hp
  subst hp
  exact Nat.le_refl _)
 have hth:wa.there w.heap.size 0 29:=bc kR rfl
 obtain⟨x,hx⟩:∃ z,w.heap.size=z:=⟨_,rfl⟩
 have HS:Hid (w.heap.size=x):=hx
 rw[hx]at h1 kR hth
 have hP:=gS (i:=i+1) (be c s f) none 0 h1 (F.put _) I (jz (k:=3) (n:=0) (by omega) hc hs hf (by omega) 0 _) hn (cq _ _) (fun y hy=>by cases hy) (by show (0:Nat)≤_;omega)
 have HP:Hid (_):=hP
 have HE:Hid (_=wa):=hwa
 have HK:Hid (wa.heap[x]?=_):=kR
 have HT:Hid (_):=hth
 obtain⟨X,hX⟩:∃ y,L.x=y:=⟨_,rfl⟩
 have HX:Hid (L.x=X):=hX
 rw[hX]
 clear kR bR hwa h1 hth hx hP hX
 go_enter func18,ntmps18
 go_upto_region 1 with fail
 rw[HE.out,HS.out]
 have hP:=HP.out
 rw[HX.out]at hP
 clear HP
 go_wp2_with fail
 refine Calls.mono hP ?_
 rintro r w1 ⟨A,E,rfl,hsA,hoA,H1⟩
 clear hP
 have kb:=H1.out.2.1.box (q:=2*i+1) (F i (Nat.le_refl _)).1 (ak _ _ _) _ (List.mem_cons_self ..)
 obtain⟨w2,ob',hst,h2,_,hrg,_⟩:=PWn.rowB F H1.out.2.1 (gN HT.out (kb.trans HK.out.symm)) hsA hoA
 have HF:Hid (_):=And.intro h2 (And.intro hrg H1.out)
 clear h2 hrg H1 kb
 go_wp2_with fail
 refine bodyPost_ret (v:=.tuple #[.agg A,.int .i64 E]) ((dH (t:=8) (u:=9) (ty:=56) rfl _ prog w2 (by kernel_rfl) (ub hsA HF.out.2.1)).trans (by kernel_rfl)) rfl ?_
 obtain⟨h2,hrg,hE,_,hr⟩:=HF.out
 exact⟨A,E,rfl,hsA,hoA,hE,h2.drop (F i (Nat.le_refl _)).1 (F i (Nat.le_refl _)).2,fun q=>⟨(hr q).1,(hr q).2.1⟩⟩
structure Xs (P:Pm) (S S':Ws) (c k a:Nat):Prop where
 ex:∃ F R h2,Ex P S.mx (S.hs c) (S.ds c) F R h2 k a∧S'.hs c=h2∧S'.ds c=R.s
 sm:Sm S S' 3
theorem exS {S:Ws} {c k a:Nat} {P:Pm} (I:S.In) (K:S.Kn) (hc:c<S.n) (hmv:S.mv+3≤4096) (h1:S.PH c=P) (h2:S.PD c=P) (J:Pj (S.hs c) (S.ds c) k a) (hk:k=1∨k=2∨k=3∨k=4) (ha:if k=4 then a+1<P.n else a=0) :
  S.bad (cS c)=0∧(S.play (cS c)).i=((S.bg.length:Nat):Int)∧∀ S1,(S.play (cS c)).S=S1→S1.Kn →
   S1.bad (be c 2 S.bg.length)=0∧(S1.play (be c 2 S.bg.length)).i=((S.bg.length+1:Nat):Int)∧∀ S2,(S1.play (be c 2 S.bg.length)).S=S2→S2.Kn →
    S2.bad (be c 1 (S.bg.length+1))=0∧(S2.play (be c 1 (S.bg.length+1))).e=0∧Xs P S (S2.play (be c 1 (S.bg.length+1))).S c k a:=by
 have hP:Pok P:=by rw[← h1];exact K.ph c hc
 have M:=K.mo c hc
 obtain⟨hE,ex⟩:=xn (mx:=S.mx) hP M.mx0 M.mxl J hk ha
 have b1:=vG (S:=S) (c:=c) (by omega) hc
 obtain⟨i1,g1,hs1,ds1,_⟩:=sc b1 (by rw[h1];exact ex.f1)
 refine⟨b1,i1,?_⟩
 rintro S1 rfl K1
 have m1:=dM I K (cS c)
 rw[h1]at hs1 g1
 have g1':(S.play (cS c)).S.bg[S.bg.length]?=some (az P (S.hs c)):=by rw[g1];simp
 have b2:=qj (S:=(S.play (cS c)).S) (c:=c) (s:=2) (f:=S.bg.length) (by have:=m1.mv;omega) (by rw[m1.n];exact hc) (.inr rfl) (by rw[g1];simp)
 have p2:=rx b2 g1'
 rw[m1.pd,h2,m1.mx,ds1]at p2
 obtain⟨i2,g2,hs2,ds2,_⟩:=p2 ex.rf
 refine⟨b2,by rw[i2,g1];simp,?_⟩
 rintro S2 rfl K2
 have m2:=m1.trans (dM m1.I K1 (be c 2 S.bg.length))
 have g2':((S.play (cS c)).S.play (be c 2 S.bg.length)).S.bg[S.bg.length+1]?=some (au P S.mx 16 (S.ds c) (az P (S.hs c)).1 (az P (S.hs c)).2).f:=by rw[g2,g1];simp
 have b3:=qj (S:=((S.play (cS c)).S.play (be c 2 S.bg.length)).S) (c:=c) (s:=1) (f:=S.bg.length+1) (by have:=m2.mv;omega) (by rw[m2.n];exact hc) (.inl rfl) (by rw[g2,g1];simp)
 obtain⟨hs3,ds3,e3⟩:=rz b3 g2'
 rw[m2.ph,h1,hs2,hs1]at hs3 e3
 exact⟨b3,e3.trans ex.he,⟨_,_,_,ex,hs3,ds3.trans ds2⟩,m2.trans (dM m2.I K2 _)⟩
theorem jy {v:Vs} (h:aq v=false):dY v=v:=by
 unfold dY
 rw[if_neg (by rw[h];simp)]
theorem iE {s:Sh} (h:aq s.v=false):fc s=s:=by
 show { s with v:=dY s.v }=s
 rw[jy h]
theorem iD {s:Sd} (h:aq s.v=false):cQ s=s:=by
 unfold cQ
 split
 ·rfl
 ·show { s with v:=dY s.v }=s
  rw[jy h]
def wl (S:Ws) (c:Nat):Bool:=(decide ((S.hs c).st=4) && decide ((S.hs c).v.lat=0)) && (decide ((S.ds c).st=4) && decide ((S.ds c).v.lat=0)) && decide ((S.hs c).ss=(S.ds c).ss)
structure Xa (P:Pm) (S S':Ws) (c k a:Nat):Prop where
 ex:∃ F R h2,Ex P S.mx (S.hs c) (S.ds c) F R h2 k a∧S'.hs c=fc h2∧S'.ds c=cQ R.s
 sm:Sm S S' 5
theorem Xa.pj {P:Pm} {S S':Ws} {c k a:Nat} (hk:k=1∨k=2∨k=3∨k=4) (h:Xa P S S' c k a):Pj (S'.hs c) (S'.ds c) (if k=4 then 4 else k+1) (if k=4 then a+1 else a):=by
 obtain⟨F,R,h2,ex,e1,e2⟩:=h.ex
 rw[e1,e2]
 have j:=ex.pj
 have h6:R.s.st≠6:=by rw[j.dst];split <;> omega
 have e:cQ R.s={ R.s with v:=dY R.s.v }:=by unfold cQ;rw[if_neg h6]
 rw[e]
 exact⟨j.hst,j.dst,j.hss,j.dss,j.hnm,j.hsn,j.dnm,j.dsn,j.wt,fun z=>by exfalso;split at z <;> omega⟩
theorem Xa.lat {P:Pm} {S S':Ws} {c k a:Nat} (h:Xa P S S' c k a) (h1:(S.hs c).v.lat=0) (h2:(S.ds c).v.lat=0):(S'.hs c).v.lat=0∧(S'.ds c).v.lat=0:=by
 obtain⟨F,R,q,ex,e1,e2⟩:=h.ex
 have a1:=ex.hl.trans h1
 have a2:=ex.dl.trans h2
 have r:∀ v:Vs,v.lat=0→aq v=false:=fun v z=>by unfold aq;rw[z];simp
 rw[e1,e2,iE (r _ a1),iD (r _ a2)]
 exact⟨a1,a2⟩
theorem iV {S:Ws} {c k a:Nat} (J:Pj (S.hs c) (S.ds c) k a) (h1:(S.hs c).v.lat=0) (h2:(S.ds c).v.lat=0):wl S c=decide (k=4):=by
 unfold wl
 rw[J.hst,J.dst,J.hss,J.dss,h1,h2]
 by_cases e:k=4
 ·subst e;rfl
 ·simp[e]
def zz (A:Array Value) (st ss:Nat) (v:Vs) (n:Nat) (w:World):Prop:=A.toList[0]?=some (.int .i64 (st:Nat))∧A.toList[1]?=some (.int .u32 (ss:Nat))∧A.toList[5]?=some (.int .i64 v.lat)∧A.toList[6]?=some (.bool (aq v))∧A.toList[7]?=some (.bool (aA v))∧∃ a ca,A.toList[8]?=some (.slice a n ca)∧Row8 w a n ca (cF v)
theorem me {w0 w:World} {t:Nat→Thing} {L:Pw} {S:Ws} {c:Nat} (h:PWn ev w0 t L w S) (hc:c<S.n):Calls prog 20 #[ac L.x 0,.int .i64 (c:Nat),.int .i64 1] w fun r w'=>∃ A:Array Value,r=.returned (.tuple #[.agg A,.int .i64 0])∧A.size=9∧A.all (·.oneCell')=true∧Hid (zz A (S.hs c).st (S.hs c).ss (S.hs c).v (S.PH c).i w'∧Below w.heap.size w w'):=by
 refine (xj h hc).mono ?_
 rintro r w' ⟨a,ca,rfl,H⟩
 exact⟨_,rfl,rfl,by kernel_rfl,⟨rfl,rfl,rfl,rfl,rfl,a,ca,rfl,H.out.2.1⟩,H.out.1⟩
theorem l9 {w0 w:World} {t:Nat→Thing} {L:Pw} {S:Ws} {c:Nat} (h:PWn ev w0 t L w S) (hc:c<S.n):Calls prog 20 #[ac L.x 0,.int .i64 (c:Nat),.int .i64 2] w fun r w'=>∃ A:Array Value,r=.returned (.tuple #[.agg A,.int .i64 0])∧A.size=9∧A.all (·.oneCell')=true∧Hid (zz A (S.ds c).st (S.ds c).ss (S.ds c).v (S.PD c).o w'∧Below w.heap.size w w'):=by
 refine (wW h hc).mono ?_
 rintro r w' ⟨a,ca,rfl,H⟩
 exact⟨_,rfl,rfl,by kernel_rfl,⟨rfl,rfl,rfl,rfl,rfl,a,ca,rfl,H.out.2.1⟩,H.out.1⟩
theorem Sm.mono2 {S S':Ws} {k:Nat} (h:Sm S S' k) (hk:k≤2:=by omega):Sm S S' 2:=⟨h.I,h.n,h.ph,h.pd,h.mx,by have:=h.mv;omega⟩
theorem yw {w0 w:World} {t:Nat→Thing} {L:Pw} {S:Ws} {i c:Nat} (h:PWn ev w0 t L w S) (F:Fre ev t i) (I:S.In) (hcn:c<S.n) (hmv:S.mv+2≤4096) (hc2:c≤10000):Calls prog 19 #[ac L.x 0,.int .i64 (c:Nat)] w fun r w'=>r=.returned (.int .i64 0)∧Hid (∃ S',PWn ev w0 t L w' S'∧Sm S S' 2∧S'.hs c=fc (S.hs c)∧S'.ds c=cQ (S.ds c)):=by
 have HIS:Hid (S.In):=I
 have hcnS:=hcn
 have hmvS:=hmv
 have HP0:Hid (PWn ev w0 t L w S):=h
 obtain⟨X,hX⟩:∃ y,L.x=y:=⟨_,rfl⟩
 have HX:Hid (L.x=X):=hX
 rw[hX]
 clear hX h I
 have xl:=fun wx:World=>(by kernel_rfl:(Instr.index 88 (.agg #[.int .i64 1,.int .i64 2]) (.int .i64 0)).run prog wx=.ok (.int .i64 1) wx)
 have wU:=fun wx:World=>(by kernel_rfl:(Instr.index 88 (.agg #[.int .i64 1,.int .i64 2]) (.int .i64 1)).run prog wx=.ok (.int .i64 2) wx)
 go_enter func19,ntmps19
 go_wp2_with fail
 refine wp_loop_rounds 3 ?_
 rw[rounds_succ]
 have hSe:=me HP0.out (c:=c) hcnS
 rw[HX.out]at hSe
 go_wp2_with fail
 refine hSe.mono ?_
 rintro r x1 ⟨A1,rfl,hsA1,hoA1,H1⟩
 clear hSe
 obtain⟨y1,hst1,hrg1,hbl1,_⟩:=dQ x1 hsA1 hoA1
 have cr1:=hrg1 6 _ H1.out.1.2.2.2.1
 rw[Nat.zero_add]at cr1
 have p1:=(HP0.out.below H1.out.2).below hbl1
 obtain⟨q1,hq1⟩:∃ y,aq (S.hs c).v=y:=⟨_,rfl⟩
 rw[hq1]at cr1
 have HQ1:Hid (aq (S.hs c).v=q1):=hq1
 have HP1:Hid (PWn ev w0 t L y1 S):=p1
 clear hrg1 hbl1 H1 p1 hq1
 cases q1
 ·go_wp2_with fail
  clear hst1 cr1
  rw[rounds_succ]
  have hSe:=l9 HP1.out (c:=c) hcnS
  rw[HX.out]at hSe
  go_wp2_with fail
  refine hSe.mono ?_
  rintro r x2 ⟨A2,rfl,hsA2,hoA2,H2⟩
  clear hSe
  obtain⟨y2,hst2,hrg2,hbl2,_⟩:=dQ x2 hsA2 hoA2
  have cr2:=hrg2 6 _ H2.out.1.2.2.2.1
  rw[Nat.zero_add]at cr2
  have p2:=(HP1.out.below H2.out.2).below hbl2
  obtain⟨q2,hq2⟩:∃ y,aq (S.ds c).v=y:=⟨_,rfl⟩
  rw[hq2]at cr2
  have HQ2:Hid (aq (S.ds c).v=q2):=hq2
  have HP2:Hid (PWn ev w0 t L y2 S):=p2
  clear hrg2 hbl2 H2 p2 hq2
  cases q2
  ·go_wp2_with fail
   clear hst2 cr2
   rw[rounds_succ]
   go_wp2_with fail
   go_ret
   exact⟨rfl,S,HP2.out,(Sm.refl HIS.out).mono2,(iE HQ1.out).symm,(iD HQ2.out).symm⟩
  ·have hPl:=gS (i:=i) (cW c 2) none 0 HP2.out F HIS.out (jz (k:=6) (s:=2) (f:=0) (n:=0) (by omega) hc2 (by omega) (by omega) (by omega) 0 _) (by have:=hcnS;omega) (cq _ _) (fun y hy=>by cases hy) (by show (0:Nat)≤_;omega)
   rw[HX.out]at hPl
   go_wp2_with fail
   refine Calls.mono hPl ?_
   rintro r v2 ⟨B2,E2,rfl,hsB2,hoB2,G2⟩
   clear hPl hst2 cr2
   have hb:=mf (S:=S) (c:=c) (s:=2) (by have:=hmvS;omega) hcnS (by omega)
   have hE2:E2=0:=G2.out.1.trans hb
   subst hE2
   obtain⟨u2,hst2,_,hbl2⟩:=fV v2 hsB2 hoB2
   have p2:=G2.out.2.1.below hbl2
   have kn:=HP2.out.kn
   clear G2 hbl2
   go_wp2_with fail
   clear hst2
   rw[rounds_succ]
   go_wp2_with fail
   go_ret
   have sm2:=dM HIS.out kn (cW c 2)
   obtain⟨hh2,hd2,_⟩:=ko hb
   exact⟨rfl,_,p2,sm2.mono2,hh2.trans (iE HQ1.out).symm,hd2⟩
 ·have hPl:=gS (i:=i) (cW c 1) none 0 HP1.out F HIS.out (jz (k:=6) (s:=1) (f:=0) (n:=0) (by omega) hc2 (by omega) (by omega) (by omega) 0 _) (by have:=hcnS;omega) (cq _ _) (fun y hy=>by cases hy) (by show (0:Nat)≤_;omega)
  rw[HX.out]at hPl
  go_wp2_with fail
  refine Calls.mono hPl ?_
  rintro r v1 ⟨B1,E1,rfl,hsB1,hoB1,G1⟩
  clear hPl hst1 cr1
  have hb:=mf (S:=S) (c:=c) (s:=1) (by have:=hmvS;omega) hcnS (by omega)
  have hE1:E1=0:=G1.out.1.trans hb
  subst hE1
  obtain⟨u1,hst1,_,hbl1⟩:=fV v1 hsB1 hoB1
  have p1:=G1.out.2.1.below hbl1
  have kn:=HP1.out.kn
  clear G1 hbl1
  go_wp2_with fail
  clear hst1
  rw[rounds_succ]
  obtain⟨T,hT⟩:∃ y,(S.play (cW c 1)).S=y:=⟨_,rfl⟩
  have smT:=dM HIS.out kn (cW c 1)
  obtain⟨hh,hd,_⟩:=rP hb
  rw[hT]at smT hh hd p1
  have HIT:Hid (T.In):=smT.I
  have hcnT:c<T.n:=by rw[smT.n];exact hcnS
  have hmvT:T.mv+1≤4096:=by have:=smT.mv;omega
  have HT:Hid (_):=And.intro smT (And.intro hh hd)
  have HPT:Hid (PWn ev w0 t L u1 T):=p1
  clear smT hh hd p1 kn hb hT
  have hSe:=l9 HPT.out (c:=c) hcnT
  rw[HX.out]at hSe
  go_wp2_with fail
  refine hSe.mono ?_
  rintro r x2 ⟨A2,rfl,hsA2,hoA2,H2⟩
  clear hSe
  obtain⟨y2,hst2,hrg2,hbl2,_⟩:=dQ x2 hsA2 hoA2
  have cr2:=hrg2 6 _ H2.out.1.2.2.2.1
  rw[Nat.zero_add]at cr2
  have p2:=(HPT.out.below H2.out.2).below hbl2
  obtain⟨q2,hq2⟩:∃ y,aq (T.ds c).v=y:=⟨_,rfl⟩
  rw[hq2]at cr2
  have HQ2:Hid (aq (T.ds c).v=q2):=hq2
  have HP2:Hid (PWn ev w0 t L y2 T):=p2
  clear hrg2 hbl2 H2 p2 hq2
  cases q2
  ·go_wp2_with fail
   clear hst2 cr2
   rw[rounds_succ]
   go_wp2_with fail
   go_ret
   exact⟨rfl,T,HP2.out,HT.out.1.mono2,HT.out.2.1,by rw[HT.out.2.2]at HQ2 ⊢;exact (iD HQ2.out).symm⟩
  ·have hPl:=gS (i:=i) (cW c 2) none 0 HP2.out F HIT.out (jz (k:=6) (s:=2) (f:=0) (n:=0) (by omega) hc2 (by omega) (by omega) (by omega) 0 _) (by have:=hcnT;omega) (cq _ _) (fun y hy=>by cases hy) (by show (0:Nat)≤_;omega)
   rw[HX.out]at hPl
   go_wp2_with fail
   refine Calls.mono hPl ?_
   rintro r v2 ⟨B2,E2,rfl,hsB2,hoB2,G2⟩
   clear hPl hst2 cr2
   have hb:=mf (S:=T) (c:=c) (s:=2) (by have:=hmvT;omega) hcnT (by omega)
   have hE2:E2=0:=G2.out.1.trans hb
   subst hE2
   obtain⟨u2,hst2,_,hbl2⟩:=fV v2 hsB2 hoB2
   have p2:=G2.out.2.1.below hbl2
   have kn:=HP2.out.kn
   clear G2 hbl2
   go_wp2_with fail
   clear hst2
   rw[rounds_succ]
   go_wp2_with fail
   go_ret
   have sm2:=dM HIT.out kn (cW c 2)
   obtain⟨hh2,hd2,_⟩:=ko hb
   exact⟨rfl,_,p2,HT.out.1.trans sm2,hh2.trans HT.out.2.1,by rw[hd2,HT.out.2.2]⟩
theorem wu (A:Array Value) (st ss:Nat) (v:Vs) (n:Nat) (wz w:World) (hs:A.size=9) (ho:A.all (·.oneCell')=true) (h:zz A st ss v n wz):Calls prog 23 #[.agg A] w fun r w'=>r=.returned (.bool (decide (st=4) && decide (v.lat=0)))∧Below w.heap.size w w':=by
 have k0:=aC w (.cells A 54)
 have b0:=aJ (Below.refl _ w) (.cells A 54)
 obtain⟨W,hW⟩:∃ y,w.alloc (.cells A 54)=y:=⟨_,rfl⟩
 obtain⟨x,hx⟩:∃ y,w.heap.size=y:=⟨_,rfl⟩
 rw[hW]at k0 b0
 have HB:Hid (Below w.heap.size w W):=b0
 rw[hx]at k0
 have c0:W.cell? ⟨x,0,none⟩=some (.int .i64 (st:Nat)):=(ae W x 0 _ _ _ k0).trans (by rw[← Array.getElem?_toList];exact h.1)
 have c5:W.cell? ⟨x,5,none⟩=some (.int .i64 v.lat):=(ae W x 5 _ _ _ k0).trans (by rw[← Array.getElem?_toList];exact h.2.2.1)
 have HE:Hid (_=W):=hW
 have HS:Hid (w.heap.size=x):=hx
 clear k0 b0 hW hx h
 obtain⟨R,hR⟩:∃ y,(decide (st=4) && decide (v.lat=0))=y:=⟨_,rfl⟩
 have HR:Hid (_=R):=hR
 rw[hR]
 clear hR
 go_enter func23,ntmps23
 go_upto_region 1 with fail
 rw[HE.out,HS.out]
 by_cases h4:st=4
 ·by_cases h0:v.lat=0
  ·rw[h4]at c0
   rw[h0]at c5
   have e:R=true:=by rw[← HR.out];simp[h4,h0]
   clear h4 h0
   go_wp2_with fail
   go_ret
   exact⟨by rw[e];rfl,HB.out⟩
  ·rw[h4]at c0
   have hb:(v.lat == 0)=false:=by simpa using h0
   have e:R=false:=by rw[← HR.out];simp[h0]
   clear h4 h0
   go_wp2_with fail
   go_ret
   exact⟨by rw[e];rfl,HB.out⟩
 ·have hb:(((st:Nat):Int) == 4)=false:=by
   have:((st:Nat):Int)≠4:=by omega
   simpa using this
  have e:R=false:=by rw[← HR.out];simp[h4]
  clear h4
  go_wp2_with fail
  go_ret
  exact⟨by rw[e];rfl,HB.out⟩
theorem wC {w0 w:World} {t:Nat→Thing} {L:Pw} {S:Ws} {c:Nat} (h:PWn ev w0 t L w S) (hcn:c<S.n):Calls prog 10 #[ac L.x 0,.int .i64 (c:Nat)] w fun r w'=>r=.returned (.bool (wl S c))∧Below w.heap.size w w':=by
 have HP:Hid (PWn ev w0 t L w S):=h
 have hS1:=me h hcn
 obtain⟨X,hX⟩:∃ y,L.x=y:=⟨_,rfl⟩
 have HX:Hid (L.x=X):=hX
 rw[hX]at hS1 ⊢
 clear hX h
 go_enter func10,ntmps10
 go_wp2_with fail
 refine hS1.mono ?_
 rintro r x1 ⟨A,rfl,hsA,hoA,H1⟩
 clear hS1
 obtain⟨y1,hst1,hrg1,hbl1,_⟩:=dQ x1 hsA hoA
 have b1:=H1.out.2.trans (hbl1.mono H1.out.2.size)
 have hS2:=l9 (HP.out.below b1) (c:=c) hcn
 rw[HX.out]at hS2
 obtain⟨pa,hpa⟩:∃ y,x1.heap.size=y:=⟨_,rfl⟩
 rw[hpa]at hst1 hrg1
 have HA:Hid (_):=And.intro hrg1 (And.intro b1 H1.out.1)
 clear hrg1 hbl1 b1 H1
 go_wp2_with fail
 refine hS2.mono ?_
 rintro r x2 ⟨B,rfl,hsB,hoB,H2⟩
 clear hS2 hst1 hpa
 obtain⟨y2,hst2,hrg2,hbl2,_⟩:=dQ x2 hsB hoB
 have b2:=H2.out.2.trans (hbl2.mono H2.out.2.size)
 obtain⟨hrg1,b1,e1⟩:=HA.out
 have cA:y2.rangeAt pa 0 A.toList:=fun j v hv=>ag (hrg1 j v hv) b2
 obtain⟨pb,hpb⟩:∃ y,x2.heap.size=y:=⟨_,rfl⟩
 rw[hpb]at hst2 hrg2
 have hiA:(prog.info? 54).map (·.size)=some A.size:=by rw[hsA];kernel_rfl
 have hiB:(prog.info? 54).map (·.size)=some B.size:=by rw[hsB];kernel_rfl
 have HL:Hid (y2.rangeAt pa 0 A.toList∧y2.rangeAt pb 0 B.toList):=⟨cA,hrg2⟩
 have HB:Hid (Below w.heap.size w y2):=b1.trans (b2.mono b1.size)
 have hR1:=wu A _ _ _ _ _ y2 hsA hoA e1
 have HR2:Hid (∀ wx,Calls prog 23 #[.agg B] wx fun r w'=>r=.returned (.bool (decide ((S.ds c).st=4) && decide ((S.ds c).v.lat=0)))∧Below wx.heap.size wx w'):=fun wx=>wu B _ _ _ _ _ wx hsB hoB H2.out.1
 have HC1:Hid (y2.cell? ⟨pa,1,none⟩=some (.int .u32 ((S.hs c).ss:Nat))∧y2.cell? ⟨pb,1,none⟩=some (.int .u32 ((S.ds c).ss:Nat))):=⟨by have:=cA 1 _ e1.2.1;rw[Nat.zero_add]at this;exact this,by have:=hrg2 1 _ H2.out.1.2.1;rw[Nat.zero_add]at this;exact this⟩
 obtain⟨g1,hg1⟩:∃ y,(decide ((S.hs c).st=4) && decide ((S.hs c).v.lat=0))=y:=⟨_,rfl⟩
 obtain⟨g2,hg2⟩:∃ y,(decide ((S.ds c).st=4) && decide ((S.ds c).v.lat=0))=y:=⟨_,rfl⟩
 have HU:Hid (wl S c=(g1 && g2 && decide ((S.hs c).ss=(S.ds c).ss))):=by rw[← hg1,← hg2];rfl
 rw[hg1]at hR1
 rw[hg2]at HR2
 clear hrg1 hrg2 hbl2 b1 b2 e1 cA H2 HA hg1 hg2
 go_wp2_with (first | refine bP (by kernel_rfl) 54 (.tmp 5) rfl pa 0 rfl A _ HL.out.1 underlying54 rfl hiA ?_ | refine bP (by kernel_rfl) 54 (.tmp 7) rfl pb 0 rfl B _ HL.out.2 underlying54 rfl hiB ?_)
 refine hR1.mono ?_
 rintro r z1 ⟨rfl,c1⟩
 clear hR1 hst2 hpb
 have hR2:=HR2.out z1
 have HL2:Hid (z1.rangeAt pb 0 B.toList):=fun j v hv=>ag (HL.out.2 j v hv) c1
 have d1:=ag HC1.out.1 c1
 have d2:=ag HC1.out.2 c1
 have HB2:Hid (Below w.heap.size w z1):=HB.out.trans (c1.mono HB.out.size)
 cases g1
 ·have e:wl S c=false:=by rw[HU.out];rfl
  clear hR2 d1 d2 c1
  go_wp2_with fail
  go_ret
  exact⟨by rw[e];rfl,HB2.out⟩
 ·go_wp2_with (refine bP (by kernel_rfl) 54 (.tmp 7) rfl pb 0 rfl B _ HL2.out underlying54 rfl hiB ?_)
  refine hR2.mono ?_
  rintro r z2 ⟨rfl,c2⟩
  clear hR2
  have d1:=ag d1 c2
  have d2:=ag d2 c2
  have HB3:Hid (Below w.heap.size w z2):=HB2.out.trans (c2.mono HB2.out.size)
  cases g2
  ·have e:wl S c=false:=by rw[HU.out];rfl
   clear d1 d2 c1 c2
   go_wp2_with fail
   go_ret
   exact⟨by rw[e];rfl,HB3.out⟩
  ·by_cases hss:(S.hs c).ss=(S.ds c).ss
   ·have e:wl S c=true:=by rw[HU.out];simp[hss]
    rw[hss]at d1
    clear c1 c2 hss
    go_wp2_with fail
    go_ret
    exact⟨by rw[e];rfl,HB3.out⟩
   ·have e:wl S c=false:=by rw[HU.out];simp[hss]
    have hb:((((S.hs c).ss:Nat):Int) == (((S.ds c).ss:Nat):Int))=false:=by
     have:(((S.hs c).ss:Nat):Int) ≠ (((S.ds c).ss:Nat):Int):=by omega
     simpa using this
    clear c1 c2 hss
    go_wp2_with fail
    go_ret
    exact⟨by rw[e];rfl,HB3.out⟩
end Go.Proofs.YtfgnmadnmjdbiaaGreat
