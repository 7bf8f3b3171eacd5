/- Part 36: contracts that the proof rests on. -/
import Derived.Test.YtfgnmadnmjdbiaaGreatProg
import Derived.WalkKit
import Derived.ProofKit
import Derived.Lib.SmallJoins
import Derived.SizedLaws
import Derived.Deep.Slices
import Derived.OpenShut
import Derived.Deep.DeepCutAuto
import Derived.Deep.CutBlock
import Derived.Deep.RegionWith
import Derived.Test.YtfgnmadnmjdbiaaGreatPkN34
set_option maxHeartbeats 64000000
set_option maxRecDepth 100000
namespace Go.Proofs.YtfgnmadnmjdbiaaGreat
open Tryz
open Go.RowKit Go.Maps
set_option linter.unusedVariables false
theorem yP (X b g cc n k hd dd dm:Nat) (s:Int) (T:TypeId) (Fn:FuncId) (P:Nat) (s0 s1 s2 s3 s4:Nat) (la:Int) (rq on:Bool) (o:Nat) (bs:Nat→Nat) (w:World)
  (cb:w.cell? ⟨X,4,none⟩=some (ac b 0)) (cv:w.cell? ⟨X,3,none⟩=some (.slice (af g 0) n cc)) (c0:w.cell? ⟨g,k*3,none⟩=some (ac hd 0)) (c1:w.cell? ⟨g,k*3+1,none⟩=some (ac dd 0)) (c2:w.cell? ⟨g,k*3+2,none⟩=some (ac dm 0)) (hlt:k<n) (hs:s=1∨s=2)
  (hA:∀ w1,Calls prog 38 #[.agg (aA hd dd dm),.int .i64 s] w1 fun r w'=>r=.returned (.iface T (ac P 0))∧Below w1.heap.size w1 w')
  (hM : ∀ w1, (method 415 T (.pointer (some ⟨P, 0, none⟩)) "See").run prog w1 = .ok (Fn, .pointer (some ⟨P, 0, none⟩)) w1) (hF : ∀ u w1, (callFunc Fn u).run prog w1 = .ok (.enter Fn u) w1)
  (hC:∀ w1,Below w.heap.size w w1→Calls prog Fn #[ac P 0] w1 fun r w'=>∃ a ca,r=.returned (.agg (bn s0 s1 s2 s3 s4 la rq on a o ca))∧Hid (Below w1.heap.size w1 w'∧Row8 w' a o ca bs∧∀ y,a=some y→0<o→w1.heap.size≤y.block)) :
  Calls prog 20 #[ac X 0,.int .i64 (k:Nat),.int .i64 s] w fun r w'=>∃ a ca,r=.returned (.tuple #[.agg (bn s0 s1 s2 s3 s4 la rq on a o ca),.int .i64 0])∧Hid (Below w.heap.size w w'∧Row8 w' a o ca bs∧∀ y,a=some y→0<o→w.heap.size≤y.block):=by
 have kA:=aE w (.cells fN 54)
 have bA:=aM (Below.refl _ w) (.cells fN 54)
 have sA:=iK w (.cells fN 54)
 obtain⟨wa,hwa⟩:∃ z,w.alloc (.cells fN 54)=z:=⟨_,rfl⟩
 obtain⟨x,hx⟩:∃ z,w.heap.size=z:=⟨_,rfl⟩
 rw[hwa]at kA bA sA
 have HB:Hid (Below w.heap.size w wa):=bA
 have d3:=ag cv bA
 have d0:=ag c0 bA
 have d1:=ag c1 bA
 have d2:=ag c2 bA
 have hN:=qH X b wa (ag cb bA)
 have hH:=yC X (af g 0) n cc ((k:Nat):Int) wa d3
 rw[decide_eq_true (by omega)]at hH
 have hI:=mF s wa
 rw[show ((s == 1) || (s == 2))=true by simpa using hs]at hI
 have hAc:=hA wa
 rw[hx]at kA sA
 have HK:Hid (_):=kA
 have HS:Hid (w.heap.size=x):=hx
 have HZ:Hid (wa.heap.size=x+1):=sA
 have HE:Hid (_=wa):=hwa
 have HC:Hid (_):=hC
 have hlt':((k:Nat):Int) < ((n:Nat):Int):=by omega
 clear kA bA sA hwa hx hC hA cb cv c0 c1 c2 hs hlt
 go_enter func20,ntmps20
 go_upto_region 1 with fail
 rw[HE.out,HS.out]
 go_wp2_with fail
 refine hN.mono ?_
 rintro r w2 ⟨rfl,hw⟩
 rw[hw]
 clear hw
 clear hN
 go_wp2_with fail
 refine hH.mono ?_
 rintro r w2 ⟨rfl,hw⟩
 rw[hw]
 clear hw
 clear hH
 go_wp2_with fail
 refine hI.mono ?_
 rintro r w2 ⟨rfl,hw⟩
 rw[hw]
 clear hw
 clear hI
 go_wp2_with fail
 refine hAc.mono ?_
 rintro r w4 ⟨rfl,b4⟩
 clear hAc d0 d1 d2 d3
 have hCc:=(show Calls prog Fn #[ac P 0] w4 (fun r w'=>∃ a ca,r=.returned (.agg (bn s0 s1 s2 s3 s4 la rq on a o ca))∧Hid (Below w4.heap.size w4 w'∧Row8 w' a o ca bs∧∀ y,a=some y→0<o→w4.heap.size≤y.block)) from HC.out w4 (HB.out.trans (b4.mono HB.out.size)))
 have HB4:Hid (_):=b4
 clear b4
 go_wp2_with fail
 refine hCc.mono ?_
 rintro r w5 ⟨a,ca,rfl,H5⟩
 clear hCc
 have b45:Below wa.heap.size wa w5:=HB4.out.trans (H5.out.1.mono HB4.out.size)
 have k5:=(b45.block x (by rw[HZ.out];omega)).trans HK.out
 have y0:=ae w5 x 0 _ _ _ k5
 have y1:=ae w5 x 1 _ _ _ k5
 have y2:=ae w5 x 2 _ _ _ k5
 have y3:=ae w5 x 3 _ _ _ k5
 have y4:=ae w5 x 4 _ _ _ k5
 have y5:=ae w5 x 5 _ _ _ k5
 have y6:=ae w5 x 6 _ _ _ k5
 have y7:=ae w5 x 7 _ _ _ k5
 have y8:=ae w5 x 8 _ _ _ k5
 have yz:=fun j=>frozen_of_row w5 x j _ _ k5
 have HB5:Hid (_):=b45
 clear b45 k5
 go_wp2_with fail
 refine bodyPost_ret (v:=.tuple #[.agg (bn s0 s1 s2 s3 s4 la rq on a o ca),.int .i64 0]) (by simp[results,results20,go_sem,y0,y1,y2,y3,y4,y5,y6,y7,y8]) rfl ?_
 have oo:Off [x] w5 (((((((((w5.setCell ⟨x,0,none⟩ (Value.int .i64 (s0:Nat))).setCell ⟨x,1,none⟩ (Value.int .u32 (s1:Nat))).setCell ⟨x,2,none⟩ (Value.int .u32 (s2:Nat))).setCell ⟨x,3,none⟩ (Value.int .u32 (s3:Nat))).setCell ⟨x,4,none⟩ (Value.int .i64 (s4:Nat))).setCell ⟨x,5,none⟩ (Value.int .i64 la)).setCell ⟨x,6,none⟩ (Value.bool rq)).setCell ⟨x,7,none⟩ (Value.bool on)).setCell ⟨x,8,none⟩ (Value.slice a o ca)):=((((((((Off.setCell x 0 w5 _).trans (Off.setCell x 1 _ _)).trans (Off.setCell x 2 _ _)).trans (Off.setCell x 3 _ _)).trans (Off.setCell x 4 _ _)).trans (Off.setCell x 5 _ _)).trans (Off.setCell x 6 _ _)).trans (Off.setCell x 7 _ _)).trans (Off.setCell x 8 _ _)
 have hb:=HB.out
 have h4:=HB4.out.size
 have h5:=HZ.out
 have hsx:=HS.out
 refine⟨a,ca,rfl,oo.below (hb.trans (HB5.out.mono hb.size)) (by simp;omega) (Nat.le_trans hb.size HB5.out.size),Row8.offY H5.out.2.1 oo (fun y hy hn hm=>?_),fun y hy hn=>?_⟩
 ·have:=H5.out.2.2 y hy hn
  simp at hm
  omega
 ·have:=H5.out.2.2 y hy hn
  omega
theorem PWn.bagp {e:Nat→Nat} {w0 w:World} {t:Nat→Thing} {L:Pw} {S:Ws} (h:PWn e w0 t L w S):∃ b,w.cell? ⟨L.x,4,none⟩=some (ac b 0):=by
 obtain⟨t1,L1,h1,hs,hx,he⟩:=h
 have c4:w.cell? ⟨L1.x,4,none⟩=some (ac L1.b 0):=ae w L1.x 4 _ _ _ (h1.2.wb h1.1).blk
 rw[hx.x]at c4
 exact⟨_,c4⟩
theorem yw {e:Nat→Nat} {w0 w:World} {t:Nat→Thing} {L:Pw} {S:Ws} {k:Nat} (h:PWn e w0 t L w S) (hk:k<S.n):Calls prog 20 #[ac L.x 0,.int .i64 (k:Nat),.int .i64 1] w fun r w'=>∃ a ca,r=.returned (.tuple #[.agg #[.int .i64 ((S.hs k).st:Nat),.int .u32 ((S.hs k).ss:Nat),.int .u32 ((S.hs k).nm:Nat),.int .u32 ((S.hs k).sn:Nat),.int .i64 ((S.hs k).dc:Nat),.int .i64 (S.hs k).v.lat,.bool (aq (S.hs k).v),.bool (aB (S.hs k).v),.slice a (S.PH k).i ca],.int .i64 0])∧Hid (Below w.heap.size w w'∧Row8 w' a (S.PH k).i ca (cG (S.hs k).v)∧∀ y,a=some y→0 < (S.PH k).i→w.heap.size≤y.block):=by
 obtain⟨cv,c0,c1,c2⟩:=h.conn hk
 obtain⟨b,cb⟩:=h.bagp
 exact yP L.x b (fu L.vc) (gZ L.vc) S.n k (L.hd k) (L.dd k) (L.dm k) 1 75 34 (L.hd k) _ _ _ _ _ _ _ _ _ _ w cb cv c0 c1 c2 hk (.inl rfl) (fun w1 => ul _ _ _ w1) (fun w1 => (by kernel_rfl : (method 415 75 (.pointer (some ⟨L.hd k, 0, none⟩)) "See").run prog w1 = .ok (34, .pointer (some ⟨L.hd k, 0, none⟩)) w1)) (fun u w1 => (by kernel_rfl : (callFunc 34 u).run prog w1 = .ok (.enter 34 u) w1)) (fun w1 b1 => by
  obtain⟨U,hv⟩:=(h.below b1).hv hk
  refine (iY (L.hd k) (S.PH k) U (S.hs k) w1 hv).mono ?_
  rintro r w' ⟨a,ca,rfl,H⟩
  exact⟨a,ca,rfl,H.out.2.2,H.out.2.1,H.out.1.newY⟩)
theorem yh {e:Nat→Nat} {w0 w:World} {t:Nat→Thing} {L:Pw} {S:Ws} {k:Nat} (h:PWn e w0 t L w S) (hk:k<S.n):Calls prog 20 #[ac L.x 0,.int .i64 (k:Nat),.int .i64 2] w fun r w'=>∃ a ca,r=.returned (.tuple #[.agg #[.int .i64 ((S.ds k).st:Nat),.int .u32 ((S.ds k).ss:Nat),.int .u32 ((S.ds k).nm:Nat),.int .u32 ((S.ds k).sn:Nat),.int .i64 ((S.ds k).dc:Nat),.int .i64 (S.ds k).v.lat,.bool (aq (S.ds k).v),.bool (aB (S.ds k).v),.slice a (S.PD k).o ca],.int .i64 0])∧Hid (Below w.heap.size w w'∧Row8 w' a (S.PD k).o ca (cG (S.ds k).v)∧∀ y,a=some y→0 < (S.PD k).o→w.heap.size≤y.block):=by
 obtain⟨cv,c0,c1,c2⟩:=h.conn hk
 obtain⟨b,cb⟩:=h.bagp
 exact yP L.x b (fu L.vc) (gZ L.vc) S.n k (L.hd k) (L.dd k) (L.dm k) 2 76 35 (L.dd k) _ _ _ _ _ _ _ _ _ _ w cb cv c0 c1 c2 hk (.inr rfl) (fun w1 => tG _ _ _ w1) (fun w1 => (by kernel_rfl : (method 415 76 (.pointer (some ⟨L.dd k, 0, none⟩)) "See").run prog w1 = .ok (35, .pointer (some ⟨L.dd k, 0, none⟩)) w1)) (fun u w1 => (by kernel_rfl : (callFunc 35 u).run prog w1 = .ok (.enter 35 u) w1)) (fun w1 b1 => by
  obtain⟨g,U,dv⟩:=(h.below b1).dv hk
  refine (iH (L.dd k) (L.dm k) g 16 S.mx (S.PD k) U (S.ds k) w1 dv).mono ?_
  rintro r w' ⟨a,ca,rfl,H⟩
  exact⟨a,ca,rfl,H.out.2.2,H.out.2.1,H.out.1.newY⟩)
theorem zR (X b g cc n:Nat) (k s E:Int) (w:World) (cb:w.cell? ⟨X,4,none⟩=some (ac b 0)) (cv:w.cell? ⟨X,3,none⟩=some (.slice (af g 0) n cc)) (hE:(if k<0∨((n:Nat):Int)≤k then (171:Int) else if s=1∨s=2 then 0 else 172)=E) (h0:E≠0):Calls prog 20 #[ac X 0,.int .i64 k,.int .i64 s] w fun r w'=>r=.returned (.tuple #[.agg fN,.int .i64 E])∧Below w.heap.size w w':=by
 have bA:=aM (Below.refl _ w) (.cells fN 54)
 have hN:=qH X b _ (ag cb bA)
 have hH:=yC X (af g 0) n cc k _ (ag cv bA)
 have hI:=mF s (w.alloc (.cells fN 54))
 have HB:Hid (_):=bA
 clear bA cb cv
 by_cases hk:k<0∨((n:Nat):Int)≤k
 ·rw[if_pos hk]at hE
  subst hE
  rw[decide_eq_false (by omega)]at hH
  clear hk hI h0
  go_enter func20,ntmps20
  go_wp2_with fail
  refine hN.mono ?_
  rintro r w2 ⟨rfl,hw⟩
  rw[hw]
  clear hw hN
  go_wp2_with fail
  refine hH.mono ?_
  rintro r w2 ⟨rfl,hw⟩
  rw[hw]
  clear hw hH
  go_wp2_with fail
  refine bodyPost_ret (v:=.tuple #[.agg fN,.int .i64 171]) (by simp[results,results20,go_sem]) rfl ⟨rfl,?_⟩
  exact HB.out
 ·rw[if_neg hk]at hE
  rw[decide_eq_true (by omega)]at hH
  by_cases hs:s=1∨s=2
  ·rw[if_pos hs]at hE
   exact absurd hE.symm h0
  ·rw[if_neg hs]at hE
   subst hE
   rw[show ((s == 1) || (s == 2))=false by simpa using hs]at hI
   clear hk hs h0
   go_enter func20,ntmps20
   go_wp2_with fail
   refine hN.mono ?_
   rintro r w2 ⟨rfl,hw⟩
   rw[hw]
   clear hw hN
   go_wp2_with fail
   refine hH.mono ?_
   rintro r w2 ⟨rfl,hw⟩
   rw[hw]
   clear hw hH
   go_wp2_with fail
   refine hI.mono ?_
   rintro r w2 ⟨rfl,hw⟩
   rw[hw]
   clear hw hI
   go_wp2_with fail
   refine bodyPost_ret (v:=.tuple #[.agg fN,.int .i64 172]) (by simp[results,results20,go_sem]) rfl ⟨rfl,?_⟩
   exact HB.out
def sN (n mx:Nat) (PH PD:Nat→Pm):Ws:=⟨n,PH,PD,fun _=>bN,fun _=>dJ M0,mx,[],0,[]⟩
theorem zl (n mx:Nat) (PH PD:Nat→Pm):(sN n mx PH PD).In:=
 ⟨fun k hk=>Ih.new_ _,fun k hk=>Iv.new_ _,fun k hk=>Nat.le_refl _,fun k hk=>⟨Nat.le_refl _,by show (0:Int)≤6 * ((0:Nat):Int);decide⟩,Nat.le_refl _,Nat.le_refl _⟩
open Go.RowKit Go.Maps Go.Sort
section
variable {P:Pm}
end
end Go.Proofs.YtfgnmadnmjdbiaaGreat
namespace Go.Proofs.YtfgnmadnmjdbiaaGreat
open Tryz
open Go.RowKit Go.Maps
set_option linter.unusedVariables false
theorem PWn.turnB {e:Nat→Nat} {w0 w w':World} {t:Nat→Thing} {L:Pw} {S:Ws} {i q:Nat} {ob ob':Obj} (h:PWn e w0 (ay t i (fB [(q,ob)])) L w S) (hi:∀ j,i≠e j) (o:Off [q] w w') (hob:w'.heap[q]?=some ob'):PWn e w0 (ay t i (fB [(q,ob')])) L w' S:=by
 obtain⟨t1,L1,h1,hs,hx,he⟩:=h
 have e1:t1 i=fB [(q,ob)]:=by rw[he i hi,ak]
 have u1:(t1 i).U=[q]:=by rw[e1];rfl
 have lq:=(Array.getElem?_eq_some_iff.1 hob).1
 have hq:=h1.1.lt i q (by rw[u1];exact List.mem_singleton.2 rfl)
 refine⟨ay t1 i (fB [(q,ob')]),L1,⟨h1.1.turn i _ (by rw[u1];exact o) ?_ ?_ ?_,h1.2.1,fun j=>by rw[an _ _ (fun z=>hi j z.symm)];exact h1.2.2 j⟩,hs,hx,fun k hk=>?_⟩
 ·intro p hp
  obtain rfl:=List.mem_singleton.1 hp
  exact hob
 ·intro k hk
  have hk:k ∈ [q]:=hk
  obtain rfl:=List.mem_singleton.1 hk
  exact⟨hq.1,lq⟩
 ·intro k hk j hj
  have hk:k ∈ [q]:=hk
  exact h1.1.dis i j (fun z=>hj z.symm) k (by rw[u1];exact hk)
 ·by_cases z:k=i
  ·subst z
   rw[ak,ak]
  ·rw[an _ _ z,an _ _ z,he k hk,an _ _ z]
theorem at9 {A:Array Value} {n:Nat} {v0 v1 v2 v3 v4 v5 v6 v7 v8:Value} (h0:A.toList[n+0]?=some v0) (h1:A.toList[n+1]?=some v1) (h2:A.toList[n+2]?=some v2) (h3:A.toList[n+3]?=some v3) (h4:A.toList[n+4]?=some v4) (h5:A.toList[n+5]?=some v5) (h6:A.toList[n+6]?=some v6) (h7:A.toList[n+7]?=some v7) (h8:A.toList[n+8]?=some v8):∀ j v,(#[v0,v1,v2,v3,v4,v5,v6,v7,v8]:Array Value).toList[j]?=some v→A.toList[n+j]?=some v:=fun j v hv=>by
 have hj:j<9:=(List.getElem?_eq_some_iff.1 hv).1
 have:j=0∨j=1∨j=2∨j=3∨j=4∨j=5∨j=6∨j=7∨j=8:=by omega
 rcases this with rfl | rfl | rfl | rfl | rfl | rfl | rfl | rfl | rfl
 ·exact h0.trans hv
 ·exact h1.trans hv
 ·exact h2.trans hv
 ·exact h3.trans hv
 ·exact h4.trans hv
 ·exact h5.trans hv
 ·exact h6.trans hv
 ·exact h7.trans hv
 ·exact h8.trans hv
theorem cD (w:World) {A:Array Value} (hs:A.size=9) (ho:A.all (·.oneCell')=true):∃ wz,(storeCells ⟨w.heap.size,0,none⟩ A.toList).run prog (w.alloc (.cells fN 54))=.ok () wz∧wz.rangeAt w.heap.size 0 A.toList∧Below w.heap.size w wz∧wz.there w.heap.size 0 9:=by
 have kr:=aE w (.cells fN 54)
 have h9:(w.alloc (.cells fN 54)).there w.heap.size 0 9:=be kr rfl
 have hth:(w.alloc (.cells fN 54)).there w.heap.size 0 A.size:=by rw[hs];exact h9
 exact⟨_,eQ hth ho,World.rangeAt_setCells_same _ w.heap.size 0 A.toList (by simpa using hth),(bu _ w.heap.size 0 A.toList).below (aM (Below.refl _ _) _) (by simp) (by rw[iK];omega),World.there_setCells h9 _ _ _⟩
theorem qM {w:World} {x:Nat} (h:w.there x 0 9) {A:Array Value} (hs:A.size=9) (ho:A.all (·.oneCell')=true):∃ wz,(storeCells ⟨x,0,none⟩ A.toList).run prog w=.ok () wz∧wz.rangeAt x 0 A.toList∧Off [x] w wz:=by
 have hth:w.there x 0 A.size:=by rw[hs];exact h
 exact⟨_,eQ hth ho,World.rangeAt_setCells_same _ x 0 A.toList (by simpa using hth),bu _ x 0 A.toList⟩
open Go.ChangeShapes Go.WideShapes Go.ChangeAt Go.RowKit Go.Joins Go.Deep
section
variable {H:Type} {enc:TypeId × Value→H} {P:Program} {w:World} {base:Nat} {spare:TypeId→Bool} {held:Bool}
end
section
variable {H:Type} {enc:TypeId × Value→H} {P:Program} {w:World} {base:Nat} {spare:TypeId→Bool} {held:Bool}
end
theorem xW {x:Int} (h:(Lit.int .i64 x).wf=true) : -9223372036854775808≤x∧x≤9223372036854775807:=by
 have e1:IntKind.i64.min = -9223372036854775808:=by decide
 have e2:IntKind.i64.max=9223372036854775807:=by decide
 simp[Lit.wf,e1,e2]at h
 exact h
section
variable {H:Type} {enc:TypeId × Value→H} {w:World} {base:Nat} {spare:TypeId→Bool} {held:Bool}
end
section
variable {H:Type} {enc:TypeId × Value→H} {w:World} {base:Nat} {spare:TypeId→Bool} {held:Bool}
end
end Go.Proofs.YtfgnmadnmjdbiaaGreat
namespace Go.Proofs.YtfgnmadnmjdbiaaGreat
open Tryz
open Go.RowKit Go.Maps
set_option linter.unusedVariables false
theorem cj {P:Program} {ops:Array Oper} {rest:List Oper} {op:Oper} {a:Act} {w:World} {Q:Exit→Act→World→Prop} (hw:Region.wanted op (yielded ops a.tmps)=true) (ty:TypeId) (x:Operand) (ho:op.op=.load ty x)
  (b o:Nat) (hx:a.eval x=ac b o) (A:Array Value) (d:TypeDesc) (hc:w.rangeAt b o A.toList)
  (hu:P.underlying ty=some d) (hd:d.isRow=true) (hi:(P.info? ty).map (·.size)=some A.size)
  (h:wpList P ops Q rest (a.put op.dst (.agg A)) w):wpList P ops Q (op :: rest) a w:=
 iU hw ty x ho b o hx A.toList d hc hu hd (by simpa using hi) (by simpa using h)
theorem eJ (w:World) {A:Array Value} (hs:A.size=29) (ho:A.all (·.oneCell')=true):∃ wz,(storeCells ⟨w.heap.size,0,none⟩ A.toList).run prog (w.alloc (.cells bj 56))=.ok () wz∧wz.rangeAt w.heap.size 0 A.toList∧Below w.heap.size w wz:=by
 have kr:=aE w (.cells bj 56)
 have hth:(w.alloc (.cells bj 56)).there w.heap.size 0 A.size:=be kr (by rw[hs];rfl)
 exact⟨_,eQ hth ho,World.rangeAt_setCells_same _ w.heap.size 0 A.toList (by simpa using hth),(bu _ w.heap.size 0 A.toList).below (aM (Below.refl _ _) _) (by simp) (by rw[iK];omega)⟩
open Go.ChangeShapes Go.WideShapes Go.ChangeAt Go.RowKit Go.Joins Go.Deep
section
variable {H:Type} {enc:TypeId × Value→H} {w:World} {base:Nat} {spare:TypeId→Bool} {held:Bool}
end
end Go.Proofs.YtfgnmadnmjdbiaaGreat
namespace Go.Proofs.YtfgnmadnmjdbiaaGreat
open Tryz
open Go.RowKit Go.Maps
set_option linter.unusedVariables false
def uy:Value→Nat
 | .int _ i=>i.toNat
 | _=>0
theorem uH (x:Int):0≤IntKind.u64.wrap x:=by
 have e:IntKind.u64.wrap x=x % 18446744073709551616:=by simp[IntKind.wrap,IntKind.signed,IntKind.bits]
 rw[e]
 omega
theorem sI (x:Int):∃ y:Nat,wrap64 (1+wrap64 ((IntKind.u64.wrap x).tmod 2))=((y:Nat):Int)∧(y=1∨y=2):=by
 have h:=uH x
 generalize IntKind.u64.wrap x=u at *
 rw[Int.tmod_eq_emod_of_nonneg h]
 exact⟨(1+u % 2).toNat,by unfold wrap64;omega,by omega⟩
theorem ej {w0 w:World} {t:Nat→Thing} {L:Pw} {S:Ws} {i:Nat} (m:Mv) (d:Option Addr) (c:Nat) (h:PWn ev w0 t L w S) (F:Fre ev t i) (I:S.In) (ok:m.Ok) (hn:0<S.n) (R:Row8 w d m.l c m.b) (hd:∀ y,d=some y→0<m.l→y.block≠L.x) (hl:m.l≤140737488351232):Calls prog 16 #[ac L.x 0,.agg (ai m m.c d c)] w fun r w'=>∃ (A:Array Value) (E:Int),r=.returned (.tuple #[.agg A,.int .i64 E])∧A.size=29∧A.all (·.oneCell')=true∧Hid (E=S.bad m∧PWn ev w0 t L w' (S.play m).S∧(S.bad m=0→A.toList[9]?=some (.int .i64 (S.play m).e)∧A.toList[10]?=some (.int .i64 (S.play m).i)∧∃ (hV dV:Array Value) (ah:Option Addr) (ch:Nat) (ad:Option Addr) (cd:Nat),hV=#[Value.int .i64 (((S.play m).S.hs m.c.toNat).st:Nat),Value.int .u32 (((S.play m).S.hs m.c.toNat).ss:Nat),Value.int .u32 (((S.play m).S.hs m.c.toNat).nm:Nat),Value.int .u32 (((S.play m).S.hs m.c.toNat).sn:Nat),Value.int .i64 (((S.play m).S.hs m.c.toNat).dc:Nat),Value.int .i64 ((S.play m).S.hs m.c.toNat).v.lat,Value.bool (aq ((S.play m).S.hs m.c.toNat).v),Value.bool (aB ((S.play m).S.hs m.c.toNat).v),Value.slice ah ((S.play m).S.PH m.c.toNat).i ch]∧dV=#[Value.int .i64 (((S.play m).S.ds m.c.toNat).st:Nat),Value.int .u32 (((S.play m).S.ds m.c.toNat).ss:Nat),Value.int .u32 (((S.play m).S.ds m.c.toNat).nm:Nat),Value.int .u32 (((S.play m).S.ds m.c.toNat).sn:Nat),Value.int .i64 (((S.play m).S.ds m.c.toNat).dc:Nat),Value.int .i64 ((S.play m).S.ds m.c.toNat).v.lat,Value.bool (aq ((S.play m).S.ds m.c.toNat).v),Value.bool (aB ((S.play m).S.ds m.c.toNat).v),Value.slice ad ((S.play m).S.PD m.c.toNat).o cd]∧(∀ j v,hV.toList[j]?=some v→A.toList[11+j]?=some v)∧(∀ j v,dV.toList[j]?=some v→A.toList[20+j]?=some v)∧Row8 w' ah ((S.play m).S.PH m.c.toNat).i ch (cG ((S.play m).S.hs m.c.toNat).v)∧Row8 w' ad ((S.play m).S.PD m.c.toNat).o cd (cG ((S.play m).S.ds m.c.toNat).v))):=by
 obtain⟨t1,L1,h1,hs,hx,he⟩:=h
 subst hs
 have F1:=F.els he
 have hP:=vo ev w0 w t1 L1 i m d c h1 F1 I ok hn R (fun y hy h0=>by rw[hx.x];exact hd y hy h0) hl
 rw[hx.x]at hP
 refine hP.mono ?_
 rintro r w' (⟨hb,rfl,H⟩ | ⟨hb,a',c',ah,ch,ad,cd,rfl,H⟩)
 ·refine⟨_,_,rfl,rfl,by kernel_rfl,rfl,?_,fun q=>absurd q hb⟩
  have hp:(L1.S.play m).S=L1.S:=by
   unfold Ws.play
   rw[if_pos hb]
  rw[hp]
  exact PWn.bind hx he H.out.1.n
 ·have r1:=H.out.rowq (q:=2 * (i+2)+1) (fun j=>by unfold ev;omega) (by unfold v9;rw[an _ _ (by omega)];exact ak _ _ _)
  have r2:=H.out.rowq (q:=2 * (i+3)+1) (fun j=>by unfold ev;omega) (by unfold v9;exact ak _ _ _)
  exact⟨_,_,rfl,rfl,by kernel_rfl,hb.symm,PWn.bind hx he (H.out.dropR F1),fun _=>⟨rfl,rfl,_,_,ah,ch,ad,cd,rfl,rfl,at9 (n:=11) rfl rfl rfl rfl rfl rfl rfl rfl rfl,at9 (n:=20) rfl rfl rfl rfl rfl rfl rfl rfl rfl,r1,r2⟩⟩
theorem gw {k c s f n:Nat} (hk:k≤10000) (hc:c≤10000) (hs:s≤10000) (hf:f≤10000) (hn:n≤10000000) (l:Nat) (b:Nat→Nat):Mv.Ok ⟨(k:Nat),(c:Nat),(s:Nat),(f:Nat),0,0,(n:Nat),false,l,b⟩:=⟨by dsimp only;omega,by dsimp only;omega,by dsimp only;omega,by dsimp only;omega,by dsimp only;omega,by dsimp only;omega,by dsimp only;omega⟩
theorem PWn.rowB {w0 w:World} {t:Nat→Thing} {L:Pw} {S:Ws} {i q:Nat} {ob:Obj} {A:Array Value} (F:Fre ev t i) (h:PWn ev w0 (ay t (2*i+1) (fB [(q,ob)])) L w S) (hth:w.there q 0 29) (hs:A.size=29) (ho:A.all (·.oneCell')=true):∃ w' ob',(storeCells ⟨q,0,none⟩ A.toList).run prog w=.ok () w'∧PWn ev w0 (ay t (2*i+1) (fB [(q,ob')])) L w' S∧w'.there q 0 29∧w'.rangeAt q 0 A.toList∧(∀ w1:World,Below w1.heap.size w1 w→w1.heap.size≤q→Below w1.heap.size w1 w'):=by
 have ta:w.there q 0 A.size:=by rw[hs];exact hth
 have t2:=World.there_setCells hth q 0 A.toList
 obtain⟨v0,hv0⟩:=Option.isSome_iff_exists.1 (t2 0 (by decide)).1
 have lt:=World.block_lt_of_cell? _ _ hv0
 exact⟨w.setCells q 0 A.toList,_,eQ ta ho,h.turnB (F i (Nat.le_refl _)).1 (bu w q 0 A.toList) (Array.getElem?_eq_getElem lt),t2,World.rangeAt_setCells_same w q 0 A.toList (by simpa using ta),fun w1 hb hq=>(bu w q 0 A.toList).below hb (fun k hk=>by simp at hk;omega) hb.size⟩
theorem cI {w w':World} {b n:Nat} (h:w.there b 0 n) (e:w'.heap[b]?=w.heap[b]?):w'.there b 0 n:=fun j hj=>by
 obtain⟨h1,h2⟩:=h j hj
 exact⟨by rw[World.cell?_of_block (a:=⟨b,0+j,none⟩) e];exact h1,by rw[World.frozen?_of_block (a:=⟨b,0+j,none⟩) e];exact h2⟩
theorem tX {w:World} {b:Nat} {A:Array Value} (hs:A.size=29) (hr:w.rangeAt b 0 A.toList):(loadVar 56 ⟨b,0,none⟩).run prog w=.ok (.agg A) w:=by
 have hi:(prog.info? 56).map (·.size)=some A.toList.length:=by rw[Array.length_toList,hs];kernel_rfl
 have:=run_loadVar_mid w b 0 56 A.toList _ hr underlying56 rfl hi
 rw[Array.toArray_toList]at this
 exact this
theorem zn {w0 w:World} {t:Nat→Thing} {L:Pw} {S:Ws} {i c s f:Nat} (h:PWn ev w0 t L w S) (F:Fre ev t i) (I:S.In) (hn:0<S.n) (hc:c≤10000) (hs:s≤10000) (hf:f≤10000):Calls prog 18 #[ac L.x 0,.int .i64 (c:Nat),.int .i64 (s:Nat),.int .i64 (f:Nat)] w fun r w'=>∃ (A:Array Value) (E:Int),r=.returned (.tuple #[.agg A,.int .i64 E])∧A.size=29∧A.all (·.oneCell')=true∧Hid (E=S.bad (bk c s f)∧PWn ev w0 t L w' (S.play (bk c s f)).S∧(S.bad (bk c s f)=0→A.toList[9]?=some (.int .i64 (S.play (bk c s f)).e)∧A.toList[10]?=some (.int .i64 (S.play (bk c s f)).i))):=by
 have kR:=aE w (.cells bj 56)
 have bR:=aM (Below.refl _ w) (.cells bj 56)
 obtain⟨wa,hwa⟩:∃ z,w.alloc (.cells bj 56)=z:=⟨_,rfl⟩
 rw[hwa]at kR bR
 have h1:=h.layL bR (i:=2*i+1) (F i (Nat.le_refl _)).1 (l:=[(w.heap.size,.cells bj 56 (0,0))]) (fun p hp=>by
  simp only[List.mem_cons,List.not_mem_nil,or_false]at hp
  subst hp
  exact kR) (fun p hp=>by
  simp only[List.mem_cons,List.not_mem_nil,or_false]at hp
  subst hp
  exact Nat.le_refl _)
 have hth:wa.there w.heap.size 0 29:=be kR rfl
 obtain⟨x,hx⟩:∃ z,w.heap.size=z:=⟨_,rfl⟩
 have HS:Hid (w.heap.size=x):=hx
 rw[hx]at h1 kR hth
 have hP:=ej (i:=i+1) (bk c s f) none 0 h1 (F.put _) I (gw (k:=3) (n:=0) (by omega) hc hs hf (by omega) 0 _) hn (bc _ _) (fun y hy=>by cases hy) (by show (0:Nat)≤_;omega)
 have HP:Hid (_):=hP
 have HE:Hid (_=wa):=hwa
 have HK:Hid (wa.heap[x]?=_):=kR
 have HT:Hid (_):=hth
 obtain⟨X,hX⟩:∃ y,L.x=y:=⟨_,rfl⟩
 have HX:Hid (L.x=X):=hX
 rw[hX]
 clear kR bR hwa h1 hth hx hP hX
 go_enter func18,ntmps18
 go_upto_region 1 with fail
 rw[HE.out,HS.out]
 have hP:=HP.out
 rw[HX.out]at hP
 clear HP
 go_wp2_with fail
 refine Calls.mono hP ?_
 rintro r w1 ⟨A,E,rfl,hsA,hoA,H1⟩
 clear hP
 have kb:=H1.out.2.1.box (q:=2*i+1) (F i (Nat.le_refl _)).1 (ak _ _ _) _ (List.mem_cons_self ..)
 obtain⟨w2,ob',hst,h2,_,hrg,_⟩:=PWn.rowB F H1.out.2.1 (cI HT.out (kb.trans HK.out.symm)) hsA hoA
 have HF:Hid (_):=And.intro h2 (And.intro hrg H1.out)
 clear h2 hrg H1 kb
 go_wp2_with fail
 refine bodyPost_ret (v:=.tuple #[.agg A,.int .i64 E]) ((cU (t:=8) (u:=9) (ty:=56) rfl _ prog w2 (by kernel_rfl) (tX hsA HF.out.2.1)).trans (by kernel_rfl)) rfl ?_
 obtain⟨h2,hrg,hE,_,hr⟩:=HF.out
 exact⟨A,E,rfl,hsA,hoA,hE,h2.drop (F i (Nat.le_refl _)).1 (F i (Nat.le_refl _)).2,fun q=>⟨(hr q).1,(hr q).2.1⟩⟩
structure Xs (P:Pm) (S S':Ws) (c k a:Nat):Prop where
 ex:∃ F R h2,Ex P S.mx (S.hs c) (S.ds c) F R h2 k a∧S'.hs c=h2∧S'.ds c=R.s
 sm:Sm S S' 3
theorem exS {S:Ws} {c k a:Nat} {P:Pm} (I:S.In) (K:S.Kn) (hc:c<S.n) (hmv:S.mv+3≤4096) (h1:S.PH c=P) (h2:S.PD c=P) (J:Pj (S.hs c) (S.ds c) k a) (hk:k=1∨k=2∨k=3∨k=4) (ha:if k=4 then a+1<P.n else a=0) :
  S.bad (di c)=0∧(S.play (di c)).i=((S.bg.length:Nat):Int)∧∀ S1,(S.play (di c)).S=S1→S1.Kn →
   S1.bad (bk c 2 S.bg.length)=0∧(S1.play (bk c 2 S.bg.length)).i=((S.bg.length+1:Nat):Int)∧∀ S2,(S1.play (bk c 2 S.bg.length)).S=S2→S2.Kn →
    S2.bad (bk c 1 (S.bg.length+1))=0∧(S2.play (bk c 1 (S.bg.length+1))).e=0∧Xs P S (S2.play (bk c 1 (S.bg.length+1))).S c k a:=by
 have hP:Pok P:=by rw[← h1];exact K.ph c hc
 have M:=K.mo c hc
 obtain⟨hE,ex⟩:=xt (mx:=S.mx) hP M.mx0 M.mxl J hk ha
 have b1:=wG (S:=S) (c:=c) (by omega) hc
 obtain⟨i1,g1,hs1,ds1,_⟩:=sX b1 (by rw[h1];exact ex.f1)
 refine⟨b1,i1,?_⟩
 rintro S1 rfl K1
 have m1:=cO I K (di c)
 rw[h1]at hs1 g1
 have g1':(S.play (di c)).S.bg[S.bg.length]?=some (az P (S.hs c)):=by rw[g1];simp
 have b2:=pZ (S:=(S.play (di c)).S) (c:=c) (s:=2) (f:=S.bg.length) (by have:=m1.mv;omega) (by rw[m1.n];exact hc) (.inr rfl) (by rw[g1];simp)
 have p2:=rP b2 g1'
 rw[m1.pd,h2,m1.mx,ds1]at p2
 obtain⟨i2,g2,hs2,ds2,_⟩:=p2 ex.rf
 refine⟨b2,by rw[i2,g1];simp,?_⟩
 rintro S2 rfl K2
 have m2:=m1.trans (cO m1.I K1 (bk c 2 S.bg.length))
 have g2':((S.play (di c)).S.play (bk c 2 S.bg.length)).S.bg[S.bg.length+1]?=some (au P S.mx 16 (S.ds c) (az P (S.hs c)).1 (az P (S.hs c)).2).f:=by rw[g2,g1];simp
 have b3:=pZ (S:=((S.play (di c)).S.play (bk c 2 S.bg.length)).S) (c:=c) (s:=1) (f:=S.bg.length+1) (by have:=m2.mv;omega) (by rw[m2.n];exact hc) (.inl rfl) (by rw[g2,g1];simp)
 obtain⟨hs3,ds3,e3⟩:=rh b3 g2'
 rw[m2.ph,h1,hs2,hs1]at hs3 e3
 exact⟨b3,e3.trans ex.he,⟨_,_,_,ex,hs3,ds3.trans ds2⟩,m2.trans (cO m2.I K2 _)⟩
theorem jX {v:Vs} (h:aq v=false):ep v=v:=by
 unfold ep
 rw[if_neg (by rw[h];simp)]
theorem gB {s:Sh} (h:aq s.v=false):fC s=s:=by
 show { s with v:=ep s.v }=s
 rw[jX h]
theorem gz {s:Sd} (h:aq s.v=false):cY s=s:=by
 unfold cY
 split
 ·rfl
 ·show { s with v:=ep s.v }=s
  rw[jX h]
def sp (S:Ws) (c:Nat):Bool:=(decide ((S.hs c).st=4) && decide ((S.hs c).v.lat=0)) && (decide ((S.ds c).st=4) && decide ((S.ds c).v.lat=0)) && decide ((S.hs c).ss=(S.ds c).ss)
structure Xa (P:Pm) (S S':Ws) (c k a:Nat):Prop where
 ex:∃ F R h2,Ex P S.mx (S.hs c) (S.ds c) F R h2 k a∧S'.hs c=fC h2∧S'.ds c=cY R.s
 sm:Sm S S' 5
theorem Xa.pj {P:Pm} {S S':Ws} {c k a:Nat} (hk:k=1∨k=2∨k=3∨k=4) (h:Xa P S S' c k a):Pj (S'.hs c) (S'.ds c) (if k=4 then 4 else k+1) (if k=4 then a+1 else a):=by
 obtain⟨F,R,h2,ex,e1,e2⟩:=h.ex
 rw[e1,e2]
 have j:=ex.pj
 have h6:R.s.st≠6:=by rw[j.dst];split <;> omega
 have e:cY R.s={ R.s with v:=ep R.s.v }:=by unfold cY;rw[if_neg h6]
 rw[e]
 exact⟨j.hst,j.dst,j.hss,j.dss,j.hnm,j.hsn,j.dnm,j.dsn,j.wt,fun z=>by exfalso;split at z <;> omega⟩
theorem Xa.lat {P:Pm} {S S':Ws} {c k a:Nat} (h:Xa P S S' c k a) (h1:(S.hs c).v.lat=0) (h2:(S.ds c).v.lat=0):(S'.hs c).v.lat=0∧(S'.ds c).v.lat=0:=by
 obtain⟨F,R,q,ex,e1,e2⟩:=h.ex
 have a1:=ex.hl.trans h1
 have a2:=ex.dl.trans h2
 have r:∀ v:Vs,v.lat=0→aq v=false:=fun v z=>by unfold aq;rw[z];simp
 rw[e1,e2,gB (r _ a1),gz (r _ a2)]
 exact⟨a1,a2⟩
theorem iA {S:Ws} {c k a:Nat} (J:Pj (S.hs c) (S.ds c) k a) (h1:(S.hs c).v.lat=0) (h2:(S.ds c).v.lat=0):sp S c=decide (k=4):=by
 unfold sp
 rw[J.hst,J.dst,J.hss,J.dss,h1,h2]
 by_cases e:k=4
 ·subst e;rfl
 ·simp[e]
end Go.Proofs.YtfgnmadnmjdbiaaGreat
