/- Part 51: contracts that the proof rests on. -/
import Derived.Maps.AppendAt
import Derived.Deep.RegionHeld3
import Derived.Deep.MidRow
import Derived.Deep.DeepCutAuto
import Derived.Deep.CutBlock
import Derived.Deep.RegionWith
import Derived.Test.YtenilkloffnjlaaGreatPkH47
import Derived.Test.YtenilkloffnjlaaGreatPkH49
set_option maxHeartbeats 64000000
set_option maxRecDepth 100000
namespace Go.Proofs.YtenilkloffnjlaaGreat
open Tryz
open Go.RowKit Go.Maps
set_option linter.unusedVariables false
theorem rG (X:Nat) (A:Array Value) (i:Int) (w:World) (hi:i<0) (h10:A.toList[10]?=some (.int .i64 i)):Calls prog 12 #[ac X 0,.agg A] w fun r w'=>r=.returned (.tuple #[.agg bH,.bool false])∧Below w.heap.size w w':=by
 obtain⟨W,hW⟩:∃ y,(w.alloc (.cells A 45)).alloc (.cells bH 50)=y:=⟨_,rfl⟩
 obtain⟨x,hx⟩:∃ y,w.heap.size=y:=⟨_,rfl⟩
 have s1:=io w (.cells A 45)
 have bW:Below w.heap.size w W:=by rw[← hW];exact aF (aF (Below.refl _ w) _) _
 have k0:W.heap[w.heap.size]?=some (.cells A 45 (0,0)):=by rw[← hW];exact (Below.heap_alloc _ _ _ (by omega)).trans (aB w _)
 have k1:W.heap[w.heap.size+1]?=some (.cells bH 50 (0,0)):=by rw[← hW];have:=aB (w.alloc (.cells A 45)) (.cells bH 50);rw[s1]at this;exact this
 rw[hx]at k0 k1
 have c10:W.cell? ⟨x,10,none⟩=some (.int .i64 i):=(ae W x 10 _ _ _ k0).trans (by rw[← Array.getElem?_toList];exact h10)
 have u0:W.cell? ⟨x+1,0,none⟩=some (.int .i64 0):=ae W (x+1) 0 _ _ _ k1
 have u1:W.cell? ⟨x+1,1,none⟩=some (.int .u32 0):=ae W (x+1) 1 _ _ _ k1
 have u2:W.cell? ⟨x+1,2,none⟩=some (.int .u32 0):=ae W (x+1) 2 _ _ _ k1
 have u3:W.cell? ⟨x+1,3,none⟩=some (.int .u32 0):=ae W (x+1) 3 _ _ _ k1
 have u4:W.cell? ⟨x+1,4,none⟩=some (.int .i64 0):=ae W (x+1) 4 _ _ _ k1
 have u5:W.cell? ⟨x+1,5,none⟩=some (.slice none 0 0):=ae W (x+1) 5 _ _ _ k1
 have uf:=fun k=>frozen_of_row W (x+1) k _ _ k1
 have e0:W.setCell ⟨x+1,0,none⟩ (.int .i64 0)=W:=bP k1 rfl
 have e1:W.setCell ⟨x+1,1,none⟩ (.int .u32 0)=W:=bP k1 rfl
 have e2:W.setCell ⟨x+1,2,none⟩ (.int .u32 0)=W:=bP k1 rfl
 have e3:W.setCell ⟨x+1,3,none⟩ (.int .u32 0)=W:=bP k1 rfl
 have e4:W.setCell ⟨x+1,4,none⟩ (.int .i64 0)=W:=bP k1 rfl
 have e5:W.setCell ⟨x+1,5,none⟩ (.slice none 0 0)=W:=bP k1 rfl
 have HB:Hid (Below w.heap.size w W):=bW
 have HE:Hid (_=W):=hW
 have HX:Hid (w.heap.size=x):=hx
 clear k0 k1 h10 s1 bW hW hx
 go_enter func12,ntmps12
 go_upto_region 1 with fail
 rw[HE.out,HX.out]
 go_wp2_with fail
 refine bodyPost_ret (v:=.tuple #[.agg bH,.bool false]) (by simp[results,results12,go_sem,u0,u1,u2,u3,u4,u5]) rfl ⟨rfl,HB.out⟩
theorem rI {e:Nat→Nat} {w0 w:World} {t:Nat→Thing} {L:Pw} {S:Ws} {F:Fm} {n:Nat} (A:Array Value) (h:PWn e w0 t L w S) (hn:n<S.bg.length) (hF:S.bg.getD n cZ=F) (hD:DE F.2 F.1=0) (h10:A.toList[10]?=some (.int .i64 (n:Nat))) :
  Calls prog 12 #[ac L.x 0,.agg A] w fun r w'=>∃ a c,r=.returned (.tuple #[.agg #[.int .i64 (F.2 0:Nat),.int .u32 (aC F.2 1:Nat),.int .u32 (aC F.2 5:Nat),.int .u32 (aC F.2 9:Nat),.int .i64 (F.2 13:Nat),.slice a (F.1-19) c],.bool true])∧Hid (w'.ownsRow w.heap.size 5 1 (.slice a (F.1-19) c) (F.1-19) (CB (fun i=>F.2 (15+i)) (F.1-19))∧Below w.heap.size w w'):=by
 obtain⟨W,hW⟩:∃ y,(w.alloc (.cells A 45)).alloc (.cells bH 50)=y:=⟨_,rfl⟩
 obtain⟨x,hx⟩:∃ y,w.heap.size=y:=⟨_,rfl⟩
 have s1:=io w (.cells A 45)
 have bW:Below w.heap.size w W:=by rw[← hW];exact aF (aF (Below.refl _ w) _) _
 have k0:W.heap[w.heap.size]?=some (.cells A 45 (0,0)):=by rw[← hW];exact (Below.heap_alloc _ _ _ (by omega)).trans (aB w _)
 have k1:W.heap[w.heap.size+1]?=some (.cells bH 50 (0,0)):=by rw[← hW];have:=aB (w.alloc (.cells A 45)) (.cells bH 50);rw[s1]at this;exact this
 rw[hx]at k0 k1
 have c10:W.cell? ⟨x,10,none⟩=some (.int .i64 (n:Nat)):=(ae W x 10 _ _ _ k0).trans (by rw[← Array.getElem?_toList];exact h10)
 have hn0:¬ ((n:Nat):Int)<0:=by omega
 have hFr:=yR ((n:Nat):Int) (h.below bW)
 rw[if_neg (by omega)]at hFr
 obtain⟨X,hX⟩:∃ y,L.x=y:=⟨_,rfl⟩
 rw[hX]at hFr ⊢
 have HB:Hid (Below w.heap.size w W):=bW
 have HE:Hid (_=W):=hW
 have HX:Hid (w.heap.size=x):=hx
 have HK:Hid (_):=k1
 have HN:Hid (n<S.bg.length):=hn
 clear k0 k1 h10 s1 bW hW hx hX
 go_enter func12,ntmps12
 go_upto_region 1 with fail
 rw[HE.out,HX.out]
 go_wp2_with fail
 refine hFr.mono ?_
 rintro r w1 ⟨a,m,ca,rfl,H1⟩
 clear hFr c10
 obtain⟨b1,q⟩:=H1.out
 obtain⟨rfl,R,nw⟩:=q (by omega)
 rw[Int.toNat_natCast,hF]at R
 rw[Int.toNat_natCast,hF]at *
 have hDc:=rL a F.1 ca F.2 w1 R hD
 clear q R nw H1
 go_wp2_with fail
 refine hDc.mono ?_
 rintro r w2 ⟨a2,c2,rfl,H2⟩
 clear hDc
 have kU:=aB w2 (.cells #[.int .i64 (F.2 0:Nat),.int .u32 (aC F.2 1:Nat),.int .u32 (aC F.2 5:Nat),.int .u32 (aC F.2 9:Nat),.int .i64 (F.2 13:Nat),.slice a2 (F.1-19) c2] 50)
 have bU:=aF (Below.refl _ w2) (.cells #[.int .i64 (F.2 0:Nat),.int .u32 (aC F.2 1:Nat),.int .u32 (aC F.2 5:Nat),.int .u32 (aC F.2 9:Nat),.int .i64 (F.2 13:Nat),.slice a2 (F.1-19) c2] 50)
 obtain⟨w3,hw3⟩:∃ y,w2.alloc (.cells #[.int .i64 (F.2 0:Nat),.int .u32 (aC F.2 1:Nat),.int .u32 (aC F.2 5:Nat),.int .u32 (aC F.2 9:Nat),.int .i64 (F.2 13:Nat),.slice a2 (F.1-19) c2] 50)=y:=⟨_,rfl⟩
 obtain⟨pu,hpu⟩:∃ y,w2.heap.size=y:=⟨_,rfl⟩
 rw[hw3]at kU bU
 rw[hpu]at kU
 have b13:Below W.heap.size W w3:=(b1.trans (H2.out.2.mono b1.size)).trans (bU.mono (Nat.le_trans b1.size H2.out.2.size))
 have k1:=(b13.block (x+1) (Array.getElem?_eq_some_iff.1 HK.out).1).trans HK.out
 have u0:w3.cell? ⟨pu,0,none⟩=some (.int .i64 (F.2 0:Nat)):=ae w3 pu 0 _ _ _ kU
 have u1:w3.cell? ⟨pu,1,none⟩=some (.int .u32 (aC F.2 1:Nat)):=ae w3 pu 1 _ _ _ kU
 have u2:w3.cell? ⟨pu,2,none⟩=some (.int .u32 (aC F.2 5:Nat)):=ae w3 pu 2 _ _ _ kU
 have u3:w3.cell? ⟨pu,3,none⟩=some (.int .u32 (aC F.2 9:Nat)):=ae w3 pu 3 _ _ _ kU
 have u4:w3.cell? ⟨pu,4,none⟩=some (.int .i64 (F.2 13:Nat)):=ae w3 pu 4 _ _ _ kU
 have u5:w3.cell? ⟨pu,5,none⟩=some (.slice a2 (F.1-19) c2):=ae w3 pu 5 _ _ _ kU
 have f0:w3.frozen? ⟨x+1,0,none⟩=false:=frozen_of_row w3 (x+1) 0 _ _ k1
 have f1:w3.frozen? ⟨x+1,1,none⟩=false:=frozen_of_row w3 (x+1) 1 _ _ k1
 have f2:w3.frozen? ⟨x+1,2,none⟩=false:=frozen_of_row w3 (x+1) 2 _ _ k1
 have f3:w3.frozen? ⟨x+1,3,none⟩=false:=frozen_of_row w3 (x+1) 3 _ _ k1
 have f4:w3.frozen? ⟨x+1,4,none⟩=false:=frozen_of_row w3 (x+1) 4 _ _ k1
 have f5:w3.frozen? ⟨x+1,5,none⟩=false:=frozen_of_row w3 (x+1) 5 _ _ k1
 have HW:Hid (Below W.heap.size W w3∧w2.heap.size≤w3.heap.size∧W.heap.size≤w1.heap.size∧w3.heap[x+1]?=some (.cells bH 50 (0,0))∧w3.ownsRow w1.heap.size 5 1 (.slice a2 (F.1-19) c2) (F.1-19) (CB (fun i=>F.2 (15+i)) (F.1-19))):=⟨b13,bU.size,b1.size,k1,cU H2.out.1 bU⟩
 clear kU bU b13 H2 b1
 have v0:w3.cell? ⟨x+1,0,none⟩=some (.int .i64 0):=ae w3 (x+1) 0 _ _ _ k1
 have v1:w3.cell? ⟨x+1,1,none⟩=some (.int .u32 0):=ae w3 (x+1) 1 _ _ _ k1
 have v2:w3.cell? ⟨x+1,2,none⟩=some (.int .u32 0):=ae w3 (x+1) 2 _ _ _ k1
 have v3:w3.cell? ⟨x+1,3,none⟩=some (.int .u32 0):=ae w3 (x+1) 3 _ _ _ k1
 have v4:w3.cell? ⟨x+1,4,none⟩=some (.int .i64 0):=ae w3 (x+1) 4 _ _ _ k1
 have v5:w3.cell? ⟨x+1,5,none⟩=some (.slice none 0 0):=ae w3 (x+1) 5 _ _ _ k1
 clear k1
 go_wp2_with fail
 have k1:=HW.out.2.2.2.1
 have kz:(((((((w3.setCell ⟨x+1,0,none⟩ (.int .i64 (F.2 0:Nat))).setCell ⟨x+1,1,none⟩ (.int .u32 (aC F.2 1:Nat))).setCell ⟨x+1,2,none⟩ (.int .u32 (aC F.2 5:Nat))).setCell ⟨x+1,3,none⟩ (.int .u32 (aC F.2 9:Nat))).setCell ⟨x+1,4,none⟩ (.int .i64 (F.2 13:Nat))).setCell ⟨x+1,5,none⟩ (.slice a2 (F.1-19) c2))).heap[x+1]?=some (.cells #[.int .i64 (F.2 0:Nat),.int .u32 (aC F.2 1:Nat),.int .u32 (aC F.2 5:Nat),.int .u32 (aC F.2 9:Nat),.int .i64 (F.2 13:Nat),.slice a2 (F.1-19) c2] 50 (0,0)):=(heap_setCell_same _ _ _ _ _ _ (heap_setCell_same _ _ _ _ _ _ (heap_setCell_same _ _ _ _ _ _ (heap_setCell_same _ _ _ _ _ _ (heap_setCell_same _ _ _ _ _ _ (heap_setCell_same _ _ _ _ _ _ k1))))))
 have oz:Off [x+1] w3 (((((((w3.setCell ⟨x+1,0,none⟩ (.int .i64 (F.2 0:Nat))).setCell ⟨x+1,1,none⟩ (.int .u32 (aC F.2 1:Nat))).setCell ⟨x+1,2,none⟩ (.int .u32 (aC F.2 5:Nat))).setCell ⟨x+1,3,none⟩ (.int .u32 (aC F.2 9:Nat))).setCell ⟨x+1,4,none⟩ (.int .i64 (F.2 13:Nat))).setCell ⟨x+1,5,none⟩ (.slice a2 (F.1-19) c2))):=((((((Off.setCell _ _ _ _).trans (Off.setCell _ _ _ _)).trans (Off.setCell _ _ _ _)).trans (Off.setCell _ _ _ _)).trans (Off.setCell _ _ _ _)).trans (Off.setCell _ _ _ _))
 obtain⟨wz,hwz⟩:∃ y,((((((w3.setCell ⟨x+1,0,none⟩ (.int .i64 (F.2 0:Nat))).setCell ⟨x+1,1,none⟩ (.int .u32 (aC F.2 1:Nat))).setCell ⟨x+1,2,none⟩ (.int .u32 (aC F.2 5:Nat))).setCell ⟨x+1,3,none⟩ (.int .u32 (aC F.2 9:Nat))).setCell ⟨x+1,4,none⟩ (.int .i64 (F.2 13:Nat))).setCell ⟨x+1,5,none⟩ (.slice a2 (F.1-19) c2))=y:=⟨_,rfl⟩
 rw[hwz]at kz oz ⊢
 have z0:wz.cell? ⟨x+1,0,none⟩=some (.int .i64 (F.2 0:Nat)):=ae wz (x+1) 0 _ _ _ kz
 have z1:wz.cell? ⟨x+1,1,none⟩=some (.int .u32 (aC F.2 1:Nat)):=ae wz (x+1) 1 _ _ _ kz
 have z2:wz.cell? ⟨x+1,2,none⟩=some (.int .u32 (aC F.2 5:Nat)):=ae wz (x+1) 2 _ _ _ kz
 have z3:wz.cell? ⟨x+1,3,none⟩=some (.int .u32 (aC F.2 9:Nat)):=ae wz (x+1) 3 _ _ _ kz
 have z4:wz.cell? ⟨x+1,4,none⟩=some (.int .i64 (F.2 13:Nat)):=ae wz (x+1) 4 _ _ _ kz
 have z5:wz.cell? ⟨x+1,5,none⟩=some (.slice a2 (F.1-19) c2):=ae wz (x+1) 5 _ _ _ kz
 refine bodyPost_ret (v:=.tuple #[.agg #[.int .i64 (F.2 0:Nat),.int .u32 (aC F.2 1:Nat),.int .u32 (aC F.2 5:Nat),.int .u32 (aC F.2 9:Nat),.int .i64 (F.2 13:Nat),.slice a2 (F.1-19) c2],.bool true]) (by simp[results,results12,go_sem,z0,z1,z2,z3,z4,z5]) rfl ⟨a2,c2,rfl,?_,?_⟩
 ·have o:=HW.out.2.2.2.2
  have l1:x+1<W.heap.size:=(Array.getElem?_eq_some_iff.1 HK.out).1
  have l2:=HW.out.2.2.1
  refine aS (bZ o (fun g hg=>oz.block g (o.lt g hg).2 (by have:=(o.lt g hg).1;simp;omega))) ?_
  have:=HX.out
  omega
 ·have hb:=HB.out
  exact oz.below (hb.trans (HW.out.1.mono hb.size)) (fun k hk=>by have:=HX.out;simp at hk;omega) (Nat.le_trans hb.size HW.out.1.size)
structure Ue where
 k:Int
 c:Nat
 s:Nat
 n:Nat
 f:Int
 a:Option Addr
 l:Nat
 p:Nat
 b:Nat→Nat
def Ue.cs (u:Ue):List Value:=[.int .i64 u.k,.int .u32 (u.c:Nat),.int .u32 (u.s:Nat),.int .u32 (u.n:Nat),.int .i64 u.f,.slice u.a u.l u.p]
def Ue.y (u:Ue):Uy:=⟨u.s,u.n,(u.l,u.b)⟩
def sX (es:List Ue):List Value:=es.flatMap Ue.cs
def ue0:Ue:=⟨0,0,0,0,0,none,0,0,fun _=>0⟩
structure Mg where
 s:Nat
 l:Nat
 v:Nat→Value
 e:Nat→List Ue
 z:Nat→Ue
 V:List Nat
def Mg.U (M:Mg):List Nat:=M.s :: M.l :: ((M.v 0).ownBlock.toList ++ ((M.v 1).ownBlock.toList ++ M.V))
def Ue.in_ (u:Ue) (w:World) (V:List Nat):Prop:=Row8 w u.a u.l u.p u.b∧∀ y,u.a=some y→0<u.l→y.block ∈ V
structure MgW (M:Mg) (w:World):Prop where
 sb:w.heap[M.s]?=some (.cells #[M.v 0,M.v 1] 34 (0,0))
 lb:w.heap[M.l]?=some (.cells ((M.z 0).cs ++ (M.z 1).cs).toArray 50 (0,0))
 r:∀ k,k<2→w.ownsRow 0 50 6 (M.v k) (M.e k).length (sX (M.e k))
 d:∀ k,k<2→∀ u,u ∈ M.e k→u.in_ w M.V
 dz:∀ k,k<2→(M.z k).in_ w M.V
 nsl:M.s≠M.l
 nv:∀ k,k<2→∀ q,(M.v k).ownBlock=some q→q≠M.s∧q≠M.l
 n01:∀ q,(M.v 0).ownBlock=some q→(M.v 1).ownBlock≠some q
 vl:∀ q,q ∈ M.V→q<w.heap.size∧q≠M.s∧q≠M.l∧∀ k,k<2→(M.v k).ownBlock≠some q
theorem Mg.mem_v {M:Mg} {k q:Nat} (hk:k<2) (h:(M.v k).ownBlock=some q):q ∈ M.U:=by
 unfold Mg.U
 rcases (by omega:k=0∨k=1) with rfl | rfl
 ·simp[h]
 ·simp[h]
theorem Mg.mem_V {M:Mg} {q:Nat} (h:q ∈ M.V):q ∈ M.U:=by
 unfold Mg.U
 simp[h]
theorem nM {w w':World} {v:Value} {B t size n:Nat} {xs:List Value} (h:w.ownsRow B t size v n xs) (hk:∀ k,v.ownBlock=some k→w'.heap[k]?=w.heap[k]?):w'.ownsRow B t size v n xs:=by
 refine⟨h.1,?_⟩
 rcases h.2 with hn | ⟨g,cap,cur,rfl,hg,hgg,rest⟩
 ·exact .inl hn
 ·exact .inr ⟨g,cap,cur,rfl,hg,(hk g rfl).trans hgg,rest⟩
theorem gZ {w:World} {v:Value} {B t size n q:Nat} {xs:List Value} (h:w.ownsRow B t size v n xs) (hq:v.ownBlock=some q):q<w.heap.size:=by
 rcases h.2 with ⟨hn,_⟩ | ⟨g,cap,cur,rfl,hg,hgg,rest⟩
 ·rw[hn]at hq
  cases hq
 ·have:g=q:=by simpa [Value.ownBlock] using hq
  subst this
  exact (Array.getElem?_eq_some_iff.1 hgg).1
theorem zg {w w':World} {a:Option Addr} {len cap:Nat} {bs:Nat→Nat} (h:Row8 w a len cap bs) (hk:∀ y,a=some y→0<len→w'.heap[y.block]?=w.heap[y.block]?):Row8 w' a len cap bs:=by
 refine⟨h.byte,h.nil,fun x hx i hi=>?_,h.le⟩
 have hb:(x.add i).block=x.block:=by unfold Addr.add;split <;> rfl
 have hkk:=hk x hx (by omega)
 exact (World.cell?_of_block (w:=w) (w':=w') (a:=x.add i) (by rw[hb];exact hkk)).trans (h.src x hx i hi)
theorem Ue.in_.kp {u:Ue} {w w':World} {V V':List Nat} (h:u.in_ w V) (hk:∀ q,q ∈ V→w'.heap[q]?=w.heap[q]?) (hV:∀ q,q ∈ V→q ∈ V'):u.in_ w' V':=
 ⟨zg h.1 (fun y hy hl=>hk _ (h.2 y hy hl)),fun y hy hl=>hV _ (h.2 y hy hl)⟩
section
variable {M:Mg} {w w':World}
theorem MgW.lt (h:MgW M w) {q:Nat} (hq:q ∈ M.U):q<w.heap.size:=by
 unfold Mg.U at hq
 simp only[List.mem_cons,List.mem_append,Option.mem_toList]at hq
 rcases hq with rfl | rfl | hq | hq | hq
 ·exact (Array.getElem?_eq_some_iff.1 h.sb).1
 ·exact (Array.getElem?_eq_some_iff.1 h.lb).1
 ·exact gZ (h.r 0 (by decide)) hq
 ·exact gZ (h.r 1 (by decide)) hq
 ·exact (h.vl q hq).1
theorem MgW.keep (h:MgW M w) (hk:∀ q,q ∈ M.U→w'.heap[q]?=w.heap[q]?):MgW M w':=by
 have hV:∀ q,q ∈ M.V→w'.heap[q]?=w.heap[q]?:=fun q hq=>hk q (Mg.mem_V hq)
 have hlt:∀ q,q ∈ M.V→q<w'.heap.size:=fun q hq=>by
  have h1:=hV q hq
  rw[Array.getElem?_eq_getElem (h.vl q hq).1]at h1
  exact (Array.getElem?_eq_some_iff.1 h1).1
 exact⟨(hk M.s (by simp[Mg.U])).trans h.sb,(hk M.l (by simp[Mg.U])).trans h.lb,fun k hk2=>nM (h.r k hk2) (fun q hq=>hk q (Mg.mem_v hk2 hq)),fun k hk2 u hu=>(h.d k hk2 u hu).kp hV (fun _ y=>y),fun k hk2=>(h.dz k hk2).kp hV (fun _ y=>y),h.nsl,h.nv,h.n01,fun q hq=>⟨hlt q hq,(h.vl q hq).2⟩⟩
def il (M:Mg):Thing:=⟨M.U,MgW M,fun w w' l h o hl=>h.keep fun q hq=>o.block q (h.lt hq) (hl q hq)⟩
theorem MgW.add (h:MgW M w) {k:Nat} (hk:k<2) {u:Ue} {q:List Nat} (hu:u.in_ w q) (hq:∀ x,x ∈ q→x<w.heap.size∧x ∉ M.U) {v1:Value} {w1:World} (O:w1.ownsRow 0 50 6 v1 ((M.e k).length+1) (sX (M.e k) ++ u.cs)) (G:w.grownBy w1 (M.v k).ownBlock) (E:v1.ownBlock=(M.v k).ownBlock∨v1.ownBlock=some w.heap.size) (o:Off [M.s] w1 w') (hs:w'.heap[M.s]?=some (.cells #[aG M.v k v1 0,aG M.v k v1 1] 34 (0,0))) :
  MgW { M with v:=aG M.v k v1,e:=aG M.e k (M.e k ++ [u]),V:=q ++ M.V } w'∧Off M.U w w'∧∀ x,x ∈ ({ M with v:=aG M.v k v1,e:=aG M.e k (M.e k ++ [u]),V:=q ++ M.V }:Mg).U→x ∈ M.U∨x ∈ q∨x=w.heap.size:=by
 have hSs:M.s<w.heap.size:=h.lt (by simp[Mg.U])
 have hSl:M.l<w.heap.size:=h.lt (by simp[Mg.U])
 have kp:∀ x,x<w.heap.size→x≠M.s→(M.v k).ownBlock≠some x→w'.heap[x]?=w.heap[x]?:=fun x hx h1 h2=>
  (o.block x (Nat.lt_of_lt_of_le hx G.size) (by simpa using h1)).trans (G.block x hx (fun e=>h2 e.symm))
 have hv1:∀ x,v1.ownBlock=some x→x≠M.s∧x≠M.l∧x ∉ M.V∧(∀ j,j<2→j≠k→(M.v j).ownBlock≠some x)∧x ∉ q:=fun x hx=>by
  rcases E with e | e
  ·rw[e]at hx
   obtain⟨n1,n2⟩:=h.nv k hk x hx
   refine⟨n1,n2,fun y=>(h.vl x y).2.2.2 k hk hx,fun j hj hjk hjx=>?_,fun y=>(hq x y).2 (Mg.mem_v hk hx)⟩
   rcases (by omega:k=0∧j=1∨k=1∧j=0) with ⟨rfl,rfl⟩ | ⟨rfl,rfl⟩
   ·exact h.n01 x hx hjx
   ·exact h.n01 x hjx hx
  ·rw[e]at hx
   simp only[Option.some.injEq]at hx
   subst hx
   refine⟨by omega,by omega,fun y=>by have:=(h.vl _ y).1;omega,fun j hj _ hjx=>by have:=gZ (h.r j hj) hjx;omega,fun y=>by have:=(hq _ y).1;omega⟩
 have hV:∀ x,x ∈ M.V→w'.heap[x]?=w.heap[x]?:=fun x hx=>by
  obtain⟨a,b,_,c⟩:=h.vl x hx
  exact kp x a b (c k hk)
 have hQ:∀ x,x ∈ q→w'.heap[x]?=w.heap[x]?:=fun x hx=>by
  obtain⟨a,b⟩:=hq x hx
  exact kp x a (fun y=>b (by rw[y];simp[Mg.U])) (fun y=>b (Mg.mem_v hk y))
 have hsz:w.heap.size≤w'.heap.size:=Nat.le_trans G.size o.size
 refine⟨⟨hs,?_,fun j hj=>?_,fun j hj y hy=>?_,fun j hj=>(h.dz j hj).kp hV (fun _ z=>List.mem_append_right _ z),h.nsl,fun j hj x hx=>?_,fun x hx hx1=>?_,fun x hx=>?_⟩,?_,fun x hx=>?_⟩
 ·exact (kp M.l hSl h.nsl.symm (fun y=>(h.nv k hk _ y).2 rfl)).trans h.lb
 ·show w'.ownsRow 0 _ 6 (aG M.v k v1 j) (aG M.e k (M.e k ++ [u]) j).length (sX (aG M.e k (M.e k ++ [u]) j))
  unfold aG
  by_cases e:j=k
  ·rw[if_pos e,if_pos e]
   have e2:sX (M.e k ++ [u])=sX (M.e k) ++ u.cs:=by unfold sX;rw[List.flatMap_append];simp
   rw[e2,List.length_append]
   exact nM O (fun x hx=>o.block x (gZ O hx) (by simpa using (hv1 x hx).1))
  ·rw[if_neg e,if_neg e]
   exact nM (h.r j hj) (fun x hx=>kp x (gZ (h.r j hj) hx) (h.nv j hj x hx).1 (fun y=>by
    rcases (by omega:k=0∧j=1∨k=1∧j=0) with ⟨rfl,rfl⟩ | ⟨rfl,rfl⟩
    ·exact h.n01 x y hx
    ·exact h.n01 x hx y))
 ·have hy:y ∈ aG M.e k (M.e k ++ [u]) j:=hy
  unfold aG at hy
  by_cases e:j=k
  ·rw[if_pos e,List.mem_append,List.mem_singleton]at hy
   rcases hy with hy | rfl
   ·exact (h.d k hk y hy).kp hV (fun _ z=>List.mem_append_right _ z)
   ·exact hu.kp hQ (fun _ z=>List.mem_append_left _ z)
  ·rw[if_neg e]at hy
   exact (h.d j hj y hy).kp hV (fun _ z=>List.mem_append_right _ z)
 ·have hx:(aG M.v k v1 j).ownBlock=some x:=hx
  unfold aG at hx
  by_cases e:j=k
  ·rw[if_pos e]at hx
   exact⟨(hv1 x hx).1,(hv1 x hx).2.1⟩
  ·rw[if_neg e]at hx
   exact h.nv j hj x hx
 ·have hx:(aG M.v k v1 0).ownBlock=some x:=hx
  have hx1:(aG M.v k v1 1).ownBlock=some x:=hx1
  unfold aG at hx hx1
  rcases (by omega:k=0∨k=1) with rfl | rfl
  ·rw[if_pos rfl]at hx
   rw[if_neg (by decide)]at hx1
   exact (hv1 x hx).2.2.2.1 1 (by decide) (by decide) hx1
  ·rw[if_neg (by decide)]at hx
   rw[if_pos rfl]at hx1
   exact (hv1 x hx1).2.2.2.1 0 (by decide) (by decide) hx
 ·have hn:∀ j,j<2→∀ z,(M.v j).ownBlock≠some z→(j=k→v1.ownBlock≠some z)→(aG M.v k v1 j).ownBlock≠some z:=fun j hj z h1 h2=>by
   unfold aG
   split
   ·next e=>exact h2 e
   ·exact h1
  rcases List.mem_append.1 hx with y | y
  ·obtain⟨a,b⟩:=hq x y
   exact⟨Nat.lt_of_lt_of_le a hsz,fun z=>b (by rw[z];simp[Mg.U]),fun z=>b (by rw[z];simp[Mg.U]),fun j hj=>hn j hj x (fun z=>b (Mg.mem_v hj z)) (fun _ z=>(hv1 x z).2.2.2.2 y)⟩
  ·obtain⟨a,b,c,d⟩:=h.vl x y
   exact⟨Nat.lt_of_lt_of_le a hsz,b,c,fun j hj=>hn j hj x (d j hj) (fun _ z=>(hv1 x z).2.2.1 y)⟩
 ·exact⟨o.os.trans G.os,o.tape.trans G.tape,o.output.trans G.output,hsz,fun x hx hn=>kp x hx (fun e=>hn (by rw[e];simp[Mg.U])) (fun e=>hn (Mg.mem_v hk e))⟩
 ·have hx:x=M.s∨x=M.l∨(aG M.v k v1 0).ownBlock=some x∨(aG M.v k v1 1).ownBlock=some x∨x ∈ q ++ M.V:=by
   unfold Mg.U at hx
   simpa only [List.mem_cons,List.mem_append,Option.mem_toList,Option.mem_def] using hx
  have hj:∀ j,j<2→(aG M.v k v1 j).ownBlock=some x→x ∈ M.U∨x ∈ q∨x=w.heap.size:=fun j hj hx=>by
   unfold aG at hx
   by_cases e:j=k
   ·rw[if_pos e]at hx
    rcases E with e2 | e2
    ·rw[e2]at hx
     exact .inl (Mg.mem_v hk hx)
    ·rw[e2]at hx
     simp only[Option.some.injEq]at hx
     exact .inr (.inr hx.symm)
   ·rw[if_neg e]at hx
    exact .inl (Mg.mem_v hj hx)
  rcases hx with rfl | rfl | hx | hx | hx
  ·exact .inl (by simp[Mg.U])
  ·exact .inl (by simp[Mg.U])
  ·exact hj 0 (by decide) hx
  ·exact hj 1 (by decide) hx
  ·rcases List.mem_append.1 hx with y | y
   ·exact .inr (.inl y)
   ·exact .inl (Mg.mem_V y)
theorem MgW.see (h:MgW M w) {k:Nat} (hk:k<2) {u:Ue} {q:List Nat} (hu:u.in_ w q) (hq:∀ x,x ∈ q→x<w.heap.size∧x ∉ M.U) (o:Off [M.l] w w') (hl:w'.heap[M.l]?=some (.cells ((aG M.z k u 0).cs ++ (aG M.z k u 1).cs).toArray 50 (0,0))) :
  MgW { M with z:=aG M.z k u,V:=q ++ M.V } w'∧Off M.U w w'∧∀ x,x ∈ ({ M with z:=aG M.z k u,V:=q ++ M.V }:Mg).U→x ∈ M.U∨x ∈ q:=by
 have kp:∀ x,x<w.heap.size→x≠M.l→w'.heap[x]?=w.heap[x]?:=fun x hx h1=>o.block x hx (by simpa using h1)
 have hV:∀ x,x ∈ M.V→w'.heap[x]?=w.heap[x]?:=fun x hx=>kp x (h.vl x hx).1 (h.vl x hx).2.2.1
 have hQ:∀ x,x ∈ q→w'.heap[x]?=w.heap[x]?:=fun x hx=>kp x (hq x hx).1 (fun y=>(hq x hx).2 (by rw[y];simp[Mg.U]))
 refine⟨⟨(kp M.s (h.lt (by simp[Mg.U])) h.nsl).trans h.sb,hl,fun j hj=>nM (h.r j hj) (fun x hx=>kp x (gZ (h.r j hj) hx) (h.nv j hj x hx).2),fun j hj y hy=>(h.d j hj y hy).kp hV (fun _ z=>List.mem_append_right _ z),fun j hj=>?_,h.nsl,h.nv,h.n01,fun x hx=>?_⟩,?_,fun x hx=>?_⟩
 ·show (aG M.z k u j).in_ w' (q ++ M.V)
  unfold aG
  split
  ·exact hu.kp hQ (fun _ z=>List.mem_append_left _ z)
  ·exact (h.dz j hj).kp hV (fun _ z=>List.mem_append_right _ z)
 ·rcases List.mem_append.1 hx with y | y
  ·obtain⟨a,b⟩:=hq x y
   exact⟨Nat.lt_of_lt_of_le a o.size,fun z=>b (by rw[z];simp[Mg.U]),fun z=>b (by rw[z];simp[Mg.U]),fun j hj z=>b (Mg.mem_v hj z)⟩
  ·obtain⟨a,b⟩:=h.vl x y
   exact⟨Nat.lt_of_lt_of_le a o.size,b⟩
 ·exact o.more (fun x hx=>by simp at hx;rw[hx];simp[Mg.U])
 ·have hx:x=M.s∨x=M.l∨(M.v 0).ownBlock=some x∨(M.v 1).ownBlock=some x∨x ∈ q ++ M.V:=by
   unfold Mg.U at hx
   simpa only [List.mem_cons,List.mem_append,Option.mem_toList,Option.mem_def] using hx
  rcases hx with rfl | rfl | hx | hx | hx
  ·exact .inl (by simp[Mg.U])
  ·exact .inl (by simp[Mg.U])
  ·exact .inl (Mg.mem_v (by decide) hx)
  ·exact .inl (Mg.mem_v (by decide) hx)
  ·rcases List.mem_append.1 hx with y | y
   ·exact .inr y
   ·exact .inl (Mg.mem_V y)
end
theorem PWn.stepT {e:Nat→Nat} {w0 w w':World} {t:Nat→Thing} {L:Pw} {S:Ws} {i:Nat} {x x':Thing} (h:PWn e w0 (aJ t i x) L w S) (hi:∀ j,i≠e j) (g:Gr x.U w x'.U w') (hx:x'.T w') (hl:∀ k,k ∈ x'.U→k<w'.heap.size):PWn e w0 (aJ t i x') L w' S:=by
 obtain⟨t1,L1,h1,hs,hx1,he⟩:=h
 have e1:t1 i=x:=by rw[he i hi,al]
 refine⟨aJ t1 i x',L1,⟨h1.1.step i x' (by rw[e1]) g hx hl,h1.2.1,fun j=>by rw[an _ _ (fun z=>hi j z.symm)];exact h1.2.2 j⟩,hs,hx1,fun k hk=>?_⟩
 by_cases z:k=i
 ·subst z
  rw[al,al]
 ·rw[an _ _ z,he k hk,an _ _ z,an _ _ z]
theorem PWn.getT {e:Nat→Nat} {w0 w:World} {t:Nat→Thing} {L:Pw} {S:Ws} {i:Nat} {x:Thing} (h:PWn e w0 t L w S) (hi:∀ j,i≠e j) (ht:t i=x):x.T w:=by
 obtain⟨t1,L1,h1,_,_,he⟩:=h
 exact h1.1.get ((he i hi).trans ht)
theorem PWn.putX {e:Nat→Nat} {w0 w w':World} {t:Nat→Thing} {L:Pw} {S:Ws} {i:Nat} (h:PWn e w0 t L w S) (b:Below w.heap.size w w') (hi:∀ j,i≠e j) (x:Thing) (hx:x.T w') (hl:∀ k,k ∈ x.U→w.heap.size≤k∧k<w'.heap.size):PWn e w0 (aJ t i x) L w' S:=by
 obtain⟨t1,L1,h1,hs,hx1,he⟩:=h
 refine⟨aJ t1 i x,L1,⟨(h1.1.below b).turn i x (Off.refl _ _) hx (fun k hk=>⟨Nat.le_trans h1.1.bel.size (hl k hk).1,(hl k hk).2⟩) (fun k hk j hj hm=>?_),h1.2.1,fun j=>by rw[an _ _ (fun z=>hi j z.symm)];exact h1.2.2 j⟩,hs,hx1,fun k hk=>?_⟩
 ·have:=(h1.1.lt j k hm).2
  have:=(hl k hk).1
  omega
 ·by_cases z:k=i
  ·subst z
   rw[al,al]
  ·rw[an _ _ z,he k hk,an _ _ z]
end Go.Proofs.YtenilkloffnjlaaGreat
namespace Go.Proofs.YtenilkloffnjlaaGreat
open Tryz
open Go.RowKit Go.Maps
set_option linter.unusedVariables false
theorem ry:(prog.info? 50).map (fun i=>(i.zero,i.size,i.bytes))=some (some (.agg bH),6,56):=by kernel_rfl
theorem zE (u:Ue):∀ x ∈ u.cs,x.oneCell'=true:=by
 intro x hx
 unfold Ue.cs at hx
 simp only[List.mem_cons,List.not_mem_nil,or_false]at hx
 rcases hx with rfl | rfl | rfl | rfl | rfl | rfl <;> rfl
theorem mM {ops:Array Oper} {o:Oper} {a:Act} {w:World} {K:Act→World→Prop} {Q:Exit→Act→World→Prop} {E:Prop}
  (hg:o.guard=none) (s x:Operand) (hop:o.op=Op.call { callee:=Callee.builtin Builtin.append,args:=#[s,x],argTypes:=#[34,34] }) (hty:o.type=34)
  (g:Nat) (es:List Ue) (u:Ue) (v:Value) (hs:a.eval s=v) (hx:a.eval x=.slice (af g 0) 1 1) (h1:w.ownsRow 0 50 6 v es.length (sX es)) (hgc:w.heap[g]?=some (.cells u.cs.toArray 50 (0,0))) (hn:es.length≤100000)
  (hK:∀ v' w',Hid (w'.ownsRow 0 50 6 v' (es.length+1) (sX es ++ u.cs)∧w.grownBy w' v.ownBlock∧(v'.ownBlock=v.ownBlock∨v'.ownBlock=some w.heap.size))→K (a.put o.dst v') w') :
  if Region.wanted o (yielded ops a.tmps)=true then Oper.wp prog o a w K Q else E:=by
 have hw:Region.wanted o (yielded ops a.tmps)=true:=by simp[Region.wanted,hg]
 rw[if_pos hw]
 obtain⟨i0,hI,hz0,hz1,hz2⟩:=info_parts ry
 obtain⟨v',w',hr,k1,k2,_,k4⟩:=run_append_own_at (P:=prog) w 0 34 34 50 i0 (.agg bH) 6 56 underlying34 hI hz0 hz1 hz2 rfl (by decide) v es.length (sX es) h1 ⟨g,0,none⟩ 1 1 u.cs rfl (by
  intro j x hu
  have e:(Addr.add ⟨g,0,none⟩ j)=⟨g,j,none⟩:=by unfold Addr.add;simp;omega
  rw[e,ae w g j _ _ _ hgc]
  simpa using hu) (zE u) (by unfold maxLen;omega) (by omega) (Nat.zero_le _)
 unfold Oper.wp execOp
 simp only[hop,hty,resolve,invoke,builtin,Sem.run_bind,Sem.run_pure,Result.andThen_ok,List.map_toArray,List.map_cons,List.map_nil,hs,hx,hr]
 exact hK v' w' ⟨k1,k2,k4⟩
theorem gW {P:Program} {md:Region.Mode} {ops:Array Oper} {Q:Exit→Act→World→Prop} {S:World→Prop} {fuel:Nat} {l:Array Bool} {a:Act} {w:World} {i:Nat} (hr:Region.ready md ops l=[i]) (hi:wpOp P ops Q i (fun a' w'=>S w'∧wpAnyH P md ops Q S fuel (l.setIfInBounds i true) a' w') a w):wpAnyH P md ops Q S (fuel+1) l a w:=
 wpAnyH_all hr (by simp) (fun k hk=>by
  obtain rfl:=List.mem_singleton.1 hk
  exact hi)
theorem ri {P:Program} {md:Region.Mode} {ops:Array Oper} {Q:Exit→Act→World→Prop} {S:World→Prop} {fuel:Nat} {l:Array Bool} {a:Act} {w:World} {i j:Nat} (hr:Region.ready md ops l=[i,j]) (hi:wpOp P ops Q i (fun a' w'=>S w'∧wpAnyH P md ops Q S fuel (l.setIfInBounds i true) a' w') a w) (hj:wpOp P ops Q j (fun a' w'=>S w'∧wpAnyH P md ops Q S fuel (l.setIfInBounds j true) a' w') a w):wpAnyH P md ops Q S (fuel+1) l a w:=
 wpAnyH_all hr (by simp) (fun k hk=>by
  rcases List.mem_cons.1 hk with rfl | hk
  ·exact hi
  ·obtain rfl:=List.mem_singleton.1 hk
   exact hj)
theorem pT {w:World} {B e size n:Nat} {v:Value} {xs:List Value} (h:w.ownsRow B e size v (n+1) xs):∃ g cap,v=.slice (af g 0) (n+1) cap:=by
 rcases h.2 with ⟨_,hn⟩ | ⟨g,cap,cur,rfl,hg,hgg,rest⟩
 ·omega
 ·exact⟨g,cap,rfl⟩
theorem qe (f:Nat→List Ue) (j:Nat) (u:Ue):(fun k=>(aG f j (f j ++ [u]) k).map Ue.y)=aG (fun k=>(f k).map Ue.y) j ((f j).map Ue.y ++ [u.y]):=by
 funext k
 unfold aG
 split
 ·simp
 ·rfl
def Ue.q (u:Ue):List Nat:=if 0<u.l then (u.a.map (·.block)).toList else []
theorem Ue.in_q {u:Ue} {w:World} (R:Row8 w u.a u.l u.p u.b):u.in_ w u.q:=⟨R,fun y hy hl=>by unfold Ue.q;rw[if_pos hl,hy];simp⟩
theorem Ue.q_lt {u:Ue} {w w9:World} (R:Row8 w u.a u.l u.p u.b) (hd:∀ y,u.a=some y→w9.heap.size≤y.block):∀ x,x ∈ u.q→x<w.heap.size∧w9.heap.size≤x:=fun x hx=>by
 unfold Ue.q at hx
 split at hx
 ·next hl=>
  simp only[Option.mem_toList,Option.map_eq_some_iff]at hx
  obtain⟨y,hy,rfl⟩:=hx
  refine⟨?_,hd y hy⟩
  have h1:=World.block_lt_of_cell? w _ (R.src y hy 0 hl)
  have hb:(y.add 0).block=y.block:=by unfold Addr.add;split <;> rfl
  omega
 ·cases hx
theorem mL {e:Nat→Nat} {w0 w9 W9 w3:World} {t:Nat→Thing} {L:Pw} {S:Ws} {i j:Nat} {M:Mg} {u:Ue} {v1:Value} (h:PWn e w0 (aJ t i (il M)) L w9 S) (hi:∀ j,i≠e j) (b:Below w9.heap.size w9 W9) (hj:j<2) (R:Row8 W9 u.a u.l u.p u.b) (hd:∀ y,u.a=some y→w9.heap.size≤y.block) (O:w3.ownsRow 0 50 6 v1 ((M.e j).length+1) (sX (M.e j) ++ u.cs)) (G:W9.grownBy w3 (M.v j).ownBlock) (E:v1.ownBlock=(M.v j).ownBlock∨v1.ownBlock=some W9.heap.size) :
  w3.heap[M.s]?=some (.cells #[M.v 0,M.v 1] 34 (0,0))∧(∀ x,x ∉ M.U→x<W9.heap.size→(w3.heap[x]?=W9.heap[x]?∧(w3.setCell ⟨M.s,j,none⟩ v1).heap[x]?=W9.heap[x]?))∧PWn e w0 (aJ t i (il { M with v:=aG M.v j v1,e:=aG M.e j (M.e j ++ [u]),V:=u.q ++ M.V })) L (w3.setCell ⟨M.s,j,none⟩ v1) S:=by
 have h9:MgW M w9:=h.getT hi (al _ _ _)
 have hW:MgW M W9:=h9.keep (fun q hq=>b.block q (h9.lt hq))
 have hsU:M.s ∈ M.U:=by simp[Mg.U]
 have k3:w3.heap[M.s]?=some (.cells #[M.v 0,M.v 1] 34 (0,0)):=(G.block M.s (hW.lt hsU) (fun y=>(hW.nv j hj _ y.symm).1 rfl)).trans hW.sb
 have o:Off [M.s] w3 (w3.setCell ⟨M.s,j,none⟩ v1):=Off.setCell _ _ _ _
 have hs:(w3.setCell ⟨M.s,j,none⟩ v1).heap[M.s]?=some (.cells #[aG M.v j v1 0,aG M.v j v1 1] 34 (0,0)):=by
  have:=Joins.block_setCell (i:=j) k3 v1
  rcases (by omega:j=0∨j=1) with rfl | rfl
  ·exact this
  ·exact this
 have hq:=Ue.q_lt (w9:=w9) R hd
 obtain⟨m1,m2,m3⟩:=hW.add hj (Ue.in_q R) (fun x hx=>⟨(hq x hx).1,fun y=>by have:=(hq x hx).2;have:=h9.lt y;omega⟩) O G E o hs
 refine⟨k3,fun x hx hl=>?_,h.stepT hi ⟨(Off.of_below b).trans m2,fun x hx=>?_⟩ m1 (fun x hx=>m1.lt hx)⟩
 ·have g:=G.block x hl (fun y=>hx (Mg.mem_v hj y.symm))
  exact⟨g,(o.block x (Nat.lt_of_lt_of_le hl G.size) (by simp;exact fun y=>hx (by rw[y];exact hsU))).trans g⟩
 ·rcases m3 x hx with y | y | y
  ·exact .inl y
  ·exact .inr (hq x y).2
  ·exact .inr (by rw[y];exact b.size)
theorem xm:∀ (es:List Ue) (i:Nat) (u:Ue) (j:Nat) (v:Value),es[i]?=some u→u.cs[j]?=some v→(sX es)[i*6+j]?=some v
 | [],i,u,j,v,h,_=>by simp at h
 | e :: es,0,u,j,v,h,hv=>by
  simp only[List.getElem?_cons_zero,Option.some.injEq]at h
  subst h
  have hj:j<e.cs.length:=(List.getElem?_eq_some_iff.1 hv).1
  show (e.cs ++ sX es)[0*6+j]?=some v
  rw[show 0*6+j=j by omega,List.getElem?_append_left hj]
  exact hv
 | e :: es,i+1,u,j,v,h,hv=>by
  rw[List.getElem?_cons_succ]at h
  have h6:e.cs.length=6:=rfl
  show (e.cs ++ sX es)[(i+1)*6+j]?=some v
  rw[List.getElem?_append_right (by omega),h6,show (i+1)*6+j-6=i*6+j by omega]
  exact xm es i u j v h hv
section
variable {M:Mg} {w:World}
theorem MgW.list (h:MgW M w) {k:Nat} (hk:k<2):w.cell? ⟨M.s,k,none⟩=some (M.v k)∧∃ a c,M.v k=.slice a (M.e k).length c∧(0 < (M.e k).length→∃ g,a=af g 0∧∀ i u,(M.e k)[i]?=some u→w.rangeAt g (i*6) u.cs):=by
 constructor
 ·rw[ae w M.s k _ _ _ h.sb]
  rcases (by omega:k=0∨k=1) with rfl | rfl <;> rfl
 ·rcases (h.r k hk).2 with ⟨e,hn⟩ | ⟨g,cap,cur,e,_,hg,hn,hcap,hcs,ht⟩
  ·exact⟨none,0,by rw[e,hn],fun h=>by omega⟩
  ·refine⟨_,_,e,fun _=>⟨g,rfl,fun i u hu j v hv=>?_⟩⟩
   rw[ae w g _ _ _ _ hg]
   have hl:=xm (M.e k) i u j v hu hv
   rw[← ht,List.getElem?_take]at hl
   split at hl
   ·rw[← hl,Array.getElem?_toList]
   ·cases hl
theorem MgW.last (h:MgW M w) {k:Nat} (hk:k<2):w.rangeAt M.l (k*6) (M.z k).cs:=fun j v hv=>by
 have hj:j<6:=(List.getElem?_eq_some_iff.1 hv).1
 rw[ae w M.l _ _ _ _ h.lb,List.getElem?_toArray]
 have h6:(M.z 0).cs.length=6:=rfl
 rcases (by omega:k=0∨k=1) with rfl | rfl
 ·rw[show 0*6+j=j by omega,List.getElem?_append_left (by omega)]
  exact hv
 ·rw[List.getElem?_append_right (by omega),h6,show 1*6+j-6=j by omega]
  exact hv
end
def oj (s n:Nat) (x:ByteArray) (u:Ue):Bool:=decide (u.s=s) && (decide (u.n=n) && decide (BA u.b u.l=x))
theorem go {es:List Ue} {i:Nat} {u:Ue} (p:Ue→Bool) (h:es[i]?=some u):(es.take (i+1)).any p=((es.take i).any p || p u):=by
 rw[List.take_add_one,h]
 simp
theorem tf {es:List Ue} {s n:Nat} {x:ByteArray} (h:lY (es.map Ue.y) s n x):(es.take es.length).any (oj s n x)=true:=by
 rw[List.take_length,List.any_eq_true]
 obtain⟨y,hy,h1,h2,h3⟩:=h
 obtain⟨u,hu,rfl⟩:=List.mem_map.1 hy
 have h1:u.s=s:=h1
 have h2:u.n=n:=h2
 have h3:BA u.b u.l=x:=h3
 exact⟨u,hu,by unfold oj;simp[h1,h2,h3]⟩
theorem mH (f:Nat→Ue) (j:Nat) (u:Ue):(fun k=>(aG f j u k).y)=aG (fun k=>(f k).y) j u.y:=by
 funext k
 unfold aG
 split <;> rfl
theorem qp {e:Nat→Nat} {w0 w9 W:World} {t:Nat→Thing} {L:Pw} {S:Ws} {i j:Nat} {M:Mg} {u:Ue} {lb:Nat} (hlb:M.l=lb) (h:PWn e w0 (aJ t i (il M)) L w9 S) (hi:∀ j,i≠e j) (b:Below w9.heap.size w9 W) (hj:j<2) (R:Row8 W u.a u.l u.p u.b) (hd:∀ y,u.a=some y→0<u.l→w9.heap.size≤y.block) :
  PWn e w0 (aJ t i (il { M with z:=aG M.z j u,V:=u.q ++ M.V })) L (((((((W.setCell ⟨lb,j*6,none⟩ (.int .i64 u.k)).setCell ⟨lb,j*6+1,none⟩ (.int .u32 (u.c:Nat))).setCell ⟨lb,j*6+2,none⟩ (.int .u32 (u.s:Nat)))).setCell ⟨lb,j*6+3,none⟩ (.int .u32 (u.n:Nat))).setCell ⟨lb,j*6+4,none⟩ (.int .i64 u.f)).setCell ⟨lb,j*6+5,none⟩ (.slice u.a u.l u.p)) S:=by
 subst hlb
 have h9:MgW M w9:=h.getT hi (al _ _ _)
 have hW:MgW M W:=h9.keep (fun q hq=>b.block q (h9.lt hq))
 have k0:=hW.lb
 have k1:=Joins.block_setCell (i:=j*6) k0 (.int .i64 u.k)
 have k2:=Joins.block_setCell (i:=j*6+1) k1 (.int .u32 (u.c:Nat))
 have k3:=Joins.block_setCell (i:=j*6+2) k2 (.int .u32 (u.s:Nat))
 have k4:=Joins.block_setCell (i:=j*6+3) k3 (.int .u32 (u.n:Nat))
 have k5:=Joins.block_setCell (i:=j*6+4) k4 (.int .i64 u.f)
 have k6:=Joins.block_setCell (i:=j*6+5) k5 (.slice u.a u.l u.p)
 have o:Off [M.l] W (((((((W.setCell ⟨M.l,j*6,none⟩ (.int .i64 u.k)).setCell ⟨M.l,j*6+1,none⟩ (.int .u32 (u.c:Nat))).setCell ⟨M.l,j*6+2,none⟩ (.int .u32 (u.s:Nat)))).setCell ⟨M.l,j*6+3,none⟩ (.int .u32 (u.n:Nat))).setCell ⟨M.l,j*6+4,none⟩ (.int .i64 u.f)).setCell ⟨M.l,j*6+5,none⟩ (.slice u.a u.l u.p)):=(((((Off.setCell _ _ _ _).trans (Off.setCell _ _ _ _)).trans (Off.setCell _ _ _ _)).trans (Off.setCell _ _ _ _)).trans (Off.setCell _ _ _ _)).trans (Off.setCell _ _ _ _)
 have hq:∀ x,x ∈ u.q→x<W.heap.size∧w9.heap.size≤x:=fun x hx=>by
  unfold Ue.q at hx
  split at hx
  ·next hl=>
   simp only[Option.mem_toList,Option.map_eq_some_iff]at hx
   obtain⟨y,hy,rfl⟩:=hx
   refine⟨?_,hd y hy hl⟩
   have h1:=World.block_lt_of_cell? W _ (R.src y hy 0 hl)
   have hb:(y.add 0).block=y.block:=by unfold Addr.add;split <;> rfl
   omega
  ·cases hx
 obtain⟨m1,m2,m3⟩:=hW.see hj (Ue.in_q R) (fun x hx=>⟨(hq x hx).1,fun y=>by have:=(hq x hx).2;have:=h9.lt y;omega⟩) o (by
  rcases (by omega:j=0∨j=1) with rfl | rfl
  ·rw[k6]
   kernel_rfl
  ·rw[k6]
   kernel_rfl)
 refine h.stepT hi ⟨(Off.of_below b).trans m2,fun x hx=>?_⟩ m1 (fun x hx=>m1.lt hx)
 rcases m3 x hx with y | y
 ·exact .inl y
 ·exact .inr (hq x y).2
theorem aaS (a b c d:Nat) (w:World) (h:c<a∨a=c∧d<b):Calls prog 14 #[.int .u32 (a:Nat),.int .u32 (b:Nat),.int .u32 (c:Nat),.int .u32 (d:Nat)] w fun r w'=>r=.returned (.bool true)∧w'=w:=by
 rcases h with h | ⟨rfl,h⟩
 ·have h1:((c:Nat):Int) < ((a:Nat):Int):=by omega
  have h2:decide (((c:Nat):Int) < ((a:Nat):Int))=true:=decide_eq_true h1
  go_enter func14,ntmps14
  go_wp2_with fail
  go_ret
  exact⟨rfl,rfl⟩
 ·have h1:((d:Nat):Int) < ((b:Nat):Int):=by omega
  have h2:decide (((d:Nat):Int) < ((b:Nat):Int))=true:=decide_eq_true h1
  have h3:decide (((a:Nat):Int) < ((a:Nat):Int))=false:=by simp
  have h4:(((a:Nat):Int) == ((a:Nat):Int))=true:=by simp
  go_enter func14,ntmps14
  go_wp2_with fail
  go_ret
  exact⟨rfl,rfl⟩
end Go.Proofs.YtenilkloffnjlaaGreat
namespace Go.Proofs.YtenilkloffnjlaaGreat
open Tryz
open Go.RowKit Go.Maps
set_option linter.unusedVariables false
section
variable {P:Pm}
end
def iG (v:Vs):Prop:=v.sm=true→v.lat=0
theorem wi {v:Vs} (h:iG v) (x:Int):iG (du v x):=by
 unfold du
 split
 ·exact h
 ·intro e;cases e
theorem jZ {v:Vs} (h:iG v) (o:Bool):iG (dS v o):=by
 unfold dS
 split
 ·exact h
 ·intro e;cases e
theorem fI {v:Vs} (h:iG v):iG (dF v):=h
theorem wh {v:Vs} (h:iG v) (o:Bool) (bs:Nat→Nat):iG (dY (fL (dF v) o) bs):=by
 unfold dY
 split
 ·next q=>exact fun _=>q.2
 ·exact h
theorem yK {v:Vs} (h:iG v):iG (ja v):=by
 unfold ja
 split
 ·exact fun _=>rfl
 ·exact h
theorem iB {s:Sh} (h:iG s.v) (x:Int):iG (be s x).v:=by rw[iP];exact wi h _
theorem pR {s:Sh} (h:iG s.v):iG (fZ s).v:=jZ (iB h 80) _
theorem tX {s:Sh} (h:iG s.v):iG (aR s).v:=by
 unfold aR
 split
 ·exact h
 ·split
  ·exact h
  ·split
   ·exact jZ (iB (s:={ s with ms:=s.ms+1 }) h 131) _
   ·exact jZ h _
theorem tZ {P:Pm} {s:Sh} (h:iG s.v):iG (aM P s).v:=by
 unfold aM
 split
 ·exact h
 ·show iG (bj P (aR s)).1.v
  have q:=tX h
  unfold bj
  split
  ·exact q
  ·split
   ·exact q
   ·split
    ·exact q
    ·split
     ·exact pR (s:={ aR s with sn:=(aR s).sn+1 }) q
     ·exact q
theorem tY {P:Pm} {s:Sh} (h:iG s.v) (len:Nat) (bs:Nat→Nat):iG (bu P s len bs).v:=by
 unfold bu
 split
 ·exact h
 ·unfold cr
  split
  ·exact fI h
  ·split
   ·exact fI h
   ·split
    ·exact fI (jZ h true)
    ·split
     ·exact wh h _ _
     ·split
      ·exact pR (s:=lM { s with nm:=aC bs 9 }) (fI h)
      ·exact fI h
theorem yJ {S:Ws} (I:S.In) (K:S.Kn) (m:Mv) (h:∀ j,j<S.n→iG (S.hs j).v):∀ j,j<S.n→iG ((S.play m).S.hs j).v:=by
 intro j hj
 by_cases hb:S.bad m=0
 ·by_cases e:j=m.c.toNat
  ·subst e
   rw[(jx S hb).2.1]
   have q:=h _ hj
   unfold Ws.actHF
   split
   ·split
    ·unfold di;split <;> exact q
    ·exact q
   ·split
    ·exact tZ q
    ·split
     ·split
      ·exact tY q _ _
      ·exact q
     ·split
      ·split
       ·unfold dP
        split
        ·exact q
        ·split
         ·exact iB (s:={ S.hs m.c.toNat with dc:=tk (S.PH m.c.toNat).t (S.hs m.c.toNat).dc m.n.toNat }) q 100
         ·exact q
       ·exact q
      ·split
       ·split
        ·exact yK q
        ·exact q
       ·split
        ·split
         ·exact fun e=>by cases e
         ·exact q
        ·exact q
  ·rw[(mF I K hb e).2]
   exact h j hj
 ·have hp:(S.play m).S=S:=by
   unfold Ws.play
   rw[if_pos hb]
  rw[hp]
  exact h j hj
end Go.Proofs.YtenilkloffnjlaaGreat
namespace Go.Proofs.YtenilkloffnjlaaGreat
open Tryz
open Go.RowKit Go.Maps
set_option linter.unusedVariables false
def Nvq (s s':Sh):Prop:=aE s'.v=true→aE s.v=true∧s'.v.bs=s.v.bs∧s'.ss=s.ss∧s'.nm=s.nm
theorem Nvq.refl (s:Sh):Nvq s s:=fun h=>⟨h,rfl,rfl,rfl⟩
theorem Nvq.ak {s s':Sh} (h:Ak s.v s'.v) (h1:s'.ss=s.ss) (h2:s'.nm=s.nm):Nvq s s':=fun e=>⟨(h e).1,(h e).2,h1,h2⟩
theorem Nvq.off {s s':Sh} (h:aE s'.v=false):Nvq s s':=fun e=>by rw[h]at e;cases e
structure Lq (s:Sh) (A B:Nat):Prop where
 le:A≤s.ss
 lt:s.st=2∨s.st=3→A<s.ss
 rn:s.st=4→A=s.ss→B≤s.nm
theorem Lq.same {s s':Sh} {A B:Nat} (h:Lq s A B) (h1:s'.st=s.st) (h2:s'.ss=s.ss) (h3:s'.nm=s.nm):Lq s' A B:=⟨by rw[h2];exact h.le,by rw[h1,h2];exact h.lt,by rw[h1,h2,h3];exact h.rn⟩
theorem Lq.idle {s':Sh} {A B:Nat} (h:A≤s'.ss) (h1:s'.st=1∨s'.st=5):Lq s' A B:=⟨h,fun k=>by omega,fun k=>by omega⟩
structure Nwq (P:Pm) (s s':Sh) (len:Nat) (bs:Nat→Nat):Prop where
 de:DE bs len=0
 kd:bs 0=20
 c:aC bs 1=P.c
 ss:s'.ss=s.ss
 w5:aC bs 5=s'.ss
 w9:aC bs 9=s'.nm
 nm:s.nm<s'.nm
 st:s.st=4
 st':s'.st=4
 out:aE s'.v=true→len-19=P.i∧s'.v.bs=fun i=>bs (15+i)
section
variable {P:Pm} {s:Sh}
theorem jC (h:Ih P s) (h4:s.st≠4):aE s.v=false:=by
 have hr:s.v.run=false:=by rw[h.vr];exact decide_eq_false h4
 unfold aE
 rw[hr]
 rfl
theorem abk (hP:Pok P) (h:Ih P s):Nvq s (aM P s)∧(∀ A B,Lq s A B→Lq (aM P s) A B):=by
 have hi:=h.send hP
 have q:(aM P s).ss=s.ss∧Ak s.v (aM P s).v∧(((aM P s).st=s.st∧(aM P s).nm=s.nm)∨(aM P s).st=1∨(aM P s).st=5):=by
  by_cases h5:s.st=5
  ·have e:aM P s=s:=by unfold aM;rw[if_pos h5]
   rw[e];exact⟨rfl,Ak.refl _,.inl ⟨rfl,rfl⟩⟩
  ·have eS:aM P s={ (bj P (aR s)).1 with wt:=true }:=by unfold aM;rw[if_neg h5]
   have hmc:=jM s
   rw[eS]
   generalize aR s=m at *
   have hmss:m.ss=s.ss:=by rcases hmc with h | h <;> exact h.2.1
   have hak:Ak s.v m.v:=by
    rcases hmc with h | h
    ·rw[h.2.2.2.1];exact Ak.refl _
    ·exact Ak.off h.2.2.2
   have hst:(m.st=s.st∧m.nm=s.nm)∨m.st=1:=by
    rcases hmc with h | h
    ·exact .inl ⟨h.1,h.2.2.2.2.2.2⟩
    ·exact .inr h.1
   have fin:∀ t:Sh,t.ss=m.ss→t.v=m.v→t.st=m.st→t.nm=m.nm→t.ss=s.ss∧Ak s.v t.v∧((t.st=s.st∧t.nm=s.nm)∨t.st=1∨t.st=5):=fun t h1 h2 h3 h4=>by
    rw[h1,h2,h3,h4]
    refine⟨hmss,hak,?_⟩
    rcases hst with h | h
    ·exact .inl h
    ·exact .inr (.inl h)
   unfold bj
   split
   ·exact fin { m with wt:=true } rfl rfl rfl rfl
   ·split
    ·exact fin { m with wt:=true } rfl rfl rfl rfl
    ·split
     ·exact fin { m with wt:=true } rfl rfl rfl rfl
     ·split
      ·obtain⟨f1,f2,f3,f4,f5⟩:=mh { m with sn:=m.sn+1 }
       exact⟨f2.trans hmss,Ak.off f5,.inr (.inr f1)⟩
      ·exact fin { m with sn:=m.sn+1,wt:=true } rfl rfl rfl rfl
 obtain⟨q1,q2,q3⟩:=q
 rcases q3 with ⟨a,b⟩ | a
 ·exact⟨Nvq.ak q2 q1 b,fun A B l=>l.same a q1 b⟩
 ·exact⟨Nvq.off (jC hi (by omega)),fun A B l=>Lq.idle (by rw[q1];exact l.le) a⟩
theorem abn (h:Ih P s) (hk:iG s.v) (h4:s.st=4) (o:Bool) (bs:Nat→Nat) (ho:aE (dY (fL (dF s.v) o) bs)=true):(dY (fL (dF s.v) o) bs).bs=bs:=by
 have hr:s.v.run=true:=by rw[h.vr,h4];rfl
 revert ho
 unfold dY
 split
 ·exact fun _=>rfl
 ·rename_i hh
  intro ho
  exfalso
  have hl:=hk (zF ho).2
  exact hh ⟨hr,hl⟩
theorem abd (h:Ih P s) (hk:iG s.v) (len:Nat) (bs:Nat→Nat):(Nvq s (bu P s len bs)∨Nwq P s (bu P s len bs) len bs)∧∀ A B,Lq s A B→Lq (bu P s len bs) A B:=by
 rcases pn P s len bs with ⟨_,e2⟩ | ⟨hE,hd,⟨_,c1,c2,e2⟩ | ⟨_,c1,c2,e2⟩ | ⟨_,c1,c2,e2⟩ | ⟨c0,c1,c2,c3,c4,c5,e2⟩ | ⟨_,c1,c2,c3,c4,e2⟩⟩
 ·rw[e2]
  exact⟨.inl (Nvq.ak (Ak.refl _) rfl rfl),fun A B l=>l.same rfl rfl rfl⟩
 ·rw[e2]
  have o:=jC h (by omega)
  exact⟨.inl (Nvq.off (by
   cases q:aE (lM { s with st:=2,ss:=aC bs 5 }).v
   ·rfl
   ·have:=(kh s.v q).1;rw[o]at this;cases this)),fun A B l=>⟨by have:=l.le;show A≤aC bs 5;omega,fun _=>by have:=l.le;show A<aC bs 5;omega,fun k=>by have k:(2:Nat)=4:=k;omega⟩⟩
 ·rw[e2]
  have o:=jC h (by omega)
  exact⟨.inl (Nvq.off (by
   cases q:aE (lM { s with st:=3 }).v
   ·rfl
   ·have:=(kh s.v q).1;rw[o]at this;cases this)),fun A B l=>⟨l.le,fun _=>l.lt (.inl c1),fun k=>by have k:(3:Nat)=4:=k;omega⟩⟩
 ·rw[e2]
  have o:=jC h (by omega)
  exact⟨.inl (Nvq.off (by
   cases q:aE (lM { s with st:=4,v:=dS s.v true }).v
   ·rfl
   ·have:=((aaw s.v true).trans (kh _) q).1;rw[o]at this;cases this)),fun A B l=>⟨l.le,fun k=>by have k:(4:Nat)=2∨(4:Nat)=3:=k;omega,fun _ k=>by have:=l.lt (.inr c1);have k:A=s.ss:=k;omega⟩⟩
 ·have hc:aC bs 1=P.c:=by
   apply Classical.byContradiction
   intro hc
   unfold cP at hE
   rw[if_neg (by omega)]at hE
   unfold gh at hE
   rw[c0]at hE
   rw[if_neg (by decide),if_pos hc]at hE
   omega
  rw[e2]
  exact⟨.inr ⟨hd,c0,hc,rfl,c2,rfl,c3,c1,c1,fun ho=>⟨c5,abn h hk c1 _ _ ho⟩⟩,fun A B l=>⟨l.le,fun k=>by have k:s.st=2∨s.st=3:=k;omega,fun _ k=>by have:=l.rn c1 k;show B≤aC bs 9;omega⟩⟩
 ·obtain⟨f1,f2,f3,f4,f5⟩:=mh (lM { s with nm:=aC bs 9 })
  rw[e2]
  exact⟨.inl (Nvq.off f5),fun A B l=>Lq.idle (by rw[f2];exact l.le) (.inr f1)⟩
end
theorem aaO {S:Ws} {m:Mv} {P:Pm} (hP:S.PH m.c.toNat=P) (pk:Pok P) (ih:Ih P (S.hs m.c.toNat)) (ok:iG (S.hs m.c.toNat).v):(Nvq (S.hs m.c.toNat) (S.actHF m)∨((m.k=3∨m.k=4)∧Nwq P (S.hs m.c.toNat) (S.actHF m) (S.fr m).1 (S.fr m).2))∧(¬ (m.k=7∧m.s=1)→∀ A B,Lq (S.hs m.c.toNat) A B→Lq (S.actHF m) A B)∧(m.k=7∧m.s=1→S.actHF m=eW (S.hs m.c.toNat)):=by
 have same:S.actHF m=S.hs m.c.toNat→¬ (m.k=7∧m.s=1)→(Nvq (S.hs m.c.toNat) (S.actHF m)∨((m.k=3∨m.k=4)∧Nwq P (S.hs m.c.toNat) (S.actHF m) (S.fr m).1 (S.fr m).2))∧(¬ (m.k=7∧m.s=1)→∀ A B,Lq (S.hs m.c.toNat) A B→Lq (S.actHF m) A B)∧(m.k=7∧m.s=1→S.actHF m=eW (S.hs m.c.toNat)):=fun e n=>by
  rw[e]
  exact⟨.inl (Nvq.refl _),fun _ A B l=>l,fun y=>absurd y n⟩
 by_cases h7:m.k=7∧m.s=1
 ·have e:S.actHF m=eW (S.hs m.c.toNat):=by
   unfold Ws.actHF
   rw[if_neg (by omega),if_neg (by omega),if_neg (by omega),if_neg (by omega),if_neg (by omega),if_pos h7.1,if_pos h7.2]
  exact⟨.inl (by rw[e];exact Nvq.off s7),fun n=>absurd h7 n,fun _=>e⟩
 ·unfold Ws.actHF at same ⊢
  rw[hP]at same ⊢
  by_cases h1:m.k=1
  ·rw[if_pos h1]at same ⊢
   by_cases hs:m.s=1
   ·rw[if_pos hs]at same ⊢
    refine⟨.inl ?_,fun _ A B l=>?_,fun y=>absurd y h7⟩
    ·unfold di
     split
     ·exact Nvq.ak (Ak.refl _) rfl rfl
     ·exact Nvq.refl _
    ·unfold di
     split
     ·exact l.same rfl rfl rfl
     ·exact l
   ·rw[if_neg hs]at same ⊢
    exact same rfl h7
  ·rw[if_neg h1]at same ⊢
   by_cases h2:m.k=2
   ·rw[if_pos h2]at same ⊢
    obtain⟨a,b⟩:=abk pk ih
    exact⟨.inl a,fun _=>b,fun y=>absurd y h7⟩
   ·rw[if_neg h2]at same ⊢
    by_cases h3:m.k=3∨m.k=4
    ·rw[if_pos h3]at same ⊢
     by_cases hs:m.s=1
     ·rw[if_pos hs]at same ⊢
      obtain⟨a,b⟩:=abd ih ok (S.fr m).1 (S.fr m).2
      refine⟨?_,fun _=>b,fun y=>absurd y h7⟩
      rcases a with a | a
      ·exact .inl a
      ·exact .inr ⟨h3,a⟩
     ·rw[if_neg hs]at same ⊢
      exact same rfl h7
    ·rw[if_neg h3]at same ⊢
     by_cases h5:m.k=5
     ·rw[if_pos h5]at same ⊢
      by_cases hs:m.s=1
      ·rw[if_pos hs]at same ⊢
       refine⟨.inl ?_,fun _ A B l=>?_,fun y=>absurd y h7⟩
       ·unfold dP
        split
        ·exact Nvq.refl _
        ·split
         ·obtain⟨f1,f2,f3,_⟩:=cD { S.hs m.c.toNat with dc:=tk P.t (S.hs m.c.toNat).dc m.n.toNat } 100
          exact Nvq.ak (by rw[iP];exact xS _ _) f2 f3
         ·exact Nvq.ak (Ak.refl _) rfl rfl
       ·unfold dP
        split
        ·exact l
        ·split
         ·obtain⟨f1,f2,f3,_⟩:=cD { S.hs m.c.toNat with dc:=tk P.t (S.hs m.c.toNat).dc m.n.toNat } 100
          exact l.same f1 f2 f3
         ·exact l.same rfl rfl rfl
      ·rw[if_neg hs]at same ⊢
       exact same rfl h7
     ·rw[if_neg h5]at same ⊢
      by_cases h6:m.k=6
      ·rw[if_pos h6]at same ⊢
       by_cases hs:m.s=1
       ·rw[if_pos hs]at same ⊢
        exact⟨.inl (Nvq.ak (aav _) rfl rfl),fun _ A B l=>l.same rfl rfl rfl,fun y=>absurd y h7⟩
       ·rw[if_neg hs]at same ⊢
        exact same rfl h7
      ·rw[if_neg h6]at same ⊢
       by_cases h7':m.k=7
       ·rw[if_pos h7',if_neg (fun y=>h7 ⟨h7',y⟩)]at same ⊢
        exact same rfl h7
       ·rw[if_neg h7']at same ⊢
        exact same rfl h7
structure Jq (S:Ws) (j:Nat) (l:List Uy) (z:Uy):Prop where
 bg:∀ F,F ∈ S.bg→F.2 0=20→aC F.2 1=(S.PH j).c→uF F ∈ l
 on:aE (S.hs j).v=true→lY l (S.hs j).ss (S.hs j).nm (BA (S.hs j).v.bs (S.PH j).i)∧0 < (S.hs j).nm
 lh:Lq (S.hs j) z.s z.n
 sm:(S.hs j).ss=z.s→(S.hs j).nm=z.n→aE (S.hs j).v=true→0<z.n→BA z.d.2 z.d.1=BA (S.hs j).v.bs (S.PH j).i
def uy0:Uy:=⟨0,0,(0,fun _=>0)⟩
def lp (m:Mv) (z:Nat→Uy):Nat→Uy:=if m.k=7∧m.s=1 then aG z m.c.toNat uy0 else z
theorem wO {m:Mv} (h:¬ (m.k=7∧m.s=1)) (z:Nat→Uy):lp m z=z:=if_neg h
theorem sR {m:Mv} (h:m.k=7∧m.s=1) (z:Nat→Uy):lp m z=aG z m.c.toNat uy0:=if_pos h
theorem Jq.move {S:Ws} {j:Nat} {l:List Uy} {z:Nat→Uy} (h:Jq S j l (z j)) (I:S.In) (K:S.Kn) (B:S.Bv) (ok:iG (S.hs j).v) (m:Mv) (hm:m.w<4294967296) (hj:j<S.n) (hb:S.bad m=0) (l':List Uy) (hl:∀ u,u ∈ l→u ∈ l') (hb':∀ F,F ∈ (S.play m).S.bg→F.2 0=20→aC F.2 1=(S.PH j).c→uF F ∈ l'):Jq (S.play m).S j l' (lp m z j):=by
 obtain⟨f1,f2,f3⟩:=pV I K m
 have ih:=I.ih j hj
 have fnd:∀ {s n b},lY l s n b→lY l' s n b:=fun ⟨u,h1,h2⟩=>⟨u,hl u h1,h2⟩
 by_cases e:j=m.c.toNat
 ·subst e
  obtain⟨_,e1,_⟩:=jx S hb
  obtain⟨a1,a2,a3⟩:=aaO rfl (K.ph _ hj) ih ok
  by_cases h7:m.k=7∧m.s=1
  ·have o:aE ((S.play m).S.hs m.c.toNat).v=false:=by rw[e1,a3 h7];exact s7
   refine⟨by rw[f1];exact hb',fun y=>(by rw[o]at y;cases y),?_,fun _ _ y=>(by rw[o]at y;cases y)⟩
   rw[sR h7,ai,e1,a3 h7]
   exact Lq.idle (Nat.zero_le _) (.inl rfl)
  ·have hlh:Lq ((S.play m).S.hs m.c.toNat) (z m.c.toNat).s (z m.c.toNat).n:=by rw[e1];exact a2 h7 _ _ h.lh
   rw[wO h7]
   rcases a1 with q | ⟨hk,q⟩
   ·refine⟨by rw[f1];exact hb',fun o=>?_,hlh,fun a b o z0=>?_⟩
    ·rw[e1]at o
     obtain⟨q1,q2,q3,q4⟩:=q o
     rw[e1,q2,q3,q4,f1]
     exact⟨fnd (h.on q1).1,(h.on q1).2⟩
    ·rw[e1]at o a b
     obtain⟨q1,q2,q3,q4⟩:=q o
     rw[e1,q2,f1]
     exact h.sm (q3.symm.trans a) (q4.symm.trans b) q1 z0
   ·have h3:m.k=3:=by
     rcases hk with y | h4
     ·exact y
     ·obtain⟨_,_,g,_⟩:=tD B hb h4 hm
      have y:=q.nm
      rw[← e1]at y
      omega
    have hmem:S.fr m ∈ S.bg:=by
     have hfr:=(Ws.Law.of hb).fr (.inl h3)
     have hlt:m.f.toNat<S.bg.length:=by
      have:m.f < ((S.bg.length:Nat):Int):=hfr.2
      omega
     unfold Ws.fr
     rw[if_neg (by omega),List.getD_eq_getElem?_getD,List.getElem?_eq_getElem hlt]
     exact List.getElem_mem _
    have hu:=hl _ (h.bg _ hmem q.kd q.c)
    refine⟨by rw[f1];exact hb',fun o=>?_,hlh,fun a b o z0=>?_⟩
    ·rw[e1]at o ⊢
     obtain⟨o1,o2⟩:=q.out o
     rw[f1]
     refine⟨⟨_,hu,q.w5,q.w9,?_⟩,by have:=q.nm;omega⟩
     show BA (fun i=>(S.fr m).2 (15+i)) ((S.fr m).1-19)=_
     rw[o1,o2]
    ·exfalso
     rw[e1]at a b
     have h1:=q.ss
     have h2:=q.nm
     have:=h.lh.rn q.st (by omega)
     omega
 ·have r:lp m z j=z j:=by
   unfold lp
   split
   ·exact cG _ _ e
   ·rfl
  rw[r]
  have k:=(mF I K hb e).2
  exact⟨by rw[f1];exact hb',by rw[k,f1];exact fun y=>⟨fnd (h.on y).1,(h.on y).2⟩,by rw[k];exact h.lh,by rw[k,f1];exact h.sm⟩
theorem Jq.seen {S:Ws} {j:Nat} {l:List Uy} {z:Uy} (h:Jq S j l z) (ih:Ih (S.PH j) (S.hs j)) (o:aE (S.hs j).v=true):Jq S j l ⟨(S.hs j).ss,(S.hs j).nm,((S.PH j).i,(S.hs j).v.bs)⟩:=by
 have h4:(S.hs j).st=4:=by
  apply Classical.byContradiction
  intro h4
  rw[jC ih h4]at o
  cases o
 exact⟨h.bg,h.on,⟨Nat.le_refl _,fun y=>by omega,fun _ _=>Nat.le_refl _⟩,fun _ _ _ _=>rfl⟩
theorem Jq.show_ {S:Ws} {j:Nat} {l:List Uy} {z:Uy} (h:Jq S j l z) (ih:Ih (S.PH j) (S.hs j)) (o:aE (S.hs j).v=true):lY l (S.hs j).ss (S.hs j).nm (BA (S.hs j).v.bs (S.PH j).i)∧((z.s=(S.hs j).ss∧z.n=(S.hs j).nm)→BA z.d.2 z.d.1=BA (S.hs j).v.bs (S.PH j).i)∧(¬ (z.s=(S.hs j).ss∧z.n=(S.hs j).nm)→z.s < (S.hs j).ss∨((S.hs j).ss=z.s∧z.n < (S.hs j).nm)):=by
 obtain⟨h1,h2⟩:=h.on o
 have h4:(S.hs j).st=4:=by
  apply Classical.byContradiction
  intro h4
  rw[jC ih h4]at o
  cases o
 have hle:=h.lh.le
 have hrn:=h.lh.rn h4
 refine⟨h1,fun e=>h.sm e.1.symm e.2.symm o (by omega),fun e=>?_⟩
 by_cases y:(S.hs j).ss=z.s
 ·have:=hrn y.symm
  exact .inr ⟨y,by omega⟩
 ·exact .inl (by omega)
structure Jvq (S:Ws) (l:Nat→List Uy) (z:Nat→Uy):Prop where
 I:S.In
 B:S.Bv
 n:S.n=2
 ph:S.PH=rE
 pd:S.PD=rE
 o:∀ j,j<S.n→iG (S.hs j).v
 jo:∀ j,j<2→Jq S j (l j) (z j)
theorem Jvq.next {S:Ws} {l:Nat→List Uy} {z:Nat→Uy} (h:Jvq S l z) (K:S.Kn) {m:Mv} (hm:m.w<4294967296) (hb:S.bad m=0) :
  ((S.play m).i = -1∧(S.play m).S.bg=S.bg∧Jvq (S.play m).S l (lp m z))∨∃ F:Fm,(S.play m).i=((S.bg.length:Nat):Int)∧(S.play m).S.bg=S.bg ++ [F]∧DE F.2 F.1=0∧(m.k≠2→F.2 0=20→Jvq (S.play m).S (aG l m.c.toNat (l m.c.toNat ++ [uF F])) (lp m z))∧(¬ (m.k≠2∧F.2 0=20)→Jvq (S.play m).S l (lp m z)):=by
 obtain⟨f1,f2,f3⟩:=pV h.I K m
 have I':=h.I.play K (m:=m)
 have B':=aaB (m:=m) h.B K h.I
 have n':(S.play m).S.n=2:=by rw[aa4];exact h.n
 have o':∀ j,j < (S.play m).S.n→iG ((S.play m).S.hs j).v:=fun j hj=>yJ h.I K m h.o j (by rw[n']at hj;rw[h.n];exact hj)
 have hk:m.c.toNat<2:=by rw[← h.n];exact (Ws.Law.of hb).kn
 have mk:∀ l':Nat→List Uy,(∀ j,j<2→Jq (S.play m).S j (l' j) (lp m z j))→Jvq (S.play m).S l' (lp m z):=fun l' q=>⟨I',B',n',f1.trans h.ph,f2.trans h.pd,o',q⟩
 have old:∀ j,j<2→∀ F,F ∈ S.bg→F.2 0=20→aC F.2 1=(S.PH j).c→uF F ∈ l j:=fun j hj=>(h.jo j hj).bg
 have mv:∀ j,j<2→∀ l':List Uy,(∀ u,u ∈ l j→u ∈ l')→(∀ F,F ∈ (S.play m).S.bg→F.2 0=20→aC F.2 1=(S.PH j).c→uF F ∈ l')→Jq (S.play m).S j l' (lp m z j):=fun j hj l' a b=>(h.jo j hj).move h.I K h.B (h.o j (by rw[h.n];exact hj)) m hm (by rw[h.n];exact hj) hb l' a b
 rcases ub h.I K hb with ⟨y1,y2⟩ | ⟨F,y1,y2,y3⟩
 ·exact .inl ⟨y1,y2,mk l fun j hj=>mv j hj (l j) (fun _ q=>q) (by rw[y2];exact old j hj)⟩
 ·have hD:DE F.2 F.1=0:=B' F (by rw[y2];simp)
  refine .inr ⟨F,y1,y2,hD,fun h2 h4=>?_,fun hn=>?_⟩
  ·refine mk _ fun j hj=>mv j hj _ (fun u q=>?_) (fun G hG g4 gc=>?_)
   ·unfold aG
    split
    ·next e=>subst e;exact List.mem_append_left _ q
    ·exact q
   ·rw[y2,List.mem_append,List.mem_singleton]at hG
    have hcF:aC F.2 1=7+m.c.toNat:=by
     rcases y3 with ⟨y,_⟩ | ⟨_,_,⟨y | ⟨k,t,n,f,len,bs,T,_⟩,y0⟩⟩
     ·exact absurd y h2
     ·exact absurd y y0
     ·rw[T.c,h.pd]
      rfl
    unfold aG
    rcases hG with q | rfl
    ·split
     ·next e=>subst e;exact List.mem_append_left _ (old _ hj G q g4 gc)
     ·exact old _ hj G q g4 gc
    ·rw[hcF,h.ph]at gc
     have gc:7+m.c.toNat=7+j:=gc
     rw[if_pos (by omega)]
     exact List.mem_append_right _ (List.mem_singleton.2 rfl)
  ·refine mk l fun j hj=>mv j hj (l j) (fun _ q=>q) (fun G hG g4 gc=>?_)
   rw[y2,List.mem_append,List.mem_singleton]at hG
   rcases hG with q | rfl
   ·exact old j hj G q g4 gc
   ·exfalso
    rcases y3 with ⟨_,k,t,n,f,len,bs,T,y⟩ | ⟨y,_⟩
    ·have:=T.k
     omega
    ·exact hn ⟨y,g4⟩
theorem Jvq.skip {S:Ws} {l:Nat→List Uy} {z:Nat→Uy} (h:Jvq S l z) {m:Mv} (hb:S.bad m≠0):Jvq (S.play m).S l z:=by
 have hp:(S.play m).S=S:=by
  unfold Ws.play
  rw[if_pos hb]
 rw[hp]
 exact h
theorem Jvq.seen {S:Ws} {l:Nat→List Uy} {z:Nat→Uy} (h:Jvq S l z) {j:Nat} (hj:j<2) (o:aE (S.hs j).v=true):Jvq S l (aG z j ⟨(S.hs j).ss,(S.hs j).nm,(1,(S.hs j).v.bs)⟩):=
 ⟨h.I,h.B,h.n,h.ph,h.pd,h.o,fun i hi=>by
  unfold aG
  split
  ·next e=>
   subst e
   have:=(h.jo i hi).seen (h.I.ih i (by rw[h.n];exact hi)) o
   rw[h.ph]at this
   exact this
  ·exact h.jo i hi⟩
end Go.Proofs.YtenilkloffnjlaaGreat
