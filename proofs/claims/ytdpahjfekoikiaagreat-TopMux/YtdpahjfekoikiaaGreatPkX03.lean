/- Part 4: contracts that the proof rests on. -/
import Derived.Deep.QuietTactic
import Derived.BigQuiet
import Derived.Laws.BytesString
import Derived.Deep.RegionWith
import Derived.Deep.DeepCutAuto
import Derived.Test.YtdpahjfekoikiaaGreatPkX02
set_option maxHeartbeats 64000000
set_option maxRecDepth 100000
namespace Go.Proofs.YtdpahjfekoikiaaGreat
open Tryz
open Go.RowKit
def bR (n:Nat):List (Nat × Nat)→Ms→Int
 | [],_=>0
 | (p,c) :: r,s=>if fR s n (p:Nat)=0 then bR n r (gh s n (p:Nat) c) else fR s n (p:Nat)
def bO (n:Nat):List (Nat × Nat)→Ms→Ms
 | [],s=>s
 | (p,c) :: r,s=>if fR s n (p:Nat)=0 then bO n r (gh s n (p:Nat) c) else gh s n (p:Nat) c
def aY:List (Nat × Nat)→(Nat→Nat)→Nat→Nat
 | [],z=>z
 | (p,c) :: r,z=>aY r (gU z p c)
theorem mu {s:Ms} {n p:Nat} (hp:p<n) (ho:s.off=false):gr s n (p:Nat)=0:=by
 unfold gr
 rw[ho,if_neg (by simp),if_neg (by omega)]
theorem vh {s:Ms} {n p:Nat} (c:Nat) (hp:p<n) (ho:s.off=false) :
  (fR s n (p:Nat)=0∧gh s n (p:Nat) c=⟨gU s.bs p c,false,s.ar,if s.ar then s.l-1 else s.l,s.t+1⟩∧¬ (s.ar=true∧s.l=0)) ∨
  (fR s n (p:Nat)=70∧gh s n (p:Nat) c={ s with off:=true }∧s.ar=true∧s.l=0):=by
 have hr:=mu hp ho
 by_cases h:s.ar=true∧s.l=0
 ·exact .inr ⟨(jR (c:=c) hr h.1 h.2).1,(jR (c:=c) hr h.1 h.2).2,h.1,h.2⟩
 ·refine .inl ⟨(if_neg (fun k=>k hr)).trans (if_neg h),(if_neg (fun k=>k hr)).trans ((if_neg h).trans ?_),h⟩
  rw[Int.toNat_natCast,ho]
theorem dN (n:Nat):∀ (l:List (Nat × Nat)) (s:Ms),(∀ x,x ∈ l→x.1<n)→s.off=false→0≤s.l →
  (bR n l s=0∧bO n l s=⟨aY l s.bs,false,s.ar,if s.ar then s.l-l.length else s.l,s.t+l.length⟩∧(s.ar=true→(l.length:Int)≤s.l)) ∨
  (bR n l s=70∧bO n l s=⟨aY (l.take s.l.toNat) s.bs,true,true,0,s.t+s.l⟩∧s.ar=true∧s.l < (l.length:Int))
 | [],⟨_,off,ar,_,_⟩,_,ho,hl=>.inl ⟨rfl,by simp only at ho;subst ho;cases ar <;> simp[bO,aY],fun _=>hl⟩
 | (p,c) :: r,s,hin,ho,hl=>by
  have hp:p<n:=hin (p,c) (by simp)
  have hin':∀ x,x ∈ r→x.1<n:=fun x hx=>hin x (by simp[hx])
  rcases vh c hp ho with ⟨hE,hS,hna⟩ | ⟨hE,hS,ha,h0⟩
  ·have hl':0 ≤ (⟨gU s.bs p c,false,s.ar,if s.ar then s.l-1 else s.l,s.t+1⟩:Ms).l:=by
    cases ha:s.ar
    ·simpa using hl
    ·simp only[ha,true_and]at hna
     simp only[if_true]
     omega
   have ih:=dN n r ⟨gU s.bs p c,false,s.ar,if s.ar then s.l-1 else s.l,s.t+1⟩ hin' rfl hl'
   have e1:bR n ((p,c) :: r) s=bR n r ⟨gU s.bs p c,false,s.ar,if s.ar then s.l-1 else s.l,s.t+1⟩:=by
    rw[bR,if_pos hE,hS]
   have e2:bO n ((p,c) :: r) s=bO n r ⟨gU s.bs p c,false,s.ar,if s.ar then s.l-1 else s.l,s.t+1⟩:=by
    rw[bO,if_pos hE,hS]
   rw[e1,e2]
   cases ha:s.ar
   ·simp only[ha,aY,List.length_cons]at ih ⊢
    rcases ih with ⟨h1,h2,h3⟩ | ⟨h1,h2,h3,h4⟩
    ·refine .inl ⟨h1,?_,by simp⟩
     rw[h2]
     simp
     omega
    ·simp at h3
   ·simp only[ha,true_and]at hna
    simp only[ha,if_true,aY,List.length_cons]at ih ⊢
    rcases ih with ⟨h1,h2,h3⟩ | ⟨h1,h2,h3,h4⟩
    ·refine .inl ⟨h1,?_,fun _=>by have:=h3 trivial;omega⟩
     rw[h2]
     simp
     omega
    ·refine .inr ⟨h1,?_,trivial,by omega⟩
     rw[h2]
     have e3:s.l.toNat=(s.l-1).toNat+1:=by omega
     rw[e3]
     simp[aY]
     omega
  ·refine .inr ⟨?_,?_,ha,by rw[h0];simp⟩
   ·rw[bR,if_neg (by rw[hE];omega),hE]
   ·rw[bO,if_neg (by rw[hE];omega),hS,h0,ha]
    simp[aY]
def bt (v i:Nat):Nat:=v / 2 ^ (8 * (3-i)) % 256
def bp (k v:Nat):List (Nat × Nat):=[(5*k,0),(5*k+1,bt v 0),(5*k+2,bt v 1),(5*k+3,bt v 2),(5*k+4,bt v 3),(5*k,165)]
def wz (z:Nat→Nat) (k:Nat):Nat:=z (5*k+1)*16777216+z (5*k+2)*65536+z (5*k+3)*256+z (5*k+4)
def hw (z:Nat→Nat) (k:Nat):Nat:=if z (5*k)=165 then wz z k else 0
def vz (z:Nat→Nat):Nat:=max (hw z 0) (hw z 1)
def tg (z:Nat→Nat):Nat:=if z 0=165∧(z 5≠165∨wz z 1<wz z 0) then 1 else 0
def be (z:Nat→Nat):List (Nat × Nat):=
 if z 0=165 then (if z 5=165 then [] else bp 1 (wz z 0)) else if z 5=165 then bp 0 (wz z 1) else
 if z 0≠0 then (if z 5≠0 then [(0,0),(5,0)] else [(0,0)]) else (if z 5≠0 then [(5,0)] else [])
def Bz (z:Nat→Nat):Prop:=∀ i,i<10→z i<256
theorem jk {z:Nat→Nat} (h:Bz z) (k:Nat) (hk:k<2):wz z k<4294967296:=by
 unfold wz
 have h1:=h (5*k+1) (by omega)
 have h2:=h (5*k+2) (by omega)
 have h3:=h (5*k+3) (by omega)
 have h4:=h (5*k+4) (by omega)
 omega
theorem pF (v i:Nat):bt v i<256:=Nat.mod_lt _ (by omega)
theorem rX (v:Nat) (h:v<4294967296):bt v 0*16777216+bt v 1*65536+bt v 2*256+bt v 3=v:=by
 have e:bt v 0=v / 16777216 % 256∧bt v 1=v / 65536 % 256∧bt v 2=v / 256 % 256∧bt v 3=v / 1 % 256:=⟨rfl,rfl,rfl,rfl⟩
 omega
theorem dw (k v n:Nat) (hk:k<2) (hn:10≤n):∀ x,x ∈ bp k v→x.1<n∧x.2<256:=by
 intro x hx
 have:=pF v
 simp only[bp,List.mem_cons,List.not_mem_nil,or_false]at hx
 rcases hx with rfl | rfl | rfl | rfl | rfl | rfl <;> refine⟨by simp only;omega,?_⟩ <;> simp only <;> first | omega | exact this _
theorem lk (z:Nat→Nat) (k v:Nat):aY (bp k v) z (5*k)=165:=by simp[bp,aY,gU]
theorem ri (z:Nat→Nat) (k v:Nat) (h:v<4294967296):wz (aY (bp k v) z) k=v:=by
 have e:=rX v h
 simp only[wz,bp,aY,gU]
 simp
 omega
theorem cX (z:Nat→Nat) (k v j:Nat) (i:Nat) (h:i<5*k∨5*k+4<i):aY ((bp k v).take j) z i=z i:=by
 have:∀ j',j'≤6→aY ((bp k v).take j') z i=z i:=by
  intro j' hj
  have:j'=0∨j'=1∨j'=2∨j'=3∨j'=4∨j'=5∨j'=6:=by omega
  have e0:i≠5*k:=by omega
  have e1:i≠5*k+1:=by omega
  have e2:i≠5*k+2:=by omega
  have e3:i≠5*k+3:=by omega
  have e4:i≠5*k+4:=by omega
  rcases this with rfl | rfl | rfl | rfl | rfl | rfl | rfl <;> simp[bp,aY,gU,e0,e1,e2,e3,e4]
 by_cases hj:j≤6
 ·exact this j hj
 ·have e:(bp k v).take j=(bp k v).take 6:=by rw[List.take_of_length_le (by simp[bp];omega),List.take_of_length_le (by simp[bp])]
  rw[e]
  exact this 6 (by omega)
theorem sZ (z:Nat→Nat) (k v j:Nat) (h0:0<j) (h:j<6):aY ((bp k v).take j) z (5*k)=0:=by
 have:j=1∨j=2∨j=3∨j=4∨j=5:=by omega
 rcases this with rfl | rfl | rfl | rfl | rfl <;> simp[bp,aY,gU]
theorem qa (z:Nat→Nat) (k v:Nat) (h:v<4294967296):hw (aY (bp k v) z) k=v:=by
 unfold hw
 rw[lk,if_pos rfl,ri z k v h]
theorem gS (z:Nat→Nat) (k k' v j:Nat) (h:k≠k'):hw (aY ((bp k v).take j) z) k'=hw z k':=by
 unfold hw wz
 rw[cX z k v j _ (by omega),cX z k v j _ (by omega),cX z k v j _ (by omega),cX z k v j _ (by omega),cX z k v j _ (by omega)]
theorem rh (k v:Nat):(bp k v).take 6=bp k v:=rfl
theorem iT (z:Nat→Nat) (k k' v:Nat) (h:k≠k'):hw (aY (bp k v) z) k'=hw z k':=gS z k k' v 6 h
theorem p8 (z:Nat→Nat) (k v j:Nat) (h:j<6):j=0∨hw (aY ((bp k v).take j) z) k=0:=by
 by_cases h0:j=0
 ·exact .inl h0
 ·refine .inr ?_
  unfold hw
  rw[sZ z k v j (by omega) h,if_neg (by omega)]
theorem io (z:Nat→Nat):tg z<2:=by
 unfold tg
 split <;> omega
theorem uY (z:Nat→Nat):hw z (tg z)≤hw z (1-tg z):=by
 unfold tg
 by_cases h:z 0=165∧(z 5≠165∨wz z 1<wz z 0)
 ·rw[if_pos h]
  unfold hw
  simp only[Nat.mul_one,Nat.mul_zero,Nat.sub_self,h.1,if_true]
  split <;> omega
 ·rw[if_neg h]
  unfold hw
  simp only[Nat.mul_one,Nat.mul_zero,Nat.sub_zero]
  by_cases h0:z 0=165
  ·have h5:z 5=165:=by omega
   rw[if_pos h0,if_pos h5]
   omega
  ·rw[if_neg h0]
   omega
theorem eC (z:Nat→Nat) (k:Nat) (hk:k<2):vz z=max (hw z k) (hw z (1-k)):=by
 have:k=0∨k=1:=by omega
 rcases this with rfl | rfl
 ·rfl
 ·unfold vz
  exact Nat.max_comm _ _
theorem tk (z:Nat→Nat) (v:Nat) (h:v<4294967296) (hv:vz z≤v):vz (aY (bp (tg z) v) z)=v:=by
 have hk:=io z
 rw[eC _ _ hk,qa z _ v h,iT z _ _ v (by omega)]
 rw[eC z _ hk]at hv
 omega
theorem ug (z:Nat→Nat) (v j:Nat) (h:j<6):vz (aY ((bp (tg z) v).take j) z)=vz z:=by
 have hk:=io z
 have hl:=uY z
 rcases p8 z (tg z) v j h with rfl | h0
 ·rfl
 ·rw[eC _ _ hk,h0,gS z _ _ v j (by omega),eC z _ hk]
  omega
theorem p9 {z:Nat→Nat} {k:Nat} (h:z (5*k)≠165):hw z k=0:=if_neg h
theorem rD (z:Nat→Nat) (k j:Nat) (hz:Bz z) (hk:k<2) (h0:z (5*k)≠165) (h1:z (5 * (1-k))=165):vz (aY ((bp k (wz z (1-k))).take j) z)=vz z:=by
 have e0:=p9 h0
 have e1:hw z (1-k)=wz z (1-k):=if_pos h1
 have hl:=jk hz (1-k) (by omega)
 by_cases h:j<6
 ·rcases p8 z k (wz z (1-k)) j h with rfl | e
  ·rfl
  ·rw[eC _ _ hk,e,gS z _ _ _ j (by omega),eC z _ hk,e0]
 ·have e:(bp k (wz z (1-k))).take j=bp k (wz z (1-k)):=List.take_of_length_le (by simp[bp];omega)
  rw[e,eC _ _ hk,qa z k _ hl,iT z _ _ _ (by omega),eC z _ hk,e0,e1]
  omega
theorem nB {z:Nat→Nat} (h0:z 0≠165) (h1:z 5≠165):vz z=0:=by
 unfold vz
 rw[p9 h0,p9 h1]
 rfl
theorem jP (z:Nat→Nat) (j:Nat) (hz:Bz z):vz (aY ((be z).take j) z)=vz z:=by
 unfold be
 by_cases h0:z 0=165
 ·rw[if_pos h0]
  by_cases h1:z 5=165
  ·rw[if_pos h1]
   simp[aY]
  ·rw[if_neg h1]
   exact rD z 1 j hz (by omega) h1 h0
 ·rw[if_neg h0]
  by_cases h1:z 5=165
  ·rw[if_pos h1]
   exact rD z 0 j hz (by omega) h0 h1
  ·rw[if_neg h1,nB h0 h1]
   have H:∀ l:List (Nat × Nat),(∀ x,x ∈ l→x.2=0)→∀ z:Nat→Nat,z 0≠165→z 5≠165→vz (aY l z)=0:=by
    intro l
    induction l with
    | nil=>intro _ z h0 h1;exact nB h0 h1
    | cons x r ih=>
     intro hx z h0 h1
     obtain⟨p,c⟩:=x
     have hc:c=0:=hx (p,c) (by simp)
     subst hc
     refine ih (fun y hy=>hx y (by simp[hy])) _ ?_ ?_
     ·unfold gU;split <;> omega
     ·unfold gU;split <;> omega
   refine H _ (fun x hx=>?_) z h0 h1
   have:=List.mem_of_mem_take hx
   split at this <;> split at this <;> simp at this <;> first | omega | (rcases this with rfl | rfl <;> rfl) | (subst this;rfl)
theorem gn (z:Nat→Nat) (n:Nat) (hn:10≤n):∀ x,x ∈ be z→x.1<n∧x.2<256:=by
 intro x hx
 unfold be at hx
 split at hx
 ·split at hx
  ·simp at hx
  ·exact dw 1 _ n (by omega) hn x hx
 ·split at hx
  ·exact dw 0 _ n (by omega) hn x hx
  ·split at hx <;> split at hx <;> simp at hx <;> first | (rcases hx with rfl | rfl <;> exact⟨by simp only;omega,by simp only;omega⟩) | (subst hx;exact⟨by simp only;omega,by simp only;omega⟩)
theorem qp (z:Nat→Nat):(be z).length≤6:=by
 unfold be
 split
 ·split <;> simp[bp]
 ·split
  ·simp[bp]
  ·split <;> split <;> simp
def CV (m mx:Nat) (mk wd:Nat→Nat) (cut:Bool):Array Value:=
 #[aa m 0,.int .u32 (mx:Nat),.int .u8 (mk 0:Nat),.int .u8 (mk 1:Nat),.int .u32 (wd 0:Nat),.int .u32 (wd 1:Nat),.bool cut]
structure CX (w:World) (c m mx:Nat) (mk wd:Nat→Nat) (cut:Bool):Prop where
 at_:w.heap[c]?=some (.cells (CV m mx mk wd cut) 160 (0,0))
def upd (f:Nat→Nat) (k x:Nat):Nat→Nat:=fun i=>if i=k then x else f i
section
variable {w w':World} {c m mx:Nat} {mk wd:Nat→Nat} {cut:Bool}
theorem CX.lt (h:CX w c m mx mk wd cut):c<w.heap.size:=(Array.getElem?_eq_some_iff.1 h.at_).1
theorem CX.off {l:List Nat} (h:CX w c m mx mk wd cut) (q:Off l w w') (hc:c ∉ l):CX w' c m mx mk wd cut:=⟨(q.block c h.lt hc).trans h.at_⟩
theorem CX.fz (h:CX w c m mx mk wd cut) (j:Nat):w.frozen? ⟨c,j,none⟩=false:=frozen_of_row w c j _ _ h.at_
theorem CX.mem (h:CX w c m mx mk wd cut):w.cell? ⟨c,0,none⟩=some (aa m 0):=ab w c 0 _ _ _ h.at_
theorem CX.max (h:CX w c m mx mk wd cut):w.cell? ⟨c,1,none⟩=some (.int .u32 (mx:Nat)):=ab w c 1 _ _ _ h.at_
theorem CX.hmk (h:CX w c m mx mk wd cut) (k:Nat) (hk:k<2):w.cell? ⟨c,2+k,none⟩=some (.int .u8 (mk k:Nat)):=by
 have:k=0∨k=1:=by omega
 rcases this with rfl | rfl
 ·exact ab w c 2 _ _ _ h.at_
 ·exact ab w c 3 _ _ _ h.at_
theorem CX.hwd (h:CX w c m mx mk wd cut) (k:Nat) (hk:k<2):w.cell? ⟨c,4+k,none⟩=some (.int .u32 (wd k:Nat)):=by
 have:k=0∨k=1:=by omega
 rcases this with rfl | rfl
 ·exact ab w c 4 _ _ _ h.at_
 ·exact ab w c 5 _ _ _ h.at_
theorem CX.hcut (h:CX w c m mx mk wd cut):w.cell? ⟨c,6,none⟩=some (.bool cut):=ab w c 6 _ _ _ h.at_
theorem CX.setMk (h:CX w c m mx mk wd cut) (k x:Nat) (hk:k<2):CX (w.setCell ⟨c,2+k,none⟩ (.int .u8 (x:Nat))) c m mx (upd mk k x) wd cut:=by
 have:k=0∨k=1:=by omega
 rcases this with rfl | rfl
 ·exact⟨heap_setCell_same _ _ _ _ _ _ h.at_⟩
 ·exact⟨heap_setCell_same _ _ _ _ _ _ h.at_⟩
theorem CX.setWd (h:CX w c m mx mk wd cut) (k x:Nat) (hk:k<2):CX (w.setCell ⟨c,4+k,none⟩ (.int .u32 (x:Nat))) c m mx mk (upd wd k x) cut:=by
 have:k=0∨k=1:=by omega
 rcases this with rfl | rfl
 ·exact⟨heap_setCell_same _ _ _ _ _ _ h.at_⟩
 ·exact⟨heap_setCell_same _ _ _ _ _ _ h.at_⟩
theorem CX.setCut (h:CX w c m mx mk wd cut) (b:Bool):CX (w.setCell ⟨c,6,none⟩ (.bool b)) c m mx mk wd b:=⟨heap_setCell_same _ _ _ _ _ _ h.at_⟩
theorem CX.as {mk' wd':Nat→Nat} (h:CX w c m mx mk wd cut) (a0:mk 0=mk' 0) (a1:mk 1=mk' 1) (b0:wd 0=wd' 0) (b1:wd 1=wd' 1):CX w c m mx mk' wd' cut:=by
 refine⟨?_⟩
 rw[h.at_]
 unfold CV
 rw[a0,a1,b0,b1]
theorem CX.drewN (h:CX w c m mx mk wd cut) (k:Nat):CX (w.drewN k) c m mx mk wd cut:=h.off (Off.drewN [] _ k) (by simp)
end
theorem iQ (c m mx:Nat) (mk wd:Nat→Nat) (cut:Bool) (k:Nat) (w:World) (h:CX w c m mx mk wd cut) (hk:k<2) :
  Calls prog 101 #[aa c 0,.int .i64 (k:Nat)] w fun e w'=>e=.returned (.bool (decide ((mk k:Int)=165)))∧w'=w:=by
 have hm:=h.hmk k hk
 clear h
 go_enter func101,ntmps101
 go_wp2_with fail
 go_ret
 exact⟨rfl,rfl⟩
theorem rc (k v:Nat):bp k v=(5*k,0) :: (bp k v).drop 1:=rfl
theorem rg (k v i:Nat) (hi:i<4):(bp k v).drop (i+1)=(5*k+1+i,bt v i) :: (bp k v).drop (i+2):=by
 have:i=0∨i=1∨i=2∨i=3:=by omega
 rcases this with rfl | rfl | rfl | rfl <;> rfl
theorem rd (k v:Nat):(bp k v).drop 5=[(5*k,165)]:=rfl
theorem lu {n p c:Nat} {r:List (Nat × Nat)} {s:Ms} {E:Int} {S:Ms} (hE:bR n ((p,c) :: r) s=E) (hS:bO n ((p,c) :: r) s=S) (h:fR s n (p:Nat)=0) :
  bR n r (gh s n (p:Nat) c)=E∧bO n r (gh s n (p:Nat) c)=S:=by
 rw[← hE,← hS,bR,bO,if_pos h,if_pos h]
 exact⟨rfl,rfl⟩
theorem fB {n p c:Nat} {r:List (Nat × Nat)} {s:Ms} {E:Int} {S:Ms} (hE:bR n ((p,c) :: r) s=E) (hS:bO n ((p,c) :: r) s=S) (h:¬ fR s n (p:Nat)=0) :
  fR s n (p:Nat)=E∧gh s n (p:Nat) c=S:=by
 rw[← hE,← hS,bR,bO,if_neg h,if_neg h]
 exact⟨rfl,rfl⟩
theorem nD (s:Ms) (n:Nat) (p:Int) (c:Nat):(gh s n p c).t≤s.t+1:=by
 unfold gh
 split
 ·omega
 ·split
  ·show s.t≤s.t+1;omega
  ·exact Int.le_refl _
theorem Off.three {m g c:Nat} {w w':World} (h:Off [m,g] w w'):Off [m,g,c] w w':=h.more (by simp)
theorem Off.three' {m g c:Nat} {w w':World} (h:Off [c] w w'):Off [m,g,c] w w':=h.more (by simp)
theorem eU (c m g n mx:Nat) (mk wd:Nat→Nat) (cut:Bool) (s:Ms) (k v:Nat) (w:World) (hM:MR w m g n s) (hC:CX w c m mx mk wd cut) (hcm:c≠m) (hcg:c≠g) (hk:k<2) (_hv:v<4294967296) (ht:s.t<9223372036854775000) :
  Calls prog 102 #[aa c 0,.int .i64 (k:Nat),.int .u32 (v:Nat)] w fun e w'=>e=.returned (.int .i64 (bR n (bp k v) s))∧(Off [m,g,c] w w'∧MR w' m g n (bO n (bp k v) s) ∧
   CX w' c m mx (if bR n (bp k v) s=0 then upd mk k 165 else mk) (if bR n (bp k v) s=0 then upd wd k v else wd) cut):=by
 obtain⟨E,hE⟩:∃ E,bR n (bp k v) s=E:=⟨_,rfl⟩
 obtain⟨S,hS⟩:∃ S,bO n (bp k v) s=S:=⟨_,rfl⟩
 rw[hE,hS]
 rw[rc]at hE hS
 obtain⟨mk',hmk⟩:∃ f,(if E=0 then upd mk k 165 else mk)=f:=⟨_,rfl⟩
 obtain⟨wd',hwd⟩:∃ f,(if E=0 then upd wd k v else wd)=f:=⟨_,rfl⟩
 rw[hmk,hwd]
 have HK:Hid (_):=And.intro hmk hwd
 clear hmk hwd
 have c0:=hC.mem
 have HC:Hid (_):=hC
 clear hC
 go_enter func102,ntmps102
 go_wp2_with fail
 refine (eR m g n s _ 0 w hM (by omega) (by omega)).mono ?_
 rintro e w1 ⟨rfl,o1,m1⟩
 rw[show (k:Int)*5=((5*k:Nat):Int) by omega]at m1 ⊢
 have t1:=nD s n ((5*k:Nat):Int) 0
 by_cases he:fR s n ((5*k:Nat):Int)=0
 ·obtain⟨hE1,hS1⟩:=lu hE hS he
  rw[he]
  have C1:=HC.out.off o1 (by simp;omega)
  have O1:Off [m,g,c] w w1:=o1.three
  clear hE hS he o1 HC c0 hM
  generalize gh s n ((5*k:Nat):Int) 0=s1 at *
  go_wp2_with fail
  go_loopw [6,9,10,11,24] (fun _ _ _ _ ci wr=>∃ (i:Nat) (si:Ms),i≤4∧ci=.int .i64 ((i:Nat):Int)∧bR n ((bp k v).drop (i+1)) si=E∧bO n ((bp k v).drop (i+1)) si=S∧si.t≤s.t+1+i∧Off [m,g,c] w wr∧MR wr m g n si∧CX wr c m mx mk wd cut) (fun _ _ _ _ ci _=>4 - (intOf ci).toNat)
  case atStart=>exact⟨0,s1,by omega,rfl,hE1,hS1,by omega,O1,m1,C1⟩
  case round=>
   clear hE1 hS1 O1 m1 C1 t1
   obtain⟨i,si,hi,rfl,hE,hS,t1,O1,m1,C1⟩:=hrel
   have c0:=C1.mem
   by_cases hlt:i<4
   ·rw[rg k v i hlt]at hE hS
    have HC:Hid (_):=C1
    clear C1
    go_wp2_with fail
    rw[show (v:Int) / 2 ^ (8 * (3-i)) % 256=((bt v i:Nat):Int) by simp[bt]]
    refine (eR m g n si _ (bt v i) wr m1 (pF v i) (by omega)).mono ?_
    rintro e w2 ⟨rfl,o2,m2⟩
    rw[show 5 * (k:Int)+1 + (i:Int)=((5*k+1+i:Nat):Int) by omega]at m2 ⊢
    have t2:=nD si n ((5*k+1+i:Nat):Int) (bt v i)
    have C2:=HC.out.off o2 (by simp;omega)
    have O2:Off [m,g,c] w w2:=O1.trans o2.three
    generalize bt v i=x at *
    by_cases he:fR si n ((5*k+1+i:Nat):Int)=0
    ·obtain⟨hE1,hS1⟩:=lu hE hS he
     rw[he]
     have H:Hid (_):=And.intro (And.intro hE1 hS1) (And.intro O2 (And.intro m2 C2))
     clear hE hS he o2 HC c0 O1 m1 m2 C2 O2 hE1 hS1
     generalize gh si n ((5*k+1+i:Nat):Int) x=s2 at *
     go_wp2_with fail
     go_roundw
     case rel=>exact⟨i+1,s2,by omega,by go_num,H.out.1.1,H.out.1.2,by omega,H.out.2⟩
     case measure=>simp[intOf] <;> omega
    ·obtain⟨hE1,hS1⟩:=fB hE hS he
     rw[hS1]at m2
     rw[hE1]at he ⊢
     have HK1:=HK.out
     rw[if_neg he,if_neg he]at HK1
     rw[HK1.1,HK1.2]at C2
     have H:Hid (_):=And.intro O2 (And.intro m2 C2)
     clear hE hS o2 HC c0 O1 m1 m2 C2 O2 hE1 hS1 t1 t2 HK HK1
     go_wp2_with fail
     go_ret
     exact⟨rfl,H.out⟩
   ·obtain rfl:i=4:=by omega
    rw[rd]at hE hS
    have HC:Hid (_):=C1
    clear C1 hlt
    go_wp2_with fail
    refine (eR m g n si _ 165 wr m1 (by omega) (by omega)).mono ?_
    rintro e w2 ⟨rfl,o2,m2⟩
    rw[show 5 * (k:Int)=((5*k:Nat):Int) by omega]at m2 ⊢
    have C2:=HC.out.off o2 (by simp;omega)
    have O2:Off [m,g,c] w w2:=O1.trans o2.three
    by_cases he:fR si n ((5*k:Nat):Int)=0
    ·obtain⟨hE1,hS1⟩:=lu hE hS he
     rw[bO]at hS1
     rw[bR]at hE1
     rw[hS1]at m2
     rw[he]
     subst hE1
     have HK1:=HK.out
     rw[if_pos rfl,if_pos rfl]at HK1
     have zk:=C2.hmk k hk
     have fk:=C2.fz (2+k)
     have C3:=C2.setMk k 165 hk
     have wk:=C3.hwd k hk
     have gk:=C3.fz (4+k)
     have wj:=C2.hwd k hk
     have gj:=C2.fz (4+k)
     have zj:=(C2.setWd k v hk).hmk k hk
     have fj:=(C2.setWd k v hk).fz (2+k)
     have nk:¬ 2+k=4+k:=by omega
     have nj:¬ 4+k=2+k:=by omega
     have H:Hid (_):=And.intro HK1 (And.intro O2 (And.intro m2 C2))
     clear hE hS o2 HC c0 O1 m1 m2 C2 O2 hS1 t1 he C3 HK HK1
     go_wp2_with fail
     go_region
     go_wp2_with fail
     go_ret
     obtain⟨hK,oo,mm,cc⟩:=H.out
     have q:Off [c] w2 ((w2.setCell ⟨c,2+k,none⟩ (.int .u8 165)).setCell ⟨c,4+k,none⟩ (.int .u32 (v:Nat))).drew:=((Off.setCell c (2+k) _ _).trans (Off.setCell c (4+k) _ _)).trans (Off.drew _ _)
     have cc':=((cc.setMk k 165 hk).setWd k v hk).off (Off.drew [] _) (by simp)
     rw[hK.1,hK.2]at cc'
     exact⟨rfl,oo.trans q.three',mm.off q (by simp;omega) (by simp;omega),cc'⟩
    ·obtain⟨hE1,hS1⟩:=fB hE hS he
     rw[hS1]at m2
     rw[hE1]at he ⊢
     have HK1:=HK.out
     rw[if_neg he,if_neg he]at HK1
     rw[HK1.1,HK1.2]at C2
     have H:Hid (_):=And.intro O2 (And.intro m2 C2)
     clear hE hS o2 HC c0 O1 m1 m2 C2 O2 hE1 hS1 t1 HK HK1
     go_wp2_with fail
     go_ret
     exact⟨rfl,H.out⟩
 ·obtain⟨hE1,hS1⟩:=fB hE hS he
  rw[hS1]at m1
  rw[hE1]at he ⊢
  have C1:=HC.out.off o1 (by simp;omega)
  have HK1:=HK.out
  rw[if_neg he,if_neg he]at HK1
  rw[HK1.1,HK1.2]at C1
  have H:Hid (_):=And.intro (Off.three (c:=c) o1) (And.intro m1 C1)
  clear hE hS o1 HC c0 m1 C1 hE1 hS1 t1 HK HK1
  go_wp2_with fail
  go_ret
  exact⟨rfl,H.out⟩
end Go.Proofs.YtdpahjfekoikiaaGreat
namespace Go.Proofs.YtdpahjfekoikiaaGreat
open Tryz
open Go.RowKit
def pw (z:Nat→Nat) (k:Nat):Nat→Nat
 | 0=>0
 | i+1=>pw z k i*256+z (5*k+1+i)
theorem sN (z:Nat→Nat) (k:Nat):pw z k 4=wz z k:=by
 show (((0*256+z (5*k+1))*256+z (5*k+2))*256+z (5*k+3))*256+z (5*k+4)=wz z k
 unfold wz
 omega
theorem uP {z:Nat→Nat} (hz:Bz z) (k:Nat) (hk:k<2) (i:Nat) (hi:i≤4):pw z k i<256 ^ i:=by
 induction i with
 | zero=>simp[pw]
 | succ i ih=>
  have:=ih (by omega)
  have:=hz (5*k+1+i) (by omega)
  rw[pw,Nat.pow_succ]
  omega
theorem jE (c m g n mx:Nat) (mk wd:Nat→Nat) (cut:Bool) (s:Ms) (k:Nat) (w:World) (hM:MR w m g n s) (hC:CX w c m mx mk wd cut) (hk:k<2) (hn:10≤n) (ho:s.off=false) :
  Calls prog 100 #[aa c 0,.int .i64 (k:Nat)] w fun e w'=>e=.returned (.tuple #[.int .u32 (wz s.bs k:Nat),.int .i64 0])∧w'=w:=by
 have c0:=hC.mem
 have hz:Bz s.bs:=fun i hi=>hM.byte i (by omega)
 have hf:=fun i (hi:i≤4)=>uP hz k hk i hi
 rw[← sN]
 obtain⟨X,hX⟩:∃ X,pw s.bs k 4=X:=⟨_,rfl⟩
 rw[hX]
 have HX:Hid (_):=hX
 clear hX
 have HZ:Hid (Bz s.bs):=hz
 clear hC hz
 go_enter func100,ntmps100
 go_wp2_with fail
 go_loopw [4,5,6,7,8,9,10] (fun _ _ x _ _ _ ci wr=>∃ i:Nat,i≤4∧ci=.int .i64 ((i:Nat):Int)∧x=.int .u32 (pw s.bs k i:Nat)∧wr=w) (fun _ _ _ _ _ _ ci _=>4 - (intOf ci).toNat)
 case atStart=>exact⟨0,by omega,rfl,rfl,rfl⟩
 case round=>
  obtain⟨i,hi,rfl,rfl,rfl⟩:=hrel
  by_cases hlt:i<4
  ·have hr:=mu (s:=s) (n:=n) (p:=5*k+1+i) (by omega) ho
   have hb:=HZ.out (5*k+1+i) (by omega)
   have hl:=hf i (by omega)
   have e1:pw s.bs k (i+1)=pw s.bs k i*256+s.bs (5*k+1+i):=rfl
   have e2:t8 s n ((5*k+1+i:Nat):Int)=s.bs (5*k+1+i):=by
    unfold t8
    rw[hr,if_neg (by simp),Int.toNat_natCast]
   generalize s.bs (5*k+1+i)=b at *
   obtain⟨y,hy⟩:∃ y,pw s.bs k (i+1)=y:=⟨_,rfl⟩
   rw[hy]at e1
   have HY:Hid (_):=hy
   clear hy
   generalize pw s.bs k i=x at *
   have HH:Hid (_):=And.intro hr e2
   have hor:bits .or .u32 ((x:Int)*256 % 4294967296) (b:Int)=((y:Nat):Int):=by
    have h3:x<256 ^ 3:=Nat.lt_of_lt_of_le hl (Nat.pow_le_pow_right (by omega) (by omega))
    rw[show (x:Int)*256 % 4294967296=((x*256:Nat):Int) by omega,u32_or_nat _ _ (by omega) (by omega),nat_join 8 (x*256) b (by omega) (by omega),e1]
   clear hf HZ hr e2 HX
   go_wp2_with fail
   refine (ib m g n s _ wr hM).mono ?_
   rintro e w' ⟨rfl,hw⟩
   rw[hw,show (k:Int)*5+1 + (i:Int)=((5*k+1+i:Nat):Int) by omega,HH.out.1,HH.out.2]
   clear hw
   go_wp2_with fail
   exact⟨⟨i+1,by omega,by go_num,by rw[HY.out,e1];simp,trivial⟩,by simp[intOf] <;> omega⟩
  ·obtain rfl:i=4:=by omega
   rw[HX.out]
   clear hf HZ HX
   go_wp2_with fail
   go_ret2
   exact⟨rfl,rfl⟩
theorem nR (c m g n mx:Nat) (mk wd:Nat→Nat) (cut:Bool) (s:Ms) (w:World) (hM:MR w m g n s) (hC:CX w c m mx mk wd cut) (hcm:c≠m) (hcg:c≠g) (hn:10≤n) (ho:s.off=false) :
  Calls prog 58 #[aa c 0] w fun e w'=>e=.returned (.int .i64 0)∧(Off [c] w w'∧MR w' m g n s∧CX w' c m mx (fun k=>s.bs (5*k)) (wz s.bs) cut):=by
 go_enter func58,ntmps58
 go_wp2_with fail
 go_loopw [2,3,4,5,6,7] (fun _ _ _ _ _ ci wr=>∃ (i:Nat) (mk wd:Nat→Nat),i≤2∧ci=.int .i64 ((i:Nat):Int)∧(∀ j,j<i→mk j=s.bs (5*j)∧wd j=wz s.bs j)∧Off [c] w wr∧MR wr m g n s∧CX wr c m mx mk wd cut) (fun _ _ _ _ _ ci _=>2 - (intOf ci).toNat)
 case atStart=>exact⟨0,mk,wd,by omega,rfl,fun j hj=>by omega,Off.refl _ _,hM,hC⟩
 case round=>
  clear hM hC mk wd
  obtain⟨i,mk,wd,hi,rfl,hj,O,hM,hC⟩:=hrel
  by_cases hlt:i<2
  ·have hr:=mu (s:=s) (n:=n) (p:=5*i) (by omega) ho
   have e2:t8 s n ((5*i:Nat):Int)=s.bs (5*i):=by
    unfold t8
    rw[hr,if_neg (by simp),Int.toNat_natCast]
   have c0:=hC.mem
   have q:=jE c m g n mx mk wd cut s i wr hM hC hlt hn ho
   have z1:=hC.hmk i hlt
   have f1:=hC.fz (2+i)
   have C3:=hC.setMk i (s.bs (5*i)) hlt
   have wk:=C3.hwd i hlt
   have gk:=C3.fz (4+i)
   have wj:=hC.hwd i hlt
   have gj:=hC.fz (4+i)
   have nk:¬ 2+i=4+i:=by omega
   have nj:¬ 4+i=2+i:=by omega
   have H:Hid (_):=And.intro hj (And.intro O (And.intro hM hC))
   obtain⟨a,ha⟩:∃ a,s.bs (5*i)=a:=⟨_,rfl⟩
   obtain⟨x,hx⟩:∃ x,wz s.bs i=x:=⟨_,rfl⟩
   rw[ha]at e2 C3 wk gk
   rw[hx]at q
   have HA:Hid (_):=And.intro (And.intro ha hx) (And.intro hr e2)
   clear O hC C3 ha hx hr e2 hj
   go_wp2_with fail
   refine (ib m g n s _ wr hM).mono ?_
   rintro e w' ⟨rfl,hw⟩
   rw[hw,show (i:Int)*5=((5*i:Nat):Int) by omega,HA.out.2.1,HA.out.2.2]
   clear hw hM
   go_wp2_with (go_at_call 100;refine q.mono ?_;rintro e w' ⟨rfl,hw⟩;rw[hw];clear hw)
   go_region
   go_wp2_with fail
   obtain⟨hj,O,hM,hC⟩:=H.out
   obtain⟨⟨ha,hx⟩,_⟩:=HA.out
   have q1:Off [c] wr ((wr.setCell ⟨c,2+i,none⟩ (.int .u8 (a:Nat))).setCell ⟨c,4+i,none⟩ (.int .u32 (x:Nat))).drew:=((Off.setCell c (2+i) _ _).trans (Off.setCell c (4+i) _ _)).trans (Off.drew _ _)
   refine⟨⟨i+1,upd mk i a,upd wd i x,by omega,by go_num,fun j hjj=>?_,O.trans q1,hM.off q1 (by simp;omega) (by simp;omega),((hC.setMk i a hlt).setWd i x hlt).off (Off.drew [] _) (by simp)⟩,by simp[intOf] <;> omega⟩
   unfold upd
   by_cases e:j=i
   ·rw[if_pos e,if_pos e,e]
    exact⟨ha.symm,hx.symm⟩
   ·rw[if_neg e,if_neg e]
    exact hj j (by omega)
  ·obtain rfl:i=2:=by omega
   have H:Hid (_):=And.intro O (And.intro hM (hC.as (mk':=fun k=>s.bs (5*k)) (wd':=wz s.bs) (hj 0 (by omega)).1 (hj 1 (by omega)).1 (hj 0 (by omega)).2 (hj 1 (by omega)).2))
   clear O hM hC hj
   go_wp2_with fail
   go_ret
   exact⟨rfl,H.out⟩
theorem nS (c m g n mx:Nat) (mk wd:Nat→Nat) (cut:Bool) (s:Ms) (w:World) (hM:MR w m g n s) (hC:CX w c m mx mk wd cut) (ho:s.off=true) :
  Calls prog 58 #[aa c 0] w fun e w'=>e=.returned (.int .i64 70)∧w'=w:=by
 have c0:=hC.mem
 have q:=ib m g n s 0 w hM
 rw[show gr s n 0=70 by unfold gr;rw[ho,if_pos rfl]]at q
 clear hM hC
 generalize t8 s n 0=x at *
 go_enter func58,ntmps58
 go_wp2_with fail
 go_loopw [2,3,4,5,6,7] (fun _ _ _ _ _ ci wr=>∃ i:Nat,i=0∧ci=.int .i64 ((i:Nat):Int)∧wr=w) (fun _ _ _ _ _ ci _=>2 - (intOf ci).toNat)
 case atStart=>exact⟨0,rfl,rfl,rfl⟩
 case round=>
  obtain⟨i,rfl,rfl,rfl⟩:=hrel
  go_wp2_with (go_at_call 99;refine q.mono ?_;rintro e w' ⟨rfl,hw⟩;rw[hw];clear hw)
  go_ret
  exact⟨rfl,rfl⟩
def fw (z:Nat→Nat) (i:Nat):List (Nat × Nat):=
 if i=0 then (if z 0≠0 then (if z 5≠0 then [(0,0),(5,0)] else [(0,0)]) else (if z 5≠0 then [(5,0)] else [])) else if i=1 then (if z 5≠0 then [(5,0)] else []) else []
theorem ub (z:Nat→Nat) (i:Nat) (hi:i<2) (h:z (5*i)≠0):fw z i=(5*i,0) :: fw z (i+1):=by
 have:i=0∨i=1:=by omega
 rcases this with rfl | rfl
 ·have h':z 0≠0:=h
  unfold fw
  simp only[if_true,if_pos h']
  by_cases h5:z 5=0 <;> simp[h5]
 ·have h':z 5≠0:=h
  unfold fw
  simp[h']
theorem ua (z:Nat→Nat) (i:Nat) (hi:i<2) (h:z (5*i)=0):fw z i=fw z (i+1):=by
 have:i=0∨i=1:=by omega
 rcases this with rfl | rfl
 ·have h':z 0=0:=h
  unfold fw
  simp[h']
 ·have h':z 5=0:=h
  unfold fw
  simp[h']
theorem nQ (c m g n mx:Nat) (wd:Nat→Nat) (cut:Bool) (s:Ms) (w:World) (hM:MR w m g n s) (hC:CX w c m mx (fun k=>s.bs (5*k)) wd cut) (hcm:c≠m) (hcg:c≠g) (ht:s.t<9223372036854775000) :
  Calls prog 103 #[aa c 0] w fun e w'=>e=.returned (.int .i64 (bR n (fw s.bs 0) s))∧(Off [m,g,c] w w'∧MR w' m g n (bO n (fw s.bs 0) s) ∧
   (bR n (fw s.bs 0) s=0→CX w' c m mx (fun _=>0) wd cut)):=by
 obtain⟨E,hE⟩:∃ E,bR n (fw s.bs 0) s=E:=⟨_,rfl⟩
 obtain⟨S,hS⟩:∃ S,bO n (fw s.bs 0) s=S:=⟨_,rfl⟩
 rw[hE,hS]
 go_enter func103,ntmps103
 go_wp2_with fail
 go_loopw [2,3,4,5] (fun _ _ _ ci wr=>∃ (i:Nat) (mk:Nat→Nat) (si:Ms),i≤2∧ci=.int .i64 ((i:Nat):Int)∧(∀ j,j<i→mk j=0)∧(∀ j,i≤j→mk j=s.bs (5*j))∧bR n (fw s.bs i) si=E∧bO n (fw s.bs i) si=S∧si.t≤s.t+i∧Off [m,g,c] w wr∧MR wr m g n si∧CX wr c m mx mk wd cut) (fun _ _ _ ci _=>2 - (intOf ci).toNat)
 case atStart=>exact⟨0,_,s,by omega,rfl,fun j hj=>by omega,fun j hj=>rfl,hE,hS,by omega,Off.refl _ _,hM,hC⟩
 case round=>
  clear hM hC hE hS
  obtain⟨i,mk,si,hi,rfl,hj,hj2,hE,hS,t1,O,hM,hC⟩:=hrel
  by_cases hlt:i<2
  ·have c0:=hC.mem
   have z1:=hC.hmk i hlt
   have f1:=hC.fz (2+i)
   obtain⟨a,ha⟩:∃ a,mk i=a:=⟨_,rfl⟩
   have ha2:s.bs (5*i)=a:=(hj2 i (Nat.le_refl _)).symm.trans ha
   rw[ha]at z1
   by_cases hz:a=0
   ·subst hz
    rw[ua _ _ hlt ha2]at hE hS
    have hj':∀ j,j<i+1→mk j=0:=fun j hjj=>by
     by_cases e:j=i
     ·rw[e,ha]
     ·exact hj j (by omega)
    have H:Hid (_):=And.intro hj' (And.intro (And.intro hE hS) (And.intro O (And.intro hM hC)))
    have HJ:Hid (_):=hj2
    clear hj' hj hE hS O hM hC ha ha2 hj2
    go_wp2_with fail
    go_roundw
    case rel=>exact⟨i+1,mk,si,by omega,by go_num,H.out.1,fun j h=>HJ.out j (by omega),H.out.2.1.1,H.out.2.1.2,by omega,H.out.2.2⟩
    case measure=>simp[intOf] <;> omega
   ·have hz':¬ (a:Int)=0:=by omega
    rw[ub _ _ hlt (by omega)]at hE hS
    have HJ:Hid (_):=And.intro hj hj2
    have HC:Hid (_):=hC
    clear hC hj hj2 ha2
    go_wp2_with fail
    refine (eR m g n si _ 0 wr hM (by omega) (by omega)).mono ?_
    rintro e w2 ⟨rfl,o2,m2⟩
    rw[show (i:Int)*5=((5*i:Nat):Int) by omega]at m2 ⊢
    have t2:=nD si n ((5*i:Nat):Int) 0
    have C2:=HC.out.off o2 (by simp;omega)
    have O2:Off [m,g,c] w w2:=O.trans o2.three
    by_cases he:fR si n ((5*i:Nat):Int)=0
    ·obtain⟨hE1,hS1⟩:=lu hE hS he
     rw[he]
     have z2:=C2.hmk i hlt
     have f2:=C2.fz (2+i)
     have H:Hid (_):=And.intro (And.intro hE1 hS1) (And.intro O2 (And.intro m2 C2))
     clear hE hS he o2 HC c0 O hM m2 C2 O2 hE1 hS1 z1 f1 ha
     generalize gh si n ((5*i:Nat):Int) 0=s2 at *
     go_wp2_with fail
     obtain⟨⟨hE1,hS1⟩,O2,m2,C2⟩:=H.out
     have q1:Off [c] w2 (w2.setCell ⟨c,2+i,none⟩ (.int .u8 0)):=Off.setCell c (2+i) _ _
     go_roundw
     case rel=>
      refine⟨i+1,upd mk i 0,s2,by omega,by go_num,fun j h=>?_,fun j h=>?_,hE1,hS1,by omega,O2.trans q1.three',m2.off q1 (by simp;omega) (by simp;omega),C2.setMk i 0 hlt⟩
      ·unfold upd
       by_cases e:j=i
       ·rw[if_pos e]
       ·rw[if_neg e];exact HJ.out.1 j (by omega)
      ·unfold upd
       rw[if_neg (by omega)]
       exact HJ.out.2 j (by omega)
     case measure=>simp[intOf] <;> omega
    ·obtain⟨hE1,hS1⟩:=fB hE hS he
     rw[hS1]at m2
     rw[hE1]at he ⊢
     have H:Hid (_):=And.intro O2 m2
     clear hE hS o2 HC c0 O hM m2 C2 O2 hE1 hS1 t1 t2 ha z1
     go_wp2_with fail
     go_ret
     exact⟨rfl,H.out.1,H.out.2,fun h=>absurd h he⟩
  ·obtain rfl:i=2:=by omega
   have e0:fw s.bs 2=[]:=rfl
   rw[e0]at hE hS
   have hE':(0:Int)=E:=hE
   have hS':si=S:=hS
   subst hE' hS'
   have H:Hid (_):=And.intro O (And.intro hM (hC.as (mk':=fun _=>0) (wd':=wd) (hj 0 (by omega)) (hj 1 (by omega)) rfl rfl))
   clear O hM hC hj hj2 hE hS
   go_wp2_with fail
   go_ret
   exact⟨rfl,H.out⟩
theorem CX.sync {w:World} {c m mx k v:Nat} {z:Nat→Nat} {cut:Bool} (h:CX w c m mx (upd (fun k=>z (5*k)) k 165) (upd (wz z) k v) cut) (hv:v<4294967296) :
  CX w c m mx (fun j=>aY (bp k v) z (5*j)) (wz (aY (bp k v) z)) cut:=by
 have hm:∀ j,upd (fun k=>z (5*k)) k 165 j=aY (bp k v) z (5*j):=fun j=>by
  unfold upd
  by_cases e:j=k
  ·rw[if_pos e,e,lk]
  ·rw[if_neg e]
   exact (cX z k v 6 (5*j) (by omega)).symm
 have hw:∀ j,upd (wz z) k v j=wz (aY (bp k v) z) j:=fun j=>by
  unfold upd
  by_cases e:j=k
  ·rw[if_pos e,e,ri z k v hv]
  ·rw[if_neg e]
   have q:=fun i (h:i<5*k∨5*k+4<i)=>(cX z k v 6 i h).symm
   rw[rh]at q
   unfold wz
   rw[q (5*j+1) (by omega),q (5*j+2) (by omega),q (5*j+3) (by omega),q (5*j+4) (by omega)]
 exact h.as (hm 0) (hm 1) (hw 0) (hw 1)
theorem CX.swept {w:World} {c m mx:Nat} {z:Nat→Nat} {cut:Bool} (h:CX w c m mx (fun _=>0) (wz z) cut) :
  CX w c m mx (fun j=>aY (fw z 0) z (5*j)) (wz (aY (fw z 0) z)) cut:=by
 have hl:∀ i,i≠0→i≠5→aY (fw z 0) z i=z i:=fun i h0 h5=>by
  unfold fw
  rw[if_pos rfl]
  split <;> split <;> simp[aY,gU,h0,h5]
 have h0:aY (fw z 0) z 0=0:=by
  unfold fw
  rw[if_pos rfl]
  split <;> split <;> simp[aY,gU] <;> omega
 have h5:aY (fw z 0) z 5=0:=by
  unfold fw
  rw[if_pos rfl]
  split <;> split <;> simp[aY,gU] <;> omega
 have hw:∀ j,j<2→wz z j=wz (aY (fw z 0) z) j:=fun j hj=>by
  unfold wz
  rw[hl (5*j+1) (by omega) (by omega),hl (5*j+2) (by omega) (by omega),hl (5*j+3) (by omega) (by omega),hl (5*j+4) (by omega) (by omega)]
 exact h.as h0.symm h5.symm (hw 0 (by omega)) (hw 1 (by omega))
theorem ja {n:Nat} {l:List (Nat × Nat)} {s:Ms} (hin:∀ x,x ∈ l→x.1<n∧x.2<256) (ho:s.off=false) (hl:0≤s.l) (h:bR n l s=0):(bO n l s).bs=aY l s.bs:=by
 rcases dN n l s (fun x hx=>(hin x hx).1) ho hl with ⟨_,h2,_⟩ | ⟨h1,_⟩
 ·rw[h2]
 ·omega
theorem cM (c m mx:Nat) (mk wd:Nat→Nat) (cut b:Bool) (w:World) (h:CX w c m mx mk wd cut) (hb:decide (mk 0=165)=b) :
  Calls prog 101 #[aa c 0,.int .i64 0] w fun e w'=>e=.returned (.bool b)∧w'=w:=by
 refine (iQ c m mx mk wd cut 0 w h (by omega)).mono ?_
 rintro e w' ⟨rfl,rfl⟩
 refine⟨?_,rfl⟩
 rw[← hb]
 congr 2
 by_cases h:mk 0=165
 ·simp[h]
 ·have:¬ ((mk 0:Nat):Int)=165:=by omega
  simp[h,this]
theorem cy (c m mx:Nat) (mk wd:Nat→Nat) (cut b:Bool) (w:World) (h:CX w c m mx mk wd cut) (hb:decide (mk 1=165)=b) :
  Calls prog 101 #[aa c 0,.int .i64 1] w fun e w'=>e=.returned (.bool b)∧w'=w:=by
 refine (iQ c m mx mk wd cut 1 w h (by omega)).mono ?_
 rintro e w' ⟨rfl,rfl⟩
 refine⟨?_,rfl⟩
 rw[← hb]
 congr 2
 by_cases h:mk 1=165
 ·simp[h]
 ·have:¬ ((mk 1:Nat):Int)=165:=by omega
  simp[h,this]
theorem ql (c m g n mx:Nat) (cut:Bool) (s:Ms) (w:World) (hM:MR w m g n s) (hC:CX w c m mx (fun k=>s.bs (5*k)) (wz s.bs) cut) (hcm:c≠m) (hcg:c≠g) (hn:10≤n) (ho:s.off=false) (ht:s.t<9223372036854775000) :
  Calls prog 59 #[aa c 0] w fun e w'=>e=.returned (.int .i64 (bR n (be s.bs) s))∧(Off [m,g,c] w w'∧MR w' m g n (bO n (be s.bs) s) ∧
   (bR n (be s.bs) s=0→CX w' c m mx (fun k=>(bO n (be s.bs) s).bs (5*k)) (wz (bO n (be s.bs) s).bs) cut)):=by
 have hz:Bz s.bs:=fun i hi=>hM.byte i (by omega)
 have l0:=hM.l0
 have c4:=hC.hwd 0 (by omega)
 have c5:=hC.hwd 1 (by omega)
 have v0:=jk hz 0 (by omega)
 have v1:=jk hz 1 (by omega)
 by_cases h0:s.bs 0=165
 ·have q0:=cM c m mx _ _ cut true w hC (by simp[h0])
  by_cases h1:s.bs 5=165
  ·have q1:=cy c m mx _ _ cut true w hC (by simp[h1])
   rw[show be s.bs=[] by unfold be;rw[if_pos h0,if_pos h1]]
   have H:Hid (_):=And.intro (Off.refl [m,g,c] w) (And.intro hM hC)
   clear hM hC hz l0 c4 c5 v0 v1 h0 h1
   go_enter func59,ntmps59
   go_wp2_with fail
   refine q0.mono ?_
   rintro e w' ⟨rfl,hw⟩
   rw[hw]
   clear hw
   go_wp2_with fail
   refine q1.mono ?_
   rintro e w' ⟨rfl,hw⟩
   rw[hw]
   clear hw
   go_wp2_with fail
   go_ret
   exact⟨rfl,H.out.1,H.out.2.1,fun _=>H.out.2.2⟩
  ·have q1:=cy c m mx _ _ cut false w hC (by simp[h1])
   rw[show be s.bs=bp 1 (wz s.bs 0) by unfold be;rw[if_pos h0,if_neg h1]]
   have hcw:=eU c m g n mx _ _ cut s 1 (wz s.bs 0) w hM hC hcm hcg (by omega) v0 ht
   have hb:=fun h=>ja (dw 1 (wz s.bs 0) n (by omega) hn) ho l0 h
   have HB:Hid (_):=And.intro hb v0
   clear hM hC hz l0 c5 v1 h0 h1 hb
   go_enter func59,ntmps59
   go_wp2_with fail
   refine q0.mono ?_
   rintro e w' ⟨rfl,hw⟩
   rw[hw]
   clear hw
   go_wp2_with fail
   refine q1.mono ?_
   rintro e w' ⟨rfl,hw⟩
   rw[hw]
   clear hw
   go_wp2_with fail
   refine hcw.mono ?_
   rintro e w2 ⟨rfl,H2⟩
   have H:Hid (_):=H2
   clear H2 hcw c4 q0 q1
   go_wp2_with fail
   go_ret
   refine⟨rfl,H.out.1,H.out.2.1,fun he=>?_⟩
   have C:=H.out.2.2
   rw[if_pos he,if_pos he]at C
   rw[HB.out.1 he]
   exact C.sync HB.out.2
 ·have q0:=cM c m mx _ _ cut false w hC (by simp[h0])
  by_cases h1:s.bs 5=165
  ·have q1:=cy c m mx _ _ cut true w hC (by simp[h1])
   rw[show be s.bs=bp 0 (wz s.bs 1) by unfold be;rw[if_neg h0,if_pos h1]]
   have hcw:=eU c m g n mx _ _ cut s 0 (wz s.bs 1) w hM hC hcm hcg (by omega) v1 ht
   have hb:=fun h=>ja (dw 0 (wz s.bs 1) n (by omega) hn) ho l0 h
   have HB:Hid (_):=And.intro hb v1
   clear hM hC hz l0 c4 v0 h0 h1 hb
   go_enter func59,ntmps59
   go_wp2_with fail
   refine q0.mono ?_
   rintro e w' ⟨rfl,hw⟩
   rw[hw]
   clear hw
   go_wp2_with fail
   refine q1.mono ?_
   rintro e w' ⟨rfl,hw⟩
   rw[hw]
   clear hw
   go_wp2_with fail
   refine hcw.mono ?_
   rintro e w2 ⟨rfl,H2⟩
   have H:Hid (_):=H2
   clear H2 hcw c5 q0 q1
   go_wp2_with fail
   go_ret
   refine⟨rfl,H.out.1,H.out.2.1,fun he=>?_⟩
   have C:=H.out.2.2
   rw[if_pos he,if_pos he]at C
   rw[HB.out.1 he]
   exact C.sync HB.out.2
  ·have q1:=cy c m mx _ _ cut false w hC (by simp[h1])
   rw[show be s.bs=fw s.bs 0 by unfold be fw;rw[if_neg h0,if_neg h1,if_pos rfl]]
   have hcw:=nQ c m g n mx _ cut s w hM hC hcm hcg ht
   have hin:∀ x,x ∈ fw s.bs 0→x.1<n∧x.2<256:=fun x hx=>gn s.bs n hn x (by unfold be;rw[if_neg h0,if_neg h1];unfold fw at hx;rwa [if_pos rfl]at hx)
   have hb:=fun h=>ja hin ho l0 h
   have HB:Hid (_):=hb
   clear hM hC hz l0 c4 c5 v0 v1 h0 h1 hb hin
   go_enter func59,ntmps59
   go_wp2_with fail
   refine q0.mono ?_
   rintro e w' ⟨rfl,hw⟩
   rw[hw]
   clear hw
   go_wp2_with fail
   refine q1.mono ?_
   rintro e w' ⟨rfl,hw⟩
   rw[hw]
   clear hw
   go_wp2_with fail
   refine hcw.mono ?_
   rintro e w2 ⟨rfl,H2⟩
   have H:Hid (_):=H2
   clear H2 hcw q0 q1
   go_wp2_with fail
   go_ret
   refine⟨rfl,H.out.1,H.out.2.1,fun he=>?_⟩
   have C:=H.out.2.2 he
   rw[HB.out he]
   exact C.swept
def vp (mk wd:Nat→Nat):Nat→Nat
 | 0=>0
 | i+1=>if mk i=165 then (if vp mk wd i<wd i then wd i else vp mk wd i) else vp mk wd i
theorem uy (a b:Nat) (w:World):(Instr.index 158 (.agg #[.int .u32 (a:Nat),.int .u32 (b:Nat)]) (.int .i64 0)).run prog w=.ok (.int .u32 (a:Nat)) w:=by kernel_rfl
theorem uz (a b:Nat) (w:World):(Instr.index 158 (.agg #[.int .u32 (a:Nat),.int .u32 (b:Nat)]) (.int .i64 1)).run prog w=.ok (.int .u32 (b:Nat)) w:=by kernel_rfl
theorem jf (c m mx:Nat) (mk wd:Nat→Nat) (cut:Bool) (w:World) (hC:CX w c m mx mk wd cut) (hw:∀ j,j<2→wd j<4294967296) :
  Calls prog 218 #[aa c 0] w fun e w'=>e=.returned (.int .u32 (vp mk wd 2:Nat))∧w'=w:=by
 have c4:w.cell? ⟨c,4,none⟩=some (.int .u32 (wd 0:Nat)):=hC.hwd 0 (by omega)
 have c5:w.cell? ⟨c,5,none⟩=some (.int .u32 (wd 1:Nat)):=hC.hwd 1 (by omega)
 go_enter func218,ntmps218
 go_wp2_with fail
 go_loopw [3,4,5,12] (fun x _ _ ci wr=>∃ i:Nat,i≤2∧ci=.int .i64 ((i:Nat):Int)∧x=.int .u32 (vp mk wd i:Nat)∧wr=w) (fun _ _ _ ci _=>2 - (intOf ci).toNat)
 case atStart=>exact⟨0,by omega,rfl,rfl,rfl⟩
 case round=>
  obtain⟨i,hi,rfl,rfl,rfl⟩:=hrel
  by_cases hlt:i<2
  ·have hi2:i=0∨i=1:=by omega
   have h0:=hw 0 (by omega)
   have h1:=hw 1 (by omega)
   clear hw
   rcases hi2 with rfl | rfl
   ·by_cases hm:mk 0=165
    ·have q:=cM c m mx mk wd cut true wr hC (by simp[hm])
     have x0:=uy (wd 0) (wd 1) wr
     have e:vp mk wd 1=(if vp mk wd 0<wd 0 then wd 0 else vp mk wd 0):=if_pos hm
     have HE:Hid (_):=e
     clear hC e hm
     generalize vp mk wd 0=y at *
     go_wp2_with (go_at_call 101;refine q.mono ?_;rintro e w' ⟨rfl,hw⟩;rw[hw];clear hw)
     exact⟨⟨1,by omega,rfl,by rw[HE.out];split <;> rfl,trivial⟩,by decide⟩
    ·have q:=cM c m mx mk wd cut false wr hC (by simp[hm])
     have x0:=uy (wd 0) (wd 1) wr
     have e:vp mk wd 1=vp mk wd 0:=if_neg hm
     have HE:Hid (_):=e
     clear hC e hm
     generalize vp mk wd 0=y at *
     go_wp2_with (go_at_call 101;refine q.mono ?_;rintro e w' ⟨rfl,hw⟩;rw[hw];clear hw)
     exact⟨⟨1,by omega,rfl,by rw[HE.out],trivial⟩,by decide⟩
   ·by_cases hm:mk 1=165
    ·have q:=cy c m mx mk wd cut true wr hC (by simp[hm])
     have x0:=uz (wd 0) (wd 1) wr
     have e:vp mk wd 2=(if vp mk wd 1<wd 1 then wd 1 else vp mk wd 1):=if_pos hm
     have HE:Hid (_):=e
     clear hC e hm
     generalize vp mk wd 1=y at *
     go_wp2_with (go_at_call 101;refine q.mono ?_;rintro e w' ⟨rfl,hw⟩;rw[hw];clear hw)
     exact⟨⟨2,by omega,rfl,by rw[HE.out];split <;> rfl,trivial⟩,by decide⟩
    ·have q:=cy c m mx mk wd cut false wr hC (by simp[hm])
     have x0:=uz (wd 0) (wd 1) wr
     have e:vp mk wd 2=vp mk wd 1:=if_neg hm
     have HE:Hid (_):=e
     clear hC e hm
     generalize vp mk wd 1=y at *
     go_wp2_with (go_at_call 101;refine q.mono ?_;rintro e w' ⟨rfl,hw⟩;rw[hw];clear hw)
     exact⟨⟨2,by omega,rfl,by rw[HE.out],trivial⟩,by decide⟩
  ·obtain rfl:i=2:=by omega
   go_wp2_with fail
   go_ret
   exact⟨rfl,rfl⟩
theorem rz (z:Nat→Nat):vp (fun k=>z (5*k)) (wz z) 2=vz z:=by
 have e:∀ i,vp (fun k=>z (5*k)) (wz z) (i+1)=max (vp (fun k=>z (5*k)) (wz z) i) (hw z i):=fun i=>by
  unfold hw
  rw[vp]
  by_cases h:z (5*i)=165
  ·rw[if_pos h,if_pos h]
   split <;> omega
  ·rw[if_neg h,if_neg h]
   omega
 rw[e 1,e 0,show vp (fun k=>z (5*k)) (wz z) 0=0 from rfl]
 unfold vz
 omega
theorem mD (c m mx:Nat) (z:Nat→Nat) (cut:Bool) (w:World) (hC:CX w c m mx (fun k=>z (5*k)) (wz z) cut) :
  Calls prog 219 #[aa c 0] w fun e w'=>e=.returned (.int .i64 (tg z:Nat))∧∃ j,w'=w.drewN j:=by
 have c4:w.cell? ⟨c,4,none⟩=some (.int .u32 (wz z 0:Nat)):=hC.hwd 0 (by omega)
 have c5:w.cell? ⟨c,5,none⟩=some (.int .u32 (wz z 1:Nat)):=hC.hwd 1 (by omega)
 by_cases h0:z 0=165
 ·have q0:=cM c m mx _ _ cut true w hC (by simp[h0])
  by_cases h1:z 5=165
  ·have q1:=fun j=>cy c m mx _ _ cut true (w.drewN j) (hC.drewN j) (by simp[h1])
   have et:tg z=if wz z 1<wz z 0 then 1 else 0:=by
    unfold tg
    by_cases h:wz z 1<wz z 0
    ·rw[if_pos ⟨h0,.inr h⟩,if_pos h]
    ·rw[if_neg (by omega),if_neg h]
   rw[et]
   clear hC et h0 h1
   generalize wz z 0=x at *
   generalize wz z 1=y at *
   by_cases hxy:y<x
   ·rw[if_pos hxy]
    go_enter func219,ntmps219
    go_wp2_with fail
    refine q0.mono ?_
    rintro e w' ⟨rfl,hw⟩
    rw[hw]
    clear hw
    go_wp2_with fail
    go_quiet ((go_at_call 101;exact Calls.quiet_of_same (q1 _)))
    go_wp2_with fail
    go_ret
    exact⟨rfl,_,rfl⟩
   ·rw[if_neg hxy]
    go_enter func219,ntmps219
    go_wp2_with fail
    refine q0.mono ?_
    rintro e w' ⟨rfl,hw⟩
    rw[hw]
    clear hw
    go_wp2_with fail
    go_quiet ((go_at_call 101;exact Calls.quiet_of_same (q1 _)))
    go_wp2_with fail
    go_ret
    exact⟨rfl,_,rfl⟩
  ·have q1:=fun j=>cy c m mx _ _ cut false (w.drewN j) (hC.drewN j) (by simp[h1])
   rw[show tg z=1 from if_pos ⟨h0,.inl h1⟩]
   clear hC h0 h1 c4 c5
   go_enter func219,ntmps219
   go_wp2_with fail
   refine q0.mono ?_
   rintro e w' ⟨rfl,hw⟩
   rw[hw]
   clear hw
   go_wp2_with fail
   go_quiet ((go_at_call 101;exact Calls.quiet_of_same (q1 _)))
   go_wp2_with fail
   go_ret
   exact⟨rfl,_,rfl⟩
 ·have q0:=cM c m mx _ _ cut false w hC (by simp[h0])
  rw[show tg z=0 from if_neg (fun h=>h0 h.1)]
  clear hC h0 c4 c5
  go_enter func219,ntmps219
  go_wp2_with fail
  refine q0.mono ?_
  rintro e w' ⟨rfl,hw⟩
  rw[hw]
  clear hw
  go_wp2_with fail
  go_ret
  exact⟨rfl,0,(World.drewN_zero _).symm⟩
abbrev CS (w:World) (c m mx:Nat) (z:Nat→Nat) (cut:Bool):Prop:=CX w c m mx (fun k=>z (5*k)) (wz z) cut
theorem qD (c m g n mx:Nat) (z:Nat→Nat) (cut:Bool) (s:Ms) (w:World) (hM:MR w m g n s) (hC:CS w c m mx z cut) (h:cut=true∨s.off=true) :
  Calls prog 207 #[aa c 0] w fun e w'=>e=.returned (.tuple #[.int .u32 0,.int .i64 70])∧w'=w:=by
 have c0:=hC.mem
 have c6:=hC.hcut
 have q:=jz m g n s w hM
 clear hM hC
 cases cut
 ·rw[h.resolve_left (by simp)]at q
  clear h
  go_enter func207,ntmps207
  go_wp2_with (go_at_call 217;refine q.mono ?_;rintro e w' ⟨rfl,hw⟩;rw[hw];clear hw)
  go_ret2
  exact⟨rfl,rfl⟩
 ·clear h q
  go_enter func207,ntmps207
  go_wp2_with fail
  go_ret2
  exact⟨rfl,rfl⟩
theorem oH (c m g n mx:Nat) (z:Nat→Nat) (s:Ms) (w:World) (hM:MR w m g n s) (hC:CS w c m mx z false) (hz:Bz z) (ho:s.off=false) (h:mx≤vz z) :
  Calls prog 207 #[aa c 0] w fun e w'=>e=.returned (.tuple #[.int .u32 0,.int .i64 80])∧w'=w:=by
 have c0:=hC.mem
 have c1:=hC.max
 have c6:=hC.hcut
 have q:=jz m g n s w hM
 have q2:=jf c m mx _ _ false w hC (fun j hj=>jk hz j hj)
 rw[rz]at q2
 rw[ho]at q
 clear hM hC hz
 generalize vz z=v at *
 go_enter func207,ntmps207
 go_wp2_with (first | (go_at_call 217;refine q.mono ?_;rintro e w' ⟨rfl,hw⟩;rw[hw];clear hw) | (go_at_call 218;refine q2.mono ?_;rintro e w' ⟨rfl,hw⟩;rw[hw];clear hw))
 go_ret2
 exact⟨rfl,rfl⟩
theorem sG (c m g n mx:Nat) (s:Ms) (w:World) (hM:MR w m g n s) (hC:CS w c m mx s.bs false) (hcm:c≠m) (hcg:c≠g) (hn:10≤n) (hx:mx<4294967296) (ho:s.off=false) (h:vz s.bs<mx) (ht:s.t<9223372036854775000) :
  Calls prog 207 #[aa c 0] w fun e w'=>e=.returned (.tuple #[.int .u32 ((if bR n (bp (tg s.bs) (vz s.bs+1)) s=0 then vz s.bs+1 else 0:Nat):Int),.int .i64 (bR n (bp (tg s.bs) (vz s.bs+1)) s)]) ∧
   (Off [m,g,c] w w'∧MR w' m g n (bO n (bp (tg s.bs) (vz s.bs+1)) s)∧(bR n (bp (tg s.bs) (vz s.bs+1)) s=0→CS w' c m mx (bO n (bp (tg s.bs) (vz s.bs+1)) s).bs false)∧(¬ bR n (bp (tg s.bs) (vz s.bs+1)) s=0→CS w' c m mx s.bs true)):=by
 have hz:Bz s.bs:=fun i hi=>hM.byte i (by omega)
 have c0:=hC.mem
 have c1:=hC.max
 have c6:=hC.hcut
 have q:=jz m g n s w hM
 have q2:=jf c m mx _ _ false w hC (fun j hj=>jk hz j hj)
 rw[rz]at q2
 rw[ho]at q
 have q3:=mD c m mx s.bs false w hC
 have hk:=io s.bs
 obtain⟨v,hv⟩:∃ v,vz s.bs+1=v:=⟨_,rfl⟩
 have q4:=fun j=>eU c m g n mx _ _ false s (tg s.bs) (vz s.bs+1) (w.drewN j) (hM.drewN j) (hC.drewN j) hcm hcg hk (by omega) ht
 have hb:=fun h=>ja (dw (tg s.bs) (vz s.bs+1) n hk hn) ho hM.l0 h
 obtain⟨E,hE⟩:∃ E,bR n (bp (tg s.bs) (vz s.bs+1)) s=E:=⟨_,rfl⟩
 obtain⟨S,hS⟩:∃ S,bO n (bp (tg s.bs) (vz s.bs+1)) s=S:=⟨_,rfl⟩
 rw[hE,hS]
 rw[hE,hS]at hb
 simp only[hE,hS]at q4
 have HB:Hid (_):=And.intro hb (show vz s.bs+1<4294967296 by omega)
 clear hM hC hz hb hE hS hk hv v
 obtain⟨V,hV⟩:∃ V,vz s.bs=V:=⟨_,rfl⟩
 obtain⟨k,hk⟩:∃ k,tg s.bs=k:=⟨_,rfl⟩
 rw[hV]at HB h q2 q4 ⊢
 rw[hk]at HB q3 q4
 by_cases he:E=0
 ·subst he
  rw[if_pos rfl]
  simp only[if_pos]at q4
  clear hV hk
  go_enter func207,ntmps207
  go_wp2_with (first | (go_at_call 217;refine q.mono ?_;rintro e w' ⟨rfl,hw⟩;rw[hw];clear hw) | (go_at_call 218;refine q2.mono ?_;rintro e w' ⟨rfl,hw⟩;rw[hw];clear hw))
  refine q3.mono ?_
  rintro e w1 ⟨rfl,j,rfl⟩
  go_wp2_with fail
  refine (q4 j).mono ?_
  rintro e w2 ⟨rfl,H2⟩
  have H:Hid (_):=H2
  clear H2 q4 q3 q2 q c0 c1 c6
  go_wp2_with fail
  go_ret2
  obtain⟨O,M,C⟩:=H.out
  have C':=C.sync HB.out.2
  rw[← HB.out.1 trivial]at C'
  exact⟨rfl,(Off.drewN _ _ _).trans O,M,fun _=>C',fun h=>absurd trivial h⟩
 ·rw[if_neg he]
  simp only[if_neg he]at q4
  clear hV hk
  go_enter func207,ntmps207
  go_wp2_with (first | (go_at_call 217;refine q.mono ?_;rintro e w' ⟨rfl,hw⟩;rw[hw];clear hw) | (go_at_call 218;refine q2.mono ?_;rintro e w' ⟨rfl,hw⟩;rw[hw];clear hw))
  refine q3.mono ?_
  rintro e w1 ⟨rfl,j,rfl⟩
  go_wp2_with fail
  refine (q4 j).mono ?_
  rintro e w2 ⟨rfl,H2⟩
  have d6:=H2.2.2.hcut
  have f6:=H2.2.2.fz 6
  have H:Hid (_):=H2
  clear H2 q4 q3 q2 q c0 c1 c6
  go_wp2_with fail
  go_ret2
  obtain⟨O,M,C⟩:=H.out
  have q1:Off [c] w2 (w2.setCell ⟨c,6,none⟩ (.bool true)):=Off.setCell c 6 _ _
  exact⟨rfl,((Off.drewN _ _ _).trans O).trans q1.three',M.off q1 (by simp;omega) (by simp;omega),fun h=>absurd h he,fun _=>C.setCut true⟩
theorem sJ (m g n mx:Nat) (s:Ms) (w:World) (hM:MR w m g n s) (h:mx=0∨n<10) :
  Calls prog 26 #[aa m 0,.int .u32 (mx:Nat)] w fun e w'=>e=.returned (.tuple #[.pointer none,.int .i64 2])∧w'=w:=by
 have q:=ik m g n s w hM
 clear hM
 by_cases h0:mx=0
 ·subst h0
  clear h q
  go_enter func26,ntmps26
  go_wp2_with fail
  go_ret2
  exact⟨rfl,rfl⟩
 ·have h1:n<10:=by omega
  have h2:¬ (mx:Int)=0:=by omega
  clear h h0
  go_enter func26,ntmps26
  go_wp2_with (go_at_call 57;refine q.mono ?_;rintro e w' ⟨rfl,hw⟩;rw[hw];clear hw)
  go_ret2
  exact⟨rfl,rfl⟩
theorem qH (m g n mx:Nat) (s:Ms) (w:World) (hM:MR w m g n s) (hn:10≤n) (h0:mx≠0) (ho:s.off=true) :
  Calls prog 26 #[aa m 0,.int .u32 (mx:Nat)] w fun e w'=>e=.returned (.tuple #[.pointer none,.int .i64 70])∧(Off [m,g] w w'∧MR w' m g n s):=by
 have q:=ik m g n s w hM
 have h2:((mx:Int) == 0)=false:=by simpa using h0
 have h3:decide ((n:Int)<10)=false:=by simp;omega
 have hA:Off [m,g] w (w.alloc (.cells (CV m mx (fun _=>0) (fun _=>0) false) 160)):=Off.alloc _ _ _
 have M1:=hM.off (Off.alloc [] w (.cells (CV m mx (fun _=>0) (fun _=>0) false) 160)) (by simp) (by simp)
 have C1:CX (w.alloc (.cells (CV m mx (fun _=>0) (fun _=>0) false) 160)) w.heap.size m mx (fun _=>0) (fun _=>0) false:=⟨aB w _⟩
 have q2:=nS _ m g n mx _ _ false s _ M1 C1 ho
 have H:Hid (_):=And.intro hA M1
 clear hM hA M1 C1 h0
 go_enter func26,ntmps26
 go_wp2_with (go_at_call 57;refine q.mono ?_;rintro e w' ⟨rfl,hw⟩;rw[hw];clear hw)
 refine q2.mono ?_
 rintro e w' ⟨rfl,hw⟩
 rw[hw]
 clear hw
 go_wp2_with fail
 go_ret2
 exact⟨rfl,H.out⟩
theorem sI (m g n mx:Nat) (s:Ms) (w:World) (hM:MR w m g n s) (hn:10≤n) (h0:mx≠0) (ho:s.off=false) (ht:s.t<9223372036854775000) :
  Calls prog 26 #[aa m 0,.int .u32 (mx:Nat)] w fun e w'=>
   ∃ p,e=.returned (.tuple #[.pointer p,.int .i64 (bR n (be s.bs) s)])∧Hid (Off [m,g] w w'∧MR w' m g n (bO n (be s.bs) s)∧(bR n (be s.bs) s=0→p=ac w.heap.size 0∧CS w' w.heap.size m mx (bO n (be s.bs) s).bs false)∧(¬ bR n (be s.bs) s=0→p=none)):=by
 have q:=ik m g n s w hM
 have h2:((mx:Int) == 0)=false:=by simpa using h0
 have h3:decide ((n:Int)<10)=false:=by simp;omega
 have lm:=hM.lt
 have lg:=hM.lg
 have M1:=hM.off (Off.alloc [] w (.cells (CV m mx (fun _=>0) (fun _=>0) false) 160)) (by simp) (by simp)
 have C1:CX (w.alloc (.cells (CV m mx (fun _=>0) (fun _=>0) false) 160)) w.heap.size m mx (fun _=>0) (fun _=>0) false:=⟨aB w _⟩
 have q2:=nR _ m g n mx _ _ false s _ M1 C1 (by omega) (by omega) hn ho
 have hA:Off [m,g,w.heap.size] w (w.alloc (.cells (CV m mx (fun _=>0) (fun _=>0) false) 160)):=Off.alloc _ _ _
 have HA:Hid (_):=hA
 have q3:=fun w2 M2 C2=>ql w.heap.size m g n mx false s w2 M2 C2 (by omega) (by omega) hn ho ht
 obtain⟨E,hE⟩:∃ E,bR n (be s.bs) s=E:=⟨_,rfl⟩
 obtain⟨S,hS⟩:∃ S,bO n (be s.bs) s=S:=⟨_,rfl⟩
 rw[hE,hS]
 simp only[hE,hS]at q3
 clear hM M1 C1 h0 hE hS hA
 go_enter func26,ntmps26
 go_wp2_with (go_at_call 57;refine q.mono ?_;rintro e w' ⟨rfl,hw⟩;rw[hw];clear hw)
 refine q2.mono ?_
 rintro e w2 ⟨rfl,o2,m2,c2⟩
 have O2:=HA.out.trans o2.three'
 have q4:=q3 w2 m2 c2
 have H2:Hid (_):=O2
 clear O2 o2 q3 HA m2 c2 q2
 go_wp2_with fail
 refine q4.mono ?_
 rintro e w3 ⟨rfl,H3⟩
 obtain⟨o3,m3,c3⟩:=H3
 have o4:Off [m,g] w w3:=(H2.out.trans o3).only (fun k hk hl=>by simp only[List.mem_cons,List.not_mem_nil,or_false]at hk ⊢;omega)
 have H:Hid (_):=And.intro o4 (And.intro m3 c3)
 clear o3 o4 m3 c3 H2 q4 q
 by_cases he:E=0
 ·subst he
  go_wp2_with fail
  go_ret2
  obtain⟨O,M,C⟩:=H.out
  first | exact⟨_,rfl,O,M,rfl,C trivial⟩ | exact⟨_,rfl,O,M,rfl,C rfl⟩ | exact⟨_,rfl,O,M,rfl,C⟩ | exact⟨_,rfl,⟨O,M,rfl,C⟩⟩ | exact⟨_,rfl,⟨O,M,rfl,C rfl⟩⟩
 ·go_wp2_with fail
  go_ret2
  obtain⟨O,M,C⟩:=H.out
  exact⟨_,rfl,O,M,fun h=>absurd h he,fun _=>rfl⟩
def S0 (bs:Nat→Nat):Ms:=⟨bs,false,false,0,0⟩
theorem qC (n:Nat) (w:World) (hn:n≤4096) :
  Calls prog 7 #[.int .i64 (n:Nat)] w fun e w'=>∃ b g,e=.returned (.tuple #[aa b 0,.int .i64 0])∧Hid (w.heap.size≤b∧w.heap.size≤g∧Off [] w w'∧MR w' b g n (S0 fun _=>0)):=by
 obtain⟨i0,hi,hz0,hz1,hz2⟩:=info_parts aS
 go_enter func7,ntmps7
 go_wp2_with (at_make;refine aH _ rfl (.tmp 10) (.tmp 10) 43 rfl w.heap.size 5 i0 underlying43 hi hz0 hz1 hz2 _ _ _ _ n n rfl rfl rfl rfl (Nat.le_refl _) (by omega) (Nat.le_refl _) ?_)
 intro w1 hown1 hbel1
 have H:Hid (_):=And.intro hown1 hbel1
 clear hown1 hbel1
 go_wp2_with fail
 go_ret2
 obtain⟨hown1,hbel1⟩:=H.out
 have hlt:w.heap.size<w1.heap.size:=(hown1.lt _ rfl).2
 refine⟨_,w.heap.size,rfl,hbel1.size,Nat.le_refl _,(Off.of_below hbel1).trans (Off.alloc _ _ _),⟨⟨_,aB w1 _,?_⟩,by intro i _;show 0<256;omega,Int.le_refl _,by show (0:Int)≤_;omega,Int.le_refl _,hn⟩⟩
 refine⟨bN (ak hown1 (Nat.zero_le _)) ((Below.refl _ _).alloc (Nat.le_refl _) _),.inr ⟨Nat.ne_of_lt hlt,_,rfl⟩⟩
theorem nO (a b:ByteArray):decide (a=b)=(a.toList == b.toList):=by
 rw[Bool.eq_iff_iff]
 simp only[decide_eq_true_eq,beq_iff_eq,ByteArray.toList_eq]
 constructor
 ·intro h;rw[h]
 ·intro h
  cases a;cases b
  simp at h
  rw[h]
def BA (bs:Nat→Nat) (n:Nat):ByteArray:=((List.range n).map fun i=>(bs i:Int)).foldl (fun r m=>r.push (UInt8.ofNat m.toNat)) ByteArray.empty
theorem pK (b off n cap:Nat) (bs:Nat→Nat) (w:World) (hr:Row8 w (ac b off) n cap bs) :
  (convert 43 9 (.slice (ac b off) n cap)).run prog w=.ok (.string (BA bs n)) w:=by
 rw[run_convert_bytes_string w 43 9 5 _ n cap underlying43 underlying5 underlying9]
 refine run_bytesToString w ⟨b,off,none⟩ n cap ((List.range n).map fun i=>(bs i:Int)) ?_
 have h:=run_loadCells_list (P:=prog) w ⟨b,off,none⟩ (((List.range n).map fun i=>(bs i:Int)).map (Value.int .u8)) (fun j v hv=>by
  simp only[List.getElem?_map]at hv
  by_cases hj:j<n
  ·rw[List.getElem?_range hj]at hv
   simp at hv
   rw[← hv]
   exact hr.src _ rfl j hj
  ·rw[List.getElem?_eq_none (by simp;omega)]at hv
   simp at hv)
 simpa using h
theorem j6 (a:Option Addr) (n cap:Nat) (bs:Nat→Nat) (w:World) (hr:Row8 w a n cap bs) :
  (convert 43 9 (.slice a n cap)).run prog w=.ok (.string (BA bs n)) w:=by
 cases a with
 | none=>
  obtain⟨rfl,rfl⟩:=hr.nil rfl
  rw[run_convert_bytes_string w 43 9 5 _ 0 0 underlying43 underlying5 underlying9]
  rfl
 | some x=>
  obtain⟨b,off,spot⟩:=x
  by_cases h0:n=0
  ·subst h0
   rw[run_convert_bytes_string w 43 9 5 _ 0 cap underlying43 underlying5 underlying9]
   rfl
  ·obtain⟨b',off',he,_,_⟩:=hr.plain (by omega)
   cases he
   exact pK b off n cap bs w hr
theorem py {P:Program} {ops:Array Oper} {Q:Exit→Act→World→Prop} {K:Act→World→Prop} {a:Act} {w:World} {i:Nat} {o:Oper} (f:FuncId) (args:Array Value) (ho:ops[i]?=some o)
  (hw:Region.wanted o (yielded ops a.tmps)=true) (hrun:(execOp a.eval o).run P w=.ok (.enter f args) w) (hc:Calls P f args w fun e w''=>∃ v,e=.returned v∧K (a.put o.dst v) w''):wpOp P ops Q i K a w:=by
 unfold wpOp
 simp only[ho,hw,if_true]
 refine .inl ?_
 unfold Oper.wp
 rw[hrun]
 refine hc.mono ?_
 rintro e w'' ⟨v,rfl,h⟩
 exact h
def RC (v:Value) (s:Ms):Array Value:=#[v,.bool s.off,.bool s.ar,.int .i64 s.l,.int .i64 s.t]
structure RR (w:World) (b g n:Nat) (s:Ms):Prop where
 ex:∃ v,w.heap[b]?=some (.cells (RC v s) 193 (0,0))∧Held w b g n s.bs v
 byte:∀ i,i<n→s.bs i<256
 l0:0≤s.l
 l1:s.l≤9223372036854775807
 t0:0≤s.t
 nn:n≤4096
section
variable {w w':World} {b g n:Nat} {s:Ms}
theorem RR.lt (h:RR w b g n s):b<w.heap.size:=by
 obtain⟨v,hv,_⟩:=h.ex
 exact (Array.getElem?_eq_some_iff.1 hv).1
theorem RR.lg (h:RR w b g n s):g<w.heap.size:=by
 obtain⟨v,hv,hh⟩:=h.ex
 exact hh.lt h.lt
theorem RR.off {l:List Nat} (h:RR w b g n s) (q:Off l w w') (hb:b ∉ l) (hg:g ∉ l):RR w' b g n s:=by
 obtain⟨v,hv,hh⟩:=h.ex
 exact⟨⟨v,(q.block b h.lt hb).trans hv,hh.off q hg⟩,h.byte,h.l0,h.l1,h.t0,h.nn⟩
theorem RR.cells (h:RR w b g n s):∃ a cap,w.cell? ⟨b,0,none⟩=some (.slice a n cap)∧Row8 w a n cap s.bs∧(0<n→g≠b∧a=ac g 0)∧w.cell? ⟨b,1,none⟩=some (.bool s.off) ∧
  w.cell? ⟨b,2,none⟩=some (.bool s.ar)∧w.cell? ⟨b,3,none⟩=some (.int .i64 s.l)∧w.cell? ⟨b,4,none⟩=some (.int .i64 s.t)∧∀ j,w.frozen? ⟨b,j,none⟩=false:=by
 obtain⟨v,hv,hh⟩:=h.ex
 obtain⟨a,cap,rfl,hr⟩:=hh.row h.byte
 refine⟨a,cap,ab w b 0 _ _ _ hv,hr,fun hn=>?_,ab w b 1 _ _ _ hv,ab w b 2 _ _ _ hv,ab w b 3 _ _ _ hv,ab w b 4 _ _ _ hv,fun j=>frozen_of_row w b j _ _ hv⟩
 obtain⟨hg,cap',he⟩:=hh.plain hn
 simp only[Value.slice.injEq]at he
 exact⟨hg,he.1⟩
theorem RR.held (h:RR w b g n s) (j:Nat) (hj:j<n):w.cell? ⟨g,j,none⟩=some (.int .u8 (s.bs j:Nat))∧w.frozen? ⟨g,j,none⟩=false:=by
 obtain⟨v,hv,hh⟩:=h.ex
 obtain⟨hg,cap,rfl⟩:=hh.plain (by omega)
 exact⟨by rw[hh.own.cellAt j (by omega),az _ _ _ hj],hh.own.frozenAt j⟩
theorem RR.upd (h:RR w b g n s) (s':Ms) (q:Off [b] w w') (hc:∀ v,w.heap[b]?=some (.cells (RC v s) 193 (0,0))→w'.heap[b]?=some (.cells (RC v s') 193 (0,0)))
  (hbs:s'.bs=s.bs) (l0:0≤s'.l) (l1:s'.l≤9223372036854775807) (t0:0≤s'.t):RR w' b g n s':=by
 obtain⟨v,hv,hh⟩:=h.ex
 exact⟨⟨v,hc v hv,hbs ▸ hh.here q⟩,hbs ▸ h.byte,l0,l1,t0,h.nn⟩
theorem RR.put (h:RR w b g n s) (j x:Nat) (hj:j<n) (hx:x<256):RR (w.setCell ⟨g,j,none⟩ (.int .u8 (x:Nat))) b g n { s with bs:=fun i=>if i=j then x else s.bs i }:=by
 obtain⟨v,hv,hh⟩:=h.ex
 have hg:=(hh.plain (by omega)).1
 refine⟨⟨v,(heap_setCell_other w _ b _ (Ne.symm hg)).trans hv,hh.set j x hj⟩,fun i hi=>?_,h.l0,h.l1,h.t0,h.nn⟩
 by_cases e:i=j
 ·simp[e,hx]
 ·simp[e,h.byte i hi]
end
theorem ig (b g n:Nat) (s:Ms) (p:Int) (c:Nat) (w:World) (h:RR w b g n s) (hc:c<256) (ht:s.t<9223372036854775807) :
  Calls prog 133 #[aa b 0,.int .i64 p,.int .u8 (c:Nat)] w fun e w'=>e=.returned (.int .i64 (fR s n p))∧(Off [b,g] w w'∧RR w' b g n (gh s n p c)):=by
 obtain⟨a,cap,c0,_,hpl,c1,c2,c3,c4,fz⟩:=h.cells
 have fz1:=fz 1
 have fz3:=fz 3
 have fz4:=fz 4
 have hl0:=h.l0
 have hl1:=h.l1
 have ht0:=h.t0
 by_cases hr:gr s n p=0
 ·obtain⟨hoff,hp0,hpn⟩:=g9 hr
  obtain⟨j,rfl⟩:=Int.eq_ofNat_of_zero_le hp0
  have hj:j<n:=by omega
  obtain⟨hgb,rfl⟩:=hpl (by omega)
  obtain⟨cg,fg⟩:=h.held j hj
  have H:Hid (_):=h
  rw[hoff]at c1
  clear h fz hpl
  cases ha:s.ar
  ·rw[ha]at c2
   obtain⟨hE,hS⟩:=nE (c:=c) hr ha
   rw[hE,hS]
   clear hE hS hr
   go_enter func133,ntmps133
   go_wp2_with fail
   go_ret
   refine⟨rfl,(Off.setCell g j _ _).pair'.trans (Off.setCell b 4 _ _).pair,?_⟩
   exact (H.out.put j c hj hc).upd { s with bs:=gU s.bs j c,t:=s.t+1 } (Off.setCell b 4 _ _) (fun v hv=>heap_setCell_same _ _ _ _ _ _ hv) rfl hl0 hl1 (by show 0≤s.t+1;omega)
  ·rw[ha]at c2
   by_cases hz:s.l=0
   ·obtain⟨hE,hS⟩:=jR (c:=c) hr ha hz
    rw[hE,hS]
    rw[hz]at c3
    clear hE hS hr
    go_enter func133,ntmps133
    go_wp2_with fail
    go_ret
    refine⟨rfl,(Off.setCell b 1 _ _).pair,?_⟩
    exact H.out.upd { s with off:=true } (Off.setCell b 1 _ _) (fun v hv=>heap_setCell_same _ _ _ _ _ _ hv) rfl hl0 hl1 ht0
   ·obtain⟨hE,hS⟩:=nF (c:=c) hr ha hz
    rw[hE,hS]
    clear hE hS hr
    go_enter func133,ntmps133
    go_wp2_with fail
    go_ret
    refine⟨rfl,((Off.setCell b 3 _ _).pair.trans (Off.setCell g j _ _).pair').trans (Off.setCell b 4 _ _).pair,?_⟩
    have h1:=H.out.upd { s with l:=s.l-1 } (Off.setCell b 3 _ (.int .i64 (s.l-1))) (fun v hv=>heap_setCell_same _ _ _ _ _ _ hv) rfl (by show 0≤s.l-1;omega) (by show s.l-1≤_;omega) ht0
    exact (h1.put j c hj hc).upd { s with bs:=gU s.bs j c,l:=s.l-1,t:=s.t+1 } (Off.setCell b 4 _ _) (fun v hv=>heap_setCell_same _ _ _ _ _ _ hv) rfl (by show 0≤s.l-1;omega) (by show s.l-1≤_;omega) (by show 0≤s.t+1;omega)
 ·obtain⟨hE,hS⟩:=tv (c:=c) hr
  rw[hE,hS]
  have H:Hid (_):=h
  clear h hE hS fz hpl
  unfold gr at hr ⊢
  cases ho:s.off
  ·rw[ho]at c1
   rw[ho,if_neg (by simp)]at hr
   rw[if_neg (by simp)]
   by_cases hp:p<0
   ·rw[if_pos (.inl hp)]
    clear hr
    go_enter func133,ntmps133
    go_wp2_with fail
    go_ret
    exact⟨rfl,Off.refl _ _,H.out⟩
   ·by_cases hn:(n:Int)≤p
    ·rw[if_pos (.inr hn)]
     clear hr
     go_enter func133,ntmps133
     go_wp2_with fail
     go_ret
     exact⟨rfl,Off.refl _ _,H.out⟩
    ·exact absurd (if_neg (by omega)) hr
  ·rw[ho]at c1
   rw[if_pos rfl]
   clear hr
   go_enter func133,ntmps133
   go_wp2_with fail
   go_ret
   exact⟨rfl,Off.refl _ _,H.out⟩
theorem sS (n:Nat) (w:World) (hn:n≤4096) :
  Calls prog 49 #[.int .i64 (n:Nat)] w fun e w'=>∃ b g,e=.returned (.tuple #[aa b 0,.int .i64 0])∧Hid (w.heap.size≤b∧w.heap.size≤g∧Off [] w w'∧RR w' b g n (S0 fun _=>0)):=by
 obtain⟨i0,hi,hz0,hz1,hz2⟩:=info_parts aS
 go_enter func49,ntmps49
 go_wp2_with (at_make;refine aH _ rfl (.tmp 10) (.tmp 10) 43 rfl w.heap.size 5 i0 underlying43 hi hz0 hz1 hz2 _ _ _ _ n n rfl rfl rfl rfl (Nat.le_refl _) (by omega) (Nat.le_refl _) ?_)
 intro w1 hown1 hbel1
 have H:Hid (_):=And.intro hown1 hbel1
 clear hown1 hbel1
 go_wp2_with fail
 go_ret2
 obtain⟨hown1,hbel1⟩:=H.out
 have hlt:w.heap.size<w1.heap.size:=(hown1.lt _ rfl).2
 refine⟨_,w.heap.size,rfl,hbel1.size,Nat.le_refl _,(Off.of_below hbel1).trans (Off.alloc _ _ _),⟨⟨_,aB w1 _,?_⟩,by intro i _;show 0<256;omega,Int.le_refl _,by show (0:Int)≤_;omega,Int.le_refl _,hn⟩⟩
 refine⟨bN (ak hown1 (Nat.zero_le _)) ((Below.refl _ _).alloc (Nat.le_refl _) _),.inr ⟨Nat.ne_of_lt hlt,_,rfl⟩⟩
end Go.Proofs.YtdpahjfekoikiaaGreat
namespace Go.Proofs.YtdpahjfekoikiaaGreat
open Tryz
open Go.RowKit
theorem jB (x y:Nat) (k:Nat) (hx:x % 2 ^ k=0) (hy:y<2 ^ k) (h1:x<4294967296) (h2:y<4294967296):bits .or .u32 (x:Int) (y:Int)=((x+y:Nat):Int):=by
 rw[u32_or_nat x y h1 h2,nat_join k x y hx hy]
theorem vd (x0 x1 x2 x3:Nat) (h0:x0<256) (h1:x1<256) (h2:x2<256) (h3:x3<256) :
  bits .or .u32 (bits .or .u32 (bits .or .u32 ((x0:Int)*16777216) ((x1:Int)*65536)) ((x2:Int)*256)) (x3:Int)=((x0*16777216+x1*65536+x2*256+x3:Nat):Int):=by
 have e0:(x0:Int)*16777216=((x0*16777216:Nat):Int):=by omega
 have e1:(x1:Int)*65536=((x1*65536:Nat):Int):=by omega
 have e2:(x2:Int)*256=((x2*256:Nat):Int):=by omega
 rw[e0,e1,e2,jB _ _ 24 (by omega) (by omega) (by omega) (by omega),jB _ _ 16 (by omega) (by omega) (by omega) (by omega),jB _ _ 8 (by omega) (by omega) (by omega) (by omega)]
theorem t7 (b off len cap x0 x1 x2 x3:Nat) (w:World) (hlen:(3:Int) < (len:Int)) (h0:x0<256) (h1:x1<256) (h2:x2<256) (h3:x3<256)
  (c0:w.cell? ⟨b,off,none⟩=some (.int .u8 x0)) (c1:w.cell? ⟨b,off+1,none⟩=some (.int .u8 x1)) (c2:w.cell? ⟨b,off+2,none⟩=some (.int .u8 x2)) (c3:w.cell? ⟨b,off+3,none⟩=some (.int .u8 x3)) :
  Calls prog 156 #[.slice (ac b off) len cap] w fun e w'=>e=.returned (.int .u32 ((x0*16777216+x1*65536+x2*256+x3:Nat):Int))∧∃ m,w'=w.drewN m:=by
 have hn:=vd x0 x1 x2 x3 h0 h1 h2 h3
 have l0:(0:Int) < (len:Int):=by omega
 have l1:(1:Int) < (len:Int):=by omega
 have l2:(2:Int) < (len:Int):=by omega
 generalize x0*16777216+x1*65536+x2*256+x3=y at *
 go_enter func156,ntmps156
 go_wp2_with fail
 go_quiet (fail)
 go_wp2
 go_ret
 exact⟨rfl,_,rfl⟩
theorem mw (m g n k:Nat) (s:Ms) (w:World) (h:RR w m g n s) (hk:k<2) (hn:10≤n) :
  Calls prog 130 #[aa m 0,.int .i64 (k:Nat)] w fun e w'=>e=.returned (.bool (decide ((s.bs (5*k):Int)=165)))∧w'=w:=by
 obtain⟨a,cap,c0,_,hpl,_⟩:=h.cells
 obtain⟨hgb,rfl⟩:=hpl (by omega)
 obtain⟨cg,_⟩:=h.held (5*k) (by omega)
 clear h hpl
 generalize s.bs (5*k)=x at *
 go_enter func130,ntmps130
 go_wp2_with fail
 go_ret
 exact⟨rfl,rfl⟩
theorem eO (m g n k:Nat) (s:Ms) (w:World) (h:RR w m g n s) (hk:k<2) (hn:10≤n) (b:Bool) (hb:decide (s.bs (5*k)=165)=b) :
  Calls prog 130 #[aa m 0,.int .i64 (k:Nat)] w fun e w'=>e=.returned (.bool b)∧w'=w:=by
 refine (mw m g n k s w h hk hn).mono ?_
 rintro e w' ⟨rfl,rfl⟩
 refine⟨?_,rfl⟩
 rw[← hb]
 congr 2
 by_cases h:s.bs (5*k)=165
 ·simp[h]
 ·have:¬ ((s.bs (5*k):Nat):Int)=165:=by omega
  simp[h,this]
theorem ia (m g n k:Nat) (s:Ms) (w:World) (h:RR w m g n s) (hk:k<2) (hn:10≤n) :
  Calls prog 132 #[aa m 0,.int .i64 (k:Nat)] w fun e w'=>e=.returned (.int .u32 (wz s.bs k:Nat))∧∃ j,w'=w.drewN j:=by
 obtain⟨a,cap,c0,hr,hpl,_⟩:=h.cells
 obtain⟨hgb,rfl⟩:=hpl (by omega)
 have hcap:=hr.le
 have q:=t7 g (5*k+1) 4 (cap - (5*k+1)) _ _ _ _ w (by omega) (h.byte (5*k+1) (by omega)) (h.byte (5*k+2) (by omega)) (h.byte (5*k+3) (by omega)) (h.byte (5*k+4) (by omega)) (h.held (5*k+1) (by omega)).1 (h.held (5*k+2) (by omega)).1 (h.held (5*k+3) (by omega)).1 (h.held (5*k+4) (by omega)).1
 change Calls _ _ _ _ (fun e w'=>e=.returned (.int .u32 (wz s.bs k:Nat))∧∃ j,w'=w.drewN j) at q
 clear h hpl hr
 generalize wz s.bs k=x at *
 go_enter func132,ntmps132
 go_wp2_with fail
 refine q.mono ?_
 rintro e w2 ⟨rfl,j,rfl⟩
 go_wp2_with fail
 go_ret
 exact⟨rfl,j,rfl⟩
theorem RR.drewN {w:World} {b g n:Nat} {s:Ms} (h:RR w b g n s) (k:Nat):RR (w.drewN k) b g n s:=h.off (Off.drewN [] _ k) (by simp) (by simp)
theorem my (m g n:Nat) (s:Ms) (w:World) (h:RR w m g n s) (hn:10≤n) :
  Calls prog 129 #[aa m 0] w fun e w'=>e=.returned (.int .u32 (vz s.bs:Nat))∧∃ j,w'=w.drewN j:=by
 rw[← rz]
 obtain⟨F,hF⟩:∃ F:Nat→Nat,F=vp (fun k=>s.bs (5*k)) (wz s.bs):=⟨_,rfl⟩
 rw[← hF]
 have HF:Hid (_):=hF
 have F0:F 0=0:=by rw[hF];rfl
 clear hF
 go_enter func129,ntmps129
 go_wp2_with fail
 go_loopw [3,4] (fun cv ci wr=>∃ i j:Nat,i≤2∧ci=.int .i64 ((i:Nat):Int)∧cv=.int .u32 (F i:Nat)∧wr=w.drewN j) (fun _ ci _=>2 - (intOf ci).toNat)
 case atStart=>exact⟨0,0,by omega,rfl,by rw[F0];rfl,rfl⟩
 case round=>
  obtain⟨i,j,hi,rfl,rfl,rfl⟩:=hrel
  by_cases hlt:i<2
  ·have q2:=fun j=>ia m g n i s (w.drewN j) (h.drewN j) hlt hn
   by_cases hm:s.bs (5*i)=165
   ·have q1:=eO m g n i s (w.drewN j) (h.drewN j) hlt hn true (by simp[hm])
    have e1:F (i+1)=if F i<wz s.bs i then wz s.bs i else F i:=by rw[HF.out];exact if_pos hm
    have HE:Hid (_):=e1
    clear h HF e1 F0
    generalize wz s.bs i=x at *
    obtain⟨y,hy⟩:∃ y,F i=y:=⟨_,rfl⟩
    rw[hy]at HE ⊢
    clear hy
    by_cases hxy:y<x
    ·go_wp2_with fail
     refine q1.mono ?_
     rintro e w2 ⟨rfl,rfl⟩
     go_wp2_with fail
     refine (q2 j).mono ?_
     rintro e w2 ⟨rfl,j2,rfl⟩
     rw[World.drewN_drewN]
     go_wp2_with fail
     refine (q2 _).mono ?_
     rintro e w2 ⟨rfl,j3,rfl⟩
     rw[World.drewN_drewN]
     go_wp2_with fail
     go_roundw
     case rel=>exact⟨i+1,_,by omega,by go_num,by rw[HE.out,if_pos hxy],rfl⟩
     case measure=>simp[intOf] <;> omega
    ·go_wp2_with fail
     refine q1.mono ?_
     rintro e w2 ⟨rfl,rfl⟩
     go_wp2_with fail
     refine (q2 j).mono ?_
     rintro e w2 ⟨rfl,j2,rfl⟩
     rw[World.drewN_drewN]
     go_wp2_with fail
     go_roundw
     case rel=>exact⟨i+1,_,by omega,by go_num,by rw[HE.out,if_neg hxy],rfl⟩
     case measure=>simp[intOf] <;> omega
   ·have q1:=eO m g n i s (w.drewN j) (h.drewN j) hlt hn false (by simp[hm])
    have e1:F (i+1)=F i:=by rw[HF.out];exact if_neg hm
    have HE:Hid (_):=e1
    clear h HF e1 F0 q2
    go_wp2_with fail
    refine q1.mono ?_
    rintro e w2 ⟨rfl,rfl⟩
    go_wp2_with fail
    go_roundw
    case rel=>exact⟨i+1,j,by omega,by go_num,by rw[HE.out],rfl⟩
    case measure=>simp[intOf] <;> omega
  ·obtain rfl:i=2:=by omega
   go_wp2_with fail
   go_ret
   exact⟨rfl,j,rfl⟩
end Go.Proofs.YtdpahjfekoikiaaGreat
