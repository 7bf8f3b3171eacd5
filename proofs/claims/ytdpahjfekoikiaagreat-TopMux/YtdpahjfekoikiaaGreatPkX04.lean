/- Part 5: contracts that the proof rests on. -/
import Derived.Deep.RegionHeld3
import Derived.Test.YtdpahjfekoikiaaGreatProg
import Derived.WalkKit
import Derived.WalkSpells
import Derived.OpenShut
import Derived.Laws.BitsAllLaws
import Derived.Laws.Pointers
import Derived.Laws.LoneSync
import Derived.Laws.NewBlocks
import Derived.Lib.Builder
import Derived.RegionTactic
import Derived.RegionCalls
import Derived.Deep.DeepCutAuto
import Derived.Deep.RegionWith
import Derived.Deep.QuietTactic
import Derived.Test.YtdpahjfekoikiaaGreatPkX03
set_option maxHeartbeats 64000000
set_option maxRecDepth 100000
namespace Go.Proofs.YtdpahjfekoikiaaGreat
open Tryz
open Go.RowKit
def uJ (i:Nat):Nat:=[0,1,2,3,4,0].getD i 0
def uq (v i:Nat):Nat:=[0,bt v 0,bt v 1,bt v 2,bt v 3,165].getD i 0
theorem uf (k v i:Nat) (hi:i<6):(bp k v).drop i=(5*k+uJ i,uq v i) :: (bp k v).drop (i+1):=by
 have:i=0∨i=1∨i=2∨i=3∨i=4∨i=5:=by omega
 rcases this with rfl | rfl | rfl | rfl | rfl | rfl <;> rfl
theorem tY (i:Nat) (hi:i<6):uJ i<5:=by
 have:i=0∨i=1∨i=2∨i=3∨i=4∨i=5:=by omega
 rcases this with rfl | rfl | rfl | rfl | rfl | rfl <;> decide
theorem tH (v i:Nat) (hi:i<6):uq v i<256:=by
 have h:=pF v
 have:i=0∨i=1∨i=2∨i=3∨i=4∨i=5:=by omega
 rcases this with rfl | rfl | rfl | rfl | rfl | rfl
 ·show 0<256;omega
 ·exact h 0
 ·exact h 1
 ·exact h 2
 ·exact h 3
 ·show 165<256;omega
theorem ve (n:Nat) (h:n<9223372036854775808):IntKind.i64.wrap (n:Int)=(n:Int):=by
 rw[IntKind.wrap_i64]
 omega
theorem tl (k x:Nat) (hk:k<2) (hx:x<5):IntKind.i64.wrap (IntKind.i64.wrap (5 * (k:Int)) + (x:Int))=((5*k+x:Nat):Int):=by
 rw[show 5 * (k:Int)=((5*k:Nat):Int) by omega,ve _ (by omega),show ((5*k:Nat):Int) + (x:Int)=((5*k+x:Nat):Int) by omega,ve _ (by omega)]
def A6:Array Value:=#[.int .i64 0,.int .i64 1,.int .i64 2,.int .i64 3,.int .i64 4,.int .i64 0]
def B6 (v:Nat):Array Value:=#[.int .u8 0,.int .u8 (bt v 0:Nat),.int .u8 (bt v 1:Nat),.int .u8 (bt v 2:Nat),.int .u8 (bt v 3:Nat),.int .u8 165]
structure S6 (w:World) (A B v:Nat):Prop where
 a:w.heap[A]?=some (.cells A6 3 (0,0))
 b:w.heap[B]?=some (.cells (B6 v) 5 (0,0))
theorem S6.off {l:List Nat} {w w':World} {A B v:Nat} (h:S6 w A B v) (q:Off l w w') (hA:A ∉ l) (hB:B ∉ l):S6 w' A B v:=
 ⟨(q.block A (Array.getElem?_eq_some_iff.1 h.a).1 hA).trans h.a,(q.block B (Array.getElem?_eq_some_iff.1 h.b).1 hB).trans h.b⟩
theorem S6.cells {w:World} {A B v:Nat} (h:S6 w A B v) (i:Nat) (hi:i<6):w.cell? ⟨A,i,none⟩=some (.int .i64 (uJ i:Nat))∧w.cell? ⟨B,i,none⟩=some (.int .u8 (uq v i:Nat)):=by
 refine⟨(ab w A i _ _ _ h.a).trans ?_,(ab w B i _ _ _ h.b).trans ?_⟩
 ·have:i=0∨i=1∨i=2∨i=3∨i=4∨i=5:=by omega
  rcases this with rfl | rfl | rfl | rfl | rfl | rfl <;> rfl
 ·have:i=0∨i=1∨i=2∨i=3∨i=4∨i=5:=by omega
  rcases this with rfl | rfl | rfl | rfl | rfl | rfl <;> rfl
theorem S6.new (w:World) (v:Nat):S6 ((w.alloc (.cells A6 3)).alloc (.cells (B6 v) 5)) w.heap.size (w.heap.size+1) v:=by
 have e:(w.alloc (.cells A6 3)).heap.size=w.heap.size+1:=by
  show (w.heap.push _).size=_
  rw[Array.size_push]
 refine⟨(heap_alloc_old _ _ (by omega)).trans (aB w _),?_⟩
 have h:=aB (w.alloc (.cells A6 3)) (.cells (B6 v) 5)
 rwa [e]at h
theorem qW (m g n:Nat) (s:Ms) (k v:Nat) (w:World) (hM:RR w m g n s) (hk:k<2) (_hv:v<4294967296) (ht:s.t<9223372036854775000) :
  Calls prog 131 #[aa m 0,.int .i64 (k:Nat),.int .u32 (v:Nat)] w fun e w'=>e=.returned (.int .i64 (bR n (bp k v) s))∧(Off [m,g] w w'∧RR w' m g n (bO n (bp k v) s)):=by
 obtain⟨E,hE⟩:∃ E,bR n ((bp k v).drop 0) s=E:=⟨_,rfl⟩
 obtain⟨S,hS⟩:∃ S,bO n ((bp k v).drop 0) s=S:=⟨_,rfl⟩
 rw[show bR n (bp k v) s=E from hE,show bO n (bp k v) s=S from hS]
 have lm:=hM.lt
 have lg:=hM.lg
 have x0:(v:Int) / 16777216=((bt v 0:Nat):Int):=by
  have e:bt v 0=v / 16777216 % 256:=rfl
  omega
 have x1:(v:Int) / 65536 % 256=((bt v 1:Nat):Int):=by simp[bt]
 have x2:(v:Int) / 256 % 256=((bt v 2:Nat):Int):=by simp[bt]
 have x3:(v:Int) % 256=((bt v 3:Nat):Int):=by simp[bt]
 go_enter func131,ntmps131
 go_wp2_with fail
 have hA:Off [m,g] w ((w.alloc (.cells A6 3)).alloc (.cells (B6 v) 5)):=(Off.alloc _ _ _).trans (Off.alloc _ _ _)
 have hS6:=S6.new w v
 have hM2:=hM.off ((Off.alloc [] w (.cells A6 3)).trans (Off.alloc [] (w.alloc (.cells A6 3)) (.cells (B6 v) 5))) (by simp) (by simp)
 obtain⟨wa,hwa⟩:∃ wa,((w.alloc (.cells A6 3)).alloc (.cells (B6 v) 5))=wa:=⟨_,rfl⟩
 rw[hwa]at hA hS6 hM2
 change Code.wp _ _ _ _ ((w.alloc (.cells A6 3)).alloc (.cells (B6 v) 5))
 rw[hwa]
 clear hwa hM x0 x1 x2 x3
 have hAm:w.heap.size≠m∧w.heap.size≠g∧w.heap.size+1≠m∧w.heap.size+1≠g:=by omega
 generalize w.heap.size+1=B at *
 generalize w.heap.size=A at *
 go_loopw [6,9,10] (fun _ ci _ wr=>∃ (i:Nat) (si:Ms),i≤6∧ci=.int .i64 ((i:Nat):Int)∧bR n ((bp k v).drop i) si=E∧bO n ((bp k v).drop i) si=S∧si.t≤s.t+i∧Off [m,g] w wr∧RR wr m g n si∧S6 wr A B v) (fun _ ci _ _=>6 - (intOf ci).toNat)
 case atStart=>exact⟨0,s,by omega,rfl,hE,hS,by omega,hA,hM2,hS6⟩
 case round=>
  clear hE hS hA hM2 hS6
  obtain⟨i,si,hi,rfl,hE,hS,t1,O1,M1,C1⟩:=hrel
  by_cases hlt:i<6
  ·rw[uf k v i hlt]at hE hS
   have hof:=tY i hlt
   have hby:=tH v i hlt
   have M2:=M1.off (Off.drew [] wr) (by simp) (by simp)
   have q:=ig m g n si ((5*k+uJ i:Nat):Int) (uq v i) wr.drew M2 hby (by omega)
   have HS:=(C1.off (Off.drew [] wr) (by simp) (by simp)).cells i hlt
   have HC:Hid (_):=And.intro O1 C1
   obtain⟨x,hx⟩:∃ x,uJ i=x:=⟨_,rfl⟩
   obtain⟨y,hy⟩:∃ y,uq v i=y:=⟨_,rfl⟩
   rw[hx]at hE hS hof q HS
   rw[hy]at hE hS hby q HS
   have hp:=tl k x hk (by omega)
   have t2:=nD si n ((5*k+x:Nat):Int) y
   have hcase:(fR si n ((5*k+x:Nat):Int)=0∧bR n ((bp k v).drop (i+1)) (gh si n ((5*k+x:Nat):Int) y)=E∧bO n ((bp k v).drop (i+1)) (gh si n ((5*k+x:Nat):Int) y)=S)∨(¬ fR si n ((5*k+x:Nat):Int)=0∧fR si n ((5*k+x:Nat):Int)=E∧gh si n ((5*k+x:Nat):Int) y=S):=by
    by_cases he:fR si n ((5*k+x:Nat):Int)=0
    ·exact .inl ⟨he,lu hE hS he⟩
    ·exact .inr ⟨he,fB hE hS he⟩
   obtain⟨r,hr⟩:∃ r,fR si n ((5*k+x:Nat):Int)=r:=⟨_,rfl⟩
   obtain⟨s2,hs2⟩:∃ s2,gh si n ((5*k+x:Nat):Int) y=s2:=⟨_,rfl⟩
   rw[hr,hs2]at q hcase
   rw[hs2]at t2
   rw[← hp]at q
   have HX:Hid (_):=And.intro hx hy
   clear hx hy M1 M2 O1 C1 hp hr hs2 hE hS
   rcases hcase with ⟨rfl,hE,hS⟩ | ⟨he,rfl,rfl⟩
   ·go_wp2_with fail
    go_region_held3 (fun w'=>w'.cell? ⟨A,i,none⟩=some (.int .i64 (x:Nat))∧w'.cell? ⟨B,i,none⟩=some (.int .u8 (y:Nat))) (assumption) (first
     | (go_at_call 133;refine q.mono ?_;rintro e w2 ⟨rfl,o2,m2⟩;have HT:=(HC.out.2.off ((Off.drew [m,g] wr).trans o2) (by simp;omega) (by simp;omega)).cells i hlt;rw[HX.out.1,HX.out.2]at HT;have h1:Hid (_):=And.intro o2 m2;clear o2 m2))
    clear HT HS q
    go_wp2_with fail
    go_roundw
    case rel=>exact⟨i+1,s2,by omega,by go_num,hE,hS,by omega,HC.out.1.trans ((Off.drew [m,g] wr).trans h1.out.1),h1.out.2,HC.out.2.off ((Off.drew [m,g] wr).trans h1.out.1) (by simp;omega) (by simp;omega)⟩
    case measure=>simp[intOf] <;> omega
   ·go_wp2_with fail
    go_region_held3 (fun w'=>w'.cell? ⟨A,i,none⟩=some (.int .i64 (x:Nat))∧w'.cell? ⟨B,i,none⟩=some (.int .u8 (y:Nat))) (assumption) (first
     | (go_at_call 133;refine q.mono ?_;rintro e w2 ⟨rfl,o2,m2⟩;have HT:=(HC.out.2.off ((Off.drew [m,g] wr).trans o2) (by simp;omega) (by simp;omega)).cells i hlt;rw[HX.out.1,HX.out.2]at HT;have h1:Hid (_):=And.intro o2 m2;clear o2 m2))
    clear HT HS q
    go_wp2_with fail
    go_ret
    exact⟨rfl,HC.out.1.trans ((Off.drew [m,g] wr).trans h1.out.1),h1.out.2⟩
  ·obtain rfl:i=6:=by omega
   have hE':(0:Int)=E:=hE
   have hS':si=S:=hS
   subst hE' hS'
   have H:Hid (_):=And.intro O1 M1
   clear O1 M1 C1 hE hS
   go_wp2_with fail
   go_ret
   exact⟨rfl,H.out⟩
def bu (z:Nat→Nat) (k:Nat):List (Nat × Nat):=
 if z (5*k)≠165∧z (5 * (1-k))=165 then bp k (wz z (1-k)) else if z (5*k)≠165∧z (5*k)≠0 then [(5*k,0)] else []
def rl (z:Nat→Nat) (k:Nat):List (Nat × Nat):=if k=0 then be z else if k=1 then bu z 1 else []
theorem sQ (z:Nat→Nat) (k:Nat) (hk:k<2):rl z k=bu z k ++ rl (aY (bu z k) z) (k+1):=by
 have:k=0∨k=1:=by omega
 rcases this with rfl | rfl
 ·show be z=bu z 0 ++ bu (aY (bu z 0) z) 1
  by_cases h0:z 0=165
  ·have e0:bu z 0=[]:=by simp[bu,h0]
   rw[e0]
   by_cases h5:z 5=165
   ·simp[be,bu,aY,h0,h5]
   ·simp[be,bu,aY,h0,h5]
  ·by_cases h5:z 5=165
   ·have e0:bu z 0=bp 0 (wz z 1):=by simp[bu,h0,h5]
    have e5:aY (bp 0 (wz z 1)) z 5=165:=(cX z 0 (wz z 1) 6 5 (by omega)).trans h5
    rw[e0]
    simp[be,bu,h0,h5,e5]
   ·by_cases hz:z 0=0
    ·have e0:bu z 0=[]:=by simp[bu,h5,hz]
     rw[e0]
     by_cases h:z 5=0 <;> simp[be,bu,aY,h5,hz,h]
    ·have e0:bu z 0=[(0,0)]:=by simp[bu,h0,h5,hz]
     rw[e0]
     by_cases h:z 5=0 <;> simp[be,bu,aY,gU,h0,h5,hz,h]
 ·simp[rl]
theorem mB (n:Nat):∀ (l r:List (Nat × Nat)) (s:Ms),bR n (l ++ r) s=(if bR n l s=0 then bR n r (bO n l s) else bR n l s)∧bO n (l ++ r) s=(if bR n l s=0 then bO n r (bO n l s) else bO n l s)
 | [],r,s=>by simp[bR,bO]
 | (p,c) :: l,r,s=>by
  have ih:=mB n l r (gh s n (p:Nat) c)
  by_cases h:fR s n (p:Nat)=0
  ·simp only[List.cons_append,bR,bO,if_pos h]
   exact ih
  ·simp only[List.cons_append,bR,bO,if_neg h]
   exact⟨trivial,trivial⟩
theorem pz {n:Nat} {l r:List (Nat × Nat)} {s:Ms} {E:Int} {S:Ms} (hE:bR n (l ++ r) s=E) (hS:bO n (l ++ r) s=S) (h:bR n l s=0):bR n r (bO n l s)=E∧bO n r (bO n l s)=S:=by
 obtain⟨h1,h2⟩:=mB n l r s
 rw[if_pos h]at h1 h2
 exact⟨h1.symm.trans hE,h2.symm.trans hS⟩
theorem pA {n:Nat} {l r:List (Nat × Nat)} {s:Ms} {E:Int} {S:Ms} (hE:bR n (l ++ r) s=E) (hS:bO n (l ++ r) s=S) (h:¬ bR n l s=0):bR n l s=E∧bO n l s=S:=by
 obtain⟨h1,h2⟩:=mB n l r s
 rw[if_neg h]at h1 h2
 exact⟨h1.symm.trans hE,h2.symm.trans hS⟩
theorem rn (z:Nat→Nat) (k n:Nat) (hk:k<2) (hn:10≤n):∀ x,x ∈ bu z k→x.1<n∧x.2<256:=by
 intro x hx
 unfold bu at hx
 split at hx
 ·exact dw k _ n hk hn x hx
 ·split at hx
  ·simp at hx
   subst hx
   exact⟨by simp only;omega,by simp only;omega⟩
  ·simp at hx
theorem tc (z:Nat→Nat) (k:Nat):(bu z k).length≤6:=by
 unfold bu
 split
 ·simp[bp]
 ·split <;> simp
def RV (m mx v:Nat) (dead:Bool):Array Value:=#[aa m 0,.int .u32 (mx:Nat),.int .u32 (v:Nat),.bool dead]
structure RX (w:World) (d m mx v:Nat) (dead:Bool):Prop where
 at_:w.heap[d]?=some (.cells (RV m mx v dead) 244 (0,0))
section
variable {w w':World} {d m mx v:Nat} {dead:Bool}
theorem RX.lt (h:RX w d m mx v dead):d<w.heap.size:=(Array.getElem?_eq_some_iff.1 h.at_).1
theorem RX.off {l:List Nat} (h:RX w d m mx v dead) (q:Off l w w') (hd:d ∉ l):RX w' d m mx v dead:=⟨(q.block d h.lt hd).trans h.at_⟩
end
theorem qU (m g n mx:Nat) (s:Ms) (w:World) (hM:RR w m g n s) (h:mx=0∨n<10) :
  Calls prog 90 #[aa m 0,.int .u32 (mx:Nat)] w fun e w'=>e=.returned (.tuple #[.pointer none,.int .i64 2])∧w'=w:=by
 obtain⟨a,cap,c0,_⟩:=hM.cells
 clear hM
 by_cases h0:mx=0
 ·subst h0
  clear h
  go_enter func90,ntmps90
  go_wp2_with fail
  go_ret2
  exact⟨rfl,rfl⟩
 ·have h1:decide ((n:Int)<10)=true:=by simp;omega
  have h2:((mx:Int) == 0)=false:=by simpa using h0
  clear h h0
  go_enter func90,ntmps90
  go_wp2_with fail
  go_ret2
  exact⟨rfl,rfl⟩
theorem oP (m g n mx:Nat) (s:Ms) (w:World) (hM:RR w m g n s) (hn:10≤n) (h0:mx≠0) (ho:s.off=true) :
  Calls prog 90 #[aa m 0,.int .u32 (mx:Nat)] w fun e w'=>e=.returned (.tuple #[.pointer none,.int .i64 70])∧w'=w:=by
 obtain⟨a,cap,c0,_,_,c1,_⟩:=hM.cells
 rw[ho]at c1
 have h1:decide ((n:Int)<10)=false:=by simp;omega
 have h2:((mx:Int) == 0)=false:=by simpa using h0
 clear hM
 go_enter func90,ntmps90
 go_wp2_with fail
 go_ret2
 exact⟨rfl,rfl⟩
theorem qT (m g n mx:Nat) (s:Ms) (w:World) (hM:RR w m g n s) (hn:10≤n) (h0:mx≠0) (ho:s.off=false) (ht:s.t<9223372036854774000) :
  Calls prog 90 #[aa m 0,.int .u32 (mx:Nat)] w fun e w'=>
   ∃ p,e=.returned (.tuple #[.pointer p,.int .i64 (bR n (be s.bs) s)])∧Hid (Off [m,g] w w'∧RR w' m g n (bO n (be s.bs) s)∧(bR n (be s.bs) s=0→∃ d,p=ac d 0∧w.heap.size≤d∧RX w' d m mx (vz s.bs) false)∧(¬ bR n (be s.bs) s=0→p=none)):=by
 obtain⟨E,hE⟩:∃ E,bR n (rl s.bs 0) s=E:=⟨_,rfl⟩
 obtain⟨S,hS⟩:∃ S,bO n (rl s.bs 0) s=S:=⟨_,rfl⟩
 rw[show bR n (be s.bs) s=E from hE,show bO n (be s.bs) s=S from hS]
 obtain⟨a,cap,c0,_,_,c1,_⟩:=hM.cells
 rw[ho]at c1
 have h1:decide ((n:Int)<10)=false:=by simp;omega
 have h2:((mx:Int) == 0)=false:=by simpa using h0
 have qv:=my m g n s w hM hn
 obtain⟨V,hV⟩:∃ V,vz s.bs=V:=⟨_,rfl⟩
 rw[hV]at qv ⊢
 clear hV
 have HM:Hid (_):=hM
 clear hM
 go_enter func90,ntmps90
 go_wp2_with fail
 refine qv.mono ?_
 rintro e w1 ⟨rfl,j,rfl⟩
 have M1:=HM.out.drewN j
 clear HM qv c0 c1
 go_wp2_with fail
 go_loopw [4,5,7,8,9] (fun _ _ ck _ _ wr=>∃ (k:Nat) (si:Ms),k≤2∧ck=.int .i64 ((k:Nat):Int)∧bR n (rl si.bs k) si=E∧bO n (rl si.bs k) si=S∧si.off=false∧si.t≤s.t+6 * (k:Int)∧Off [m,g] w wr∧RR wr m g n si) (fun _ _ ck _ _ _=>2 - (intOf ck).toNat)
 case atStart=>exact⟨0,s,by omega,rfl,hE,hS,ho,by omega,Off.drewN _ _ _,M1⟩
 case round=>
  clear hE hS M1 ho
  obtain⟨k,si,hk,rfl,hE,hS,ho,t1,O1,M1⟩:=hrel
  by_cases hlt:k<2
  ·rw[sQ si.bs k hlt]at hE hS
   obtain⟨o,hko⟩:∃ o,1-k=o:=⟨_,rfl⟩
   have ho2:o<2:=by omega
   have hb:=fun h=>ja (rn si.bs k n hlt hn) ho M1.l0 h
   have ha:=dN n (bu si.bs k) si (fun x hx=>(rn si.bs k n hlt hn x hx).1) ho M1.l0
   have hlen:=tc si.bs k
   have hgo:bR n (bu si.bs k) si=0→bR n (rl (bO n (bu si.bs k) si).bs (k+1)) (bO n (bu si.bs k) si)=E∧bO n (rl (bO n (bu si.bs k) si).bs (k+1)) (bO n (bu si.bs k) si)=S∧(bO n (bu si.bs k) si).off=false∧(bO n (bu si.bs k) si).t≤s.t+6 * ((k+1:Nat):Int):=fun h=>by
    rw[hb h]
    refine⟨(pz hE hS h).1,(pz hE hS h).2,?_⟩
    rcases ha with ⟨_,h2,_⟩ | ⟨h1,_⟩
    ·rw[h2]
     refine⟨rfl,?_⟩
     show si.t + ((bu si.bs k).length:Int)≤_
     omega
    ·omega
   have hstop:¬ bR n (bu si.bs k) si=0→bR n (bu si.bs k) si=E∧bO n (bu si.bs k) si=S:=fun h=>pA hE hS h
   have HGo:Hid (_):=And.intro hgo hstop
   have qo:=fun b h=>eO m g n o si wr M1 ho2 hn b h
   have qk:=fun b h=>eO m g n k si wr M1 hlt hn b h
   clear hE hS hb ha hlen hgo hstop
   by_cases hA:si.bs (5*k)≠165∧si.bs (5 * (1-k))=165
   ·have hs:bu si.bs k=bp k (wz si.bs (1-k)):=if_pos hA
    rw[hs,hko]at HGo
    rw[hko]at hA
    have qo1:=qo true (by simp[hA.2])
    have qk1:=qk false (by simp[hA.1])
    have qw:=ia m g n o si wr M1 ho2 hn
    have hwl:=jk (z:=si.bs) (fun i hi=>M1.byte i (by omega)) o ho2
    have q6:=fun j=>qW m g n si k (wz si.bs o) (wr.drewN j) (M1.drewN j) hlt hwl (by omega)
    clear qo qk hs hA M1 hwl
    generalize wz si.bs o=x at *
    obtain⟨E1,hE1⟩:∃ E1,bR n (bp k x) si=E1:=⟨_,rfl⟩
    obtain⟨S1,hS1⟩:∃ S1,bO n (bp k x) si=S1:=⟨_,rfl⟩
    simp only[hE1,hS1]at q6 HGo
    clear hE1 hS1
    go_wp2_with fail
    rw[show (1:Int) - (k:Int)=(o:Int) by omega]
    refine qo1.mono ?_
    rintro e w2 ⟨rfl,hw⟩
    rw[hw]
    clear hw qo1
    go_wp2_with fail
    refine qk1.mono ?_
    rintro e w2 ⟨rfl,hw⟩
    rw[hw]
    clear hw qk1
    go_wp2_with fail
    rw[show (1:Int) - (k:Int)=(o:Int) by omega]
    refine qw.mono ?_
    rintro e w2 ⟨rfl,j2,rfl⟩
    clear qw
    go_wp2_with fail
    refine (q6 j2).mono ?_
    rintro e w3 ⟨rfl,o3,m3⟩
    have O3:Off [m,g] w w3:=(O1.trans (Off.drewN _ _ _)).trans o3
    have H:Hid (_):=And.intro O3 m3
    clear O3 m3 o3 q6 O1
    by_cases he:E1=0
    ·have HE:=HGo.out.1 he
     subst he
     have HE2:Hid (_):=HE
     clear HE HGo
     go_wp2_with fail
     go_roundw
     case rel=>exact⟨k+1,S1,by omega,by go_num,HE2.out.1,HE2.out.2.1,HE2.out.2.2.1,HE2.out.2.2.2,H.out.1,H.out.2⟩
     case measure=>simp[intOf] <;> omega
    ·obtain⟨rfl,rfl⟩:=HGo.out.2 he
     clear HGo
     go_wp2_with fail
     go_ret2
     exact⟨_,rfl,H.out.1,H.out.2,fun h=>absurd h he,fun _=>rfl⟩
   ·by_cases hF:si.bs (5*k)=165
    ·have hs:bu si.bs k=[]:=by
      unfold bu
      rw[if_neg hA,if_neg (fun h=>h.1 hF)]
     rw[hs]at HGo
     have HE:=HGo.out.1 rfl
     rw[show bO n [] si=si from rfl]at HE
     obtain⟨b,hb⟩:∃ b,decide (si.bs (5*o)=165)=b:=⟨_,rfl⟩
     have qo1:=qo b hb
     have qk1:=qk true (by simp[hF])
     have HE2:Hid (_):=And.intro HE (And.intro O1 M1)
     clear HE HGo qo qk hs hA hb M1 O1
     go_wp2_with fail
     rw[show (1:Int) - (k:Int)=(o:Int) by omega]
     refine qo1.mono ?_
     rintro e w2 ⟨rfl,hw⟩
     rw[hw]
     clear hw qo1
     go_wp2_with fail
     refine qk1.mono ?_
     rintro e w2 ⟨rfl,hw⟩
     rw[hw]
     clear hw
     go_wp2_with fail
     refine qk1.mono ?_
     rintro e w2 ⟨rfl,hw⟩
     rw[hw]
     clear hw qk1
     go_wp2_with fail
     go_roundw
     case rel=>exact⟨k+1,si,by omega,by go_num,HE2.out.1.1,HE2.out.1.2.1,HE2.out.1.2.2.1,HE2.out.1.2.2.2,HE2.out.2⟩
     case measure=>simp[intOf] <;> omega
    ·have hO:¬ si.bs (5*o)=165:=by
      rw[hko]at hA
      exact fun h=>hA ⟨hF,h⟩
     have qo1:=qo false (by simp[hO])
     have qk1:=qk false (by simp[hF])
     obtain⟨a,cap,c0,_,hpl,_⟩:=M1.cells
     obtain⟨hgb,rfl⟩:=hpl (by omega)
     obtain⟨cg,_⟩:=M1.held (5*k) (by omega)
     obtain⟨x,hx⟩:∃ x,si.bs (5*k)=x:=⟨_,rfl⟩
     rw[hx]at cg
     by_cases hx0:x=0
     ·have hs:bu si.bs k=[]:=by
       unfold bu
       rw[if_neg hA,if_neg (fun h=>h.2 (by omega))]
      rw[hs]at HGo
      have HE:=HGo.out.1 rfl
      rw[show bO n [] si=si from rfl]at HE
      have HE2:Hid (_):=And.intro HE (And.intro O1 M1)
      clear HE HGo qo qk hs hA M1 O1 hx hF hO
      subst hx0
      go_wp2_with fail
      rw[show (1:Int) - (k:Int)=(o:Int) by omega]
      refine qo1.mono ?_
      rintro e w2 ⟨rfl,hw⟩
      rw[hw]
      clear hw qo1
      go_wp2_with fail
      refine qk1.mono ?_
      rintro e w2 ⟨rfl,hw⟩
      rw[hw]
      clear hw
      go_wp2_with fail
      refine qk1.mono ?_
      rintro e w2 ⟨rfl,hw⟩
      rw[hw]
      clear hw qk1
      go_wp2_with fail
      go_roundw
      case rel=>exact⟨k+1,si,by omega,by go_num,HE2.out.1.1,HE2.out.1.2.1,HE2.out.1.2.2.1,HE2.out.1.2.2.2,HE2.out.2⟩
      case measure=>simp[intOf] <;> omega
     ·have hs:bu si.bs k=[(5*k,0)]:=by
       unfold bu
       rw[if_neg hA,if_pos ⟨hF,by omega⟩]
      rw[hs]at HGo
      have e1:bR n [(5*k,0)] si=fR si n ((5*k:Nat):Int):=by
       rw[bR]
       by_cases h:fR si n ((5*k:Nat):Int)=0
       ·rw[if_pos h,h];rfl
       ·rw[if_neg h]
      have e2:bO n [(5*k,0)] si=gh si n ((5*k:Nat):Int) 0:=by
       rw[bO]
       by_cases h:fR si n ((5*k:Nat):Int)=0
       ·rw[if_pos h];rfl
       ·rw[if_neg h]
      have q6:=ig m g n si ((5*k:Nat):Int) 0 wr M1 (by omega) (by omega)
      rw[← e1,← e2]at q6
      obtain⟨E1,hE1⟩:∃ E1,bR n [(5*k,0)] si=E1:=⟨_,rfl⟩
      obtain⟨S1,hS1⟩:∃ S1,bO n [(5*k,0)] si=S1:=⟨_,rfl⟩
      simp only[hE1,hS1]at q6 HGo
      have hxi:¬ (x:Int)=0:=by omega
      have HO:Hid (_):=O1
      clear hE1 hS1 e1 e2 hs hA hF hO hx hx0 qo qk M1 O1
      go_wp2_with fail
      rw[show (1:Int) - (k:Int)=(o:Int) by omega]
      refine qo1.mono ?_
      rintro e w2 ⟨rfl,hw⟩
      rw[hw]
      clear hw qo1
      go_wp2_with fail
      refine qk1.mono ?_
      rintro e w2 ⟨rfl,hw⟩
      rw[hw]
      clear hw
      go_wp2_with fail
      refine qk1.mono ?_
      rintro e w2 ⟨rfl,hw⟩
      rw[hw]
      clear hw qk1
      go_wp2_with fail
      rw[show 5 * (k:Int)=((5*k:Nat):Int) by omega]
      refine q6.mono ?_
      rintro e w3 ⟨rfl,o3,m3⟩
      have H:Hid (_):=And.intro (HO.out.trans o3) m3
      clear m3 o3 q6 HO c0 cg hpl
      by_cases he:E1=0
      ·have HE:=HGo.out.1 he
       subst he
       have HE2:Hid (_):=HE
       clear HE HGo
       go_wp2_with fail
       go_roundw
       case rel=>exact⟨k+1,S1,by omega,by go_num,HE2.out.1,HE2.out.2.1,HE2.out.2.2.1,HE2.out.2.2.2,H.out.1,H.out.2⟩
       case measure=>simp[intOf] <;> omega
      ·obtain⟨rfl,rfl⟩:=HGo.out.2 he
       clear HGo
       go_wp2_with fail
       go_ret2
       exact⟨_,rfl,H.out.1,H.out.2,fun h=>absurd h he,fun _=>rfl⟩
  ·obtain rfl:k=2:=by omega
   have hE':(0:Int)=E:=hE
   have hS':si=S:=hS
   subst hE' hS'
   have lz:=O1.size
   have A1:RX (wr.alloc (.cells (RV m mx V false) 244)) wr.heap.size m mx V false:=⟨aB wr _⟩
   have H:Hid (_):=And.intro (O1.trans (Off.alloc [m,g] wr (.cells (RV m mx V false) 244))) (And.intro (M1.off (Off.alloc [] wr (.cells (RV m mx V false) 244)) (by simp) (by simp)) (And.intro lz A1))
   clear O1 M1 hE hS lz A1
   go_wp2_with fail
   go_ret2
   exact⟨_,rfl,H.out.1,H.out.2.1,_,rfl,H.out.2.2⟩
end Go.Proofs.YtdpahjfekoikiaaGreat
namespace Go.Proofs.YtdpahjfekoikiaaGreat
open Tryz
open Go.RowKit
def gc (mx n:Nat) (s:Ms):Int:=if mx=0∨n<10 then 2 else if s.off then 70 else bR n (be s.bs) s
def iy (mx n:Nat) (s:Ms):Ms:=if mx=0∨n<10 then s else if s.off then s else bO n (be s.bs) s
structure Nx where
 v:Nat
 e:Int
 s:Ms
 z:Nat→Nat
 c:Bool
def nx (mx n:Nat) (z:Nat→Nat) (cut:Bool) (s:Ms):Nx:=
 if cut=true∨s.off=true then ⟨0,70,s,z,cut⟩ else if mx≤vz z then ⟨0,80,s,z,cut⟩ else
 if bR n (bp (tg z) (vz z+1)) s=0 then ⟨vz z+1,0,bO n (bp (tg z) (vz z+1)) s,(bO n (bp (tg z) (vz z+1)) s).bs,false⟩ else ⟨0,70,bO n (bp (tg z) (vz z+1)) s,z,true⟩
theorem tb {n:Nat} {l:List (Nat × Nat)} {s:Ms} (hin:∀ x,x ∈ l→x.1<n∧x.2<256) (ho:s.off=false) (hl:0≤s.l):bR n l s=0∨bR n l s=70:=by
 rcases dN n l s (fun x hx=>(hin x hx).1) ho hl with ⟨h,_⟩ | ⟨h,_⟩
 ·exact .inl h
 ·exact .inr h
theorem uX {n:Nat} {l:List (Nat × Nat)} {s:Ms} (hin:∀ x,x ∈ l→x.1<n∧x.2<256) (ho:s.off=false) (hl:0≤s.l):(bO n l s).t≤s.t+l.length:=by
 rcases dN n l s (fun x hx=>(hin x hx).1) ho hl with ⟨_,h,_⟩ | ⟨_,h,_,h4⟩
 ·rw[h]
  exact Int.le_refl _
 ·rw[h]
  show s.t+s.l≤_
  omega
theorem vy (mx n:Nat) (z:Nat→Nat) (cut:Bool) (s:Ms) (hn:10≤n) (hl:0≤s.l):(nx mx n z cut s).s.t≤s.t+6:=by
 unfold nx
 split
 ·show s.t≤s.t+6;omega
 ·split
  ·show s.t≤s.t+6;omega
  ·rename_i h _
   have ho:s.off=false:=by cases hh:s.off <;> simp[hh]at h ⊢
   have:=uX (dw (tg z) (vz z+1) n (io z) hn) ho hl
   split
   ·exact this
   ·exact this
theorem uN (m g n mx:Nat) (s:Ms) (w:World) (hM:MR w m g n s) (ht:s.t<9223372036854774000) :
  Calls prog 26 #[aa m 0,.int .u32 (mx:Nat)] w fun e w'=>∃ p,e=.returned (.tuple #[.pointer p,.int .i64 (gc mx n s)])∧Hid (Off [m,g] w w'∧MR w' m g n (iy mx n s) ∧
   (gc mx n s=0→∃ c,p=ac c 0∧w.heap.size≤c∧CS w' c m mx (iy mx n s).bs false)∧(¬ gc mx n s=0→p=none)):=by
 unfold gc iy
 by_cases h1:mx=0∨n<10
 ·rw[if_pos h1,if_pos h1]
  refine (sJ m g n mx s w hM h1).mono ?_
  rintro e w' ⟨rfl,rfl⟩
  exact⟨_,rfl,Off.refl _ _,hM,fun h=>by omega,fun _=>rfl⟩
 ·rw[if_neg h1,if_neg h1]
  by_cases ho:s.off=true
  ·rw[if_pos ho,if_pos ho]
   refine (qH m g n mx s w hM (by omega) (by omega) ho).mono ?_
   rintro e w' ⟨rfl,o,M⟩
   exact⟨_,rfl,o,M,fun h=>by omega,fun _=>rfl⟩
  ·rw[if_neg ho,if_neg ho]
   refine (sI m g n mx s w hM (by omega) (by omega) (by simpa using ho) (by omega)).mono ?_
   rintro e w' ⟨p,rfl,H⟩
   obtain⟨o,M,C,D⟩:=H.out
   exact⟨p,rfl,o,M,fun h=>⟨_,(C h).1,Nat.le_refl _,(C h).2⟩,D⟩
theorem t4 (m g n mx:Nat) (s:Ms) (w:World) (hM:MR w m g n s) (h:gc mx n s=0):mx≠0∧10≤n∧vz (iy mx n s).bs=vz s.bs:=by
 unfold gc at h
 unfold iy
 by_cases h1:mx=0∨n<10
 ·rw[if_pos h1]at h;omega
 ·rw[if_neg h1]at h ⊢
  by_cases ho:s.off=true
  ·rw[if_pos ho]at h;omega
  ·rw[if_neg ho]at h ⊢
   refine⟨by omega,by omega,?_⟩
   rw[ja (gn s.bs n (by omega)) (by simpa using ho) hM.l0 h]
   have q:=jP s.bs 6 (fun i hi=>hM.byte i (by omega))
   rwa [List.take_of_length_le (qp s.bs)]at q
theorem uQ (m g n mx:Nat) (s:Ms) (w:World) (hM:RR w m g n s) (ht:s.t<9223372036854774000) :
  Calls prog 90 #[aa m 0,.int .u32 (mx:Nat)] w fun e w'=>∃ p,e=.returned (.tuple #[.pointer p,.int .i64 (gc mx n s)])∧Hid (Off [m,g] w w'∧RR w' m g n (iy mx n s) ∧
   (gc mx n s=0→∃ d,p=ac d 0∧w.heap.size≤d∧RX w' d m mx (vz s.bs) false)∧(¬ gc mx n s=0→p=none)):=by
 unfold gc iy
 by_cases h1:mx=0∨n<10
 ·rw[if_pos h1,if_pos h1]
  refine (qU m g n mx s w hM h1).mono ?_
  rintro e w' ⟨rfl,rfl⟩
  exact⟨_,rfl,Off.refl _ _,hM,fun h=>by omega,fun _=>rfl⟩
 ·rw[if_neg h1,if_neg h1]
  by_cases ho:s.off=true
  ·rw[if_pos ho,if_pos ho]
   refine (oP m g n mx s w hM (by omega) (by omega) ho).mono ?_
   rintro e w' ⟨rfl,rfl⟩
   exact⟨_,rfl,Off.refl _ _,hM,fun h=>by omega,fun _=>rfl⟩
  ·rw[if_neg ho,if_neg ho]
   exact qT m g n mx s w hM (by omega) (by omega) (by simpa using ho) ht
theorem uM (c m g n mx:Nat) (z:Nat→Nat) (cut:Bool) (s:Ms) (w:World) (hM:MR w m g n s) (hC:CS w c m mx z cut) (hz:Bz z) (hzs:cut=false→z=s.bs) (hcm:c≠m) (hcg:c≠g) (hn:10≤n) (hx:mx<4294967296) (ht:s.t<9223372036854774000) :
  Calls prog 207 #[aa c 0] w fun e w'=>e=.returned (.tuple #[.int .u32 ((nx mx n z cut s).v:Nat),.int .i64 (nx mx n z cut s).e]) ∧
   (Off [m,g,c] w w'∧MR w' m g n (nx mx n z cut s).s∧CS w' c m mx (nx mx n z cut s).z (nx mx n z cut s).c):=by
 unfold nx
 by_cases h1:cut=true∨s.off=true
 ·rw[if_pos h1]
  refine (qD c m g n mx z cut s w hM hC h1).mono ?_
  rintro e w' ⟨rfl,rfl⟩
  exact⟨rfl,Off.refl _ _,hM,hC⟩
 ·rw[if_neg h1]
  have hc:cut=false:=by cases cut <;> simp at h1 ⊢
  have ho:s.off=false:=by cases hh:s.off <;> simp[hh]at h1 ⊢
  subst hc
  by_cases h2:mx≤vz z
  ·rw[if_pos h2]
   refine (oH c m g n mx z s w hM hC hz ho h2).mono ?_
   rintro e w' ⟨rfl,rfl⟩
   exact⟨rfl,Off.refl _ _,hM,hC⟩
  ·rw[if_neg h2]
   obtain rfl:=hzs rfl
   have q:=sG c m g n mx s w hM hC hcm hcg hn hx ho (by omega) (by omega)
   by_cases h3:bR n (bp (tg s.bs) (vz s.bs+1)) s=0
   ·rw[if_pos h3]
    rw[if_pos h3]at q
    refine q.mono ?_
    rintro e w' ⟨rfl,o,M,C,_⟩
    exact⟨by rw[h3],o,M,C h3⟩
   ·rw[if_neg h3]
    rw[if_neg h3]at q
    have h4:=(tb (dw (tg s.bs) (vz s.bs+1) n (io _) hn) ho hM.l0).resolve_left h3
    refine q.mono ?_
    rintro e w' ⟨rfl,o,M,_,C⟩
    exact⟨by rw[h4],o,M,C h3⟩
section
variable {P:Program} {f:FuncId} {fn:Func}
end
theorem lw (a:Addr) (d:Int) (w:World) (h0:w.cell? a=some (.int .u64 d)) :
  Calls prog 69 #[.pointer (some a)] w fun e w'=>e=.returned (.int .u64 d)∧w'=w:=by
 have hl:=run_call_load (P:=prog) func111 (by kernel_rfl) (by kernel_rfl) (by kernel_rfl) .u64 (by kernel_rfl) h0
 go_enter func69,ntmps69
 go_wp2
 go_ret
 exact⟨rfl,rfl⟩
theorem tf (a:Addr) (x y:Int) (w:World) (h0:w.cell? a=some (.int .u64 x)) (hz:w.frozen? a=false) :
  Calls prog 71 #[.pointer (some a),.int .u64 x,.int .u64 y] w fun e w'=>e=.returned (.bool true)∧w'=w.setCell a (.int .u64 y):=by
 have hl:=run_call_cas_hit (P:=prog) func112 (by kernel_rfl) (by kernel_rfl) (by kernel_rfl) .u64 (by kernel_rfl) (y:=y) h0 hz
 go_enter func71,ntmps71
 go_wp2
 go_ret
 exact⟨rfl,rfl⟩
theorem qb (a:Addr) (d:Int) (w:World) (h0:w.cell? a=some (.int .i64 d)) :
  Calls prog 86 #[.pointer (some a)] w fun e w'=>e=.returned (.int .i64 d)∧w'=w:=by
 have hl:=run_call_load (P:=prog) func126 (by kernel_rfl) (by kernel_rfl) (by kernel_rfl) .i64 (by kernel_rfl) h0
 go_enter func86,ntmps86
 go_wp2
 go_ret
 exact⟨rfl,rfl⟩
theorem oD (a:Addr) (x y:Int) (w:World) (h0:w.cell? a=some (.int .i64 x)) (hz:w.frozen? a=false) :
  Calls prog 153 #[.pointer (some a),.int .i64 y] w fun e w'=>e=.returned (.tuple #[])∧w'=w.setCell a (.int .i64 y):=by
 have hl:=run_call_store (P:=prog) func185 (by kernel_rfl) (by kernel_rfl) (by kernel_rfl) (by kernel_rfl) (k:=.i64) (y:=y) h0 hz
 go_enter func153,ntmps153
 go_wp2
 go_end0
 exact⟨rfl,rfl⟩
end Go.Proofs.YtdpahjfekoikiaaGreat
namespace Go.Proofs.YtdpahjfekoikiaaGreat
open Tryz
open Go.RowKit
def DC (l c:Nat):Array Value:=#[.int .i64 l,.int .i64 c]
structure DR (w:World) (b l c:Nat):Prop where
 at_:w.heap[b]?=some (.cells (DC l c) 190 (0,0))
 lo:1≤l
 hi:l≤1048576
 le:c≤l
section
variable {w w':World} {b l c:Nat}
theorem DR.lt (h:DR w b l c):b<w.heap.size:=(Array.getElem?_eq_some_iff.1 h.at_).1
theorem DR.c1 (h:DR w b l c):w.cell? ⟨b,1,none⟩=some (.int .i64 c):=ab w b 1 _ _ _ h.at_
theorem DR.fz (h:DR w b l c) (j:Nat):w.frozen? ⟨b,j,none⟩=false:=frozen_of_row w b j _ _ h.at_
theorem DR.off {m:List Nat} (h:DR w b l c) (q:Off m w w') (hb:b ∉ m):DR w' b l c:=⟨(q.block b h.lt hb).trans h.at_,h.lo,h.hi,h.le⟩
theorem DR.set (h:DR w b l c) (x:Nat) (hx:x≤l):DR (w.setCell ⟨b,1,none⟩ (.int .i64 x)) b l x:=⟨heap_setCell_same _ _ _ _ _ _ h.at_,h.lo,h.hi,hx⟩
end
theorem nC (l:Nat) (w:World) (h1:1≤l) (h2:l≤1048576) :
  Calls prog 60 #[.int .i64 l] w fun e w'=>e=.returned (.tuple #[aa w.heap.size 0,.int .i64 0])∧(Off [] w w'∧DR w' w.heap.size l 0):=by
 go_enter func60,ntmps60
 go_wp2
 go_ret2
 exact⟨rfl,Off.alloc _ _ _,⟨aB w _,h1,h2,Nat.zero_le _⟩⟩
theorem jj (l c b:Nat) (w:World) (h:DR w b l c) :
  Calls prog 124 #[aa b 0] w fun e w'=>e=.returned (.tuple #[])∧(Off [b] w w'∧DR w' b l 0):=by
 have hs:=oD ⟨b,1,none⟩ c 0 w h.c1 (h.fz 1)
 have hk:Hid (Off [b] w (w.setCell ⟨b,1,none⟩ (.int .i64 ((0:Nat):Int)))∧DR (w.setCell ⟨b,1,none⟩ (.int .i64 ((0:Nat):Int))) b l 0):=⟨Off.setCell _ _ _ _,h.set _ (Nat.zero_le _)⟩
 clear h
 go_enter func124,ntmps124
 go_wp2_with fail
 refine hs.mono ?_
 rintro e w' ⟨rfl,hw⟩
 have hj:Hid (Off [b] w w'∧DR w' b l 0):=by rw[hw];exact hk
 clear hk hs hw
 go_wp2_with fail
 go_end0
 exact⟨rfl,hj.out⟩
theorem iu (l c b:Nat) (w:World) (h:DR w b l c) :
  Calls prog 44 #[aa b 0] w fun e w'=>e=.returned (.int .i64 c)∧w'=w:=by
 have hl:=qb _ _ w h.c1
 clear h
 go_enter func44,ntmps44
 go_wp2_with (go_at_call 86;refine hl.mono ?_;rintro e w' ⟨rfl,rfl⟩)
 go_ret
 exact⟨rfl,rfl⟩
end Go.Proofs.YtdpahjfekoikiaaGreat
