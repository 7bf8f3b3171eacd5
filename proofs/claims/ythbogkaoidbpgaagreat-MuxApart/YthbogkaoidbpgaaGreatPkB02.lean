/- Part 3 of the texts on which the proofs of layer 13 rest: contracts of Go functions. -/
import Derived.Deep.RegionHeld3
import Derived.Test.YthbogkaoidbpgaaGreatProg
import Derived.WalkKit
import Derived.WalkSpells
import Derived.OpenShut
import Derived.Laws.BitsAllLaws
import Derived.Laws.Pointers
import Derived.Laws.LoneSync
import Derived.Laws.NewBlocks
import Derived.Lib.Builder
import Derived.RegionTactic
import Derived.RegionCalls
import Derived.Deep.DeepCutAuto
import Derived.Deep.RegionWith
import Derived.Deep.QuietTactic
import Derived.Test.YthbogkaoidbpgaaGreatPkB00
import Derived.Test.YthbogkaoidbpgaaGreatPkB01
namespace Go.Proofs.YthbogkaoidbpgaaGreat
set_option maxRecDepth 100000
open Go.RowKit
def ofs (i:Nat):Nat:=[0,1,2,3,4,0].getD i 0
def byt (v i:Nat):Nat:=[0,bt v 0,bt v 1,bt v 2,bt v 3,165].getD i 0
theorem six_at (k v i:Nat) (hi:i<6):(six k v).drop i=(5*k+ofs i,byt v i) :: (six k v).drop (i+1):=by
 have:i=0∨i=1∨i=2∨i=3∨i=4∨i=5:=by omega
 rcases this with rfl | rfl | rfl | rfl | rfl | rfl <;> rfl
theorem ofs_lt (i:Nat) (hi:i<6):ofs i<5:=by
 have:i=0∨i=1∨i=2∨i=3∨i=4∨i=5:=by omega
 rcases this with rfl | rfl | rfl | rfl | rfl | rfl <;> decide
theorem byt_lt (v i:Nat) (hi:i<6):byt v i<256:=by
 have h:=bt_lt v
 have:i=0∨i=1∨i=2∨i=3∨i=4∨i=5:=by omega
 rcases this with rfl | rfl | rfl | rfl | rfl | rfl
 ·show 0<256;omega
 ·exact h 0
 ·exact h 1
 ·exact h 2
 ·exact h 3
 ·show 165<256;omega
theorem wr64 (n:Nat) (h:n<9223372036854775808):IntKind.i64.wrap (n:Int)=(n:Int):=by
 rw[IntKind.wrap_i64]
 omega
theorem wr_five (k x:Nat) (hk:k<2) (hx:x<5):IntKind.i64.wrap (IntKind.i64.wrap (5 * (k:Int)) + (x:Int))=((5*k+x:Nat):Int):=by
 rw[show 5 * (k:Int)=((5*k:Nat):Int) by omega,wr64 _ (by omega),show ((5*k:Nat):Int) + (x:Int)=((5*k+x:Nat):Int) by omega,wr64 _ (by omega)]
def A6:Array Value:=#[.int .i64 0,.int .i64 1,.int .i64 2,.int .i64 3,.int .i64 4,.int .i64 0]
def B6 (v:Nat):Array Value:=#[.int .u8 0,.int .u8 (bt v 0:Nat),.int .u8 (bt v 1:Nat),.int .u8 (bt v 2:Nat),.int .u8 (bt v 3:Nat),.int .u8 165]
structure S6 (w:World) (A B v:Nat):Prop where
 a:w.heap[A]?=some (.cells A6 3 (0,0))
 b:w.heap[B]?=some (.cells (B6 v) 5 (0,0))
theorem S6.off {l:List Nat} {w w':World} {A B v:Nat} (h:S6 w A B v) (q:Off l w w') (hA:A ∉ l) (hB:B ∉ l):S6 w' A B v:=
 ⟨(q.block A (Array.getElem?_eq_some_iff.1 h.a).1 hA).trans h.a,(q.block B (Array.getElem?_eq_some_iff.1 h.b).1 hB).trans h.b⟩
theorem S6.cells {w:World} {A B v:Nat} (h:S6 w A B v) (i:Nat) (hi:i<6):w.cell? ⟨A,i,none⟩=some (.int .i64 (ofs i:Nat))∧w.cell? ⟨B,i,none⟩=some (.int .u8 (byt v i:Nat)):=by
 refine⟨(cell_of_row w A i _ _ _ h.a).trans ?_,(cell_of_row w B i _ _ _ h.b).trans ?_⟩
 ·have:i=0∨i=1∨i=2∨i=3∨i=4∨i=5:=by omega
  rcases this with rfl | rfl | rfl | rfl | rfl | rfl <;> rfl
 ·have:i=0∨i=1∨i=2∨i=3∨i=4∨i=5:=by omega
  rcases this with rfl | rfl | rfl | rfl | rfl | rfl <;> rfl
theorem S6.new (w:World) (v:Nat):S6 ((w.alloc (.cells A6 3)).alloc (.cells (B6 v) 5)) w.heap.size (w.heap.size+1) v:=by
 have e:(w.alloc (.cells A6 3)).heap.size=w.heap.size+1:=by
  show (w.heap.push _).size=_
  rw[Array.size_push]
 refine⟨(heap_alloc_old _ _ (by omega)).trans (heap_alloc_new w _),?_⟩
 have h:=heap_alloc_new (w.alloc (.cells A6 3)) (.cells (B6 v) 5)
 rwa [e]at h
set_option maxRecDepth 100000 in
set_option maxHeartbeats 2000000 in
theorem rsix_any (m g n:Nat) (s:Ms) (k v:Nat) (w:World) (hM:RR w m g n s) (hk:k<2) (_hv:v<4294967296) (ht:s.t<9223372036854775000) :
  Calls Tryz.prog 135 #[.pointer (some ⟨m,0,none⟩),.int .i64 (k:Nat),.int .u32 (v:Nat)] w fun e w'=>e=.returned (.int .i64 (sqE n (six k v) s))∧(Off [m,g] w w'∧RR w' m g n (sqS n (six k v) s)):=by
 obtain⟨E,hE⟩:∃ E,sqE n ((six k v).drop 0) s=E:=⟨_,rfl⟩
 obtain⟨S,hS⟩:∃ S,sqS n ((six k v).drop 0) s=S:=⟨_,rfl⟩
 rw[show sqE n (six k v) s=E from hE,show sqS n (six k v) s=S from hS]
 have lm:=hM.lt
 have lg:=hM.lg
 have x0:(v:Int) / 16777216=((bt v 0:Nat):Int):=by
  have e:bt v 0=v / 16777216 % 256:=rfl
  omega
 have x1:(v:Int) / 65536 % 256=((bt v 1:Nat):Int):=by simp[bt]
 have x2:(v:Int) / 256 % 256=((bt v 2:Nat):Int):=by simp[bt]
 have x3:(v:Int) % 256=((bt v 3:Nat):Int):=by simp[bt]
 go_enter Tryz.func135,Tryz.ntmps135
 go_wp2_with fail
 have hA:Off [m,g] w ((w.alloc (.cells A6 3)).alloc (.cells (B6 v) 5)):=(Off.alloc _ _ _).trans (Off.alloc _ _ _)
 have hS6:=S6.new w v
 have hM2:=hM.off ((Off.alloc [] w (.cells A6 3)).trans (Off.alloc [] (w.alloc (.cells A6 3)) (.cells (B6 v) 5))) (by simp) (by simp)
 obtain⟨wa,hwa⟩:∃ wa,((w.alloc (.cells A6 3)).alloc (.cells (B6 v) 5))=wa:=⟨_,rfl⟩
 rw[hwa]at hA hS6 hM2
 change Code.wp _ _ _ _ ((w.alloc (.cells A6 3)).alloc (.cells (B6 v) 5))
 rw[hwa]
 clear hwa hM x0 x1 x2 x3
 have hAm:w.heap.size≠m∧w.heap.size≠g∧w.heap.size+1≠m∧w.heap.size+1≠g:=by omega
 generalize w.heap.size+1=B at *
 generalize w.heap.size=A at *
 go_loopw [6,9,10] (fun _ ci _ wr=>∃ (i:Nat) (si:Ms),i≤6∧ci=.int .i64 ((i:Nat):Int)∧sqE n ((six k v).drop i) si=E∧sqS n ((six k v).drop i) si=S∧si.t≤s.t+i∧Off [m,g] w wr∧RR wr m g n si∧S6 wr A B v) (fun _ ci _ _=>6 - (intOf ci).toNat)
 case atStart=>exact⟨0,s,by omega,rfl,hE,hS,by omega,hA,hM2,hS6⟩
 case round=>
  clear hE hS hA hM2 hS6
  obtain⟨i,si,hi,rfl,hE,hS,t1,O1,M1,C1⟩:=hrel
  by_cases hlt:i<6
  ·rw[six_at k v i hlt]at hE hS
   have hof:=ofs_lt i hlt
   have hby:=byt_lt v i hlt
   have M2:=M1.off (Off.drew [] wr) (by simp) (by simp)
   have q:=rwrite_any m g n si ((5*k+ofs i:Nat):Int) (byt v i) wr.drew M2 hby (by omega)
   have HS:=(C1.off (Off.drew [] wr) (by simp) (by simp)).cells i hlt
   have HC:Hid (_):=And.intro O1 C1
   obtain⟨x,hx⟩:∃ x,ofs i=x:=⟨_,rfl⟩
   obtain⟨y,hy⟩:∃ y,byt v i=y:=⟨_,rfl⟩
   rw[hx]at hE hS hof q HS
   rw[hy]at hE hS hby q HS
   have hp:=wr_five k x hk (by omega)
   have t2:=wrS_t si n ((5*k+x:Nat):Int) y
   have hcase:(wrE si n ((5*k+x:Nat):Int)=0∧sqE n ((six k v).drop (i+1)) (wrS si n ((5*k+x:Nat):Int) y)=E∧sqS n ((six k v).drop (i+1)) (wrS si n ((5*k+x:Nat):Int) y)=S)∨(¬ wrE si n ((5*k+x:Nat):Int)=0∧wrE si n ((5*k+x:Nat):Int)=E∧wrS si n ((5*k+x:Nat):Int) y=S):=by
    by_cases he:wrE si n ((5*k+x:Nat):Int)=0
    ·exact .inl ⟨he,sq_go hE hS he⟩
    ·exact .inr ⟨he,sq_stop hE hS he⟩
   obtain⟨r,hr⟩:∃ r,wrE si n ((5*k+x:Nat):Int)=r:=⟨_,rfl⟩
   obtain⟨s2,hs2⟩:∃ s2,wrS si n ((5*k+x:Nat):Int) y=s2:=⟨_,rfl⟩
   rw[hr,hs2]at q hcase
   rw[hs2]at t2
   rw[← hp]at q
   have HX:Hid (_):=And.intro hx hy
   clear hx hy M1 M2 O1 C1 hp hr hs2 hE hS
   rcases hcase with ⟨rfl,hE,hS⟩ | ⟨he,rfl,rfl⟩
   ·go_wp2_with fail
    go_region_held3 (fun w'=>w'.cell? ⟨A,i,none⟩=some (.int .i64 (x:Nat))∧w'.cell? ⟨B,i,none⟩=some (.int .u8 (y:Nat))) (assumption) (first
     | (go_at_call 137;refine q.mono ?_;rintro e w2 ⟨rfl,o2,m2⟩;have HT:=(HC.out.2.off ((Off.drew [m,g] wr).trans o2) (by simp;omega) (by simp;omega)).cells i hlt;rw[HX.out.1,HX.out.2]at HT;have h1:Hid (_):=And.intro o2 m2;clear o2 m2))
    clear HT HS q
    go_wp2_with fail
    go_roundw
    case rel=>exact⟨i+1,s2,by omega,by go_num,hE,hS,by omega,HC.out.1.trans ((Off.drew [m,g] wr).trans h1.out.1),h1.out.2,HC.out.2.off ((Off.drew [m,g] wr).trans h1.out.1) (by simp;omega) (by simp;omega)⟩
    case measure=>simp[intOf] <;> omega
   ·go_wp2_with fail
    go_region_held3 (fun w'=>w'.cell? ⟨A,i,none⟩=some (.int .i64 (x:Nat))∧w'.cell? ⟨B,i,none⟩=some (.int .u8 (y:Nat))) (assumption) (first
     | (go_at_call 137;refine q.mono ?_;rintro e w2 ⟨rfl,o2,m2⟩;have HT:=(HC.out.2.off ((Off.drew [m,g] wr).trans o2) (by simp;omega) (by simp;omega)).cells i hlt;rw[HX.out.1,HX.out.2]at HT;have h1:Hid (_):=And.intro o2 m2;clear o2 m2))
    clear HT HS q
    go_wp2_with fail
    go_ret
    exact⟨rfl,HC.out.1.trans ((Off.drew [m,g] wr).trans h1.out.1),h1.out.2⟩
  ·obtain rfl:i=6:=by omega
   have hE':(0:Int)=E:=hE
   have hS':si=S:=hS
   subst hE' hS'
   have H:Hid (_):=And.intro O1 M1
   clear O1 M1 C1 hE hS
   go_wp2_with fail
   go_ret
   exact⟨rfl,H.out⟩
def stpR (z:Nat→Nat) (k:Nat):List (Nat × Nat):=
 if z (5*k)≠165∧z (5 * (1-k))=165 then six k (wz z (1-k)) else if z (5*k)≠165∧z (5*k)≠0 then [(5*k,0)] else []
def rl (z:Nat→Nat) (k:Nat):List (Nat × Nat):=if k=0 then mend z else if k=1 then stpR z 1 else []
theorem rl_step (z:Nat→Nat) (k:Nat) (hk:k<2):rl z k=stpR z k ++ rl (lays (stpR z k) z) (k+1):=by
 have:k=0∨k=1:=by omega
 rcases this with rfl | rfl
 ·show mend z=stpR z 0 ++ stpR (lays (stpR z 0) z) 1
  by_cases h0:z 0=165
  ·have e0:stpR z 0=[]:=by simp[stpR,h0]
   rw[e0]
   by_cases h5:z 5=165
   ·simp[mend,stpR,lays,h0,h5]
   ·simp[mend,stpR,lays,h0,h5]
  ·by_cases h5:z 5=165
   ·have e0:stpR z 0=six 0 (wz z 1):=by simp[stpR,h0,h5]
    have e5:lays (six 0 (wz z 1)) z 5=165:=(six_else z 0 (wz z 1) 6 5 (by omega)).trans h5
    rw[e0]
    simp[mend,stpR,h0,h5,e5]
   ·by_cases hz:z 0=0
    ·have e0:stpR z 0=[]:=by simp[stpR,h5,hz]
     rw[e0]
     by_cases h:z 5=0 <;> simp[mend,stpR,lays,h5,hz,h]
    ·have e0:stpR z 0=[(0,0)]:=by simp[stpR,h0,h5,hz]
     rw[e0]
     by_cases h:z 5=0 <;> simp[mend,stpR,lays,lay,h0,h5,hz,h]
 ·simp[rl]
theorem sq_app (n:Nat):∀ (l r:List (Nat × Nat)) (s:Ms),sqE n (l ++ r) s=(if sqE n l s=0 then sqE n r (sqS n l s) else sqE n l s)∧sqS n (l ++ r) s=(if sqE n l s=0 then sqS n r (sqS n l s) else sqS n l s)
 | [],r,s=>by simp[sqE,sqS]
 | (p,c) :: l,r,s=>by
  have ih:=sq_app n l r (wrS s n (p:Nat) c)
  by_cases h:wrE s n (p:Nat)=0
  ·simp only[List.cons_append,sqE,sqS,if_pos h]
   exact ih
  ·simp only[List.cons_append,sqE,sqS,if_neg h]
   exact⟨trivial,trivial⟩
theorem app_go {n:Nat} {l r:List (Nat × Nat)} {s:Ms} {E:Int} {S:Ms} (hE:sqE n (l ++ r) s=E) (hS:sqS n (l ++ r) s=S) (h:sqE n l s=0):sqE n r (sqS n l s)=E∧sqS n r (sqS n l s)=S:=by
 obtain⟨h1,h2⟩:=sq_app n l r s
 rw[if_pos h]at h1 h2
 exact⟨h1.symm.trans hE,h2.symm.trans hS⟩
theorem app_stop {n:Nat} {l r:List (Nat × Nat)} {s:Ms} {E:Int} {S:Ms} (hE:sqE n (l ++ r) s=E) (hS:sqS n (l ++ r) s=S) (h:¬ sqE n l s=0):sqE n l s=E∧sqS n l s=S:=by
 obtain⟨h1,h2⟩:=sq_app n l r s
 rw[if_neg h]at h1 h2
 exact⟨h1.symm.trans hE,h2.symm.trans hS⟩
theorem stp_in (z:Nat→Nat) (k n:Nat) (hk:k<2) (hn:10≤n):∀ x,x ∈ stpR z k→x.1<n∧x.2<256:=by
 intro x hx
 unfold stpR at hx
 split at hx
 ·exact six_in k _ n hk hn x hx
 ·split at hx
  ·simp at hx
   subst hx
   exact⟨by simp only;omega,by simp only;omega⟩
  ·simp at hx
theorem stp_len (z:Nat→Nat) (k:Nat):(stpR z k).length≤6:=by
 unfold stpR
 split
 ·simp[six]
 ·split <;> simp
def RV (m mx v:Nat) (dead:Bool):Array Value:=#[.pointer (some ⟨m,0,none⟩),.int .u32 (mx:Nat),.int .u32 (v:Nat),.bool dead]
structure RX (w:World) (d m mx v:Nat) (dead:Bool):Prop where
 at_:w.heap[d]?=some (.cells (RV m mx v dead) 247 (0,0))
section
variable {w w':World} {d m mx v:Nat} {dead:Bool}
theorem RX.lt (h:RX w d m mx v dead):d<w.heap.size:=(Array.getElem?_eq_some_iff.1 h.at_).1
theorem RX.off {l:List Nat} (h:RX w d m mx v dead) (q:Off l w w') (hd:d ∉ l):RX w' d m mx v dead:=⟨(q.block d h.lt hd).trans h.at_⟩
theorem RX.cells (h:RX w d m mx v dead):w.cell? ⟨d,0,none⟩=some (.pointer (some ⟨m,0,none⟩))∧w.cell? ⟨d,1,none⟩=some (.int .u32 (mx:Nat))∧w.cell? ⟨d,2,none⟩=some (.int .u32 (v:Nat))∧w.cell? ⟨d,3,none⟩=some (.bool dead)∧∀ j,w.frozen? ⟨d,j,none⟩=false:=
 ⟨cell_of_row w d 0 _ _ _ h.at_,cell_of_row w d 1 _ _ _ h.at_,cell_of_row w d 2 _ _ _ h.at_,cell_of_row w d 3 _ _ _ h.at_,fun j=>frozen_of_row w d j _ _ h.at_⟩
theorem RX.setV (h:RX w d m mx v dead) (x:Nat):RX (w.setCell ⟨d,2,none⟩ (.int .u32 (x:Nat))) d m mx x dead:=⟨heap_setCell_same _ _ _ _ _ _ h.at_⟩
theorem RX.setD (h:RX w d m mx v dead) (b:Bool):RX (w.setCell ⟨d,3,none⟩ (.bool b)) d m mx v b:=⟨heap_setCell_same _ _ _ _ _ _ h.at_⟩
theorem RX.drewN (h:RX w d m mx v dead) (k:Nat):RX (w.drewN k) d m mx v dead:=h.off (Off.drewN [] _ k) (by simp)
end
theorem ropen_no (m g n mx:Nat) (s:Ms) (w:World) (hM:RR w m g n s) (h:mx=0∨n<10) :
  Calls Tryz.prog 76 #[.pointer (some ⟨m,0,none⟩),.int .u32 (mx:Nat)] w fun e w'=>e=.returned (.tuple #[.pointer none,.int .i64 2])∧w'=w:=by
 obtain⟨a,cap,c0,_⟩:=hM.cells
 clear hM
 by_cases h0:mx=0
 ·subst h0
  clear h
  go_enter Tryz.func76,Tryz.ntmps76
  go_wp2_with fail
  go_ret2
  exact⟨rfl,rfl⟩
 ·have h1:decide ((n:Int)<10)=true:=by simp;omega
  have h2:((mx:Int) == 0)=false:=by simpa using h0
  clear h h0
  go_enter Tryz.func76,Tryz.ntmps76
  go_wp2_with fail
  go_ret2
  exact⟨rfl,rfl⟩
theorem ropen_off (m g n mx:Nat) (s:Ms) (w:World) (hM:RR w m g n s) (hn:10≤n) (h0:mx≠0) (ho:s.off=true) :
  Calls Tryz.prog 76 #[.pointer (some ⟨m,0,none⟩),.int .u32 (mx:Nat)] w fun e w'=>e=.returned (.tuple #[.pointer none,.int .i64 70])∧w'=w:=by
 obtain⟨a,cap,c0,_,_,c1,_⟩:=hM.cells
 rw[ho]at c1
 have h1:decide ((n:Int)<10)=false:=by simp;omega
 have h2:((mx:Int) == 0)=false:=by simpa using h0
 clear hM
 go_enter Tryz.func76,Tryz.ntmps76
 go_wp2_with fail
 go_ret2
 exact⟨rfl,rfl⟩
set_option maxRecDepth 100000 in
set_option maxHeartbeats 4000000 in
theorem ropen_go (m g n mx:Nat) (s:Ms) (w:World) (hM:RR w m g n s) (hn:10≤n) (h0:mx≠0) (ho:s.off=false) (ht:s.t<9223372036854774000) :
  Calls Tryz.prog 76 #[.pointer (some ⟨m,0,none⟩),.int .u32 (mx:Nat)] w fun e w'=>
   ∃ p,e=.returned (.tuple #[.pointer p,.int .i64 (sqE n (mend s.bs) s)])∧Hid (Off [m,g] w w'∧RR w' m g n (sqS n (mend s.bs) s)∧(sqE n (mend s.bs) s=0→∃ d,p=some ⟨d,0,none⟩∧w.heap.size≤d∧RX w' d m mx (vz s.bs) false)∧(¬ sqE n (mend s.bs) s=0→p=none)):=by
 obtain⟨E,hE⟩:∃ E,sqE n (rl s.bs 0) s=E:=⟨_,rfl⟩
 obtain⟨S,hS⟩:∃ S,sqS n (rl s.bs 0) s=S:=⟨_,rfl⟩
 rw[show sqE n (mend s.bs) s=E from hE,show sqS n (mend s.bs) s=S from hS]
 obtain⟨a,cap,c0,_,_,c1,_⟩:=hM.cells
 rw[ho]at c1
 have h1:decide ((n:Int)<10)=false:=by simp;omega
 have h2:((mx:Int) == 0)=false:=by simpa using h0
 have qv:=rvalue_any m g n s w hM hn
 obtain⟨V,hV⟩:∃ V,vz s.bs=V:=⟨_,rfl⟩
 rw[hV]at qv ⊢
 clear hV
 have HM:Hid (_):=hM
 clear hM
 go_enter Tryz.func76,Tryz.ntmps76
 go_wp2_with fail
 refine qv.mono ?_
 rintro e w1 ⟨rfl,j,rfl⟩
 have M1:=HM.out.drewN j
 clear HM qv c0 c1
 go_wp2_with fail
 go_loopw [4,5,7,8,9] (fun _ _ ck _ _ wr=>∃ (k:Nat) (si:Ms),k≤2∧ck=.int .i64 ((k:Nat):Int)∧sqE n (rl si.bs k) si=E∧sqS n (rl si.bs k) si=S∧si.off=false∧si.t≤s.t+6 * (k:Int)∧Off [m,g] w wr∧RR wr m g n si) (fun _ _ ck _ _ _=>2 - (intOf ck).toNat)
 case atStart=>exact⟨0,s,by omega,rfl,hE,hS,ho,by omega,Off.drewN _ _ _,M1⟩
 case round=>
  clear hE hS M1 ho
  obtain⟨k,si,hk,rfl,hE,hS,ho,t1,O1,M1⟩:=hrel
  by_cases hlt:k<2
  ·rw[rl_step si.bs k hlt]at hE hS
   obtain⟨o,hko⟩:∃ o,1-k=o:=⟨_,rfl⟩
   have ho2:o<2:=by omega
   have hb:=fun h=>sq_bs (stp_in si.bs k n hlt hn) ho M1.l0 h
   have ha:=sq_all n (stpR si.bs k) si (fun x hx=>(stp_in si.bs k n hlt hn x hx).1) ho M1.l0
   have hlen:=stp_len si.bs k
   have hgo:sqE n (stpR si.bs k) si=0→sqE n (rl (sqS n (stpR si.bs k) si).bs (k+1)) (sqS n (stpR si.bs k) si)=E∧sqS n (rl (sqS n (stpR si.bs k) si).bs (k+1)) (sqS n (stpR si.bs k) si)=S∧(sqS n (stpR si.bs k) si).off=false∧(sqS n (stpR si.bs k) si).t≤s.t+6 * ((k+1:Nat):Int):=fun h=>by
    rw[hb h]
    refine⟨(app_go hE hS h).1,(app_go hE hS h).2,?_⟩
    rcases ha with ⟨_,h2,_⟩ | ⟨h1,_⟩
    ·rw[h2]
     refine⟨rfl,?_⟩
     show si.t + ((stpR si.bs k).length:Int)≤_
     omega
    ·omega
   have hstop:¬ sqE n (stpR si.bs k) si=0→sqE n (stpR si.bs k) si=E∧sqS n (stpR si.bs k) si=S:=fun h=>app_stop hE hS h
   have HGo:Hid (_):=And.intro hgo hstop
   have qo:=fun b h=>rholds_is m g n o si wr M1 ho2 hn b h
   have qk:=fun b h=>rholds_is m g n k si wr M1 hlt hn b h
   clear hE hS hb ha hlen hgo hstop
   by_cases hA:si.bs (5*k)≠165∧si.bs (5 * (1-k))=165
   ·have hs:stpR si.bs k=six k (wz si.bs (1-k)):=if_pos hA
    rw[hs,hko]at HGo
    rw[hko]at hA
    have qo1:=qo true (by simp[hA.2])
    have qk1:=qk false (by simp[hA.1])
    have qw:=rcword_any m g n o si wr M1 ho2 hn
    have hwl:=wz_lt (z:=si.bs) (fun i hi=>M1.byte i (by omega)) o ho2
    have q6:=fun j=>rsix_any m g n si k (wz si.bs o) (wr.drewN j) (M1.drewN j) hlt hwl (by omega)
    clear qo qk hs hA M1 hwl
    generalize wz si.bs o=x at *
    obtain⟨E1,hE1⟩:∃ E1,sqE n (six k x) si=E1:=⟨_,rfl⟩
    obtain⟨S1,hS1⟩:∃ S1,sqS n (six k x) si=S1:=⟨_,rfl⟩
    simp only[hE1,hS1]at q6 HGo
    clear hE1 hS1
    go_wp2_with fail
    rw[show (1:Int) - (k:Int)=(o:Int) by omega]
    refine qo1.mono ?_
    rintro e w2 ⟨rfl,hw⟩
    rw[hw]
    clear hw qo1
    go_wp2_with fail
    refine qk1.mono ?_
    rintro e w2 ⟨rfl,hw⟩
    rw[hw]
    clear hw qk1
    go_wp2_with fail
    rw[show (1:Int) - (k:Int)=(o:Int) by omega]
    refine qw.mono ?_
    rintro e w2 ⟨rfl,j2,rfl⟩
    clear qw
    go_wp2_with fail
    refine (q6 j2).mono ?_
    rintro e w3 ⟨rfl,o3,m3⟩
    have O3:Off [m,g] w w3:=(O1.trans (Off.drewN _ _ _)).trans o3
    have H:Hid (_):=And.intro O3 m3
    clear O3 m3 o3 q6 O1
    by_cases he:E1=0
    ·have HE:=HGo.out.1 he
     subst he
     have HE2:Hid (_):=HE
     clear HE HGo
     go_wp2_with fail
     go_roundw
     case rel=>exact⟨k+1,S1,by omega,by go_num,HE2.out.1,HE2.out.2.1,HE2.out.2.2.1,HE2.out.2.2.2,H.out.1,H.out.2⟩
     case measure=>simp[intOf] <;> omega
    ·obtain⟨rfl,rfl⟩:=HGo.out.2 he
     clear HGo
     go_wp2_with fail
     go_ret2
     exact⟨_,rfl,H.out.1,H.out.2,fun h=>absurd h he,fun _=>rfl⟩
   ·by_cases hF:si.bs (5*k)=165
    ·have hs:stpR si.bs k=[]:=by
      unfold stpR
      rw[if_neg hA,if_neg (fun h=>h.1 hF)]
     rw[hs]at HGo
     have HE:=HGo.out.1 rfl
     rw[show sqS n [] si=si from rfl]at HE
     obtain⟨b,hb⟩:∃ b,decide (si.bs (5*o)=165)=b:=⟨_,rfl⟩
     have qo1:=qo b hb
     have qk1:=qk true (by simp[hF])
     have HE2:Hid (_):=And.intro HE (And.intro O1 M1)
     clear HE HGo qo qk hs hA hb M1 O1
     go_wp2_with fail
     rw[show (1:Int) - (k:Int)=(o:Int) by omega]
     refine qo1.mono ?_
     rintro e w2 ⟨rfl,hw⟩
     rw[hw]
     clear hw qo1
     go_wp2_with fail
     refine qk1.mono ?_
     rintro e w2 ⟨rfl,hw⟩
     rw[hw]
     clear hw
     go_wp2_with fail
     refine qk1.mono ?_
     rintro e w2 ⟨rfl,hw⟩
     rw[hw]
     clear hw qk1
     go_wp2_with fail
     go_roundw
     case rel=>exact⟨k+1,si,by omega,by go_num,HE2.out.1.1,HE2.out.1.2.1,HE2.out.1.2.2.1,HE2.out.1.2.2.2,HE2.out.2⟩
     case measure=>simp[intOf] <;> omega
    ·have hO:¬ si.bs (5*o)=165:=by
      rw[hko]at hA
      exact fun h=>hA ⟨hF,h⟩
     have qo1:=qo false (by simp[hO])
     have qk1:=qk false (by simp[hF])
     obtain⟨a,cap,c0,_,hpl,_⟩:=M1.cells
     obtain⟨hgb,rfl⟩:=hpl (by omega)
     obtain⟨cg,_⟩:=M1.held (5*k) (by omega)
     obtain⟨x,hx⟩:∃ x,si.bs (5*k)=x:=⟨_,rfl⟩
     rw[hx]at cg
     by_cases hx0:x=0
     ·have hs:stpR si.bs k=[]:=by
       unfold stpR
       rw[if_neg hA,if_neg (fun h=>h.2 (by omega))]
      rw[hs]at HGo
      have HE:=HGo.out.1 rfl
      rw[show sqS n [] si=si from rfl]at HE
      have HE2:Hid (_):=And.intro HE (And.intro O1 M1)
      clear HE HGo qo qk hs hA M1 O1 hx hF hO
      subst hx0
      go_wp2_with fail
      rw[show (1:Int) - (k:Int)=(o:Int) by omega]
      refine qo1.mono ?_
      rintro e w2 ⟨rfl,hw⟩
      rw[hw]
      clear hw qo1
      go_wp2_with fail
      refine qk1.mono ?_
      rintro e w2 ⟨rfl,hw⟩
      rw[hw]
      clear hw
      go_wp2_with fail
      refine qk1.mono ?_
      rintro e w2 ⟨rfl,hw⟩
      rw[hw]
      clear hw qk1
      go_wp2_with fail
      go_roundw
      case rel=>exact⟨k+1,si,by omega,by go_num,HE2.out.1.1,HE2.out.1.2.1,HE2.out.1.2.2.1,HE2.out.1.2.2.2,HE2.out.2⟩
      case measure=>simp[intOf] <;> omega
     ·have hs:stpR si.bs k=[(5*k,0)]:=by
       unfold stpR
       rw[if_neg hA,if_pos ⟨hF,by omega⟩]
      rw[hs]at HGo
      have e1:sqE n [(5*k,0)] si=wrE si n ((5*k:Nat):Int):=by
       rw[sqE]
       by_cases h:wrE si n ((5*k:Nat):Int)=0
       ·rw[if_pos h,h];rfl
       ·rw[if_neg h]
      have e2:sqS n [(5*k,0)] si=wrS si n ((5*k:Nat):Int) 0:=by
       rw[sqS]
       by_cases h:wrE si n ((5*k:Nat):Int)=0
       ·rw[if_pos h];rfl
       ·rw[if_neg h]
      have q6:=rwrite_any m g n si ((5*k:Nat):Int) 0 wr M1 (by omega) (by omega)
      rw[← e1,← e2]at q6
      obtain⟨E1,hE1⟩:∃ E1,sqE n [(5*k,0)] si=E1:=⟨_,rfl⟩
      obtain⟨S1,hS1⟩:∃ S1,sqS n [(5*k,0)] si=S1:=⟨_,rfl⟩
      simp only[hE1,hS1]at q6 HGo
      have hxi:¬ (x:Int)=0:=by omega
      have HO:Hid (_):=O1
      clear hE1 hS1 e1 e2 hs hA hF hO hx hx0 qo qk M1 O1
      go_wp2_with fail
      rw[show (1:Int) - (k:Int)=(o:Int) by omega]
      refine qo1.mono ?_
      rintro e w2 ⟨rfl,hw⟩
      rw[hw]
      clear hw qo1
      go_wp2_with fail
      refine qk1.mono ?_
      rintro e w2 ⟨rfl,hw⟩
      rw[hw]
      clear hw
      go_wp2_with fail
      refine qk1.mono ?_
      rintro e w2 ⟨rfl,hw⟩
      rw[hw]
      clear hw qk1
      go_wp2_with fail
      rw[show 5 * (k:Int)=((5*k:Nat):Int) by omega]
      refine q6.mono ?_
      rintro e w3 ⟨rfl,o3,m3⟩
      have H:Hid (_):=And.intro (HO.out.trans o3) m3
      clear m3 o3 q6 HO c0 cg hpl
      by_cases he:E1=0
      ·have HE:=HGo.out.1 he
       subst he
       have HE2:Hid (_):=HE
       clear HE HGo
       go_wp2_with fail
       go_roundw
       case rel=>exact⟨k+1,S1,by omega,by go_num,HE2.out.1,HE2.out.2.1,HE2.out.2.2.1,HE2.out.2.2.2,H.out.1,H.out.2⟩
       case measure=>simp[intOf] <;> omega
      ·obtain⟨rfl,rfl⟩:=HGo.out.2 he
       clear HGo
       go_wp2_with fail
       go_ret2
       exact⟨_,rfl,H.out.1,H.out.2,fun h=>absurd h he,fun _=>rfl⟩
  ·obtain rfl:k=2:=by omega
   have hE':(0:Int)=E:=hE
   have hS':si=S:=hS
   subst hE' hS'
   have lz:=O1.size
   have A1:RX (wr.alloc (.cells (RV m mx V false) 247)) wr.heap.size m mx V false:=⟨heap_alloc_new wr _⟩
   have H:Hid (_):=And.intro (O1.trans (Off.alloc [m,g] wr (.cells (RV m mx V false) 247))) (And.intro (M1.off (Off.alloc [] wr (.cells (RV m mx V false) 247)) (by simp) (by simp)) (And.intro lz A1))
   clear O1 M1 hE hS lz A1
   go_wp2_with fail
   go_ret2
   exact⟨_,rfl,H.out.1,H.out.2.1,_,rfl,H.out.2.2⟩
end Go.Proofs.YthbogkaoidbpgaaGreat
namespace Go.Proofs.YthbogkaoidbpgaaGreat
set_option maxRecDepth 100000
open Go.RowKit
theorem rnext_cut (d m g n mx v:Nat) (dead:Bool) (s:Ms) (w:World) (hM:RR w m g n s) (hC:RX w d m mx v dead) (h:dead=true∨s.off=true) :
  Calls Tryz.prog 156 #[.pointer (some ⟨d,0,none⟩)] w fun e w'=>e=.returned (.tuple #[.int .u32 0,.int .i64 70])∧w'=w:=by
 obtain⟨c0,c1,c2,c3,_⟩:=hC.cells
 obtain⟨_,_,_,_,_,m1,_⟩:=hM.cells
 clear hM hC
 cases dead
 ·rw[h.resolve_left (by simp)]at m1
  clear h
  go_enter Tryz.func156,Tryz.ntmps156
  go_wp2_with fail
  go_ret2
  exact⟨rfl,rfl⟩
 ·clear h m1
  go_enter Tryz.func156,Tryz.ntmps156
  go_wp2_with fail
  go_ret2
  exact⟨rfl,rfl⟩
theorem rnext_full (d m g n mx v:Nat) (s:Ms) (w:World) (hM:RR w m g n s) (hC:RX w d m mx v false) (ho:s.off=false) (h:mx≤v) :
  Calls Tryz.prog 156 #[.pointer (some ⟨d,0,none⟩)] w fun e w'=>e=.returned (.tuple #[.int .u32 0,.int .i64 80])∧∃ j,w'=w.drewN j:=by
 obtain⟨c0,c1,c2,c3,_⟩:=hC.cells
 obtain⟨_,_,_,_,_,m1,_⟩:=hM.cells
 rw[ho]at m1
 clear hM hC
 go_enter Tryz.func156,Tryz.ntmps156
 go_wp2_with fail
 go_quiet (fail)
 go_wp2_with fail
 go_ret2
 exact⟨rfl,_,rfl⟩
theorem quiet_more {P:Program} {f:FuncId} {args:Array Value} {w:World} {n:Nat} {v:Value} (h:Calls P f args (w.drewN n) fun e w'=>e=.returned v∧∃ j,w'=(w.drewN n).drewN j) :
  Calls P f args (w.drewN n) fun e w''=>e=.returned v∧∃ m,w''=w.drewN m:=
 h.mono fun _ _ ⟨he,j,hm⟩=>⟨he,n+j,by rw[hm,World.drewN_drewN]⟩
set_option maxRecDepth 100000 in
set_option maxHeartbeats 4000000 in
theorem rnext_go (d m g n mx v:Nat) (s:Ms) (w:World) (hM:RR w m g n s) (hC:RX w d m mx v false) (hdm:d≠m) (hdg:d≠g) (hn:10≤n) (hx:mx<4294967296) (ho:s.off=false) (h:v<mx) (ht:s.t<9223372036854775000) :
  Calls Tryz.prog 156 #[.pointer (some ⟨d,0,none⟩)] w fun e w'=>e=.returned (.tuple #[.int .u32 ((if sqE n (six (tg s.bs) (v+1)) s=0 then v+1 else 0:Nat):Int),.int .i64 (if sqE n (six (tg s.bs) (v+1)) s=0 then 0 else 70)]) ∧
   (Off [m,g,d] w w'∧RR w' m g n (sqS n (six (tg s.bs) (v+1)) s)∧(sqE n (six (tg s.bs) (v+1)) s=0→RX w' d m mx (v+1) false)∧(¬ sqE n (six (tg s.bs) (v+1)) s=0→RX w' d m mx v true)):=by
 obtain⟨c0,c1,c2,c3,_⟩:=hC.cells
 obtain⟨_,_,_,_,_,m1,_⟩:=hM.cells
 rw[ho]at m1
 have q0:∀ b,decide (s.bs 0=165)=b→∀ i j,Calls Tryz.prog 134 #[.pointer (some ⟨m,0,none⟩),.int .i64 0] ((w.drewN i).drewN j) fun e w'=>e=.returned (.bool b)∧w'=(w.drewN i).drewN j:=fun b hb i j=>rholds_is m g n 0 s _ ((hM.drewN i).drewN j) (by omega) hn b hb
 have q1:∀ b,decide (s.bs 5=165)=b→∀ i j,Calls Tryz.prog 134 #[.pointer (some ⟨m,0,none⟩),.int .i64 1] ((w.drewN i).drewN j) fun e w'=>e=.returned (.bool b)∧w'=(w.drewN i).drewN j:=fun b hb i j=>rholds_is m g n 1 s _ ((hM.drewN i).drewN j) (by omega) hn b hb
 have q2:∀ i j,Calls Tryz.prog 136 #[.pointer (some ⟨m,0,none⟩),.int .i64 0] ((w.drewN i).drewN j) fun e w'=>e=.returned (.int .u32 (wz s.bs 0:Nat))∧∃ l,w'=((w.drewN i).drewN j).drewN l:=fun i j=>rcword_any m g n 0 s _ ((hM.drewN i).drewN j) (by omega) hn
 have q3:∀ i j,Calls Tryz.prog 136 #[.pointer (some ⟨m,0,none⟩),.int .i64 1] ((w.drewN i).drewN j) fun e w'=>e=.returned (.int .u32 (wz s.bs 1:Nat))∧∃ l,w'=((w.drewN i).drewN j).drewN l:=fun i j=>rcword_any m g n 1 s _ ((hM.drewN i).drewN j) (by omega) hn
 have hk:=tg_lt s.bs
 have q6:=fun w' (h:RR w' m g n s)=>rsix_any m g n s (tg s.bs) (v+1) w' h hk (by omega) ht
 obtain⟨E,hE⟩:∃ E,sqE n (six (tg s.bs) (v+1)) s=E:=⟨_,rfl⟩
 obtain⟨S,hS⟩:∃ S,sqS n (six (tg s.bs) (v+1)) s=S:=⟨_,rfl⟩
 simp only[hE,hS]at q6 ⊢
 clear hE hS
 obtain⟨r1,hr1⟩:∃ r,(if E=0 then v+1 else 0)=r:=⟨_,rfl⟩
 obtain⟨r2,hr2⟩:∃ r,(if E=0 then (0:Int) else 70)=r:=⟨_,rfl⟩
 rw[hr1,hr2]
 have HR:Hid (_):=And.intro hr1 hr2
 clear hr1 hr2
 have HC:Hid (_):=hC
 have HT:Hid (tg s.bs=if s.bs 0=165∧(s.bs 5≠165∨wz s.bs 1<wz s.bs 0) then 1 else 0):=show _=_ from rfl
 obtain⟨k,hkk⟩:∃ k,tg s.bs=k:=⟨_,rfl⟩
 rw[hkk]at q6 HT hk
 have hp:IntKind.u32.wrap ((v:Int)+1)=((v+1:Nat):Int):=by
  rw[IntKind.wrap_u32]
  omega
 have HP:Hid (_):=hp
 have HM:Hid (_):=hM
 clear hM hC hkk hp
 by_cases h0:s.bs 0=165
 ·have q0':=q0 true (by simp[h0])
  by_cases h5:s.bs 5=165
  ·have q1':=q1 true (by simp[h5])
   generalize wz s.bs 0=x at *
   generalize wz s.bs 1=y at *
   by_cases hxy:y<x
   ·have hk1:=HT.out
    rw[if_pos ⟨h0,.inr hxy⟩]at hk1
    subst hk1
    clear HT q0 q1 h0 h5 hk
    go_enter Tryz.func156,Tryz.ntmps156
    go_wp2_with fail
    go_quiet (fail)
    go_wp2_with fail
    have Q0:=q0' nq
    have Q1:=q1' nq
    have Q2:=q2 nq
    have Q3:=q3 nq
    have C1:=HC.out.drewN nq
    have M1:=HM.out.drewN nq
    have O1:Off [m,g,d] w (w.drewN nq):=Off.drewN _ _ _
    clear q0' HC HM c0 c1 c2 c3 m1 q2 q3 q1'
    generalize w.drewN nq=wq at *
    obtain⟨c0,c1,c2,c3,_⟩:=C1.cells
    go_quiet ((first | (go_at_call_of 134 (Value.int .i64 0);exact Calls.quiet_of_same (Q0 _)) | (go_at_call_of 134 (Value.int .i64 1);exact Calls.quiet_of_same (Q1 _)) | (go_at_call_of 136 (Value.int .i64 0);exact quiet_more (Q2 _)) | (go_at_call_of 136 (Value.int .i64 1);exact quiet_more (Q3 _))))
    go_wp2_with fail
    have C2:=C1.drewN nq
    have M2:=M1.drewN nq
    have O2:Off [m,g,d] w (wq.drewN nq):=O1.trans (Off.drewN _ _ _)
    clear c0 c1 c2 c3 C1 M1 O1 Q0 Q1 Q2 Q3
    generalize wq.drewN nq=wp at *
    have Q6:Calls Tryz.prog 135 #[.pointer (some ⟨m,0,none⟩),.int .i64 1,.int .u32 (IntKind.u32.wrap ((v:Int)+1))] wp.drew fun e w'=>e=.returned (.int .i64 E)∧(Off [m,g] wp.drew w'∧RR w' m g n S):=by
     rw[HP.out]
     exact q6 _ (M2.off (Off.drew [] wp) (by simp) (by simp))
    have HS:wp.drew.cell? ⟨d,0,none⟩=some (.pointer (some ⟨m,0,none⟩))∧wp.drew.cell? ⟨d,2,none⟩=some (.int .u32 (v:Nat)):=⟨C2.cells.1,C2.cells.2.2.1⟩
    have HC:Hid (_):=And.intro O2 C2
    clear q6 M2 O2 C2
    go_region_held3 (fun w'=>w'.cell? ⟨d,0,none⟩=some (.pointer (some ⟨m,0,none⟩))∧w'.cell? ⟨d,2,none⟩=some (.int .u32 (v:Nat))) (assumption) (first
     | (go_at_call 135;refine Q6.mono ?_;rintro e w2 ⟨rfl,o2,m2⟩;have C3:=HC.out.2.off ((Off.drew [m,g] wp).trans o2) (by simp;omega);have HT:w2.cell? ⟨d,0,none⟩=some (.pointer (some ⟨m,0,none⟩))∧w2.cell? ⟨d,2,none⟩=some (.int .u32 (v:Nat)):=⟨C3.cells.1,C3.cells.2.2.1⟩;have h1:Hid (_):=And.intro (HC.out.1.trans ((Off.drew [m,g,d] wp).trans o2.three)) (And.intro m2 C3);clear o2 m2 C3))
    clear HS HT Q6 HC
    obtain⟨_,_,d2,d3,fz⟩:=h1.out.2.2.cells
    have f2:=fz 2
    have f3:=fz 3
    clear fz
    by_cases he:E=0
    ·subst he
     have hr:=HR.out
     rw[if_pos rfl,if_pos rfl]at hr
     obtain⟨rfl,rfl⟩:=hr
     clear HR
     go_wp2_with fail
     go_ret2
     have q1:Off [d] w2 (w2.setCell ⟨d,2,none⟩ (.int .u32 ((v+1:Nat):Int))):=Off.setCell d 2 _ _
     obtain⟨O,M,C⟩:=h1.out
     exact⟨rfl,O.trans q1.three',M.off q1 (by simp;omega) (by simp;omega),C.setV (v+1)⟩
    ·have hr:=HR.out
     rw[if_neg he,if_neg he]at hr
     obtain⟨rfl,rfl⟩:=hr
     clear HR
     go_wp2_with fail
     go_ret2
     have q1:Off [d] w2 (w2.setCell ⟨d,3,none⟩ (.bool true)):=Off.setCell d 3 _ _
     obtain⟨O,M,C⟩:=h1.out
     exact⟨rfl,O.trans q1.three',M.off q1 (by simp;omega) (by simp;omega),fun h=>absurd h he,fun _=>C.setD true⟩
   ·have hk1:=HT.out
    rw[if_neg (by omega)]at hk1
    subst hk1
    clear HT q0 q1 h0 h5 hk
    go_enter Tryz.func156,Tryz.ntmps156
    go_wp2_with fail
    go_quiet (fail)
    go_wp2_with fail
    have Q0:=q0' nq
    have Q1:=q1' nq
    have Q2:=q2 nq
    have Q3:=q3 nq
    have C1:=HC.out.drewN nq
    have M1:=HM.out.drewN nq
    have O1:Off [m,g,d] w (w.drewN nq):=Off.drewN _ _ _
    clear q0' HC HM c0 c1 c2 c3 m1 q2 q3 q1'
    generalize w.drewN nq=wq at *
    obtain⟨c0,c1,c2,c3,_⟩:=C1.cells
    go_quiet ((first | (go_at_call_of 134 (Value.int .i64 0);exact Calls.quiet_of_same (Q0 _)) | (go_at_call_of 134 (Value.int .i64 1);exact Calls.quiet_of_same (Q1 _)) | (go_at_call_of 136 (Value.int .i64 0);exact quiet_more (Q2 _)) | (go_at_call_of 136 (Value.int .i64 1);exact quiet_more (Q3 _))))
    go_wp2_with fail
    have C2:=C1.drewN nq
    have M2:=M1.drewN nq
    have O2:Off [m,g,d] w (wq.drewN nq):=O1.trans (Off.drewN _ _ _)
    clear c0 c1 c2 c3 C1 M1 O1 Q0 Q1 Q2 Q3
    generalize wq.drewN nq=wp at *
    have Q6:Calls Tryz.prog 135 #[.pointer (some ⟨m,0,none⟩),.int .i64 0,.int .u32 (IntKind.u32.wrap ((v:Int)+1))] wp.drew fun e w'=>e=.returned (.int .i64 E)∧(Off [m,g] wp.drew w'∧RR w' m g n S):=by
     rw[HP.out]
     exact q6 _ (M2.off (Off.drew [] wp) (by simp) (by simp))
    have HS:wp.drew.cell? ⟨d,0,none⟩=some (.pointer (some ⟨m,0,none⟩))∧wp.drew.cell? ⟨d,2,none⟩=some (.int .u32 (v:Nat)):=⟨C2.cells.1,C2.cells.2.2.1⟩
    have HC:Hid (_):=And.intro O2 C2
    clear q6 M2 O2 C2
    go_region_held3 (fun w'=>w'.cell? ⟨d,0,none⟩=some (.pointer (some ⟨m,0,none⟩))∧w'.cell? ⟨d,2,none⟩=some (.int .u32 (v:Nat))) (assumption) (first
     | (go_at_call 135;refine Q6.mono ?_;rintro e w2 ⟨rfl,o2,m2⟩;have C3:=HC.out.2.off ((Off.drew [m,g] wp).trans o2) (by simp;omega);have HT:w2.cell? ⟨d,0,none⟩=some (.pointer (some ⟨m,0,none⟩))∧w2.cell? ⟨d,2,none⟩=some (.int .u32 (v:Nat)):=⟨C3.cells.1,C3.cells.2.2.1⟩;have h1:Hid (_):=And.intro (HC.out.1.trans ((Off.drew [m,g,d] wp).trans o2.three)) (And.intro m2 C3);clear o2 m2 C3))
    clear HS HT Q6 HC
    obtain⟨_,_,d2,d3,fz⟩:=h1.out.2.2.cells
    have f2:=fz 2
    have f3:=fz 3
    clear fz
    by_cases he:E=0
    ·subst he
     have hr:=HR.out
     rw[if_pos rfl,if_pos rfl]at hr
     obtain⟨rfl,rfl⟩:=hr
     clear HR
     go_wp2_with fail
     go_ret2
     have q1:Off [d] w2 (w2.setCell ⟨d,2,none⟩ (.int .u32 ((v+1:Nat):Int))):=Off.setCell d 2 _ _
     obtain⟨O,M,C⟩:=h1.out
     exact⟨rfl,O.trans q1.three',M.off q1 (by simp;omega) (by simp;omega),C.setV (v+1)⟩
    ·have hr:=HR.out
     rw[if_neg he,if_neg he]at hr
     obtain⟨rfl,rfl⟩:=hr
     clear HR
     go_wp2_with fail
     go_ret2
     have q1:Off [d] w2 (w2.setCell ⟨d,3,none⟩ (.bool true)):=Off.setCell d 3 _ _
     obtain⟨O,M,C⟩:=h1.out
     exact⟨rfl,O.trans q1.three',M.off q1 (by simp;omega) (by simp;omega),fun h=>absurd h he,fun _=>C.setD true⟩
  ·have q1':=q1 false (by simp[h5])
   have hk1:=HT.out
   rw[if_pos ⟨h0,.inl h5⟩]at hk1
   subst hk1
   clear HT q0 q1 h0 h5 hk
   go_enter Tryz.func156,Tryz.ntmps156
   go_wp2_with fail
   go_quiet (fail)
   go_wp2_with fail
   have Q0:=q0' nq
   have Q1:=q1' nq
   have C1:=HC.out.drewN nq
   have M1:=HM.out.drewN nq
   have O1:Off [m,g,d] w (w.drewN nq):=Off.drewN _ _ _
   clear q0' HC HM c0 c1 c2 c3 m1 q2 q3 q1'
   generalize w.drewN nq=wq at *
   obtain⟨c0,c1,c2,c3,_⟩:=C1.cells
   go_quiet ((first | (go_at_call_of 134 (Value.int .i64 0);exact Calls.quiet_of_same (Q0 _)) | (go_at_call_of 134 (Value.int .i64 1);exact Calls.quiet_of_same (Q1 _))))
   go_wp2_with fail
   have C2:=C1.drewN nq
   have M2:=M1.drewN nq
   have O2:Off [m,g,d] w (wq.drewN nq):=O1.trans (Off.drewN _ _ _)
   clear c0 c1 c2 c3 C1 M1 O1 Q0 Q1
   generalize wq.drewN nq=wp at *
   have Q6:Calls Tryz.prog 135 #[.pointer (some ⟨m,0,none⟩),.int .i64 1,.int .u32 (IntKind.u32.wrap ((v:Int)+1))] wp.drew fun e w'=>e=.returned (.int .i64 E)∧(Off [m,g] wp.drew w'∧RR w' m g n S):=by
    rw[HP.out]
    exact q6 _ (M2.off (Off.drew [] wp) (by simp) (by simp))
   have HS:wp.drew.cell? ⟨d,0,none⟩=some (.pointer (some ⟨m,0,none⟩))∧wp.drew.cell? ⟨d,2,none⟩=some (.int .u32 (v:Nat)):=⟨C2.cells.1,C2.cells.2.2.1⟩
   have HC:Hid (_):=And.intro O2 C2
   clear q6 M2 O2 C2
   go_region_held3 (fun w'=>w'.cell? ⟨d,0,none⟩=some (.pointer (some ⟨m,0,none⟩))∧w'.cell? ⟨d,2,none⟩=some (.int .u32 (v:Nat))) (assumption) (first
    | (go_at_call 135;refine Q6.mono ?_;rintro e w2 ⟨rfl,o2,m2⟩;have C3:=HC.out.2.off ((Off.drew [m,g] wp).trans o2) (by simp;omega);have HT:w2.cell? ⟨d,0,none⟩=some (.pointer (some ⟨m,0,none⟩))∧w2.cell? ⟨d,2,none⟩=some (.int .u32 (v:Nat)):=⟨C3.cells.1,C3.cells.2.2.1⟩;have h1:Hid (_):=And.intro (HC.out.1.trans ((Off.drew [m,g,d] wp).trans o2.three)) (And.intro m2 C3);clear o2 m2 C3))
   clear HS HT Q6 HC
   obtain⟨_,_,d2,d3,fz⟩:=h1.out.2.2.cells
   have f2:=fz 2
   have f3:=fz 3
   clear fz
   by_cases he:E=0
   ·subst he
    have hr:=HR.out
    rw[if_pos rfl,if_pos rfl]at hr
    obtain⟨rfl,rfl⟩:=hr
    clear HR
    go_wp2_with fail
    go_ret2
    have q1:Off [d] w2 (w2.setCell ⟨d,2,none⟩ (.int .u32 ((v+1:Nat):Int))):=Off.setCell d 2 _ _
    obtain⟨O,M,C⟩:=h1.out
    exact⟨rfl,O.trans q1.three',M.off q1 (by simp;omega) (by simp;omega),C.setV (v+1)⟩
   ·have hr:=HR.out
    rw[if_neg he,if_neg he]at hr
    obtain⟨rfl,rfl⟩:=hr
    clear HR
    go_wp2_with fail
    go_ret2
    have q1:Off [d] w2 (w2.setCell ⟨d,3,none⟩ (.bool true)):=Off.setCell d 3 _ _
    obtain⟨O,M,C⟩:=h1.out
    exact⟨rfl,O.trans q1.three',M.off q1 (by simp;omega) (by simp;omega),fun h=>absurd h he,fun _=>C.setD true⟩
 ·have q0':=q0 false (by simp[h0])
  have hk1:=HT.out
  rw[if_neg (fun h=>h0 h.1)]at hk1
  subst hk1
  clear HT q0 q1 h0 hk
  go_enter Tryz.func156,Tryz.ntmps156
  go_wp2_with fail
  go_quiet (fail)
  go_wp2_with fail
  have Q0:=q0' nq
  have C1:=HC.out.drewN nq
  have M1:=HM.out.drewN nq
  have O1:Off [m,g,d] w (w.drewN nq):=Off.drewN _ _ _
  clear q0' HC HM c0 c1 c2 c3 m1 q2 q3
  generalize w.drewN nq=wq at *
  obtain⟨c0,c1,c2,c3,_⟩:=C1.cells
  go_quiet (((go_at_call_of 134 (Value.int .i64 0);exact Calls.quiet_of_same (Q0 _))))
  go_wp2_with fail
  have C2:=C1.drewN nq
  have M2:=M1.drewN nq
  have O2:Off [m,g,d] w (wq.drewN nq):=O1.trans (Off.drewN _ _ _)
  clear c0 c1 c2 c3 C1 M1 O1 Q0
  generalize wq.drewN nq=wp at *
  have Q6:Calls Tryz.prog 135 #[.pointer (some ⟨m,0,none⟩),.int .i64 0,.int .u32 (IntKind.u32.wrap ((v:Int)+1))] wp.drew fun e w'=>e=.returned (.int .i64 E)∧(Off [m,g] wp.drew w'∧RR w' m g n S):=by
   rw[HP.out]
   exact q6 _ (M2.off (Off.drew [] wp) (by simp) (by simp))
  have HS:wp.drew.cell? ⟨d,0,none⟩=some (.pointer (some ⟨m,0,none⟩))∧wp.drew.cell? ⟨d,2,none⟩=some (.int .u32 (v:Nat)):=⟨C2.cells.1,C2.cells.2.2.1⟩
  have HC:Hid (_):=And.intro O2 C2
  clear q6 M2 O2 C2
  go_region_held3 (fun w'=>w'.cell? ⟨d,0,none⟩=some (.pointer (some ⟨m,0,none⟩))∧w'.cell? ⟨d,2,none⟩=some (.int .u32 (v:Nat))) (assumption) (first
   | (go_at_call 135;refine Q6.mono ?_;rintro e w2 ⟨rfl,o2,m2⟩;have C3:=HC.out.2.off ((Off.drew [m,g] wp).trans o2) (by simp;omega);have HT:w2.cell? ⟨d,0,none⟩=some (.pointer (some ⟨m,0,none⟩))∧w2.cell? ⟨d,2,none⟩=some (.int .u32 (v:Nat)):=⟨C3.cells.1,C3.cells.2.2.1⟩;have h1:Hid (_):=And.intro (HC.out.1.trans ((Off.drew [m,g,d] wp).trans o2.three)) (And.intro m2 C3);clear o2 m2 C3))
  clear HS HT Q6 HC
  obtain⟨_,_,d2,d3,fz⟩:=h1.out.2.2.cells
  have f2:=fz 2
  have f3:=fz 3
  clear fz
  by_cases he:E=0
  ·subst he
   have hr:=HR.out
   rw[if_pos rfl,if_pos rfl]at hr
   obtain⟨rfl,rfl⟩:=hr
   clear HR
   go_wp2_with fail
   go_ret2
   have q1:Off [d] w2 (w2.setCell ⟨d,2,none⟩ (.int .u32 ((v+1:Nat):Int))):=Off.setCell d 2 _ _
   obtain⟨O,M,C⟩:=h1.out
   exact⟨rfl,O.trans q1.three',M.off q1 (by simp;omega) (by simp;omega),C.setV (v+1)⟩
  ·have hr:=HR.out
   rw[if_neg he,if_neg he]at hr
   obtain⟨rfl,rfl⟩:=hr
   clear HR
   go_wp2_with fail
   go_ret2
   have q1:Off [d] w2 (w2.setCell ⟨d,3,none⟩ (.bool true)):=Off.setCell d 3 _ _
   obtain⟨O,M,C⟩:=h1.out
   exact⟨rfl,O.trans q1.three',M.off q1 (by simp;omega) (by simp;omega),fun h=>absurd h he,fun _=>C.setD true⟩
def opE (mx n:Nat) (s:Ms):Int:=if mx=0∨n<10 then 2 else if s.off then 70 else sqE n (mend s.bs) s
def opS (mx n:Nat) (s:Ms):Ms:=if mx=0∨n<10 then s else if s.off then s else sqS n (mend s.bs) s
structure Nx where
 v:Nat
 e:Int
 s:Ms
 z:Nat→Nat
 c:Bool
def nx (mx n:Nat) (z:Nat→Nat) (cut:Bool) (s:Ms):Nx:=
 if cut=true∨s.off=true then ⟨0,70,s,z,cut⟩ else if mx≤vz z then ⟨0,80,s,z,cut⟩ else
 if sqE n (six (tg z) (vz z+1)) s=0 then ⟨vz z+1,0,sqS n (six (tg z) (vz z+1)) s,(sqS n (six (tg z) (vz z+1)) s).bs,false⟩ else ⟨0,70,sqS n (six (tg z) (vz z+1)) s,z,true⟩
theorem sqE_val {n:Nat} {l:List (Nat × Nat)} {s:Ms} (hin:∀ x,x ∈ l→x.1<n∧x.2<256) (ho:s.off=false) (hl:0≤s.l):sqE n l s=0∨sqE n l s=70:=by
 rcases sq_all n l s (fun x hx=>(hin x hx).1) ho hl with ⟨h,_⟩ | ⟨h,_⟩
 ·exact .inl h
 ·exact .inr h
theorem sqS_t {n:Nat} {l:List (Nat × Nat)} {s:Ms} (hin:∀ x,x ∈ l→x.1<n∧x.2<256) (ho:s.off=false) (hl:0≤s.l):(sqS n l s).t≤s.t+l.length:=by
 rcases sq_all n l s (fun x hx=>(hin x hx).1) ho hl with ⟨_,h,_⟩ | ⟨_,h,_,h4⟩
 ·rw[h]
  exact Int.le_refl _
 ·rw[h]
  show s.t+s.l≤_
  omega
theorem nx_t (mx n:Nat) (z:Nat→Nat) (cut:Bool) (s:Ms) (hn:10≤n) (hl:0≤s.l):(nx mx n z cut s).s.t≤s.t+6:=by
 unfold nx
 split
 ·show s.t≤s.t+6;omega
 ·split
  ·show s.t≤s.t+6;omega
  ·rename_i h _
   have ho:s.off=false:=by cases hh:s.off <;> simp[hh]at h ⊢
   have:=sqS_t (six_in (tg z) (vz z+1) n (tg_lt z) hn) ho hl
   split
   ·exact this
   ·exact this
theorem popen (m g n mx:Nat) (s:Ms) (w:World) (hM:MR w m g n s) (ht:s.t<9223372036854774000) :
  Calls Tryz.prog 60 #[.pointer (some ⟨m,0,none⟩),.int .u32 (mx:Nat)] w fun e w'=>∃ p,e=.returned (.tuple #[.pointer p,.int .i64 (opE mx n s)])∧Hid (Off [m,g] w w'∧MR w' m g n (opS mx n s) ∧
   (opE mx n s=0→∃ c,p=some ⟨c,0,none⟩∧w.heap.size≤c∧CS w' c m mx (opS mx n s).bs false)∧(¬ opE mx n s=0→p=none)):=by
 unfold opE opS
 by_cases h1:mx=0∨n<10
 ·rw[if_pos h1,if_pos h1]
  refine (open_no m g n mx s w hM h1).mono ?_
  rintro e w' ⟨rfl,rfl⟩
  exact⟨_,rfl,Off.refl _ _,hM,fun h=>by omega,fun _=>rfl⟩
 ·rw[if_neg h1,if_neg h1]
  by_cases ho:s.off=true
  ·rw[if_pos ho,if_pos ho]
   refine (open_off m g n mx s w hM (by omega) (by omega) ho).mono ?_
   rintro e w' ⟨rfl,o,M⟩
   exact⟨_,rfl,o,M,fun h=>by omega,fun _=>rfl⟩
  ·rw[if_neg ho,if_neg ho]
   refine (open_go m g n mx s w hM (by omega) (by omega) (by simpa using ho) (by omega)).mono ?_
   rintro e w' ⟨p,rfl,H⟩
   obtain⟨o,M,C,D⟩:=H.out
   exact⟨p,rfl,o,M,fun h=>⟨_,(C h).1,Nat.le_refl _,(C h).2⟩,D⟩
theorem opened (m g n mx:Nat) (s:Ms) (w:World) (hM:MR w m g n s) (h:opE mx n s=0):mx≠0∧10≤n∧vz (opS mx n s).bs=vz s.bs:=by
 unfold opE at h
 unfold opS
 by_cases h1:mx=0∨n<10
 ·rw[if_pos h1]at h;omega
 ·rw[if_neg h1]at h ⊢
  by_cases ho:s.off=true
  ·rw[if_pos ho]at h;omega
  ·rw[if_neg ho]at h ⊢
   refine⟨by omega,by omega,?_⟩
   rw[sq_bs (mend_in s.bs n (by omega)) (by simpa using ho) hM.l0 h]
   have q:=vz_mend s.bs 6 (fun i hi=>hM.byte i (by omega))
   rwa [List.take_of_length_le (mend_len s.bs)]at q
theorem ropen (m g n mx:Nat) (s:Ms) (w:World) (hM:RR w m g n s) (ht:s.t<9223372036854774000) :
  Calls Tryz.prog 76 #[.pointer (some ⟨m,0,none⟩),.int .u32 (mx:Nat)] w fun e w'=>∃ p,e=.returned (.tuple #[.pointer p,.int .i64 (opE mx n s)])∧Hid (Off [m,g] w w'∧RR w' m g n (opS mx n s) ∧
   (opE mx n s=0→∃ d,p=some ⟨d,0,none⟩∧w.heap.size≤d∧RX w' d m mx (vz s.bs) false)∧(¬ opE mx n s=0→p=none)):=by
 unfold opE opS
 by_cases h1:mx=0∨n<10
 ·rw[if_pos h1,if_pos h1]
  refine (ropen_no m g n mx s w hM h1).mono ?_
  rintro e w' ⟨rfl,rfl⟩
  exact⟨_,rfl,Off.refl _ _,hM,fun h=>by omega,fun _=>rfl⟩
 ·rw[if_neg h1,if_neg h1]
  by_cases ho:s.off=true
  ·rw[if_pos ho,if_pos ho]
   refine (ropen_off m g n mx s w hM (by omega) (by omega) ho).mono ?_
   rintro e w' ⟨rfl,rfl⟩
   exact⟨_,rfl,Off.refl _ _,hM,fun h=>by omega,fun _=>rfl⟩
  ·rw[if_neg ho,if_neg ho]
   exact ropen_go m g n mx s w hM (by omega) (by omega) (by simpa using ho) ht
theorem pnext (c m g n mx:Nat) (z:Nat→Nat) (cut:Bool) (s:Ms) (w:World) (hM:MR w m g n s) (hC:CS w c m mx z cut) (hz:Bz z) (hzs:cut=false→z=s.bs) (hcm:c≠m) (hcg:c≠g) (hn:10≤n) (hx:mx<4294967296) (ht:s.t<9223372036854774000) :
  Calls Tryz.prog 224 #[.pointer (some ⟨c,0,none⟩)] w fun e w'=>e=.returned (.tuple #[.int .u32 ((nx mx n z cut s).v:Nat),.int .i64 (nx mx n z cut s).e]) ∧
   (Off [m,g,c] w w'∧MR w' m g n (nx mx n z cut s).s∧CS w' c m mx (nx mx n z cut s).z (nx mx n z cut s).c):=by
 unfold nx
 by_cases h1:cut=true∨s.off=true
 ·rw[if_pos h1]
  refine (next_cut c m g n mx z cut s w hM hC h1).mono ?_
  rintro e w' ⟨rfl,rfl⟩
  exact⟨rfl,Off.refl _ _,hM,hC⟩
 ·rw[if_neg h1]
  have hc:cut=false:=by cases cut <;> simp at h1 ⊢
  have ho:s.off=false:=by cases hh:s.off <;> simp[hh]at h1 ⊢
  subst hc
  by_cases h2:mx≤vz z
  ·rw[if_pos h2]
   refine (next_full c m g n mx z s w hM hC hz ho h2).mono ?_
   rintro e w' ⟨rfl,rfl⟩
   exact⟨rfl,Off.refl _ _,hM,hC⟩
  ·rw[if_neg h2]
   obtain rfl:=hzs rfl
   have q:=next_go c m g n mx s w hM hC hcm hcg hn hx ho (by omega) (by omega)
   by_cases h3:sqE n (six (tg s.bs) (vz s.bs+1)) s=0
   ·rw[if_pos h3]
    rw[if_pos h3]at q
    refine q.mono ?_
    rintro e w' ⟨rfl,o,M,C,_⟩
    exact⟨by rw[h3],o,M,C h3⟩
   ·rw[if_neg h3]
    rw[if_neg h3]at q
    have h4:=(sqE_val (six_in (tg s.bs) (vz s.bs+1) n (tg_lt _) hn) ho hM.l0).resolve_left h3
    refine q.mono ?_
    rintro e w' ⟨rfl,o,M,_,C⟩
    exact⟨by rw[h4],o,M,C h3⟩
theorem rnext (d m g n mx:Nat) (z:Nat→Nat) (cut:Bool) (s:Ms) (w:World) (hM:RR w m g n s) (hC:RX w d m mx (vz z) cut) (hzs:cut=false→z=s.bs) (hcm:d≠m) (hcg:d≠g) (hn:10≤n) (hx:mx<4294967296) (ht:s.t<9223372036854774000) :
  Calls Tryz.prog 156 #[.pointer (some ⟨d,0,none⟩)] w fun e w'=>e=.returned (.tuple #[.int .u32 ((nx mx n z cut s).v:Nat),.int .i64 (nx mx n z cut s).e]) ∧
   (Off [m,g,d] w w'∧RR w' m g n (nx mx n z cut s).s∧RX w' d m mx (vz (nx mx n z cut s).z) (nx mx n z cut s).c):=by
 unfold nx
 by_cases h1:cut=true∨s.off=true
 ·rw[if_pos h1]
  refine (rnext_cut d m g n mx (vz z) cut s w hM hC h1).mono ?_
  rintro e w' ⟨rfl,rfl⟩
  exact⟨rfl,Off.refl _ _,hM,hC⟩
 ·rw[if_neg h1]
  have hc:cut=false:=by cases cut <;> simp at h1 ⊢
  have ho:s.off=false:=by cases hh:s.off <;> simp[hh]at h1 ⊢
  subst hc
  by_cases h2:mx≤vz z
  ·rw[if_pos h2]
   refine (rnext_full d m g n mx (vz z) s w hM hC ho h2).mono ?_
   rintro e w' ⟨rfl,j,rfl⟩
   exact⟨rfl,Off.drewN _ _ _,hM.drewN j,hC.drewN j⟩
  ·rw[if_neg h2]
   obtain rfl:=hzs rfl
   have q:=rnext_go d m g n mx (vz s.bs) s w hM hC hcm hcg hn hx ho (by omega) (by omega)
   by_cases h3:sqE n (six (tg s.bs) (vz s.bs+1)) s=0
   ·rw[if_pos h3]
    rw[if_pos h3,if_pos h3]at q
    refine q.mono ?_
    rintro e w' ⟨rfl,o,M,C,_⟩
    refine⟨rfl,o,M,?_⟩
    have hb:=sq_bs (six_in (tg s.bs) (vz s.bs+1) n (tg_lt _) hn) ho hM.l0 h3
    have hv:=vz_next s.bs (vz s.bs+1) (by omega) (by omega)
    show RX w' d m mx (vz (sqS n (six (tg s.bs) (vz s.bs+1)) s).bs) false
    rw[hb,hv]
    exact C h3
   ·rw[if_neg h3]
    rw[if_neg h3,if_neg h3]at q
    refine q.mono ?_
    rintro e w' ⟨rfl,o,M,_,C⟩
    exact⟨rfl,o,M,C h3⟩
section
variable {P:Program} {f:FuncId} {fn:Func}
end
theorem u64_load (a:Addr) (d:Int) (w:World) (h0:w.cell? a=some (.int .u64 d)) :
  Calls Tryz.prog 85 #[.pointer (some a)] w fun e w'=>e=.returned (.int .u64 d)∧w'=w:=by
 have hl:=run_call_load (P:=Tryz.prog) Tryz.func142 (by kernel_rfl) (by kernel_rfl) (by kernel_rfl) .u64 (by kernel_rfl) h0
 go_enter Tryz.func85,Tryz.ntmps85
 go_wp2
 go_ret
 exact⟨rfl,rfl⟩
theorem u64_cas (a:Addr) (x y:Int) (w:World) (h0:w.cell? a=some (.int .u64 x)) (hz:w.frozen? a=false) :
  Calls Tryz.prog 87 #[.pointer (some a),.int .u64 x,.int .u64 y] w fun e w'=>e=.returned (.bool true)∧w'=w.setCell a (.int .u64 y):=by
 have hl:=run_call_cas_hit (P:=Tryz.prog) Tryz.func143 (by kernel_rfl) (by kernel_rfl) (by kernel_rfl) .u64 (by kernel_rfl) (y:=y) h0 hz
 go_enter Tryz.func87,Tryz.ntmps87
 go_wp2
 go_ret
 exact⟨rfl,rfl⟩
theorem i64_load (a:Addr) (d:Int) (w:World) (h0:w.cell? a=some (.int .i64 d)) :
  Calls Tryz.prog 103 #[.pointer (some a)] w fun e w'=>e=.returned (.int .i64 d)∧w'=w:=by
 have hl:=run_call_load (P:=Tryz.prog) Tryz.func161 (by kernel_rfl) (by kernel_rfl) (by kernel_rfl) .i64 (by kernel_rfl) h0
 go_enter Tryz.func103,Tryz.ntmps103
 go_wp2
 go_ret
 exact⟨rfl,rfl⟩
theorem i64_cas (a:Addr) (x y:Int) (w:World) (h0:w.cell? a=some (.int .i64 x)) (hz:w.frozen? a=false) :
  Calls Tryz.prog 140 #[.pointer (some a),.int .i64 x,.int .i64 y] w fun e w'=>e=.returned (.bool true)∧w'=w.setCell a (.int .i64 y):=by
 have hl:=run_call_cas_hit (P:=Tryz.prog) Tryz.func188 (by kernel_rfl) (by kernel_rfl) (by kernel_rfl) .i64 (by kernel_rfl) (y:=y) h0 hz
 go_enter Tryz.func140,Tryz.ntmps140
 go_wp2
 go_ret
 exact⟨rfl,rfl⟩
theorem i64_store (a:Addr) (x y:Int) (w:World) (h0:w.cell? a=some (.int .i64 x)) (hz:w.frozen? a=false) :
  Calls Tryz.prog 207 #[.pointer (some a),.int .i64 y] w fun e w'=>e=.returned (.tuple #[])∧w'=w.setCell a (.int .i64 y):=by
 have hl:=run_call_store (P:=Tryz.prog) Tryz.func235 (by kernel_rfl) (by kernel_rfl) (by kernel_rfl) (by kernel_rfl) (k:=.i64) (y:=y) h0 hz
 go_enter Tryz.func207,Tryz.ntmps207
 go_wp2
 go_end0
 exact⟨rfl,rfl⟩
end Go.Proofs.YthbogkaoidbpgaaGreat
namespace Go.Proofs.YthbogkaoidbpgaaGreat
set_option maxRecDepth 100000
open Go.RowKit
def DC (l c:Nat):Array Value:=#[.int .i64 l,.int .i64 c]
structure DR (w:World) (b l c:Nat):Prop where
 at_:w.heap[b]?=some (.cells (DC l c) 219 (0,0))
 lo:1≤l
 hi:l≤1048576
 le:c≤l
section
variable {w w':World} {b l c:Nat}
theorem DR.lt (h:DR w b l c):b<w.heap.size:=(Array.getElem?_eq_some_iff.1 h.at_).1
theorem DR.c0 (h:DR w b l c):w.cell? ⟨b,0,none⟩=some (.int .i64 l):=cell_of_row w b 0 _ _ _ h.at_
theorem DR.c1 (h:DR w b l c):w.cell? ⟨b,1,none⟩=some (.int .i64 c):=cell_of_row w b 1 _ _ _ h.at_
theorem DR.fz (h:DR w b l c) (j:Nat):w.frozen? ⟨b,j,none⟩=false:=frozen_of_row w b j _ _ h.at_
theorem DR.off {m:List Nat} (h:DR w b l c) (q:Off m w w') (hb:b ∉ m):DR w' b l c:=⟨(q.block b h.lt hb).trans h.at_,h.lo,h.hi,h.le⟩
theorem DR.set (h:DR w b l c) (x:Nat) (hx:x≤l):DR (w.setCell ⟨b,1,none⟩ (.int .i64 x)) b l x:=⟨heap_setCell_same _ _ _ _ _ _ h.at_,h.lo,h.hi,hx⟩
end
def tk (l c n:Nat):Nat:=c+min n (l-c)
def told (l c n:Nat):Bool:=decide (c<l∧l≤c+n)
theorem tk_le (l c n:Nat) (h:c≤l):tk l c n≤l:=by unfold tk;omega
theorem wnew_ok (l:Nat) (w:World) (h1:1≤l) (h2:l≤1048576) :
  Calls Tryz.prog 110 #[.int .i64 l] w fun e w'=>e=.returned (.tuple #[.pointer (some ⟨w.heap.size,0,none⟩),.int .i64 0])∧(Off [] w w'∧DR w' w.heap.size l 0):=by
 go_enter Tryz.func110,Tryz.ntmps110
 go_wp2
 go_ret2
 exact⟨rfl,Off.alloc _ _ _,⟨heap_alloc_new w _,h1,h2,Nat.zero_le _⟩⟩
set_option maxRecDepth 100000 in
set_option maxHeartbeats 400000 in
theorem goOn_any (l c n b:Nat) (w:World) (h:DR w b l c) (hn:n≤9223372036854775807) :
  Calls Tryz.prog 82 #[.pointer (some ⟨b,0,none⟩),.int .i64 n] w fun e w'=>e=.returned (.bool (told l c n))∧w'=w.setCell ⟨b,1,none⟩ (.int .i64 (tk l c n:Nat)):=by
 have h0:=h.c0
 have h1:=h.c1
 have hl:=i64_load _ _ w h1
 have hc:=i64_cas ⟨b,1,none⟩ c (tk l c n:Nat) w h1 (h.fz 1)
 obtain⟨_,_,hi,le⟩:=h
 obtain⟨L,hL⟩:∃ L,L=l-c:=⟨_,rfl⟩
 have e1:IntKind.i64.wrap ((l:Int) - (c:Int))=((L:Nat):Int):=by rw[IntKind.wrap_i64];omega
 have e4:told l c n=(decide (0<L) && decide (L≤n)):=by unfold told;rw[Bool.eq_iff_iff];simp;omega
 have e5:tk l c n=if L<n then c+L else c+n:=by unfold tk;split <;> omega
 generalize told l c n=t at *
 generalize tk l c n=s at *
 rcases Nat.lt_trichotomy L n with g | g | g
 ·rw[if_pos g]at e5
  have e3:IntKind.i64.wrap ((c:Int) + (L:Int))=(s:Int):=by rw[e5,IntKind.wrap_i64];omega
  clear e5
  have g2:L≤n:=by omega
  by_cases g1:0<L
  ·have ht:t=true:=by rw[e4];simp[g1,g2]
   subst ht
   clear e4 hL le hi hn
   go_enter Tryz.func82,Tryz.ntmps82
   go_wp2_with fail
   refine wp_loop_once ?_
   go_wp2_with (first | (go_at_call 103;refine hl.mono ?_;rintro e w' ⟨rfl,rfl⟩) | (go_at_call 140;refine hc.mono ?_;rintro e w' ⟨rfl,rfl⟩))
   go_ret
   exact⟨rfl,rfl⟩
  ·have ht:t=false:=by rw[e4];simp[g1]
   subst ht
   clear e4 hL le hi hn
   go_enter Tryz.func82,Tryz.ntmps82
   go_wp2_with fail
   refine wp_loop_once ?_
   go_wp2_with (first | (go_at_call 103;refine hl.mono ?_;rintro e w' ⟨rfl,rfl⟩) | (go_at_call 140;refine hc.mono ?_;rintro e w' ⟨rfl,rfl⟩))
   go_ret
   exact⟨rfl,rfl⟩
 ·subst g
  rw[if_neg (by omega)]at e5
  have e3:IntKind.i64.wrap ((c:Int) + (L:Int))=(s:Int):=by rw[e5,IntKind.wrap_i64];omega
  clear e5
  by_cases g1:0<L
  ·have ht:t=true:=by rw[e4];simp[g1]
   subst ht
   clear e4 hL le hi hn
   go_enter Tryz.func82,Tryz.ntmps82
   go_wp2_with fail
   refine wp_loop_once ?_
   go_wp2_with (first | (go_at_call 103;refine hl.mono ?_;rintro e w' ⟨rfl,rfl⟩) | (go_at_call 140;refine hc.mono ?_;rintro e w' ⟨rfl,rfl⟩))
   go_ret
   exact⟨rfl,rfl⟩
  ·have ht:t=false:=by rw[e4];simp[g1]
   subst ht
   clear e4 hL le hi hn
   go_enter Tryz.func82,Tryz.ntmps82
   go_wp2_with fail
   refine wp_loop_once ?_
   go_wp2_with (first | (go_at_call 103;refine hl.mono ?_;rintro e w' ⟨rfl,rfl⟩) | (go_at_call 140;refine hc.mono ?_;rintro e w' ⟨rfl,rfl⟩))
   go_ret
   exact⟨rfl,rfl⟩
 ·rw[if_neg (by omega)]at e5
  have e3:IntKind.i64.wrap ((c:Int) + (n:Int))=(s:Int):=by rw[e5,IntKind.wrap_i64];omega
  clear e5
  have g1:0<L:=by omega
  have ht:t=false:=by rw[e4];simp;omega
  subst ht
  have g2:¬ L≤n:=by omega
  clear e4 hL le hi hn
  go_enter Tryz.func82,Tryz.ntmps82
  go_wp2_with fail
  refine wp_loop_once ?_
  go_wp2_with (first | (go_at_call 103;refine hl.mono ?_;rintro e w' ⟨rfl,rfl⟩) | (go_at_call 140;refine hc.mono ?_;rintro e w' ⟨rfl,rfl⟩))
  go_ret
  exact⟨rfl,rfl⟩
theorem wticks_any (l c n b:Nat) (w:World) (h:DR w b l c) (hn:n≤9223372036854775807) :
  Calls Tryz.prog 41 #[.pointer (some ⟨b,0,none⟩),.int .i64 n] w fun e w'=>e=.returned (.tuple #[.bool (told l c n),.int .i64 0])∧(Off [b] w w'∧DR w' b l (tk l c n)):=by
 have hg:=goOn_any l c n b w h hn
 have hk:Hid (Off [b] w (w.setCell ⟨b,1,none⟩ (.int .i64 (tk l c n:Nat)))∧DR (w.setCell ⟨b,1,none⟩ (.int .i64 (tk l c n:Nat))) b l (tk l c n)):=⟨Off.setCell _ _ _ _,h.set _ (tk_le l c n h.le)⟩
 generalize told l c n=t at *
 clear h
 go_enter Tryz.func41,Tryz.ntmps41
 go_wp2_with fail
 refine hg.mono ?_
 rintro e w' ⟨rfl,hw⟩
 have hj:=hw ▸ hk
 clear hk hg hw
 go_wp2_with fail
 go_ret2
 exact⟨rfl,hj.out⟩
theorem wticks_neg (n:Int) (b:Nat) (w:World) (hn:n<0) :
  Calls Tryz.prog 41 #[.pointer (some ⟨b,0,none⟩),.int .i64 n] w fun e w'=>e=.returned (.tuple #[.bool false,.int .i64 2])∧w'=w:=by
 go_enter Tryz.func41,Tryz.ntmps41
 go_wp2_with fail
 go_ret2
 exact⟨rfl,rfl⟩
theorem wfeed_any (l c b:Nat) (w:World) (h:DR w b l c) :
  Calls Tryz.prog 182 #[.pointer (some ⟨b,0,none⟩)] w fun e w'=>e=.returned (.tuple #[])∧(Off [b] w w'∧DR w' b l 0):=by
 have hs:=i64_store ⟨b,1,none⟩ c 0 w h.c1 (h.fz 1)
 have hk:Hid (Off [b] w (w.setCell ⟨b,1,none⟩ (.int .i64 ((0:Nat):Int)))∧DR (w.setCell ⟨b,1,none⟩ (.int .i64 ((0:Nat):Int))) b l 0):=⟨Off.setCell _ _ _ _,h.set _ (Nat.zero_le _)⟩
 clear h
 go_enter Tryz.func182,Tryz.ntmps182
 go_wp2_with fail
 refine hs.mono ?_
 rintro e w' ⟨rfl,hw⟩
 have hj:Hid (Off [b] w w'∧DR w' b l 0):=by rw[hw];exact hk
 clear hk hs hw
 go_wp2_with fail
 go_end0
 exact⟨rfl,hj.out⟩
theorem wsince_any (l c b:Nat) (w:World) (h:DR w b l c) :
  Calls Tryz.prog 55 #[.pointer (some ⟨b,0,none⟩)] w fun e w'=>e=.returned (.int .i64 c)∧w'=w:=by
 have hl:=i64_load _ _ w h.c1
 clear h
 go_enter Tryz.func55,Tryz.ntmps55
 go_wp2_with (go_at_call 103;refine hl.mono ?_;rintro e w' ⟨rfl,rfl⟩)
 go_ret
 exact⟨rfl,rfl⟩
end Go.Proofs.YthbogkaoidbpgaaGreat
