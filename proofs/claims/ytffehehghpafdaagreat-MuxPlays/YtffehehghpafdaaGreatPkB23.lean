/- Part 24 of the texts on which the proofs of layer 13 rest: contracts of Go functions. -/
import Derived.Test.YtffehehghpafdaaGreatPkB07
import Derived.Test.YtffehehghpafdaaGreatPkB12
import Derived.Test.YtffehehghpafdaaGreatPkB20
import Derived.Test.YtffehehghpafdaaGreatPkB21
import Derived.Test.YtffehehghpafdaaGreatPkB22
namespace Go.Proofs.YtffehehghpafdaaGreat
set_option maxRecDepth 100000
open Go.RowKit Go.Maps Go.Sort Go.Shelf
def ptV (d:Nat):Value:=.pointer (some ⟨d,0,none⟩)
def inV (n:Nat):Value:=.int .i64 (n:Nat)
theorem tdiffM {w:World} {a b:Nat} {c c':Array Value} {e e':TypeId} {f f':Nat × Nat} (h:w.heap[a]?=some (.cells c e f)) (h':w.heap[b]?=some (.cells c' e' f')) (he:e≠e'):a≠b:=fun k=>by
 subst k
 rw[h]at h'
 cases h'
 exact he rfl
theorem own_blkM {w:World} {B:Nat} {e:TypeId} {size n:Nat} {v:Value} {xs:List Value} (h:w.ownsRow B e size v n xs) {k:Nat} (hk:v.ownBlock=some k):∃ c,w.heap[k]?=some (.cells c e (0,0)):=by
 rcases h.2 with ⟨rfl,_⟩ | ⟨g,cap,cur,rfl,_,hg,_⟩
 ·cases hk
 ·cases hk
  exact⟨cur,hg⟩
structure RMx (w:World) (b:Nat) (v1 v2:Value) (ds ns:List Nat) (lost:Nat):Prop where
 blk:w.heap[b]?=some (.cells #[v1,v2,.int .i64 (lost:Nat)] 102 (0,0))
 r1:w.ownsRow 0 45 1 v1 ds.length (ds.map ptV)
 r2:w.ownsRow 0 3 1 v2 ns.length (ns.map inV)
def RMU (b:Nat) (v1 v2:Value):List Nat:=b :: (v1.ownBlock.toList ++ v2.ownBlock.toList)
section
variable {w w':World} {b lost:Nat} {v1 v2:Value} {ds ns:List Nat}
theorem RMx.lt (h:RMx w b v1 v2 ds ns lost):∀ k,k ∈ RMU b v1 v2→k<w.heap.size:=by
 intro k hk
 simp[RMU]at hk
 rcases hk with rfl | hk | hk
 ·exact (Array.getElem?_eq_some_iff.1 h.blk).1
 ·obtain⟨c,hc⟩:=own_blkM h.r1 hk
  exact (Array.getElem?_eq_some_iff.1 hc).1
 ·obtain⟨c,hc⟩:=own_blkM h.r2 hk
  exact (Array.getElem?_eq_some_iff.1 hc).1
theorem own_offM {l:List Nat} {w w':World} {B e size n:Nat} {v:Value} {xs:List Value} (h:w.ownsRow B e size v n xs) (q:Off l w w') (hl:∀ k,v.ownBlock=some k→k ∉ l):w'.ownsRow B e size v n xs:=by
 refine⟨h.1,?_⟩
 rcases h.2 with hn | ⟨g,cap,cur,rfl,hg,hgg,rest⟩
 ·exact .inl hn
 ·exact .inr ⟨g,cap,cur,rfl,hg,by rw[q.block g (Array.getElem?_eq_some_iff.1 hgg).1 (hl g rfl)];exact hgg,rest⟩
theorem RMx.off {l:List Nat} (h:RMx w b v1 v2 ds ns lost) (o:Off l w w') (hl:∀ k,k ∈ RMU b v1 v2→k ∉ l):RMx w' b v1 v2 ds ns lost:=
 ⟨(o.block b (h.lt b (by simp[RMU])) (hl b (by simp[RMU]))).trans h.blk,own_offM h.r1 o (fun k hk=>hl k (by simp[RMU,hk])),own_offM h.r2 o (fun k hk=>hl k (by simp[RMU,hk]))⟩
end
def rmT (b:Nat) (v1 v2:Value) (ds ns:List Nat) (lost:Nat):Thing:=⟨RMU b v1 v2,fun w=>RMx w b v1 v2 ds ns lost,fun _ _ _ h o hl=>h.off o hl⟩
def Fnd (n:Nat) (cs:Nat→Nat) (c:Nat) (r:Int):Prop:=(r = -1∧∀ i,i<n→cs i≠c)∨∃ j:Nat,j<n∧r=(j:Int)∧cs j=c∧∀ i,i<j→cs i≠c
theorem own_ptr {w:World} {B:Nat} {e:TypeId} {v:Value} {ds:List Nat} (h:w.ownsRow B e 1 v ds.length (ds.map ptV)):∃ a cap,v=.slice a ds.length cap∧∀ i (hi:i<ds.length),∃ g,a=some ⟨g,0,none⟩∧g<w.heap.size∧w.cell? ⟨g,i,none⟩=some (ptV ds[i]):=by
 rcases h.2 with ⟨rfl,hn⟩ | ⟨g,cap,cur,rfl,hB,hg,h1,h2,h3,h4⟩
 ·exact⟨none,0,by rw[hn],fun i hi=>by omega⟩
 ·refine⟨some ⟨g,0,none⟩,cap,rfl,fun i hi=>⟨g,rfl,(Array.getElem?_eq_some_iff.1 hg).1,?_⟩⟩
  have h5:cur[i]?=some (ptV ds[i]):=by
   have e:(cur.toList.take (ds.length*1))[i]?=(ds.map ptV)[i]?:=by rw[h4]
   rw[List.getElem?_take_of_lt (by omega)]at e
   simp[hi]at e
   simpa using e
  exact (cell_of_row w g i cur _ _ hg).trans h5
set_option maxHeartbeats 1000000 in
theorem rfind_any (b:Nat) (v1 v2:Value) (ds ns:List Nat) (lost:Nat) (cs:Nat→Nat) (c:Nat) (w:World) (h:RMx w b v1 v2 ds ns lost) (hc:∀ i (hi:i<ds.length),w.cell? ⟨ds[i],0,none⟩=some (.int .u32 (cs i:Nat))) (hn:ds.length<100000) :
  Calls Tryz.prog 90 #[.pointer (some ⟨b,0,none⟩),.int .u32 (c:Nat)] w fun e w'=>∃ r,e=.returned (.int .i64 r)∧Hid (Fnd ds.length cs c r)∧w'=w:=by
 obtain⟨a,cap,rfl,hcs⟩:=own_ptr h.r1
 have c0:w.cell? ⟨b,0,none⟩=some (.slice a ds.length cap):=cell_of_row w b 0 _ _ _ h.blk
 have HC:Hid (_):=And.intro hcs hc
 obtain⟨n,en⟩:∃ n,n=ds.length:=⟨_,rfl⟩
 have HN:Hid (n=ds.length):=en
 rw[← en]at c0 hn ⊢
 clear en hcs h hc
 go_enter Tryz.func90,Tryz.ntmps90
 go_wp2_with fail
 go_loopw [5] (fun x wr=>∃ i:Nat,i≤n∧x=.int .i64 ((i:Nat):Int)∧wr=w∧∀ j,j<i→cs j≠c) (fun x _=>n-natU x)
 case atStart=>exact⟨0,by omega,rfl,rfl,fun j hj=>by omega⟩
 case round=>
  obtain⟨i,hi,rfl,rfl,hj⟩:=hrel
  by_cases hlt:i<n
  ·have hil:i<ds.length:=by rw[← HN.out];exact hlt
   obtain⟨g,rfl,_,d1⟩:=HC.out.1 i hil
   have d2:=HC.out.2 i hil
   unfold ptV at d1
   generalize ds[i]=d at *
   have HJ:Hid (_):=hj
   clear hj
   by_cases he:cs i=c
   ·have he':((cs i:Nat):Int)=(c:Int):=by omega
    go_wp2_with fail
    go_ret
    exact⟨_,rfl,.inr ⟨i,hlt,rfl,he,HJ.out⟩,rfl⟩
   ·have he':¬ ((cs i:Nat):Int)=(c:Int):=by omega
    go_wp2_with fail
    go_roundw
    case rel=>exact⟨i+1,by omega,by go_num,by trivial,fun j hj=>by by_cases e:j=i;(subst e;exact he);exact HJ.out j (by omega)⟩
    case measure=>simp[natU] <;> omega
  ·obtain rfl:i=n:=by omega
   have HJ:Hid (_):=hj
   clear hj
   go_wp2_with fail
   go_ret
   exact⟨_,rfl,.inl ⟨rfl,HJ.out⟩,rfl⟩
theorem step_one {ops:Array Oper} {rest:List Oper} {o:Oper} {a:Act} {w:World} {Q:Exit→Act→World→Prop} (hgd:o.guard=none) (s x:Operand)
  (ho:o.op=.call { callee:=.builtin .append,args:=#[s,x],argTypes:=#[22,22] }) (w0:World) (v:Value) (l:List Int) (c:Int) (g:Nat) (hs:a.eval s=v) (hx:a.eval x=.slice (some ⟨g,0,none⟩) 1 1)
  (hown:w.ownsRow w0.heap.size 30 1 v l.length (l.map encU)) (hg:w.heap[g]?=some (.cells #[.int .u32 c] 30 (0,0))) (hl:l.length<100000) (hb:Below w0.heap.size w0 w)
  (h:∀ v' w',Hid (w'.ownsRow w0.heap.size 30 1 v' (l ++ [c]).length ((l ++ [c]).map encU)∧Below w0.heap.size w0 w')→wpList Tryz.prog ops Q rest (a.put o.dst v') w'):wpList Tryz.prog ops Q (o :: rest) a w:=by
 obtain⟨i0,hi,hz0,hz1,hz2⟩:=info_parts info_u32
 refine wpList_append_own w hgd s x 22 ho w0.heap.size 30 i0 (.int .u32 0) 1 4 Tryz.underlying22 hi hz0 hz1 hz2 rfl (by decide) v l.length (l.map encU) hs hown ⟨g,0,none⟩ 1 1 ([c].map encU) hx rfl (fun j u hu=>one_cellU hg _ rfl j u hu) (by intro u hu;simp at hu;subst hu;rfl) (by unfold maxLen;omega) (by omega) hb.size ?_
 intro v' w' h1 h2 h3
 refine h v' w' ⟨?_,hb.grown h2 hb.size (fun k hk=>(hown.lt k hk).1)⟩
 rw[List.map_append,List.length_append]
 exact h1
end Go.Proofs.YtffehehghpafdaaGreat
namespace Go.Proofs.YtffehehghpafdaaGreat
set_option maxRecDepth 100000
open Go.RowKit Go.Maps
def Ro (w:World) (g n C:Nat) (f:Nat→Int):Prop:=∃ cur:Array Value,w.heap[g]?=some (.cells cur 30 (0,0))∧cur.size=C∧∀ i,i<n→cur[i]?=some (.int .u32 (f i))
theorem Ro.cell {w:World} {g n C:Nat} {f:Nat→Int} (h:Ro w g n C f) {i:Nat} (hi:i<n):w.cell? ⟨g,i,none⟩=some (.int .u32 (f i)):=by
 obtain⟨cur,h1,hC,h2⟩:=h
 simp[World.cell?,h1,h2 i hi]
theorem Ro.fz {w:World} {g n C:Nat} {f:Nat→Int} (h:Ro w g n C f) (i:Nat):w.frozen? ⟨g,i,none⟩=false:=by
 obtain⟨cur,h1,hC,h2⟩:=h
 exact frozen_of_row w g i _ _ h1
theorem Ro.off {l:List Nat} {w w':World} {g n C:Nat} {f:Nat→Int} (h:Ro w g n C f) (o:Off l w w') (hg:g ∉ l):Ro w' g n C f:=by
 obtain⟨cur,h1,hC,h2⟩:=h
 exact⟨cur,(o.block g (Array.getElem?_eq_some_iff.1 h1).1 hg).trans h1,hC,h2⟩
theorem Ro.set {w:World} {g n C:Nat} {f:Nat→Int} (h:Ro w g n C f) (j:Nat) (x:Int):Ro (w.setCell ⟨g,j,none⟩ (.int .u32 x)) g n C (fun i=>if i=j then x else f i):=by
 obtain⟨cur,h1,hC,h2⟩:=h
 refine⟨_,heap_setCell_same _ _ _ _ _ _ h1,by simpa using hC,fun i hi=>?_⟩
 have:=h2 i hi
 have hl:=(Array.getElem?_eq_some_iff.1 this).1
 rw[Array.getElem?_setIfInBounds]
 by_cases e:i=j
 ·subst e;simp[hl]
 ·rw[if_neg (Ne.symm e),this];simp[e]
def nU:Value→Nat
 | .int _ x=>x.toNat
 | _=>0
def lsU (n:Nat) (f:Nat→Int):List Int:=(List.range n).map f
def swU (f:Nat→Int) (j:Nat):Nat→Int:=fun i=>if i=j-1 then f j else if i=j then f (j-1) else f i
theorem swU_perm (n:Nat) (f:Nat→Int) (j:Nat) (h0:0<j) (hj:j<n):(lsU n (swU f j)).Perm (lsU n f):=by
 have h1:j-1 < (lsU n f).length:=by simp[lsU];omega
 have h2:j < (lsU n f).length:=by simp[lsU];omega
 have e:lsU n (swU f j)=((lsU n f).set j (lsU n f)[j-1]).set (j-1) (lsU n f)[j]:=by
  refine List.ext_getElem (by simp[lsU]) fun i hi1 hi2=>?_
  simp only[lsU,List.getElem_map,List.getElem_range,List.getElem_set,swU]
  by_cases e1:i=j-1
  ·simp[e1]
  ·rw[if_neg e1,if_neg (Ne.symm e1)]
   by_cases e2:i=j
   ·simp[e2]
   ·rw[if_neg e2,if_neg (Ne.symm e2)]
 rw[e]
 exact List.set_set_perm h2 h1
def Srt (f:Nat→Int) (i j:Nat):Prop:=∀ p q,p<q→q≤i→q≠j→f p≤f q
theorem Srt.swap {f:Nat→Int} {i j:Nat} (h:Srt f i j) (h0:0<j) (hj:j≤i) (hl:f j<f (j-1)):Srt (swU f j) i (j-1):=by
 intro p q hpq hqi hne
 have a1:∀ p q,p<q→q≤i→q≠j→f p≤f q:=h
 simp only[swU]
 rw[if_neg hne]
 by_cases e:q=j
 ·rw[if_pos e]
  by_cases e2:p=j-1
  ·rw[if_pos e2];omega
  ·rw[if_neg e2,if_neg (by omega)];exact a1 p (j-1) (by omega) (by omega) (by omega)
 ·rw[if_neg e]
  by_cases e2:p=j-1
  ·rw[if_pos e2];exact a1 j q (by omega) hqi e
  ·rw[if_neg e2]
   by_cases e3:p=j
   ·rw[if_pos e3];exact a1 (j-1) q (by omega) hqi e
   ·rw[if_neg e3];exact a1 p q hpq hqi e
theorem Srt.done {f:Nat→Int} {i j:Nat} (h:Srt f i j) (hj:j=0∨f (j-1)≤f j):∀ p q,p<q→q≤i→f p≤f q:=by
 intro p q hpq hqi
 by_cases e:q=j
 ·subst e
  rcases hj with hj | hj
  ·omega
  ·by_cases e2:p=q-1
   ·rw[e2];exact hj
   ·exact Int.le_trans (h p (q-1) (by omega) (by omega) (by omega)) hj
 ·exact h p q hpq hqi e
theorem lessU (a b:Int) (w:World):Calls Tryz.prog 233 #[.int .u32 a,.int .u32 b] w fun e w'=>e=.returned (.bool (decide (a<b)))∧w'=w:=by
 go_enter Tryz.func233,Tryz.ntmps233
 go_wp2
 go_ret
 exact⟨rfl,rfl⟩
set_option maxRecDepth 100000 in
set_option maxHeartbeats 2000000 in
theorem insertU (g n C cap:Nat) (f:Nat→Int) (w:World) (h:Ro w g n C f) (hn:n≤12) :
  Calls Tryz.prog 227 #[.slice (some ⟨g,0,none⟩) n cap,.int .i64 0,.int .i64 (n:Nat)] w fun e w'=>e=.returned (.tuple #[])∧Hid (∃ f',Off [g] w w'∧Ro w' g n C f'∧(lsU n f').Perm (lsU n f)∧∀ p q,p<q→q<n→f' p≤f' q):=by
 go_enter Tryz.func227,Tryz.ntmps227
 go_wp2_with fail
 go_loopw [6,7] (fun ci _ wr=>∃ (i:Nat) (f':Nat→Int),1≤i∧(i≤n∨i=1)∧ci=.int .i64 ((i:Nat):Int)∧Ro wr g n C f'∧Off [g] w wr∧(lsU n f').Perm (lsU n f)∧∀ p q,p<q→q<i→f' p≤f' q) (fun ci _ _=>n-nU ci)
 case atStart=>exact⟨1,f,by omega,.inr rfl,rfl,h,Off.refl _ _,List.Perm.refl _,fun p q h1 h2=>by omega⟩
 case round=>
  clear h
  obtain⟨i,f1,hi1,hin,rfl,R1,o1,p1,s1⟩:=hrel
  by_cases hlt:i<n
  ·have hdI:decide ((i:Int) < (n:Int))=true:=by simp;omega
   have HL:Hid (_):=And.intro R1 (And.intro o1 (And.intro p1 s1))
   clear R1 o1 p1 s1
   go_wp2_with fail
   go_loopw [7] (fun cj wr=>∃ (j:Nat) (f':Nat→Int),j≤i∧cj=.int .i64 ((j:Nat):Int)∧Ro wr g n C f'∧Off [g] w wr∧(lsU n f').Perm (lsU n f)∧Srt f' i j) (fun cj _=>nU cj)
   case atStart=>exact⟨i,f1,by omega,rfl,HL.out.1,HL.out.2.1,HL.out.2.2.1,fun p q h1 h2 h3=>HL.out.2.2.2 p q h1 (by omega)⟩
   case round=>
    clear HL
    obtain⟨j,f2,hj,rfl,R2,o2,p2,s2⟩:=hrel
    by_cases h0:0<j
    ·have hd0:decide ((0:Int) < (j:Int))=true:=by simp;omega
     have hjw:IntKind.i64.wrap ((j:Int)-1)=((j-1:Nat):Int):=by rw[IntKind.wrap_i64];omega
     have c1:wr.cell? ⟨g,j,none⟩=some (.int .u32 (f2 j)):=R2.cell (by omega)
     have c0:wr.cell? ⟨g,j-1,none⟩=some (.int .u32 (f2 (j-1))):=R2.cell (by omega)
     have z1:=R2.fz j
     have z0:=R2.fz (j-1)
     have hb1:(j:Int) < (n:Int):=by omega
     have hb0:((j-1:Nat):Int) < (n:Int):=by omega
     have HR:Hid (_):=And.intro R2 (And.intro o2 (And.intro p2 s2))
     clear R2 o2 p2 s2
     by_cases hl:f2 j<f2 (j-1)
     ·have hdl:decide (f2 j<f2 (j-1))=true:=by simpa using hl
      go_wp2_with fail
      go_quiet ((go_at_call 233;exact Calls.quiet_of_same (lessU _ _ _)))
      have e1:(wr.drewN nq).cell? ⟨g,j,none⟩=some (.int .u32 (f2 j)):=c1
      have e0:(wr.drewN nq).cell? ⟨g,j-1,none⟩=some (.int .u32 (f2 (j-1))):=c0
      have y1:(wr.drewN nq).frozen? ⟨g,j,none⟩=false:=z1
      have y0:(wr.drewN nq).frozen? ⟨g,j-1,none⟩=false:=z0
      have HW:Hid (Off [] wr (wr.drewN nq)∧f2 j<f2 (j-1)):=⟨Off.drewN [] wr nq,hl⟩
      generalize wr.drewN nq=wq at *
      clear c1 c0 z1 z0 hl hdl
      have nj:¬ j=j-1:=by omega
      have nj':¬ j-1=j:=by omega
      obtain⟨x1,hx1⟩:∃ x,f2 j=x:=⟨_,rfl⟩
      obtain⟨x0,hx0⟩:∃ x,f2 (j-1)=x:=⟨_,rfl⟩
      rw[hx1]at e1
      rw[hx0]at e0
      have HX:Hid (f2 j=x1∧f2 (j-1)=x0):=⟨hx1,hx0⟩
      rw[hx1,hx0]
      clear hx1 hx0
      go_wp2_with fail
      go_region_with fail
      all_goals
       go_wp2_with fail
       obtain⟨R2,o2,p2,s2⟩:=HR.out
       obtain⟨oq,hl⟩:=HW.out
       have R3:Ro ((wq.setCell ⟨g,j,none⟩ (.int .u32 x0)).setCell ⟨g,j-1,none⟩ (.int .u32 x1)) g n C (swU f2 j):=by
        have:=((R2.off oq (by simp)).set j (f2 (j-1))).set (j-1) (f2 j)
        rw[HX.out.1,HX.out.2]at this
        unfold swU
        rw[HX.out.1,HX.out.2]
        exact this
       have o3:Off [g] w ((wq.setCell ⟨g,j,none⟩ (.int .u32 x0)).setCell ⟨g,j-1,none⟩ (.int .u32 x1)):=((o2.trans (oq.more (by simp))).trans (Off.setCell g j _ _)).trans (Off.setCell g (j-1) _ _)
       refine⟨⟨j-1,swU f2 j,by omega,rfl,R3.off (Off.drew [] _) (by simp),o3.trans (Off.drew _ _),(swU_perm n f2 j h0 (by omega)).trans p2,s2.swap h0 hj hl⟩,?_⟩
       show ((j-1:Nat):Int).toNat < (j:Int).toNat
       omega
     ·have hdl:decide (f2 j<f2 (j-1))=false:=by simpa using hl
      go_wp2_with fail
      go_quiet ((go_at_call 233;exact Calls.quiet_of_same (lessU _ _ _)))
      have HW:Hid (Off [] wr (wr.drewN nq)):=Off.drewN [] wr nq
      generalize wr.drewN nq=wq at *
      clear c1 c0 z1 z0 hdl
      go_wp2_with fail
      obtain⟨R2,o2,p2,s2⟩:=HR.out
      refine⟨⟨i+1,f2,by omega,.inl (by omega),by simp,R2.off HW.out (by simp),o2.trans (HW.out.more (by simp)),p2,fun p q h1 h2=>s2.done (.inr (by omega)) p q h1 (by omega)⟩,?_⟩
      show n - ((i:Int)+1).toNat<n - ((i:Int)).toNat
      omega
    ·have hd0:decide ((0:Int) < (j:Int))=false:=by simp;omega
     have hd0':decide (0<j)=false:=by simp;omega
     have HR:Hid (_):=And.intro R2 (And.intro o2 (And.intro p2 s2))
     clear R2 o2 p2 s2
     go_wp2_with fail
     go_region
     go_wp2_with fail
     obtain⟨R2,o2,p2,s2⟩:=HR.out
     refine⟨⟨i+1,f2,by omega,.inl (by omega),by simp,R2.off (Off.drew [] wr) (by simp),o2.trans (Off.drew _ _),p2,fun p q h1 h2=>s2.done (.inl (by omega)) p q h1 (by omega)⟩,?_⟩
     show n - ((i:Int)+1).toNat<n - ((i:Int)).toNat
     omega
  ·have hdI:decide ((i:Int) < (n:Int))=false:=by simp;omega
   have HR:Hid (_):=And.intro R1 (And.intro o1 (And.intro p1 s1))
   clear R1 o1 p1 s1
   go_wp2_with fail
   go_end0
   obtain⟨R1,o1,p1,s1⟩:=HR.out
   exact⟨rfl,f1,o1,R1,p1,fun p q h1 h2=>s1 p q h1 (by omega)⟩
set_option maxRecDepth 100000 in
theorem pdqU (g n C cap:Nat) (lim:Int) (f:Nat→Int) (w:World) (h:Ro w g n C f) (hn:n≤12) :
  Calls Tryz.prog 189 #[.slice (some ⟨g,0,none⟩) n cap,.int .i64 0,.int .i64 (n:Nat),.int .i64 lim] w fun e w'=>e=.returned (.tuple #[])∧Hid (∃ f',Off [g] w w'∧Ro w' g n C f'∧(lsU n f').Perm (lsU n f)∧∀ p q,p<q→q<n→f' p≤f' q):=by
 have hI:=insertU g n C cap f w h hn
 have hw:IntKind.i64.wrap ((n:Int)-0)=(n:Int):=by rw[IntKind.wrap_i64];omega
 have h12:(n:Int)≤12:=by omega
 clear h
 go_enter Tryz.func189,Tryz.ntmps189
 go_wp2_with fail
 refine wp_loop_once ?_
 go_wp2_with (go_at_call 227;refine hI.mono ?_;rintro e w2 ⟨rfl,h2⟩)
 refine bodyPost_ret (results_none rfl _ _ _) rfl ?_
 exact⟨rfl,h2⟩
set_option maxRecDepth 100000 in
theorem len64U (k:Nat) (hk:k≤12) (w:World):Calls Tryz.prog 237 #[.int .u64 (k:Nat)] w fun e w'=>(∃ x,e=.returned (.int .i64 x))∧w'=w:=by
 have:k=0∨k=1∨k=2∨k=3∨k=4∨k=5∨k=6∨k=7∨k=8∨k=9∨k=10∨k=11∨k=12:=by omega
 clear hk
 rcases this with rfl | rfl | rfl | rfl | rfl | rfl | rfl | rfl | rfl | rfl | rfl | rfl | rfl
 all_goals
  go_enter Tryz.func237,Tryz.ntmps237
  go_wp2_with fail
  go_ret
  exact⟨⟨_,rfl⟩,rfl⟩
theorem lenU (k:Nat) (hk:k≤12) (w:World):Calls Tryz.prog 190 #[.int .u64 (k:Nat)] w fun e w'=>(∃ x,e=.returned (.int .i64 x))∧w'=w:=by
 have hL:=len64U k hk w
 go_enter Tryz.func190,Tryz.ntmps190
 go_wp2_with (go_at_call 237;refine hL.mono ?_;rintro e w2 ⟨⟨x,rfl⟩,rfl⟩)
 go_ret
 exact⟨⟨_,rfl⟩,rfl⟩
theorem sortU (g n C cap:Nat) (f:Nat→Int) (w:World) (h:Ro w g n C f) (hn:n≤12) :
  Calls Tryz.prog 131 #[.slice (some ⟨g,0,none⟩) n cap] w fun e w'=>e=.returned (.tuple #[])∧Hid (∃ f',Off [g] w w'∧Ro w' g n C f'∧(lsU n f').Perm (lsU n f)∧∀ p q,p<q→q<n→f' p≤f' q):=by
 have hL:=lenU n hn w
 have hP:=fun lim=>pdqU g n C cap lim f w h hn
 have hw:IntKind.u64.wrap (n:Int)=(n:Int):=by rw[IntKind.wrap_u64];omega
 clear h
 go_enter Tryz.func131,Tryz.ntmps131
 go_wp2_with (first
  | (go_at_call 190;refine hL.mono ?_;rintro e w2 ⟨⟨x,rfl⟩,hw⟩;have hw:=hw.symm;subst hw)
  | (go_at_call 189;refine (hP _).mono ?_;rintro e w2 ⟨rfl,h2⟩))
 go_end0
 exact⟨rfl,h2⟩
open Go.RowKit Go.Maps Go.Sort Go.Shelf
set_option maxRecDepth 100000 in
theorem insertU_nil (w:World):Calls Tryz.prog 227 #[.slice none 0 0,.int .i64 0,.int .i64 0] w fun e w'=>e=.returned (.tuple #[])∧w'=w:=by
 go_enter Tryz.func227,Tryz.ntmps227
 go_wp2_with fail
 refine wp_loop_once ?_
 go_wp2_with fail
 go_end0
 exact⟨rfl,rfl⟩
set_option maxRecDepth 100000 in
theorem pdqU_nil (lim:Int) (w:World):Calls Tryz.prog 189 #[.slice none 0 0,.int .i64 0,.int .i64 0,.int .i64 lim] w fun e w'=>e=.returned (.tuple #[])∧w'=w:=by
 have hI:=insertU_nil w
 go_enter Tryz.func189,Tryz.ntmps189
 go_wp2_with fail
 refine wp_loop_once ?_
 go_wp2_with (go_at_call 227;refine hI.mono ?_;rintro e w2 ⟨rfl,hw⟩;have hw:=hw.symm;subst hw)
 refine bodyPost_ret (results_none rfl _ _ _) rfl ?_
 exact⟨rfl,rfl⟩
theorem sortU_nil (w:World):Calls Tryz.prog 131 #[.slice none 0 0] w fun e w'=>e=.returned (.tuple #[])∧w'=w:=by
 have hL:Calls Tryz.prog 190 #[.int .u64 0] w fun e w'=>(∃ x,e=.returned (.int .i64 x))∧w'=w:=lenU 0 (by omega) w
 have hP:=fun lim=>pdqU_nil lim w
 go_enter Tryz.func131,Tryz.ntmps131
 go_wp2_with (first
  | (go_at_call 190;refine hL.mono ?_;rintro e w2 ⟨⟨x,rfl⟩,hw⟩;have hw:=hw.symm;subst hw)
  | (go_at_call 189;refine (hP _).mono ?_;rintro e w2 ⟨rfl,hw⟩;have hw:=hw.symm;subst hw))
 go_end0
 exact⟨rfl,rfl⟩
theorem lsU_get (ss:List Int):lsU ss.length (fun i=>ss[i]!)=ss:=by
 refine List.ext_getElem (by simp[lsU]) fun i h1 h2=>?_
 simp[lsU,h2]
theorem Ro_of_row {W:World} {g:Nat} {cur:Array Value} {ss:List Int} (h:W.heap[g]?=some (.cells cur 30 (0,0))) (ht:cur.toList.take (ss.length*1)=ss.map encU):Ro W g ss.length cur.size (fun i=>ss[i]!):=by
 refine⟨cur,h,rfl,fun i hi=>?_⟩
 have h1:(cur.toList.take (ss.length*1))[i]?=(ss.map encU)[i]?:=by rw[ht]
 rw[List.getElem?_take_of_lt (by omega),List.getElem?_map,List.getElem?_eq_getElem hi]at h1
 simpa [encU,hi] using h1
theorem Ro.take {W:World} {g n C:Nat} {f:Nat→Int} (h:Ro W g n C f) (hn:n≤C):∃ cur:Array Value,W.heap[g]?=some (.cells cur 30 (0,0))∧cur.size=C∧cur.toList.take (n*1)=(lsU n f).map encU:=by
 obtain⟨cur,h1,hC,h2⟩:=h
 refine⟨cur,h1,hC,List.ext_getElem? fun i=>?_⟩
 by_cases hi:i<n
 ·rw[List.getElem?_take_of_lt (by omega)]
  simpa [lsU,encU,hi] using h2 i hi
 ·rw[List.getElem?_eq_none (by simp;omega),List.getElem?_eq_none (by simp[lsU];omega)]
theorem lsU_up {n:Nat} {f:Nat→Int} (h:∀ p q,p<q→q<n→f p≤f q):(lsU n f).Pairwise (· ≤ ·):=by
 refine List.pairwise_iff_getElem.2 fun i j hi hj hij=>?_
 simp[lsU]at hi hj ⊢
 exact h i j hij hj
set_option maxHeartbeats 1000000 in
theorem sortedU (n:Nat) (hn:4≤n) (g:Nat) (lb:Array Value) (eg:∀ args w,(callFunc g args).run Tryz.prog w=.ok (.enter g args) w) (S:List Int→Prop) (N:Nat) (hN:N≤1000000) (hS:∀ ss,S ss→ss.length≤12) (w:World) (hseq:SeqGives Fence.wide (n-1-1-1) Tryz.prog g lb encU S N w) :
  CallsIn Fence.wide n Tryz.prog 75 #[.func (.func g) #[] lb] w fun e w'=>∃ (v:Value) (ls:List Int),e=.returned v∧Hid ((∃ ss,S ss∧ls.Perm ss)∧ls.Pairwise (· ≤ ·)∧w'.ownsRow w.heap.size 30 1 v ls.length (ls.map encU)∧(v=.slice none 0 0 ↔ ls=[])∧Below w.heap.size w w'):=by
 have hA:=collectU (n-1) (by omega) g lb eg S N hN w hseq
 have hf:Fence.wide.fn 130:=trivial
 have hf2:Fence.wide.fn 131:=trivial
 have h1:1≤n:=by omega
 refine callsIn_of_wp Tryz.func75 rfl trivial ?_ rfl
 simp only[Tryz.ntmps75,List.size_toArray,List.length_cons,List.length_nil,Nat.reduceAdd,Nat.reduceSub,Array.replicate_succ,Array.replicate_zero,List.push_toArray,List.append_toArray,List.nil_append,List.cons_append]
 gi_wp2_with (gi_at_call 130;refine hA.mono ?_;rintro e W ⟨v,ss,rfl,hs,hrow,hnil,hb⟩)
 have hl:=hS ss hs
 rcases hrow.2 with ⟨rfl,hz⟩ | ⟨gb,cap,cur,rfl,hbase,hgb,r1,r2,r3,r4⟩
 ·have e0:ss=[]:=List.eq_nil_of_length_eq_zero hz
  subst e0
  have hN2:=(callsIn_wide (n:=n-1)).2 (sortU_nil W)
  gi_wp2_with (gi_at_call 131;refine hN2.mono ?_;rintro e w2 ⟨rfl,hw⟩;have hw:=hw.symm;subst hw)
  go_ret
  exact⟨_,[],rfl,⟨[],hs,List.Perm.refl _⟩,List.Pairwise.nil,by simpa using hrow,by simp,hb⟩
 ·have hR:=Ro_of_row hgb r4
  have hN2:=(callsIn_wide (n:=n-1)).2 (sortU gb ss.length cur.size cap _ W hR hl)
  gi_wp2_with (gi_at_call 131;refine hN2.mono ?_;rintro e w2 ⟨rfl,h2⟩)
  go_ret
  obtain⟨f',o2,R2,p2,s2⟩:=h2.out
  rw[lsU_get]at p2
  obtain⟨cur2,q1,q2,q3⟩:=R2.take (by omega)
  have hlen:(lsU ss.length f').length=ss.length:=by simp[lsU]
  refine⟨_,lsU ss.length f',rfl,⟨ss,hs,p2⟩,lsU_up s2,?_,?_,o2.below hb (by simp;exact hbase) hb.size⟩
  ·rw[hlen]
   exact⟨by simp[lsU],.inr ⟨gb,cap,cur2,rfl,hbase,q1,r1,r2,by rw[q2,r3],q3⟩⟩
  ·constructor
   ·intro e;cases e
   ·intro e
    have:ss.length=0:=by rw[← hlen,e];rfl
    have e0:ss=[]:=List.eq_nil_of_length_eq_zero this
    exact hnil.2 e0
theorem madd_see {b d c:Nat} {L:List Prt} {lost l mb nn:Nat} {D:DataW Unit} {w W:World} (h:MX w b L lost l mb nn D) (hd:d<w.heap.size) (cd:w.cell? ⟨d,0,none⟩=some (.int .u32 (c:Nat)))
  (hW:W=(w.alloc (.cells (MtC 0 none 0 0 none) 201)).alloc (.cells #[.pointer (some ⟨d,0,none⟩),.pointer (some ⟨w.heap.size,0,none⟩)] 122)) :
  Below w.heap.size w W∧MX W b L lost l mb nn D∧W.cell? ⟨b,0,none⟩=some (.map (some mb))∧W.cell? ⟨d,0,none⟩=some (.int .u32 (c:Nat))∧W.cell? ⟨w.heap.size+1,0,none⟩=some (.pointer (some ⟨d,0,none⟩))∧W.cell? ⟨w.heap.size+1,1,none⟩=some (.pointer (some ⟨w.heap.size,0,none⟩))∧Met W w.heap.size 0 none 0 0 none∧W.heap.size=w.heap.size+2:=by
 subst hW
 have o1:Off [] w (w.alloc (.cells (MtC 0 none 0 0 none) 201)):=Off.alloc [] w _
 have o2:=fun o=>Off.alloc [] (w.alloc (.cells (MtC 0 none 0 0 none) 201)) o
 have s1:(w.alloc (.cells (MtC 0 none 0 0 none) 201)).heap.size=w.heap.size+1:=by simp
 have hb:=heap_alloc_new (w.alloc (.cells (MtC 0 none 0 0 none) 201)) (.cells #[.pointer (some ⟨d,0,none⟩),.pointer (some ⟨w.heap.size,0,none⟩)] 122)
 rw[s1]at hb
 have hm:=(h.off o1 (by simp)).off (o2 (.cells #[.pointer (some ⟨d,0,none⟩),.pointer (some ⟨w.heap.size,0,none⟩)] 122)) (by simp)
 refine⟨(o1.trans (o2 _)).below (Below.refl _ _) (by simp) (Nat.le_refl _),hm,hm.c0,?_,cell_of_row _ _ 0 _ _ _ hb,cell_of_row _ _ 1 _ _ _ hb,(new_met w).off (o2 _) (by simp),by simp⟩
 exact (World.cell?_of_block ((o1.trans (o2 _)).block d hd (by simp))).trans cd
theorem MX.put {b c d k:Nat} {L:List Prt} {lost l mb nn:Nat} {D:DataW Unit} {w w':World} (h:MX w b L lost l mb nn D) (hf:fnd L c=none) (hc:c<4294967296) (o:Off [mb] w w') (hm:w'.ownsMap Tryz.prog 30 rdQ mb (nn+1) (D.put (.int .u32 (c:Nat)) (datq (some (d,k))))) (hk:Met w' k 0 none 0 0 none) (hkl:k≠l) (hkp:∀ p,p ∈ L→p.k≠k) (hbm:b≠mb) (hlm:l≠mb) (hpm:∀ p,p ∈ L→p.k≠mb) :
  MX w' b (L ++ [⟨c,d,k,0⟩]) lost l mb (nn+1) (D.put (.int .u32 (c:Nat)) (datq (some (d,k)))) where
 blk:=(o.block b (h.lt b (by simp[MXU])) (by simpa using hbm)).trans h.blk
 los:=h.los.off o (by simpa using hlm)
 map:=hm
 nle:=by have:=h.nle;simp;omega
 siz:=by
  rw[size_put (h.map.tidy key_u32),h.has_ c hc,hf,h.siz]
  simp
 at_:=fun x hx=>by
  unfold fndq
  rw[fnd_app]
  by_cases e:x=c
  ·subst e
   rw[atKey_put_same h.map.isMap (by trivial),hf]
   simp[fnd]
  ·rw[atKey_put_other (by simp;omega),h.at_ x hx]
   unfold fndq
   cases fnd L x with
   | none=>simp[fnd,Ne.symm e]
   | some q=>rfl
 has_:=fun x hx=>by
  rw[fnd_app]
  by_cases e:x=c
  ·subst e
   rw[has_put_same h.map.isMap (by trivial),hf]
   simp[fnd]
  ·rw[has_put_other (by simp;omega),h.has_ x hx]
   cases fnd L x with
   | none=>simp[fnd,Ne.symm e]
   | some q=>rfl
 key:=fun x hx=>by
  by_cases e:x=(c:Int)
  ·exact⟨⟨c,d,k,0⟩,by simp,e⟩
  ·rw[has_put_other (by simpa using e)]at hx
   obtain⟨p,hp,e2⟩:=h.key x hx
   exact⟨p,by simp[hp],e2⟩
 met:=fun p hp=>by
  rcases List.mem_append.1 hp with hp | hp
  ·exact⟨(h.met p hp).1.off o (by simpa using hpm p hp),(h.met p hp).2⟩
  ·simp at hp
   subst hp
   exact⟨hk,hkl,hc⟩
 one:=by
  refine List.pairwise_append.2 ⟨h.one,by simp,fun p hp q hq=>?_⟩
  simp at hq
  subst hq
  exact⟨fnd_none hf p hp,hkp p hp⟩
theorem MX.ne {b:Nat} {L:List Prt} {lost l mb nn:Nat} {D:DataW Unit} {w:World} (h:MX w b L lost l mb nn D):b≠mb∧l≠mb∧∀ p,p ∈ L→p.k≠mb:=by
 obtain⟨es,clock,hb,_⟩:=id h.map
 refine⟨fun e=>?_,fun e=>?_,fun p hp e=>?_⟩
 ·have:=h.blk
  rw[e,hb]at this
  cases this
 ·have:=h.los.at_
  rw[e,hb]at this
  cases this
 ·have:=(h.met p hp).1.at_
  rw[e,hb]at this
  cases this
def addE (L:List Prt) (c:Nat):Int:=if (fnd L c).isSome then 160 else if 8≤L.length then 150 else 0
def addL (L:List Prt) (c d k:Nat):List Prt:=if (fnd L c).isSome then L else if 8≤L.length then L else L ++ [⟨c,d,k,0⟩]
set_option maxHeartbeats 4000000 in
theorem madd_any (b d c:Nat) (L:List Prt) (lost:Nat) (V:List Nat) (w:World) (h:Mxx w b L lost V) (hc:c<4294967296) (cd:w.cell? ⟨d,0,none⟩=some (.int .u32 (c:Nat))) (hd:d<w.heap.size) (hL:L.length<1000000) :
  Calls Tryz.prog 22 #[.pointer (some ⟨b,0,none⟩),.pointer (some ⟨d,0,none⟩)] w fun e w'=>e=.returned (.int .i64 (addE L c))∧Hid (∃ V',Off V w w'∧Mxx w' b (addL L c d w.heap.size) lost V'∧∀ k,k ∈ V'→k ∈ V∨k=w.heap.size):=by
 obtain⟨l,mb,nn,D,h,hV⟩:=h
 have hq:=mnone_any b mb w h.c0
 have hbl:=h.lt b (by simp[MXU])
 go_enter Tryz.func22,Tryz.ntmps22
 go_wp2_with (first
  | (go_at_call 55;refine hq.mono ?_;rintro e w' ⟨rfl,hw⟩;have hw:=hw.symm;subst hw)
  | (go_at_call 74;refine (new_any _).mono ?_;rintro e w' ⟨rfl,hw⟩;have hw:=hw.symm;subst hw))
 generalize hW:((w.alloc (.cells (MtC 0 none 0 0 none) 201)).alloc (.cells #[.pointer (some ⟨d,0,none⟩),.pointer (some ⟨w.heap.size,0,none⟩)] 122))=W
 obtain⟨hB,hM,e1,e2,e3,e4,e6,e7⟩:=madd_see h hd cd hW.symm
 obtain⟨xa,xb,th,hX,hth⟩:∃ xa xb th,ptq (fndq L c)=.agg #[.pointer xa,.pointer xb]∧(fnd L c).isSome=th:=by
  unfold fndq
  cases fnd L c with
  | none=>exact⟨none,none,false,rfl,rfl⟩
  | some q=>exact⟨_,_,true,rfl,rfl⟩
 have hC:=mcode_any d c W.drew e2
 have hk:=(hM.off (Off.drew [] W) (by simp)).look2 c hc
 have hs:W.drew.heap.size=w.heap.size+2:=e7
 have oW:Off [] W (W.alloc (.cells #[.pointer none,.pointer none] 122)).drew:=(Off.alloc [] W _).trans (Off.drew [] _)
 have hC2:=mcode_any d c (W.alloc (.cells #[.pointer none,.pointer none] 122)).drew ((World.cell?_of_block (oW.block d (by omega) (by simp))).trans e2)
 have hk2:=(hM.off oW (by simp)).look2 c hc
 rw[hX,hth]at hk hk2
 have g1:(W.alloc (.cells #[.pointer none,.pointer none] 122)).drew.cell? ⟨b,0,none⟩=some (.map (some mb)):=(World.cell?_of_block (oW.block b (by omega) (by simp))).trans e1
 have g3:(W.alloc (.cells #[.pointer none,.pointer none] 122)).drew.cell? ⟨w.heap.size+1,0,none⟩=some (.pointer (some ⟨d,0,none⟩)):=(World.cell?_of_block (oW.block (w.heap.size+1) (by omega) (by simp))).trans e3
 have n1:¬ b=w.heap.size+2:=by omega
 have n2:¬ d=w.heap.size+2:=by omega
 have HM:Hid (_):=And.intro hB (And.intro hM (And.intro e6 (And.intro h (And.intro hV hth))))
 clear hW hB hM h hq oW hX hth e6 hV
 go_cut [7] (fun x7 wx=>x7=.bool th∧Hid (Off [] W wx))
 case first=>
  go_region_with (go_at_call 63;first | (refine hC.mono ?_;rintro e w2 ⟨rfl,hw⟩;have hw:=hw.symm;subst hw) | (refine hC2.mono ?_;rintro e w2 ⟨rfl,hw⟩;have hw:=hw.symm;subst hw))
  all_goals
   go_wp2_with fail
   go_meet
   exact⟨rfl,(Off.alloc [] W _).trans (Off.drew [] _)⟩
 case rest=>
  obtain⟨rfl,H⟩:=hcut
  clear hC hC2 hk hk2 g1 g3 n1 n2 hs
  obtain⟨hB,hM,e6,h,hV,hth⟩:=HM.out
  have oc:=H.out
  have hMc:=hM.off oc (by simp)
  have sc:=oc.size
  have hBw:Below w.heap.size w wc:=oc.below hB (by simp) hB.size
  have f1:=hMc.c0
  have f2:wc.cell? ⟨d,0,none⟩=some (.int .u32 (c:Nat)):=(World.cell?_of_block (oc.block d (by omega) (by simp))).trans e2
  have f3:wc.cell? ⟨w.heap.size+1,0,none⟩=some (.pointer (some ⟨d,0,none⟩)):=(World.cell?_of_block (oc.block (w.heap.size+1) (by omega) (by simp))).trans e3
  have f4:wc.cell? ⟨w.heap.size+1,1,none⟩=some (.pointer (some ⟨w.heap.size,0,none⟩)):=(World.cell?_of_block (oc.block (w.heap.size+1) (by omega) (by simp))).trans e4
  have hlen:=hMc.map.len Tryz.underlying117 3
  rw[hMc.siz]at hlen
  clear HM H e1 e2 e3 e4
  cases th with
  | true=>
   have HO:Hid (∃ V',Off V w wc∧Mxx wc b (addL L c d w.heap.size) lost V'∧∀ k,k ∈ V'→k ∈ V∨k=w.heap.size):=⟨V,Off.of_below hBw,by unfold addL;rw[hth];exact⟨l,mb,nn,D,hMc,hV⟩,fun k hk=>.inl hk⟩
   have hE:addE L c=160:=by unfold addE;rw[hth];rfl
   clear hB hM e6 h hV hth oc hMc hBw hlen
   go_wp2_with fail
   go_ret
   exact⟨by rw[hE];rfl,HO⟩
  | false=>
   have hf:fnd L c=none:=by
    cases hq:fnd L c with
    | none=>rfl
    | some q=>rw[hq]at hth;cases hth
   by_cases h8:8≤L.length
   ·have HO:Hid (∃ V',Off V w wc∧Mxx wc b (addL L c d w.heap.size) lost V'∧∀ k,k ∈ V'→k ∈ V∨k=w.heap.size):=⟨V,Off.of_below hBw,by unfold addL;rw[hth,if_neg (by simp),if_pos h8];exact⟨l,mb,nn,D,hMc,hV⟩,fun k hk=>.inl hk⟩
    have hE:addE L c=150:=by unfold addE;rw[hth,if_neg (by simp),if_pos h8]
    have h8':(8:Int) ≤ (L.length:Int):=by omega
    clear hB hM e6 h hV hth oc hMc hBw hf
    go_wp2_with fail
    go_ret
    exact⟨by rw[hE];rfl,HO⟩
   ·have hE:addE L c=0:=by unfold addE;rw[hth,if_neg (by simp),if_neg h8]
    have hLc:addL L c d w.heap.size=L ++ [⟨c,d,w.heap.size,0⟩]:=by unfold addL;rw[hth,if_neg (by simp),if_neg h8]
    have h8':¬ (8:Int) ≤ (L.length:Int):=by omega
    have hMd:=hMc.off (Off.drew [] wc) (by simp)
    have hnn:nn<maxLen:=by have:=hMc.nle;unfold maxLen;omega
    obtain⟨w2,hrun,hown,hg⟩:=hMd.map.update key_u32 Tryz.underlying117 hnn (keyOf_int_mk Tryz.underlying30 (wf_u32 c hc)) (rdQ_ptq (some (d,w.heap.size)))
    change (Instr.mapUpdate 117 (.map (some mb)) (.int .u32 (c:Nat)) (.agg #[.pointer (some ⟨d,0,none⟩),.pointer (some ⟨w.heap.size,0,none⟩)])).run Tryz.prog wc.drew=.ok () w2 at hrun
    have o2:Off [mb] wc.drew w2:=⟨hg.os,hg.tape,hg.output,hg.size,fun k hk hb=>hg.block k hk (by simp at hb;simp;exact hb)⟩
    obtain⟨z1,z2,z3⟩:=hMd.ne
    have hmw:=h.lt mb (by simp[MXU])
    have hlw:=h.lt l (by simp[MXU])
    have hpw:∀ p,p ∈ L→p.k<w.heap.size:=fun p hp=>h.lt p.k (by simp[MXU];exact .inr (.inr (.inr ⟨p,hp,rfl⟩)))
    have hMn:=hMd.put (d:=d) (k:=w.heap.size) hf hc o2 hown (((e6.off oc (by simp)).off (Off.drew [] wc) (by simp)).off o2 (by simp;omega)) (by omega) (fun p hp=>by have:=hpw p hp;omega) z1 z2 z3
    have HO:Hid (∃ V',Off V w w2∧Mxx w2 b (L ++ [⟨c,d,w.heap.size,0⟩]) lost V'∧∀ k,k ∈ V'→k ∈ V∨k=w.heap.size):=by
     refine⟨_,((Off.of_below hBw).trans (Off.drew V wc)).trans (o2.more (fun k hk=>by simp at hk;subst hk;rw[hV];simp[MXU])),⟨l,mb,_,_,hMn,rfl⟩,fun k hk=>?_⟩
     rw[hV]
     simp[MXU]at hk ⊢
     rcases hk with rfl | rfl | rfl | ⟨p,hp,rfl⟩ | rfl
     ·exact .inl (.inl rfl)
     ·exact .inl (.inr (.inl rfl))
     ·exact .inl (.inr (.inr (.inl rfl)))
     ·exact .inl (.inr (.inr (.inr ⟨p,hp,rfl⟩)))
     ·exact .inr rfl
    have hC3:=mcode_any d c wc.drew f2
    clear hB hM e6 h hV hth oc hMc hBw hf hMd hown hg o2 z1 z2 z3 hMn hpw
    go_wp2_with fail
    go_region_with (go_at_call 63;refine hC3.mono ?_;rintro e w3 ⟨rfl,hw⟩;have hw:=hw.symm;subst hw)
    all_goals
     go_wp2_with fail
     go_ret
     exact⟨by rw[hE];rfl,by rw[hLc];exact HO⟩
def cdsM (L:List Prt):List Int:=L.map fun p=>(p.c:Int)
theorem MX.codes {w:World} {b:Nat} {L:List Prt} {lost l mb nn:Nat} {D:DataW Unit} (h:MX w b L lost l mb nn D) {ss:List Int} (hs:AllK D ss):ss.Perm (cdsM L):=by
 refine (List.perm_ext_iff_of_nodup hs.1 ?_).2 fun x=>?_
 ·unfold cdsM
  refine List.pairwise_map.2 (h.one.imp fun {p q} hpq e=>hpq.1 (by omega))
 ·rw[hs.2 x]
  constructor
  ·intro hx
   obtain⟨p,hp,e⟩:=h.key x hx
   exact List.mem_map.2 ⟨p,hp,e.symm⟩
  ·intro hx
   obtain⟨p,hp,rfl⟩:=List.mem_map.1 hx
   rw[h.has_ p.c (h.met p hp).2.2]
   cases hq:fnd L p.c with
   | none=>exact absurd rfl (fnd_none hq p hp)
   | some q=>rfl
set_option maxHeartbeats 1000000 in
theorem mcodes_any (b:Nat) (L:List Prt) (lost:Nat) (V:List Nat) (w:World) (h:Mxx w b L lost V) (hL:L.length≤12) :
  Calls Tryz.prog 24 #[.pointer (some ⟨b,0,none⟩)] w fun e w'=>∃ (v:Value) (ls:List Int),e=.returned v∧Hid (ls.Perm (cdsM L)∧ls.Pairwise (· ≤ ·)∧w'.ownsRow w.heap.size 30 1 v ls.length (ls.map encU)∧(v=.slice none 0 0 ↔ ls=[])∧Below w.heap.size w w'):=by
 obtain⟨l,mb,nn,D,h,_⟩:=h
 have c0:=h.c0
 have hlt:=h.map.lt
 have hseq:=keysU_gives w.heap.size mb nn 2 (by omega) D (w.alloc (.cells #[.map (some mb)] 117)) (by simp) (by simp) (ownsMap_off h.map (Off.alloc [] w _) (by simp))
 have cQ:=(callsIn_wide (n:=5)).2 (mnone_any b mb w c0)
 have cK:=keysU (some mb) 5 w
 have cS:=sortedU 5 (by omega) 132 #[.pointer (some ⟨w.heap.size,0,none⟩)] (enters_of Tryz.func132 (by kernel_rfl) rfl) (AllK D) (Maps.size D) (by rw[h.siz];omega) (fun ss hs=>by rw[(h.codes hs).length_eq];simpa [cdsM] using hL) _ hseq
 have f1:Fence.wide.fn 55:=trivial
 have f2:Fence.wide.fn 76:=trivial
 have f3:Fence.wide.fn 75:=trivial
 have H:Hid (_):=h
 clear h hseq
 refine (callsIn_wide (n:=6)).1 ?_
 refine callsIn_of_wp Tryz.func24 rfl trivial ?_ rfl
 simp only[Tryz.ntmps24,List.size_toArray,List.length_cons,List.length_nil,Nat.reduceAdd,Nat.reduceSub,Array.replicate_succ,Array.replicate_zero,List.push_toArray,List.append_toArray,List.nil_append,List.cons_append]
 gi_wp2_with (first
  | (gi_at_call 55;refine cQ.mono ?_;rintro e w' ⟨rfl,hw⟩;have hw:=hw.symm;subst hw)
  | (gi_at_call 76;refine cK.mono ?_;rintro e w' ⟨rfl,rfl⟩)
  | (gi_at_call 75;refine cS.mono ?_;rintro e w' ⟨v,ls,rfl,h2⟩))
 go_ret
 obtain⟨⟨ss,hs,hp⟩,hup,hrow,hnil,hb⟩:=h2.out
 exact⟨v,ls,rfl,hp.trans (H.out.codes hs),hup,ownsRow_base_a hrow (by simp),hnil,((Below.refl _ w).alloc (Nat.le_refl _) _).trans (hb.mono (by simp))⟩
theorem info_ptM:(Tryz.prog.info? 45).map (fun i=>(i.zero,i.size,i.bytes))=some (some (.pointer none),1,8):=by kernel_rfl
theorem info_inM:(Tryz.prog.info? 3).map (fun i=>(i.zero,i.size,i.bytes))=some (some (.int .i64 0),1,8):=by kernel_rfl
theorem grown_blk {w w':World} {row:Option Nat} {k:Nat} {o:Obj} (h:w.grownBy w' row) (hk:w.heap[k]?=some o) (hr:row≠some k):w'.heap[k]?=some o:=(h.block k (Array.getElem?_eq_some_iff.1 hk).1 (fun e=>hr e.symm)).trans hk
theorem Off.grownO {w w':World} {row:Option Nat} (h:w.grownBy w' row):Off row.toList w w':=⟨h.os,h.tape,h.output,h.size,fun k hk hb=>h.block k hk (by intro e;apply hb;rw[← e];simp)⟩
theorem one_cellG {W:World} {g:Nat} {e:TypeId} {y:Value} (h:W.heap[g]?=some (.cells #[y] e (0,0))):∀ j u,[y][j]?=some u→W.cell? ((⟨g,0,none⟩:Addr).add j)=some u:=by
 intro j u hu
 have hj:j=0:=by
  have:=(List.getElem?_eq_some_iff.1 hu).1
  simp at this;exact this
 subst hj
 simp at hu
 subst hu
 rw[Go.WideShapes.add_plain]
 exact (cell_of_row W g 0 _ _ _ h).trans rfl
theorem own_sl {w:World} {B e size n:Nat} {v:Value} {xs:List Value} (h:w.ownsRow B e size v n xs):∃ a cap m,v=.slice a m cap:=by
 rcases h.2 with ⟨rfl,_⟩ | ⟨g,cap,cur,rfl,_⟩
 ·exact⟨none,0,0,rfl⟩
 ·exact⟨_,cap,n,rfl⟩
theorem own_some1M {w:World} {B e size n:Nat} {v:Value} {xs:List Value} (h:w.ownsRow B e size v (n+1) xs):∃ g cap,v=.slice (some ⟨g,0,none⟩) (n+1) cap∧B≤g∧g<w.heap.size:=by
 rcases h.2 with ⟨_,hn⟩ | ⟨g,cap,cur,rfl,hB,hg,_⟩
 ·omega
 ·exact⟨g,cap,rfl,hB,(Array.getElem?_eq_some_iff.1 hg).1⟩
section
variable {w w1:World} {b lost:Nat} {v1 v2 v':Value} {ds ns:List Nat} {ob:Obj}
theorem RMx.app1 (h:RMx w b v1 v2 ds ns lost) (d:Nat) (o1:w1.ownsRow 0 45 1 v' (ds.length+1) (ds.map ptV ++ [ptV d])) (g1:(w.alloc ob).grownBy w1 v1.ownBlock) (hb:v'.ownBlock=v1.ownBlock∨v'.ownBlock=some (w.heap.size+1)) :
  w1.heap[b]?=some (.cells #[v1,v2,.int .i64 (lost:Nat)] 102 (0,0))∧RMx (w1.setCell ⟨b,0,none⟩ v') b v' v2 (ds ++ [d]) ns lost∧Gr (RMU b v1 v2) w (RMU b v' v2) (w1.setCell ⟨b,0,none⟩ v'):=by
 have hbl:=h.lt b (by simp[RMU])
 have nb1:v1.ownBlock≠some b:=fun e=>by
  obtain⟨c,hc⟩:=own_blkM h.r1 e
  exact tdiffM h.blk hc (by decide) rfl
 have nb2:v2.ownBlock≠some b:=fun e=>by
  obtain⟨c,hc⟩:=own_blkM h.r2 e
  exact tdiffM h.blk hc (by decide) rfl
 have n12:∀ k,v2.ownBlock=some k→v1.ownBlock≠some k:=fun k hk e=>by
  obtain⟨c,hc⟩:=own_blkM h.r1 e
  obtain⟨c',hc'⟩:=own_blkM h.r2 hk
  exact tdiffM hc hc' (by decide) rfl
 have e1:w1.heap[b]?=some (.cells #[v1,v2,.int .i64 (lost:Nat)] 102 (0,0)):=grown_blk g1 ((old_allocU hbl).trans h.blk) nb1
 have oA:Off (RMU b v1 v2) w w1:=((Off.alloc _ w ob).trans ((Off.grownO g1).more (fun k hk=>by simp at hk;simp[RMU,hk])))
 have oB:Off (RMU b v1 v2) w (w1.setCell ⟨b,0,none⟩ v'):=oA.trans ((Off.setCell b 0 w1 v').more (fun k hk=>by simp at hk;simp[RMU,hk]))
 have s1:(w.alloc ob).heap.size=w.heap.size+1:=by simp
 refine⟨e1,⟨?_,?_,?_⟩,oB,fun k hk=>?_⟩
 ·exact heap_setCell_same _ _ _ _ _ _ e1
 ·rw[List.length_append,List.map_append]
  refine own_offM o1 (Off.setCell b 0 w1 v') (fun k hk hm=>?_)
  simp at hm
  subst hm
  rcases hb with hb | hb
  ·exact nb1 (hb ▸ hk)
  ·rw[hb]at hk
   simp at hk
   omega
 ·refine own_offM (own_offM (own_offM h.r2 (Off.alloc [] w ob) (by simp)) (Off.grownO g1) (fun k hk hm=>?_)) (Off.setCell b 0 w1 v') (fun k hk hm=>?_)
  ·simp at hm
   exact n12 k hk hm
  ·simp at hm
   subst hm
   exact nb2 hk
 ·simp[RMU]at hk
  rcases hk with rfl | hk | hk
  ·exact .inl (by simp[RMU])
  ·rcases hb with hb | hb
   ·exact .inl (by simp[RMU,← hb,hk])
   ·rw[hb]at hk
    simp at hk
    exact .inr (by omega)
  ·exact .inl (by simp[RMU,hk])
theorem RMx.app2 (h:RMx w b v1 v2 ds ns lost) (o1:w1.ownsRow 0 3 1 v' (ns.length+1) (ns.map inV ++ [inV 0])) (g1:(w.alloc ob).grownBy w1 v2.ownBlock) (hb:v'.ownBlock=v2.ownBlock∨v'.ownBlock=some (w.heap.size+1)) :
  w1.heap[b]?=some (.cells #[v1,v2,.int .i64 (lost:Nat)] 102 (0,0))∧RMx (w1.setCell ⟨b,1,none⟩ v') b v1 v' ds (ns ++ [0]) lost∧Gr (RMU b v1 v2) w (RMU b v1 v') (w1.setCell ⟨b,1,none⟩ v'):=by
 have hbl:=h.lt b (by simp[RMU])
 have nb1:v1.ownBlock≠some b:=fun e=>by
  obtain⟨c,hc⟩:=own_blkM h.r1 e
  exact tdiffM h.blk hc (by decide) rfl
 have nb2:v2.ownBlock≠some b:=fun e=>by
  obtain⟨c,hc⟩:=own_blkM h.r2 e
  exact tdiffM h.blk hc (by decide) rfl
 have n12:∀ k,v1.ownBlock=some k→v2.ownBlock≠some k:=fun k hk e=>by
  obtain⟨c,hc⟩:=own_blkM h.r1 hk
  obtain⟨c',hc'⟩:=own_blkM h.r2 e
  exact tdiffM hc hc' (by decide) rfl
 have e1:w1.heap[b]?=some (.cells #[v1,v2,.int .i64 (lost:Nat)] 102 (0,0)):=grown_blk g1 ((old_allocU hbl).trans h.blk) nb2
 have oA:Off (RMU b v1 v2) w w1:=((Off.alloc _ w ob).trans ((Off.grownO g1).more (fun k hk=>by simp at hk;simp[RMU,hk])))
 have oB:Off (RMU b v1 v2) w (w1.setCell ⟨b,1,none⟩ v'):=oA.trans ((Off.setCell b 1 w1 v').more (fun k hk=>by simp at hk;simp[RMU,hk]))
 have s1:(w.alloc ob).heap.size=w.heap.size+1:=by simp
 refine⟨e1,⟨?_,?_,?_⟩,oB,fun k hk=>?_⟩
 ·exact heap_setCell_same _ _ _ _ _ _ e1
 ·refine own_offM (own_offM (own_offM h.r1 (Off.alloc [] w ob) (by simp)) (Off.grownO g1) (fun k hk hm=>?_)) (Off.setCell b 1 w1 v') (fun k hk hm=>?_)
  ·simp at hm
   exact n12 k hk hm
  ·simp at hm
   subst hm
   exact nb1 hk
 ·rw[List.length_append,List.map_append]
  refine own_offM o1 (Off.setCell b 1 w1 v') (fun k hk hm=>?_)
  simp at hm
  subst hm
  rcases hb with hb | hb
  ·exact nb2 (hb ▸ hk)
  ·rw[hb]at hk
   simp at hk
   omega
 ·simp[RMU]at hk
  rcases hk with rfl | hk | hk
  ·exact .inl (by simp[RMU])
  ·exact .inl (by simp[RMU,hk])
  ·rcases hb with hb | hb
   ·exact .inl (by simp[RMU,← hb,hk])
   ·rw[hb]at hk
    simp at hk
    exact .inr (by omega)
end
set_option maxHeartbeats 2000000 in
theorem radd_ok (b:Nat) (v1 v2:Value) (ds ns:List Nat) (lost:Nat) (cs:Nat→Nat) (d c:Nat) (w:World) (h:RMx w b v1 v2 ds ns lost) (hc:∀ i (hi:i<ds.length),w.cell? ⟨ds[i],0,none⟩=some (.int .u32 (cs i:Nat))) (cd:w.cell? ⟨d,0,none⟩=some (.int .u32 (c:Nat))) (hf:∀ i,i<ds.length→cs i≠c) (h8:ds.length<8) (hn8:ns.length<1000) :
  Calls Tryz.prog 39 #[.pointer (some ⟨b,0,none⟩),.pointer (some ⟨d,0,none⟩)] w fun e w'=>e=.returned (.int .i64 0)∧Hid (∃ v1' v2',Gr (RMU b v1 v2) w (RMU b v1' v2') w'∧RMx w' b v1' v2' (ds ++ [d]) (ns ++ [0]) lost):=by
 have hF:=rfind_any b v1 v2 ds ns lost cs c w h hc (by omega)
 obtain⟨i0,hi,hz0,hz1,hz2⟩:=info_parts info_ptM
 obtain⟨j0,hj,hy0,hy1,hy2⟩:=info_parts info_inM
 obtain⟨a1,cap1,rfl,_⟩:=own_ptr h.r1
 obtain⟨a2,cap2,m,rfl⟩:=own_sl h.r2
 have c0:w.cell? ⟨b,0,none⟩=some (.slice a1 ds.length cap1):=cell_of_row w b 0 _ _ _ h.blk
 have r1:=h.r1.alloc (.cells #[.pointer (some ⟨d,0,none⟩)] 45)
 have HH:Hid (_):=h
 have HF:Hid (_):=hf
 have hbl:=h.lt b (by simp[RMU])
 obtain⟨n,en⟩:∃ n,n=ds.length:=⟨_,rfl⟩
 have HN:Hid (n=ds.length):=en
 have h8':¬ (8:Int) ≤ (n:Int):=by omega
 rw[← en]at c0 r1
 clear h hf hc en
 go_enter Tryz.func39,Tryz.ntmps39
 go_wp2_with (first
  | (go_at_call 90;refine hF.mono ?_;rintro e w' ⟨r,rfl,hr,hw⟩;have hw:=hw.symm;subst hw;have hr':r = -1:=(by rcases hr.out with ⟨e,_⟩ | ⟨j,hj,_,e,_⟩;exact e;exact absurd e (HF.out j hj));subst hr')
  | (at_builtin;refine wpList_append_own_at _ rfl (.tmp 23) (.tmp 25) 40 rfl 0 45 i0 (.pointer none) 1 8 Tryz.underlying40 hi hz0 hz1 hz2 rfl (by decide) (.slice a1 n cap1) n (ds.map ptV) rfl r1 ⟨w.heap.size,0,none⟩ 1 1 [ptV d] rfl rfl (one_cellG (heap_alloc_new w _)) (by intro u hu;simp at hu;subst hu;rfl) (by unfold maxLen;omega) (by omega) (Nat.zero_le _) ?_))
 intro v1' w1 o1 g1 _ b1
 obtain⟨x1,y1,rfl,_,_⟩:=own_some1M o1
 have hA:=HH.out.app1 d (by rw[← HN.out];exact o1) (by rw[← HN.out];exact g1) (by rw[← HN.out];exact b1)
 have k0:w1.cell? ⟨b,0,none⟩=some (.slice a1 ds.length cap1):=cell_of_row w1 b 0 _ _ _ hA.1
 have z0:w1.frozen? ⟨b,0,none⟩=false:=frozen_of_row w1 b 0 _ _ hA.1
 have z1:(w1.setCell ⟨b,0,none⟩ (.slice (some ⟨x1,0,none⟩) (n+1) y1)).cell? ⟨b,1,none⟩=some (.slice a2 m cap2):=cell_of_row _ b 1 _ _ _ hA.2.1.blk
 have r2:=hA.2.1.r2.alloc (.cells #[.int .i64 0] 3)
 have HA:Hid (_):=hA
 clear hA o1 g1 b1 r1 hF
 generalize hw2:w1.setCell ⟨b,0,none⟩ (.slice (some ⟨x1,0,none⟩) (n+1) y1)=w2 at *
 go_wp2_with (at_builtin;refine wpList_append_own_at _ rfl (.tmp 33) (.tmp 34) 87 rfl 0 3 j0 (.int .i64 0) 1 8 Tryz.underlying87 hj hy0 hy1 hy2 rfl (by decide) (.slice a2 m cap2) ns.length (ns.map inV) rfl r2 ⟨w2.heap.size,0,none⟩ 1 1 [inV 0] rfl rfl (one_cellG (heap_alloc_new w2 _)) (by intro u hu;simp at hu;subst hu;rfl) (by unfold maxLen;omega) (by omega) (Nat.zero_le _) ?_)
 intro v2' w3 o3 g3 _ b3
 obtain⟨x3,y3,rfl,_,_⟩:=own_some1M o3
 have hB:=HA.out.2.1.app2 o3 g3 b3
 have k1:w3.cell? ⟨b,1,none⟩=some (.slice a2 m cap2):=cell_of_row w3 b 1 _ _ _ hB.1
 have z3:w3.frozen? ⟨b,1,none⟩=false:=frozen_of_row w3 b 1 _ _ hB.1
 have HB:Hid (_):=hB
 clear hB o3 g3 b3 r2
 go_wp2_with fail
 go_ret
 exact⟨rfl,_,_,HA.out.2.2.trans HB.out.2.2,HB.out.2.1⟩
theorem radd_no (b:Nat) (v1 v2:Value) (ds ns:List Nat) (lost:Nat) (cs:Nat→Nat) (d c:Nat) (w:World) (h:RMx w b v1 v2 ds ns lost) (hc:∀ i (hi:i<ds.length),w.cell? ⟨ds[i],0,none⟩=some (.int .u32 (cs i:Nat))) (cd:w.cell? ⟨d,0,none⟩=some (.int .u32 (c:Nat))) (hn:ds.length<1000) (E:Int) (hE:((∃ i,i<ds.length∧cs i=c)∧E=160)∨((∀ i,i<ds.length→cs i≠c)∧8≤ds.length∧E=150)) :
  Calls Tryz.prog 39 #[.pointer (some ⟨b,0,none⟩),.pointer (some ⟨d,0,none⟩)] w fun e w'=>e=.returned (.int .i64 E)∧w'=w:=by
 have hF:=rfind_any b v1 v2 ds ns lost cs c w h hc (by omega)
 obtain⟨a1,cap1,rfl,_⟩:=own_ptr h.r1
 have c0:w.cell? ⟨b,0,none⟩=some (.slice a1 ds.length cap1):=cell_of_row w b 0 _ _ _ h.blk
 obtain⟨n,en⟩:∃ n,n=ds.length:=⟨_,rfl⟩
 rw[← en]at c0 hF hn hE
 clear h hc en
 rcases hE with ⟨⟨i,hi,hic⟩,rfl⟩ | ⟨hf,h8,rfl⟩
 ·go_enter Tryz.func39,Tryz.ntmps39
  go_wp2_with (go_at_call 90;refine hF.mono ?_;rintro e w' ⟨r,rfl,hr,hw⟩;have hw:=hw.symm;subst hw;have hr':0≤r:=(by rcases hr.out with ⟨_,e⟩ | ⟨j,_,e,_⟩;exact absurd hic (e i hi);omega))
  go_ret
  exact⟨rfl,rfl⟩
 ·have h8':(8:Int) ≤ (n:Int):=by omega
  go_enter Tryz.func39,Tryz.ntmps39
  go_wp2_with (go_at_call 90;refine hF.mono ?_;rintro e w' ⟨r,rfl,hr,hw⟩;have hw:=hw.symm;subst hw;have hr':r = -1:=(by rcases hr.out with ⟨e,_⟩ | ⟨j,hj,_,e,_⟩;exact e;exact absurd e (hf j hj));subst hr')
  go_ret
  exact⟨rfl,rfl⟩
end Go.Proofs.YtffehehghpafdaaGreat
namespace Go.Proofs.YtffehehghpafdaaGreat
set_option maxRecDepth 100000
open Go.RowKit Go.Maps Go.Sort Go.Shelf
def cdsC (n:Nat) (cs:Nat→Nat):List Int:=(List.range n).map fun j=>(cs j:Int)
theorem cdsC_succ (i:Nat) (cs:Nat→Nat):cdsC (i+1) cs=cdsC i cs ++ [(cs i:Int)]:=by simp[cdsC,List.range_succ]
theorem cdsC_len (i:Nat) (cs:Nat→Nat):(cdsC i cs).length=i:=by simp[cdsC]
theorem RW.code {w:World} {d m g n mx:Nat} {P:Pm} {U:List Nat} {s:Sd} (h:RW w d m g n mx P U s):w.cell? ⟨d,0,none⟩=some (.int .u32 (P.c:Nat)):=by
 obtain⟨B,x⟩:=h
 exact cell_of_row w d 0 _ _ _ x.dev
set_option maxHeartbeats 1000000 in
theorem rcodesM_any (b:Nat) (v1 v2:Value) (ds ns:List Nat) (lost:Nat) (cs:Nat→Nat) (w:World) (h:RMx w b v1 v2 ds ns lost) (hc:∀ i (hi:i<ds.length),w.cell? ⟨ds[i],0,none⟩=some (.int .u32 (cs i:Nat))) (hn:ds.length<10000) :
  Calls Tryz.prog 47 #[.pointer (some ⟨b,0,none⟩)] w fun e w'=>∃ v,e=.returned v∧Hid (w'.ownsRow w.heap.size 30 1 v (riseU (cdsC ds.length cs)).length ((riseU (cdsC ds.length cs)).map encU)∧Below w.heap.size w w'):=by
 obtain⟨a1,cap1,rfl,hcs⟩:=own_ptr h.r1
 have c0:w.cell? ⟨b,0,none⟩=some (.slice a1 ds.length cap1):=cell_of_row w b 0 _ _ _ h.blk
 have hbl:=h.lt b (by simp[RMU])
 have HC:Hid (_):=And.intro hcs hc
 obtain⟨n,en⟩:∃ n,n=ds.length:=⟨_,rfl⟩
 have HN:Hid (n=ds.length):=en
 rw[← en]at c0 hn ⊢
 clear en hcs h hc
 go_enter Tryz.func47,Tryz.ntmps47
 go_wp2_with fail
 go_loopw [3,4] (fun v x wr=>∃ i:Nat,i≤n∧x=.int .i64 ((i:Nat):Int)∧Hid (wr.ownsRow w.heap.size 30 1 v (cdsC i cs).length ((cdsC i cs).map encU)∧Below w.heap.size w wr)) (fun _ x _=>n-natU x)
 case atStart=>exact⟨0,by omega,rfl,World.ownsRow_nil _ _ _ _,Below.refl _ _⟩
 case round=>
  obtain⟨i,hi,rfl,HR⟩:=hrel
  have c1:wr.cell? ⟨b,0,none⟩=some (.slice a1 n cap1):=(World.cell?_of_block (HR.out.2.block b hbl)).trans c0
  by_cases hlt:i<n
  ·have hil:i<ds.length:=by rw[← HN.out];exact hlt
   obtain⟨g,rfl,hg,x1⟩:=HC.out.1 i hil
   have x2:=HC.out.2 i hil
   unfold ptV at x1
   have d1:wr.cell? ⟨g,i,none⟩=some (.pointer (some ⟨ds[i],0,none⟩)):=(World.cell?_of_block (HR.out.2.block g hg)).trans x1
   have d2:wr.cell? ⟨ds[i],0,none⟩=some (.int .u32 (cs i:Nat)):=(World.cell?_of_block (HR.out.2.block _ (World.block_lt_of_cell? w _ x2))).trans x2
   generalize ds[i]=d at *
   clear x1 x2
   go_wp2_with (at_builtin;refine step_one rfl (.tmp 14) (.tmp 26) rfl w _ (cdsC i cs) (cs i:Nat) wr.heap.size rfl rfl (own_below HR.out.1 ((Below.refl _ _).alloc (Nat.le_refl _) _)) (heap_alloc_new wr _) (by rw[cdsC_len];omega) (HR.out.2.alloc HR.out.2.size _) ?_;intro v' w4 H4)
   go_roundw
   case rel=>exact⟨i+1,by omega,by go_num,by rw[cdsC_succ];exact H4⟩
   case measure=>simp[natU] <;> omega
  ·obtain rfl:i=n:=by omega
   obtain⟨a,cap,rfl,hcs⟩:=own_cellsU HR.out.1
   rw[cdsC_len]
   have hRi:=rrising_any a cap (cdsC i cs) wr hcs (by rw[cdsC_len];omega)
   rw[cdsC_len]at hRi
   clear hcs
   go_wp2_with (go_at_call 98;refine hRi.mono ?_;rintro e w5 ⟨v5,rfl,h5⟩)
   go_ret
   exact⟨_,rfl,own_baseU h5.out.1 HR.out.2.size,HR.out.2.trans (h5.out.2.mono HR.out.2.size)⟩
open Go.RowKit Go.Maps
set_option maxHeartbeats 1000000 in
theorem mport_no (b:Nat) (a:Option Addr) (len cap:Nat) (bs:Nat→Nat) (w:World) (hr:Row8 w a len cap bs) (hE:DE bs len≠0) :
  Calls Tryz.prog 61 #[.pointer (some ⟨b,0,none⟩),.slice a len cap] w fun e w'=>e=.returned (.tuple #[.agg #[.pointer none,.pointer none],.int .i64 (DE bs len)])∧Below w.heap.size w w':=by
 have hb1:Below w.heap.size w (w.alloc (.cells #[.pointer none,.pointer none] 122)):=(Below.refl _ _).alloc (Nat.le_refl _) _
 have hD:=decode_no a len cap bs _ (hr.below hb1) hE
 have hs1:(w.alloc (.cells #[.pointer none,.pointer none] 122)).heap.size=w.heap.size+1:=by simp
 have hn1:=heap_alloc_new w (.cells #[.pointer none,.pointer none] 122)
 have HB:Hid (_):=And.intro hb1 (And.intro hs1 hn1)
 generalize DE bs len=E at *
 clear hr hb1 hs1 hn1
 go_enter Tryz.func61,Tryz.ntmps61
 go_wp2_with (go_at_call 86;refine hD.mono ?_;rintro e w2 ⟨rfl,b2⟩;have k:=(b2.block w.heap.size (by rw[HB.out.2.1];omega)).trans HB.out.2.2;have k0:=cell_of_row w2 w.heap.size 0 _ _ _ k;have k1:=cell_of_row w2 w.heap.size 1 _ _ _ k;have f0:=frozen_of_row w2 w.heap.size 0 _ _ k;have f1:=frozen_of_row w2 w.heap.size 1 _ _ k;have kl:w.heap.size<w2.heap.size:=(Array.getElem?_eq_some_iff.1 k).1;clear hD)
 have hb2:Below w.heap.size w w2:=HB.out.1.trans (b2.mono (by rw[HB.out.2.1];omega))
 refine bodyPost_ret (v:=.tuple #[.agg #[.pointer none,.pointer none],.int .i64 E]) (by simp[results,Tryz.results61,go_sem,k0,k1,kl]) rfl ⟨rfl,?_⟩
 exact ((hb2.setCell (Nat.le_refl _) _).setCell (Nat.le_refl _) _).alloc (by simp;omega) _
set_option maxHeartbeats 4000000 in
theorem mport_ok (b:Nat) (L:List Prt) (lost:Nat) (V:List Nat) (a:Option Addr) (len cap:Nat) (bs:Nat→Nat) (c:Nat) (w:World) (h:Mxx w b L lost V) (hr:Row8 w a len cap bs) (hE:DE bs len=0) (hc:c=w4v bs 1) (hcl:c<4294967296) (E:Int) (hEE:E=if (fnd L c).isSome then 0 else 44) :
  Calls Tryz.prog 61 #[.pointer (some ⟨b,0,none⟩),.slice a len cap] w fun e w'=>e=.returned (.tuple #[ptq (fndq L c),.int .i64 E])∧Below w.heap.size w w':=by
 obtain⟨l,mb,nn,D,h,hV⟩:=h
 have hb1:Below w.heap.size w (w.alloc (.cells #[.pointer none,.pointer none] 122)):=(Below.refl _ _).alloc (Nat.le_refl _) _
 have hD:=decode_ok a len cap bs _ (hr.below hb1) hE
 rw[← hc]at hD
 have hs1:(w.alloc (.cells #[.pointer none,.pointer none] 122)).heap.size=w.heap.size+1:=by simp
 have hn1:=heap_alloc_new w (.cells #[.pointer none,.pointer none] 122)
 have hbl:=h.lt b (by simp[MXU])
 obtain⟨xa,xb,th,hX,hth⟩:∃ xa xb th,ptq (fndq L c)=.agg #[.pointer xa,.pointer xb]∧(fnd L c).isSome=th:=by
  unfold fndq
  cases fnd L c with
  | none=>exact⟨none,none,false,rfl,rfl⟩
  | some q=>exact⟨_,_,true,rfl,rfl⟩
 have hX0:th=false→xa=none∧xb=none:=fun e=>by
  subst e
  unfold fndq at hX
  cases hq:fnd L c with
  | none=>rw[hq]at hX;simp[ptq]at hX;exact⟨hX.1.symm,hX.2.symm⟩
  | some q=>rw[hq]at hth;cases hth
 have HB:Hid (_):=And.intro hb1 (And.intro hs1 (And.intro hn1 (And.intro h (And.intro hX hth))))
 rw[hX]
 rw[hth]at hEE
 clear hr hb1 hs1 hn1 h hX hth hV hE hc
 generalize bs 0=q0 at hD
 generalize w4v bs 5=q5 at hD
 generalize w4v bs 9=q9 at hD
 generalize bs 13=q13 at hD
 generalize len-19=ln at hD
 go_enter Tryz.func61,Tryz.ntmps61
 go_wp2_with (go_at_call 86;refine hD.mono ?_;rintro e w2 ⟨a2,c2,rfl,h2⟩;have kl:w.heap.size<w2.heap.size:=Nat.lt_of_lt_of_le (by rw[HB.out.2.1];omega) h2.out.2.size;clear hD)
 generalize hW:w2.alloc (.cells #[.int .i64 (q0:Nat),.int .u32 (c:Nat),.int .u32 (q5:Nat),.int .u32 (q9:Nat),.int .i64 (q13:Nat),.slice a2 ln c2] 114)=W
 obtain⟨hb1,hs1,hn1,h,hX,hth⟩:=HB.out
 have b2:=h2.out.2
 have hBW:Below w.heap.size w W:=by rw[← hW];exact (hb1.trans (b2.mono (by rw[hs1];omega))).alloc (by omega) _
 have hsW:W.heap.size=w2.heap.size+1:=by rw[← hW];simp
 have hM:MX W b L lost l mb nn D:=h.off (o:=[]) (Off.of_below hBW) (by simp)
 have e1:=hM.c0
 have hu:W.heap[w2.heap.size]?=some (.cells #[.int .i64 (q0:Nat),.int .u32 (c:Nat),.int .u32 (q5:Nat),.int .u32 (q9:Nat),.int .i64 (q13:Nat),.slice a2 ln c2] 114 (0,0)):=by rw[← hW];exact heap_alloc_new w2 _
 have e2:W.cell? ⟨w2.heap.size,1,none⟩=some (.int .u32 (c:Nat)):=cell_of_row W w2.heap.size 1 _ _ _ hu
 have hN:W.heap[w.heap.size]?=some (.cells #[.pointer none,.pointer none] 122 (0,0)):=by rw[← hW];exact (Below.heap_alloc _ _ _ kl).trans ((b2.block w.heap.size (by rw[hs1];omega)).trans hn1)
 have hk:=(hM.off (Off.drew [] W) (by simp)).look2 c hcl
 have oW:Off [] W (W.alloc (.cells #[.pointer none,.pointer none] 122)).drew:=(Off.alloc [] W _).trans (Off.drew [] _)
 have hk2:=(hM.off oW (by simp)).look2 c hcl
 rw[hX,hth]at hk hk2
 have g1:(W.alloc (.cells #[.pointer none,.pointer none] 122)).drew.cell? ⟨b,0,none⟩=some (.map (some mb)):=(World.cell?_of_block (oW.block b (by omega) (by simp))).trans e1
 have g2:(W.alloc (.cells #[.pointer none,.pointer none] 122)).drew.cell? ⟨w2.heap.size,1,none⟩=some (.int .u32 (c:Nat)):=(World.cell?_of_block (oW.block w2.heap.size (by omega) (by simp))).trans e2
 have HM:Hid (_):=And.intro hBW (And.intro hN hsW)
 clear hW hb1 hs1 hn1 h hX hth b2 hBW hM hu hN oW h2 HB
 have hs:W.drew.heap.size=W.heap.size:=rfl
 go_cut [8,9] (fun x8 x9 wx=>x8=.pointer (some ⟨W.heap.size,0,none⟩)∧x9=.bool th∧Hid (Off [] W wx∧wx.heap[W.heap.size]?=some (.cells #[.pointer xa,.pointer xb] 122 (0,0))))
 case first=>
  go_region_with fail
  all_goals
   go_wp2_with fail
   go_meet
   exact⟨by rw[HM.out.2.2],rfl,(Off.alloc [] W _).trans (Off.drew [] _),heap_alloc_new W _⟩
 case rest=>
  obtain⟨rfl,rfl,H⟩:=hcut
  clear hk hk2 g1 g2 e1 e2 hs
  obtain⟨oc,hn⟩:=H.out
  obtain⟨hBW,hN,hsW⟩:=HM.out
  have hBc:Below w.heap.size w wc:=oc.below hBW (by simp) hBW.size
  have hNc:=(oc.block w.heap.size (by omega) (by simp)).trans hN
  have k0:wc.cell? ⟨w.heap.size,0,none⟩=some (.pointer none):=cell_of_row wc _ 0 _ _ _ hNc
  have k1:wc.cell? ⟨w.heap.size,1,none⟩=some (.pointer none):=cell_of_row wc _ 1 _ _ _ hNc
  have f0:=frozen_of_row wc w.heap.size 0 _ _ hNc
  have f1:=frozen_of_row wc w.heap.size 1 _ _ hNc
  have n0:wc.cell? ⟨W.heap.size,0,none⟩=some (.pointer xa):=cell_of_row wc _ 0 _ _ _ hn
  have n1:wc.cell? ⟨W.heap.size,1,none⟩=some (.pointer xb):=cell_of_row wc _ 1 _ _ _ hn
  have ne:¬ w.heap.size=W.heap.size:=by omega
  have HF:Hid (Below w.heap.size w wc):=hBc
  clear oc hn hBW hN hBc hNc H HM
  clear hsW
  clear hsW
  generalize W.heap.size=M at *
  cases th with
  | false=>
   obtain⟨rfl,rfl⟩:=hX0 rfl
   simp at hEE
   subst hEE
   go_wp2_with fail
   refine bodyPost_ret (v:=.tuple #[.agg #[.pointer none,.pointer none],.int .i64 44]) (by simp[results,Tryz.results61,go_sem,k0,k1]) rfl ⟨rfl,?_⟩
   exact (HF.out.setCell (Nat.le_refl _) _).setCell (Nat.le_refl _) _
  | true=>
   simp at hEE
   subst hEE
   go_wp2_with fail
   refine bodyPost_ret (v:=.tuple #[.agg #[.pointer xa,.pointer xb],.int .i64 0]) (by simp[results,Tryz.results61,go_sem,k0,k1]) rfl ⟨rfl,?_⟩
   exact (HF.out.setCell (Nat.le_refl _) _).setCell (Nat.le_refl _) _
end Go.Proofs.YtffehehghpafdaaGreat
