/- Part 41 of the texts on which the proofs of layer 13 rest: contracts of Go functions. -/
import Derived.Maps.RangeWalk
import Derived.Test.YtffehehghpafdaaGreatPkB13
import Derived.Test.YtffehehghpafdaaGreatPkB20
import Derived.Test.YtffehehghpafdaaGreatPkB23
import Derived.Test.YtffehehghpafdaaGreatPkB24
import Derived.Test.YtffehehghpafdaaGreatPkB30
import Derived.Test.YtffehehghpafdaaGreatPkB39
namespace Go.Proofs.YtffehehghpafdaaGreat
set_option maxRecDepth 100000
open Go.RowKit Go.Maps Go.Sort Go.Shelf
def pfC (n:Nat) (cs:Nat→Nat) (bs:Nat→Nat) (len:Nat):Int:=if DE bs len≠0 then DE bs len else if ∃ i,i<n∧cs i=w4v bs 1 then 0 else 44
section
variable {w w':World} {b lost:Nat} {v1 v2:Value} {ds ns:List Nat}
theorem RMx.lst (h:RMx w b v1 v2 ds ns lost) (x:Nat):RMx (w.setCell ⟨b,2,none⟩ (.int .i64 (x:Nat))) b v1 v2 ds ns x:=by
 have nb1:v1.ownBlock≠some b:=fun e=>by
  obtain⟨c,hc⟩:=own_blkM h.r1 e
  exact tdiffM h.blk hc (by decide) rfl
 have nb2:v2.ownBlock≠some b:=fun e=>by
  obtain⟨c,hc⟩:=own_blkM h.r2 e
  exact tdiffM h.blk hc (by decide) rfl
 exact⟨heap_setCell_same _ _ _ _ _ _ h.blk,own_offM h.r1 (Off.setCell b 2 w _) (fun k hk hm=>by simp at hm;subst hm;exact nb1 hk),own_offM h.r2 (Off.setCell b 2 w _) (fun k hk hm=>by simp at hm;subst hm;exact nb2 hk)⟩
theorem own_setV {w:World} {B:Nat} {e:TypeId} {v:Value} {n g:Nat} {xs:List Value} (h:w.ownsRow B e 1 v n xs) (hv:v.ownBlock=some g) (j:Nat) (y:Value):(w.setCell ⟨g,j,none⟩ y).ownsRow B e 1 v n (xs.set j y):=by
 refine⟨by simpa using h.1,?_⟩
 rcases h.2 with ⟨rfl,_⟩ | ⟨g',cap,cur,rfl,hB,hg,h1,h2,h3,h4⟩
 ·cases hv
 ·cases hv
  refine .inr ⟨g',cap,_,rfl,hB,heap_setCell_same _ _ _ _ _ _ hg,h1,h2,by simpa using h3,?_⟩
  rw[Array.toList_setIfInBounds,List.take_set,h4]
theorem RMx.seen (h:RMx w b v1 v2 ds ns lost) (j y:Nat) (hy:ns[j]?=some y):∃ g cap p,v2=.slice (some ⟨g,0,none⟩) p cap∧p=ns.length∧w.cell? ⟨g,j,none⟩=some (.int .i64 (y:Nat))∧w.frozen? ⟨g,j,none⟩=false∧RMx (w.setCell ⟨g,j,none⟩ (.int .i64 ((y+1:Nat):Int))) b v1 v2 ds (ns.set j (y+1)) lost∧g ∈ RMU b v1 v2:=by
 obtain⟨hj,_⟩:=List.getElem?_eq_some_iff.1 hy
 rcases h.r2.2 with ⟨_,hn⟩ | ⟨g,cap,cur,hv,hB,hg,h1,h2,h3,h4⟩
 ·omega
 ·have hbk:v2.ownBlock=some g:=by rw[hv];rfl
  have nb:g≠b:=fun e=>by
   subst e
   exact tdiffM h.blk hg (by decide) rfl
  have n12:∀ k,v1.ownBlock=some k→k≠g:=fun k hk e=>by
   obtain⟨c,hc⟩:=own_blkM h.r1 hk
   exact tdiffM hc hg (by decide) e
  have hc:cur[j]?=some (.int .i64 (y:Nat)):=by
   have e:(cur.toList.take (ns.length*1))[j]?=(ns.map inV)[j]?:=by rw[h4]
   rw[List.getElem?_take_of_lt (by omega),List.getElem?_map,hy]at e
   simpa [inV] using e
  refine⟨g,cap,_,hv,rfl,(cell_of_row w g j cur _ _ hg).trans hc,frozen_of_row w g j _ _ hg,⟨?_,?_,?_⟩,by simp[RMU,hbk]⟩
  ·exact (heap_setCell_other w _ b _ (by simpa using nb.symm)).trans h.blk
  ·exact own_offM h.r1 (Off.setCell g j w _) (fun k hk hm=>by simp at hm;exact n12 k hk hm)
  ·have:=own_setV h.r2 hbk j (.int .i64 ((y+1:Nat):Int))
   rw[List.length_set,List.map_set]
   exact this
end
set_option maxHeartbeats 2000000 in
theorem rrecvM_lost (b:Nat) (v1 v2:Value) (ds ns:List Nat) (lost:Nat) (cs:Nat→Nat) (a:Option Addr) (len cap:Nat) (bs:Nat→Nat) (w:World) (h:RMx w b v1 v2 ds ns lost) (hc:∀ i (hi:i<ds.length),w.cell? ⟨ds[i],0,none⟩=some (.int .u32 (cs i:Nat))) (hr:Row8 w a len cap bs) (hE:pfC ds.length cs bs len≠0) (hl:lost<1000000) (hn:ds.length<1000) :
  Calls Tryz.prog 40 #[.pointer (some ⟨b,0,none⟩),.slice a len cap] w fun e w'=>e=.returned (.tuple #[.int .u32 0,.slice none 0 0,.int .i64 (pfC ds.length cs bs len)])∧Hid (Off (RMU b v1 v2) w w'∧RMx w' b v1 v2 ds ns (lost+1)):=by
 have hMB:∀ w2,Below w.heap.size w w2→RMx w2 b v1 v2 ds ns lost∧∀ i (hi:i<ds.length),w2.cell? ⟨ds[i],0,none⟩=some (.int .u32 (cs i:Nat)):=fun w2 b2=>⟨h.off (Off.of_below (l:=[]) b2) (by simp),fun i hi=>(World.cell?_of_block (b2.block _ (World.block_lt_of_cell? w _ (hc i hi)))).trans (hc i hi)⟩
 have hfin:∀ w2,Below w.heap.size w w2→Off (RMU b v1 v2) w (w2.setCell ⟨b,2,none⟩ (.int .i64 ((lost+1:Nat):Int)))∧RMx (w2.setCell ⟨b,2,none⟩ (.int .i64 ((lost+1:Nat):Int))) b v1 v2 ds ns (lost+1):=fun w2 b2=>⟨(Off.of_below b2).trans ((Off.setCell b 2 w2 _).more (fun k hk=>by simp at hk;simp[RMU,hk])),(hMB w2 b2).1.lst (lost+1)⟩
 have hcc:∀ w2,Below w.heap.size w w2→w2.cell? ⟨b,2,none⟩=some (.int .i64 (lost:Nat))∧w2.frozen? ⟨b,2,none⟩=false:=fun w2 b2=>⟨cell_of_row w2 b 2 _ _ _ (hMB w2 b2).1.blk,frozen_of_row w2 b 2 _ _ (hMB w2 b2).1.blk⟩
 have hlw:IntKind.i64.wrap ((lost:Int)+1)=((lost+1:Nat):Int):=by rw[IntKind.wrap_i64];omega
 by_cases hD:DE bs len≠0
 ·have eE:pfC ds.length cs bs len=DE bs len:=if_pos hD
  rw[eE]at hE ⊢
  have hQ:=refDec_no a len cap bs w hr hD
  have hb1:∀ w2,Below w.heap.size w w2→Below w.heap.size w (w2.alloc (.cells #[.int .i64 0,.int .u32 0,.int .u32 0,.int .u32 0,.int .i64 0,.slice none 0 0] 114)):=fun w2 b2=>b2.alloc b2.size _
  have hF:=fun w2 (b2:Below w.heap.size w w2)=>rfind_any b v1 v2 ds ns lost cs 0 (w2.alloc (.cells #[.int .i64 0,.int .u32 0,.int .u32 0,.int .u32 0,.int .i64 0,.slice none 0 0] 114)) (hMB _ (hb1 w2 b2)).1 (hMB _ (hb1 w2 b2)).2 (by omega)
  have H:Hid (_):=And.intro hF (And.intro hfin (And.intro hcc hb1))
  generalize DE bs len=E at *
  have hE':¬ E=0:=hE
  clear hF hfin hcc hb1 hMB h hc hr eE hD hE
  go_enter Tryz.func40,Tryz.ntmps40
  go_wp2_with (first
   | (go_at_call 66;refine hQ.mono ?_;rintro e w2 ⟨rfl,b2⟩;have hF:=H.out.1 w2 b2;obtain⟨k1,k2⟩:=H.out.2.2.1 _ (H.out.2.2.2 w2 b2))
   | (go_at_call 90;refine hF.mono ?_;rintro e w3 ⟨r,rfl,hr,hw⟩;have hw:=hw.symm;subst hw))
  refine bodyPost_ret (v:=.tuple #[.int .u32 0,.slice none 0 0,.int .i64 E]) (by simp[results,Tryz.results40,go_sem]) rfl ?_
  have:=H.out.2.1 _ (H.out.2.2.2 w2 b2)
  exact⟨rfl,this⟩
 ·have hD0:DE bs len=0:=by omega
  have hnf:¬ ∃ i,i<ds.length∧cs i=w4v bs 1:=fun e=>hE (by unfold pfC;rw[if_neg hD,if_pos e])
  have eE:pfC ds.length cs bs len=44:=by unfold pfC;rw[if_neg hD,if_neg hnf]
  rw[eE]
  have hQ:=refDec_ok a len cap bs w hr hD0
  have HNF:Hid (_):=hnf
  have hF:=fun w2 (b2:Below w.heap.size w w2)=>rfind_any b v1 v2 ds ns lost cs (w4v bs 1) w2 (hMB w2 b2).1 (hMB w2 b2).2 (by omega)
  have H:Hid (_):=And.intro hF (And.intro hfin hcc)
  generalize w4v bs 1=c at *
  generalize w4v bs 5=c5 at *
  generalize w4v bs 9=c9 at *
  clear hF hfin hcc hMB h hc hr eE hD hD0 hE hnf
  go_enter Tryz.func40,Tryz.ntmps40
  go_wp2_with (first
   | (go_at_call 66;refine hQ.mono ?_;rintro e w2 ⟨a',c',rfl,h2⟩;have b3:Below w.heap.size w (w2.alloc (.cells #[.int .i64 (bs 0:Nat),.int .u32 (c:Nat),.int .u32 (c5:Nat),.int .u32 (c9:Nat),.int .i64 (bs 13:Nat),.slice a' (len-19) c'] 114)):=h2.out.2.alloc h2.out.2.size _;have hF:=H.out.1 _ b3;obtain⟨k1,k2⟩:=H.out.2.2 _ b3)
   | (go_at_call 90;refine hF.mono ?_;rintro e w3 ⟨r,rfl,hr,hw⟩;have hw:=hw.symm;subst hw;have hr':r = -1:=(by rcases hr.out with ⟨e,_⟩ | ⟨j,hj,_,e,_⟩;exact e;exact absurd ⟨j,hj,e⟩ HNF.out);subst hr'))
  refine bodyPost_ret (v:=.tuple #[.int .u32 0,.slice none 0 0,.int .i64 44]) (by simp[results,Tryz.results40,go_sem]) rfl ?_
  exact⟨rfl,H.out.2.1 _ b3⟩
theorem RW.offR {w w':World} {d m g n mx:Nat} {P:Pm} {U l:List Nat} {s:Sd} (h:RW w d m g n mx P U s) (q:Off l w w') (hl:∀ k,k ∈ U→k ∉ l):RW w' d m g n mx P U s:=by
 obtain⟨B,h⟩:=h
 exact⟨B,⟨(q.block d h.dlt (hl _ h.kd.2)).trans h.dev,h.mem.off q (hl _ h.km.2) (hl _ h.kg.2),fun hs=>⟨(h.cel hs).1,(h.cel hs).2.1.off q (hl _ h.kc.2),(h.cel hs).2.2⟩,h.val.off q (fun k hk hM=>hl k (h.kM k hM).2 hk),own_offk h.log q (fun k hk=>hl _ (h.kl k hk).2),own_offk h.app q (fun k hk=>hl _ (h.ka k hk).2),h.apb,h.vok,h.dcl,fun k hk=>Nat.lt_of_lt_of_le (h.ltU k hk) q.size,h.kd,h.km,h.kg,h.kc,h.kM,h.kl,h.ka,h.pok,h.n10,h.mx0,h.mxl,h.nl⟩⟩
set_option maxHeartbeats 4000000 in
theorem rrecvM_any (b:Nat) (v1 v2:Value) (ds ns:List Nat) (lost:Nat) (cs:Nat→Nat) (j d y:Nat) (m g n mx:Nat) (P:Pm) (U:List Nat) (s:Sd) (a:Option Addr) (len cap:Nat) (bs:Nat→Nat) (w:World) (h:RMx w b v1 v2 ds ns lost) (hc:∀ i (hi:i<ds.length),w.cell? ⟨ds[i],0,none⟩=some (.int .u32 (cs i:Nat))) (hd:ds[j]?=some d) (hy:ns[j]?=some y) (hcj:cs j=w4v bs 1) (hone:∀ i,i<j→cs i≠cs j)
  (hD:RW w d m g n mx P U s) (hUV:∀ k,k ∈ U→k ∉ RMU b v1 v2) (hr:Row8 w a len cap bs) (hra:∀ x,a=some x→x.block ∉ RMU b v1 v2) (hE:DE bs len=0) (hsn:s.st=4→s.sn+1<4294967296) (ho:s.od<4) (hL:s.L.length<800000) (ht:s.ms.t<9223372036854774000) (hss:s.ss<4294967296) (hn:ds.length<1000) (hnj:y<1000000) :
  Calls Tryz.prog 40 #[.pointer (some ⟨b,0,none⟩),.slice a len cap] w fun e w'=>∃ v,e=.returned (.tuple #[.int .u32 (cs j:Nat),v,.int .i64 (drecv P mx n s len bs).e])∧Hid (∃ w1,Off (RMU b v1 v2) w w1∧RMx w1 b v1 v2 ds (ns.set j (y+1)) lost∧RW w1 d m g n mx P U s∧OutR U w1 w' d m g n mx P (drecv P mx n s len bs).s (drecv P mx n s len bs).f v):=by
 have hQ:=refDec_ok a len cap bs w hr hE
 rw[← hcj]at hQ
 obtain⟨hj,hdj⟩:=List.getElem?_eq_some_iff.1 hd
 have hjn:=(List.getElem?_eq_some_iff.1 hy).1
 obtain⟨a1,cap1,e1,hcs⟩:=own_ptr h.r1
 obtain⟨g1,ea1,hg1,x1⟩:=hcs j hj
 rw[hdj]at x1
 subst ea1
 obtain⟨g2,cap2,p,e2,hp,_⟩:=h.seen j y hy
 have hall:∀ w2,Below w.heap.size w w2→RMx w2 b v1 v2 ds ns lost∧∀ i (hi:i<ds.length),w2.cell? ⟨ds[i],0,none⟩=some (.int .u32 (cs i:Nat)):=fun w2 b2=>⟨h.off (Off.of_below (l:=[]) b2) (by simp),fun i hi=>(World.cell?_of_block (b2.block _ (World.block_lt_of_cell? w _ (hc i hi)))).trans (hc i hi)⟩
 have hF:∀ w2,Below w.heap.size w w2→Calls Tryz.prog 90 #[.pointer (some ⟨b,0,none⟩),.int .u32 (cs j:Nat)] w2 fun e w'=>e=.returned (.int .i64 (j:Nat))∧w'=w2:=fun w2 b2=>by
  refine (rfind_any b v1 v2 ds ns lost cs (cs j) w2 (hall w2 b2).1 (hall w2 b2).2 (by omega)).mono ?_
  rintro e w' ⟨q,rfl,hq,rfl⟩
  rcases hq.out with ⟨_,e⟩ | ⟨i,hi,rfl,e,hlt⟩
  ·exact absurd rfl (e j hj)
  ·have:i=j:=by
    rcases Nat.lt_trichotomy i j with h1 | h1 | h1
    ·exact absurd e (hone i h1)
    ·exact h1
    ·exact absurd rfl (hlt j h1)
   subst this
   exact⟨rfl,rfl⟩
 have hul:∀ k,k ∈ U→k<w.heap.size:=fun k hk=>hD.ult k hk
 have hrl:∀ k,k ∈ RMU b v1 v2→k<w.heap.size:=fun k hk=>h.lt k hk
 have hT:∀ w2 ob,Below w.heap.size w w2→∃ W,W=((w2.alloc ob).setCell ⟨g2,j,none⟩ (.int .i64 ((y:Int)+1))).drew∧((w2.alloc ob).drew.cell? ⟨g2,j,none⟩=some (.int .i64 (y:Nat))∧(w2.alloc ob).drew.frozen? ⟨g2,j,none⟩=false∧(w2.alloc ob).drew.cell? ⟨b,1,none⟩=some v2)∧(W.cell? ⟨b,0,none⟩=some v1∧W.cell? ⟨g1,j,none⟩=some (.pointer (some ⟨d,0,none⟩)))∧Off (RMU b v1 v2) w W∧RMx W b v1 v2 ds (ns.set j (y+1)) lost∧RW W d m g n mx P U s∧Row8 W a len cap bs∧W.heap[w2.heap.size]?=some ob∧w.heap.size≤w2.heap.size:=by
  intro w2 ob b2
  have bd:Below w.heap.size w (w2.alloc ob):=b2.alloc b2.size ob
  obtain⟨g3,cap3,p3,e3,_,k1,k2,k3,k4⟩:=(hall _ bd).1.seen j y hy
  obtain rfl:g3=g2:=by rw[e3]at e2;simp at e2;exact e2.1
  have hy1:((y+1:Nat):Int)=(y:Int)+1:=by omega
  rw[hy1]at k3
  have oW:Off (RMU b v1 v2) w (((w2.alloc ob).setCell ⟨g3,j,none⟩ (.int .i64 ((y:Int)+1))).drew):=((Off.of_below bd).trans ((Off.setCell g3 j _ _).more (fun k hk=>by simp at hk;subst hk;exact k4))).trans (Off.drew _ _)
  have k5:=k3.off (Off.drew [] _) (by simp)
  obtain⟨a6,cap6,e6,hc6⟩:=own_ptr k5.r1
  obtain⟨g6,ea6,_,x6⟩:=hc6 j hj
  rw[hdj]at x6
  obtain rfl:g1=g6:=by rw[e1]at e6;simp at e6;rw[ea6]at e6;simpa using e6.1
  refine⟨_,rfl,⟨k1,k2,cell_of_row _ b 1 _ _ _ (hall _ bd).1.blk⟩,⟨cell_of_row _ b 0 _ _ _ k5.blk,x6⟩,oW,k5,RW.offR hD oW hUV,hr.off oW hra,?_,b2.size⟩
  have hgl:=hrl g3 k4
  have:=b2.size
  exact (heap_setCell_other _ _ w2.heap.size _ (by simp;omega)).trans (heap_alloc_new w2 ob)
 have H:Hid (_):=And.intro hF (And.intro hT (And.intro hj hul))
 have HS:Hid (_):=And.intro hsn (And.intro ho (And.intro hL (And.intro ht hss)))
 have hw1:IntKind.i64.wrap (((y:Nat):Int)+1)=((y+1:Nat):Int):=by rw[IntKind.wrap_i64];omega
 have hjl:(j:Int) < (p:Int):=by omega
 obtain⟨q,eq⟩:∃ q,q=ds.length:=⟨_,rfl⟩
 rw[← eq]at e1
 have hjd:(j:Int) < (q:Int):=by omega
 have HQ:Hid (q=ds.length):=eq
 have HX:Hid (_):=And.intro x1 (And.intro e1 (And.intro e2 hg1))
 generalize w4v bs 5=c5 at *
 generalize w4v bs 9=c9 at *
 generalize cs j=cj at *
 clear hF hT hcs hall h hc hr hra hE hD hone hUV hsn ho hL ht hss hul hrl hcj hp eq hd hy hj hdj hjn x1 e1 hg1
 subst e2
 go_enter Tryz.func40,Tryz.ntmps40
 go_wp2_with (first
  | (go_at_call 66;refine hQ.mono ?_;rintro e w2 ⟨a',c',rfl,h2⟩;have F2:=H.out.1 _ (h2.out.2.alloc h2.out.2.size (.cells #[.int .i64 (bs 0:Nat),.int .u32 (cj:Nat),.int .u32 (c5:Nat),.int .u32 (c9:Nat),.int .i64 (bs 13:Nat),.slice a' (len-19) c'] 114)))
  | (go_at_call 90;refine F2.mono ?_;rintro e w3 ⟨rfl,hw⟩;have hw:=hw.symm;subst hw))
 obtain⟨W,hW,⟨k1,k2,k3⟩,⟨k4,k5⟩,hWf⟩:=H.out.2.1 w2 (.cells #[.int .i64 (bs 0:Nat),.int .u32 (cj:Nat),.int .u32 (c5:Nat),.int .u32 (c9:Nat),.int .i64 (bs 13:Nat),.slice a' (len-19) c'] 114) h2.out.2
 have HW:Hid (_):=And.intro hW hWf
 clear F2 hW hQ
 generalize hw3:w2.alloc (.cells #[.int .i64 (bs 0:Nat),.int .u32 (cj:Nat),.int .u32 (c5:Nat),.int .u32 (c9:Nat),.int .i64 (bs 13:Nat),.slice a' (len-19) c'] 114)=w3 at *
 have HY:Hid (_):=hw3
 clear hw3
 rw[HX.out.2.1]at k4
 have hR:=rreceive_any d m g n mx P U s a len cap bs W hWf.2.2.1 hWf.2.2.2.1 HS.out.1 HS.out.2.1 HS.out.2.2.1 HS.out.2.2.2.1 HS.out.2.2.2.2
 clear hWf
 go_region
 rw[← HW.out.1]
 clear k1 k2 k3
 go_wp2_with (go_at_call 19;refine hR.mono ?_;rintro e w5 ⟨v5,rfl,h5⟩;obtain⟨U5,G5,R5,F5,B5⟩:=h5.out;have q1:w5.cell? ⟨w2.heap.size,1,none⟩=some (.int .u32 (cj:Nat)):=cell_of_row w5 _ 1 _ _ _ ((G5.off.block w2.heap.size (Array.getElem?_eq_some_iff.1 HW.out.2.2.2.2.2.1).1 (fun hm=>by have:=H.out.2.2.2 _ hm;have:=HW.out.2.2.2.2.2.2;omega)).trans HW.out.2.2.2.2.2.1))
 refine bodyPost_ret (v:=.tuple #[.int .u32 (cj:Nat),v5,.int .i64 (drecv P mx n s len bs).e]) (by simp[results,Tryz.results40,go_sem]) rfl ?_
 exact⟨v5,rfl,W,HW.out.2.1,HW.out.2.2.1,HW.out.2.2.2.1,h5.out⟩
end Go.Proofs.YtffehehghpafdaaGreat
namespace Go.Proofs.YtffehehghpafdaaGreat
set_option maxRecDepth 100000
open Go.RowKit
theorem dsay_byte (P:Pm) (s:Sd) (k num fl len:Nat) (bs:Nat→Nat) (hb:∀ i,i<len→bs i<256):∀ i,i < (dsay P s k num fl len bs).1→(dsay P s k num fl len bs).2 i<256:=encF_byte _ _ _ _ _ _ _ hb
theorem no_byte {bs:Nat→Nat}:∀ i,i<0→bs i<256:=fun i hi=>absurd hi (Nat.not_lt_zero i)
theorem fm0_byte:∀ i,i<fm0.1→fm0.2 i<256:=fun i hi=>absurd hi (Nat.not_lt_zero i)
theorem dbegin_byte (P:Pm) (mx n:Nat) (s:Sd):∀ i,i < (dbegin P mx n s).f.1→(dbegin P mx n s).f.2 i<256:=by
 unfold dbegin
 split
 ·exact dsay_byte _ _ _ _ _ _ _ no_byte
 ·split
  ·exact fm0_byte
  ·exact dsay_byte _ _ _ _ _ _ _ (dsg_byte P)
theorem dwish_byte (P:Pm) (mx n:Nat) (s:Sd):∀ i,i < (dwish P mx n s).f.1→(dwish P mx n s).f.2 i<256:=by
 unfold dwish
 split
 ·exact dsay_byte _ _ _ _ _ _ _ (dsg_byte P)
 ·split
  ·exact dsay_byte _ _ _ _ _ _ _ no_byte
  ·exact dbegin_byte P mx n _
theorem drefuse_byte (P:Pm) (s:Sd) (e:Int):∀ i,i < (drefuse P s e).f.1→(drefuse P s e).f.2 i<256:=dsay_byte _ _ _ _ _ _ _ no_byte
theorem dtake_byte (P:Pm) (mx n:Nat) (s:Sd) (hap:∀ i,i<P.i→s.ap i<256) (k ss num fl len:Nat) (bs:Nat→Nat):∀ i,i < (dtake P mx n s k ss num fl len bs).f.1→(dtake P mx n s k ss num fl len bs).f.2 i<256:=by
 unfold dtake
 split
 ·split
  ·exact dwish_byte P mx n s
  ·exact drefuse_byte P s _
 ·split
  ·split
   ·exact dsay_byte _ _ _ _ _ _ _ no_byte
   ·exact drefuse_byte P s _
  ·split
   ·exact dsay_byte _ _ _ _ _ _ _ no_byte
   ·split
    ·exact dsay_byte _ _ _ _ _ _ _ hap
    ·split
     ·exact dsay_byte _ _ _ _ _ _ _ no_byte
     ·exact drefuse_byte P s _
theorem drecv_byte (P:Pm) (mx n:Nat) (s:Sd) (hap:∀ i,i<P.i→s.ap i<256) (len:Nat) (bs:Nat→Nat):∀ i,i < (drecv P mx n s len bs).f.1→(drecv P mx n s len bs).f.2 i<256:=by
 have hh:∀ i,i < (dhear P mx n s len bs).f.1→(dhear P mx n s len bs).f.2 i<256:=by
  unfold dhear
  split
  ·exact fm0_byte
  ·split
   ·exact fm0_byte
   ·split
    ·exact fm0_byte
    ·exact dtake_byte P mx n s hap _ _ _ _ _ _
 unfold drecv
 split
 ·exact fm0_byte
 ·split
  ·exact hh
  ·exact hh
open Go.RowKit Go.Maps
theorem rdQ_shape {v:Value} {y:DataW Unit × List MemPlace} (h:rdQ v=some y):∃ o,v=ptq o:=by
 unfold rdQ at h
 split at h
 ·rename_i cs
  split at h
  ·rename_i e
   have e2:cs=#[.pointer none,.pointer none]:=Array.toList_inj.1 e
   exact⟨none,by rw[e2];rfl⟩
  ·rename_i d k e
   have e2:cs=#[.pointer (some ⟨d,0,none⟩),.pointer (some ⟨k,0,none⟩)]:=Array.toList_inj.1 e
   exact⟨some (d,k),by rw[e2];rfl⟩
  ·cases h
 ·cases h
theorem fnd_get {L:List Prt} (h:L.Pairwise (fun p q=>p.c≠q.c∧p.k≠q.k)) (j:Nat) (hj:j<L.length):fnd L (L[j]).c=some (L[j]):=by
 induction L generalizing j with
 | nil=>simp at hj
 | cons q L ih=>
  cases j with
  | zero=>simp[fnd]
  | succ j=>
   simp only[List.length_cons]at hj
   have hj':j<L.length:=by omega
   have e:(q :: L)[j+1]=L[j]:=rfl
   rw[e]
   unfold fnd
   rw[if_neg ((List.pairwise_cons.1 h).1 _ (List.getElem_mem hj')).1]
   exact ih (List.pairwise_cons.1 h).2 j hj'
theorem ranges_off {w w':World} {k:TypeId} {R:Value→Option (DataW Unit × List MemPlace)} {b r n cnt:Nat} {D:DataW Unit} {left:Lit→Bool} {l:List Nat} (h:w.ranges Tryz.prog k R b r n D left cnt) (o:Off l w w') (hb:b ∉ l) (hr:r ∉ l):w'.ranges Tryz.prog k R b r n D left cnt:=by
 obtain⟨es,clock,since,seen,c0,h1,h2,h3,h4,h5,rest⟩:=h
 exact⟨es,clock,since,seen,c0,(o.block b (Array.getElem?_eq_some_iff.1 h1).1 hb).trans h1,h2,h3,h4,(o.block r (Array.getElem?_eq_some_iff.1 h5).1 hr).trans h5,rest⟩
def rgT (b:Nat) (L:List Prt) (lost l mb nn:Nat) (D:DataW Unit) (r:Nat) (left:Lit→Bool) (cnt:Nat):Thing:=
 ⟨r :: MXU L b l mb,fun w=>MX w b L lost l mb nn D∧w.ranges Tryz.prog 30 rdQ mb r nn D left cnt,fun _ _ _ h o hl=>⟨h.1.off o (fun k hk=>hl k (by simp[hk])),ranges_off h.2 o (hl mb (by simp[MXU])) (hl r (by simp))⟩⟩
theorem Off.grown {w w':World} {r:Nat} (h:w.grownBy w' (some r)):Off [r] w w':=⟨h.os,h.tape,h.output,h.size,fun k hk hb=>h.block k hk (fun e=>hb (by simp only[Option.some.injEq]at e;simp[e]))⟩
theorem Off.grown0 {w w':World} (h:w.grownBy w' none):Off [] w w':=⟨h.os,h.tape,h.output,h.size,fun k hk hb=>h.block k hk (by simp)⟩
def tkD (x:Dr) (n:Int):Dr:={ x with s:=dtickS x.P x.s n }
structure Tkg (w0 w:World) (t:Nat→Thing) (L:List Prt) (x:Nat→Dr) (f:Nat→Nat) (n:Int) (b lost l mb nn:Nat) (D:DataW Unit) (r:Nat) (left:Lit→Bool) (cnt:Nat):Prop where
 ex:∃ t',Al w0 w (putT t' 0 (rgT b L lost l mb nn D r left cnt))∧(∀ i,(∀ j,j<L.length→i≠f j)→t' i=t i)∧∀ j (hj:j<L.length),∃ U,t' (f j)=dvT (if left (.int .u32 ((L[j]).c:Nat)) then x j else tkD (x j) n) U
theorem Tkg.rng {w0 w:World} {t:Nat→Thing} {L:List Prt} {x:Nat→Dr} {f:Nat→Nat} {n:Int} {b lost l mb nn:Nat} {D:DataW Unit} {r:Nat} {left:Lit→Bool} {cnt:Nat} (h:Tkg w0 w t L x f n b lost l mb nn D r left cnt):w.ranges Tryz.prog 30 rdQ mb r nn D left cnt:=by
 obtain⟨t',hA,_⟩:=h.ex
 exact (hA.get (putT_same t' 0 _)).2
set_option maxHeartbeats 2000000 in
theorem mtick_any (w0 w:World) (t:Nat→Thing) (b:Nat) (L:List Prt) (lost:Nat) (V:List Nat) (n:Int) (hn:0≤n) (hn':n≤9223372036854775807) (h:Al w0 w t) (e0:t 0=mxT b L lost V) (x:Nat→Dr) (f:Nat→Nat) (hf0:∀ j,j<L.length→f j≠0) (hfi:∀ i j,i<L.length→j<L.length→f i=f j→i=j) (hd:∀ j (hj:j<L.length),(∃ U,t (f j)=dvT (x j) U)∧(x j).d=(L[j]).d∧(x j).s.L.length<800000) :
  Calls Tryz.prog 14 #[.pointer (some ⟨b,0,none⟩),.int .i64 n] w fun e w'=>e=.returned (.int .i64 0)∧Hid (∃ t',Al w0 w' t'∧t' 0=mxT b L lost V∧(∀ i,i≠0→(∀ j,j<L.length→i≠f j)→t' i=t i)∧∀ j,j<L.length→∃ U,t' (f j)=dvT (tkD (x j) n) U):=by
 obtain⟨l,mb,nn,D,hM,hV⟩:=h.mx e0
 have hq:=mnone_any b mb w hM.c0
 have hown:=hM.map
 have c0:=hM.c0
 have hS:∀ w1,w1.ranges Tryz.prog 30 rdQ mb w.heap.size nn D (has D) (Maps.size D)→w.grownBy w1 none→w1.heap.size=w.heap.size+1→Tkg w0 w1 t L x f n b lost l mb nn D w.heap.size (has D) (Maps.size D):=by
  intro w1 hr hg hs
  have o:=Off.grown0 hg
  refine⟨t,h.turn 0 _ (o.more (by simp)) ⟨hM.off o (by simp),hr⟩ (fun k hk=>?_) (fun k hk j hj hm=>?_),fun i _=>rfl,fun j hj=>?_⟩
  ·have hk':k=w.heap.size∨k ∈ V:=by rw[hV];simpa [rgT] using hk
   have hsz:=h.size
   rcases hk' with rfl | hk'
   ·omega
   ·have:=h.lt 0 k (by rw[e0];exact hk')
    omega
  ·have hk':k=w.heap.size∨k ∈ V:=by rw[hV];simpa [rgT] using hk
   rcases hk' with rfl | hk'
   ·have:=(h.lt j _ hm).2;omega
   ·exact h.dis 0 j (Ne.symm hj) k (by rw[e0];exact hk') hm
  ·rw[hM.has_ _ (hM.met _ (List.getElem_mem hj)).2.2,fnd_get hM.one j hj]
   simpa using (hd j hj).1
 have hR:∀ (left:Lit→Bool) (cnt:Nat) (wr w2:World) (z:Int) (o:Option (Nat × Nat)) (y:DataW Unit × List MemPlace) (cnt2:Nat),Tkg w0 wr t L x f n b lost l mb nn D w.heap.size left cnt→(Lit.int .u32 z).wf=true→left (.int .u32 z)=true→rdQ (ptq o)=some y→(∀ zd,D.atKey (.int .u32 z) zd=y.1)→w2.ranges Tryz.prog 30 rdQ mb w.heap.size nn D (fun q=>left q && !q.sameKey (.int .u32 z)) cnt2→wr.grownBy w2 (some w.heap.size) →
   ∃ j U,∃ hj:j<L.length,z=((L[j]).c:Nat)∧o=some ((L[j]).d,(L[j]).k)∧DV w2 (x j).d (x j).m (x j).g (x j).n (x j).mx (x j).P U (x j).s∧(x j).d=(L[j]).d∧(x j).s.L.length<800000∧∀ w3 U',Gr U w2 U' w3→DV w3 (x j).d (x j).m (x j).g (x j).n (x j).mx (x j).P U' (dtickS (x j).P (x j).s n)→Tkg w0 w3 t L x f n b lost l mb nn D w.heap.size (fun q=>left q && !q.sameKey (.int .u32 z)) cnt2:=by
  intro left cnt wr w2 z o y cnt2 hT hz hl hy hat hr hg
  obtain⟨t',hA,hu,hx⟩:=hT.ex
  obtain⟨p,hp,hzp⟩:=hM.key z (has_true_of_atKey hat)
  obtain⟨j,hj,rfl⟩:=List.getElem_of_mem hp
  subst hzp
  have hc:=(hM.met _ (List.getElem_mem hj)).2.2
  have ho:o=some ((L[j]).d,(L[j]).k):=by
   have e1:=hat (datq none)
   rw[hM.at_ _ hc]at e1
   unfold fndq at e1
   rw[fnd_get hM.one j hj]at e1
   rw[rdQ_ptq]at hy
   cases hy
   exact (datq_inj e1).symm
  obtain⟨U,hU⟩:=hx j hj
  rw[if_pos hl]at hU
  have og:=Off.grown hg
  have hA2:Al w0 w2 (putT (putT t' 0 (rgT b L lost l mb nn D w.heap.size left cnt)) 0 (rgT b L lost l mb nn D w.heap.size (fun q=>left q && !q.sameKey (.int .u32 ((L[j]).c:Nat))) cnt2)):=by
   have hg0:=hA.get (putT_same t' 0 _)
   have hrn:w.heap.size ∉ MXU L b l mb:=fun hm=>by have:=hM.lt _ hm;omega
   refine hA.turn 0 _ (og.more ?_) ⟨hg0.1.off og ?_,hr⟩ (fun k hk=>?_) (fun k hk i hi hm=>?_)
   ·intro k hk;rw[putT_same];simp at hk;subst hk;simp[rgT]
   ·intro k hk hm;simp at hm;subst hm;exact hrn hk
   ·have:=hA.lt 0 k (by rw[putT_same];exact hk)
    exact⟨this.1,Nat.lt_of_lt_of_le this.2 og.size⟩
   ·exact hA.dis 0 i (Ne.symm hi) k (by rw[putT_same];exact hk) hm
  have ej:putT (putT t' 0 (rgT b L lost l mb nn D w.heap.size left cnt)) 0 (rgT b L lost l mb nn D w.heap.size (fun q=>left q && !q.sameKey (.int .u32 ((L[j]).c:Nat))) cnt2) (f j)=dvT (x j) U:=by
   rw[putT_ne _ _ (hf0 j hj),putT_ne _ _ (hf0 j hj),hU]
  refine⟨j,U,hj,rfl,ho,hA2.dv ej,(hd j hj).2.1,(hd j hj).2.2,fun w3 U' g D3=>?_⟩
  have hA3:=hA2.stepD ej g D3
  refine⟨putT t' (f j) (dvT (tkD (x j) n) U'),hA3.same (fun i=>?_),fun i hi=>?_,fun i hi=>?_⟩
  ·unfold putT
   by_cases h1:i=0
   ·subst h1
    rw[if_pos rfl,if_neg (Ne.symm (hf0 j hj)),if_pos rfl]
   ·rw[if_neg h1]
    by_cases h2:i=f j
    ·rw[if_pos h2,if_pos h2];rfl
    ·rw[if_neg h2,if_neg h2,if_neg h1,if_neg h1]
  ·rw[putT_ne _ _ (hi j hj)]
   exact hu i hi
  ·by_cases hij:i=j
   ·subst hij
    refine⟨U',?_⟩
    rw[putT_same,if_neg]
    simp[Lit.sameKey]
   ·obtain⟨U2,hU2⟩:=hx i hi
    refine⟨U2,?_⟩
    rw[putT_ne _ _ (fun e=>hij (hfi i j hi hj e)),hU2]
    have hne:(L[i]).c ≠ (L[j]).c:=by
     intro e
     have e1:=fnd_get hM.one i hi
     rw[e,fnd_get hM.one j hj]at e1
     rcases Nat.lt_or_ge i j with hlt | hge
     ·exact (List.pairwise_iff_getElem.1 hM.one i j hi hj hlt).1 e
     ·exact (List.pairwise_iff_getElem.1 hM.one j i hj hi (by omega)).1 e.symm
    have hk:Lit.sameKey (.int .u32 ((L[i]).c:Nat)) (.int .u32 ((L[j]).c:Nat))=false:=sameKey_ne (by simp;omega)
    simp only[hk,Bool.not_false,Bool.and_true]
 have hE:∀ (left:Lit→Bool) (cnt:Nat) (wr:World),Tkg w0 wr t L x f n b lost l mb nn D w.heap.size left cnt→(∀ kl,left kl=false)→∃ t',Al w0 wr t'∧t' 0=mxT b L lost V∧(∀ i,i≠0→(∀ j,j<L.length→i≠f j)→t' i=t i)∧∀ j,j<L.length→∃ U,t' (f j)=dvT (tkD (x j) n) U:=by
  intro left cnt wr hT hl
  obtain⟨t',hA,hu,hx⟩:=hT.ex
  have hg0:=hA.get (putT_same t' 0 _)
  refine⟨putT (putT t' 0 (rgT b L lost l mb nn D w.heap.size left cnt)) 0 (mxT b L lost V),hA.turn 0 _ (Off.refl _ _) ⟨l,mb,nn,D,hg0.1,hV⟩ (fun k hk=>?_) (fun k hk i hi hm=>?_),putT_same _ _ _,fun i h0 hi=>?_,fun j hj=>?_⟩
  ·exact hA.lt 0 k (by rw[putT_same];simp[rgT];exact .inr (hV ▸ hk))
  ·exact hA.dis 0 i (Ne.symm hi) k (by rw[putT_same];simp[rgT];exact .inr (hV ▸ hk)) hm
  ·rw[putT_ne _ _ h0,putT_ne _ _ h0]
   exact hu i hi
  ·obtain⟨U,hU⟩:=hx j hj
   rw[if_neg (by rw[hl];simp)]at hU
   exact⟨U,by rw[putT_ne _ _ (hf0 j hj),putT_ne _ _ (hf0 j hj),hU]⟩
 have H:Hid (_):=And.intro hR hE
 have HS:Hid (_):=hS
 clear hR hE hM hd hf0 hfi h e0 hV hS
 go_enter Tryz.func14,Tryz.ntmps14
 go_wp2_with (first
  | (go_at_call 55;refine hq.mono ?_;rintro e w' ⟨rfl,hw⟩;have hw:=hw.symm;subst hw)
  | (at_range;refine wpList_range_own _ rfl _ 117 rfl 30 122 key_u32 Tryz.underlying117 _ mb nn _ rfl hown ?_;intro w1 hr1 hg1 hs1)
  | go_in)
 have hT1:=HS.out w1 hr1 hg1 hs1
 clear HS hr1 hg1 hs1 hq hown
 go_frame
 go_loopw [6] (fun _ wr=>∃ left cnt,Tkg w0 wr t L x f n b lost l mb nn D w.heap.size left cnt) (fun _ wr=>wr.rangeLeft mb w.heap.size)
 case atStart=>exact⟨_,_,hT1⟩
 case round=>
  obtain⟨left,cnt,hT⟩:=hrel
  have hr:=hT.rng
  have HT:Hid (_):=hT
  clear hT hT1
  go_wp2_with (first
   | (at_next;refine wpList_next_ranges _ rfl _ rfl 30 key_u32 rdQ (fun z:Int=>Value.int .u32 z) ptq (fun key kl hk=>by obtain⟨x,hx,_⟩:=Maps.keyOf_int_inv Tryz.underlying30 hk;exact⟨x,hx⟩) (fun v y hv=>rdQ_shape hv) mb w.heap.size nn _ _ _ rfl hr ?_ ?_)
   | go_in)
  ·intro hc0 hl0
   go_wp2_with fail
   go_ret
   exact⟨rfl,H.out.2 left cnt wr HT.out hl0⟩
  ·intro z o kl yd yp w2 cnt2 hkey hlk hv hat hr2 hlt hg2 hs2 hen
   obtain⟨z',ez,rfl,hz⟩:=Maps.keyOf_int_inv Tryz.underlying30 hkey
   obtain rfl:z=z':=by simpa using ez
   obtain⟨j,U,hj,hzc,rfl,D2,hd,hLl,hK⟩:=H.out.1 left cnt wr w2 z o (yd,yp) cnt2 HT.out hz hlk hv hat hr2 hg2
   have bA:Below w2.heap.size w2 (w2.alloc (.cells #[.pointer (some ⟨(L[j]).d,0,none⟩),.pointer (some ⟨(L[j]).k,0,none⟩)] 122)):=(Below.refl _ _).alloc (Nat.le_refl _) _
   have hTk:=dvtick_any _ _ _ _ _ _ _ _ n _ (D2.below bA) hn' hLl
   rw[hd]at hTk
   have HK:Hid (_):=And.intro hK (And.intro bA (And.intro hd hr))
   change (Instr.entry (.pointer (some ⟨w.heap.size,0,none⟩))).run Tryz.prog w2=.ok (.tuple #[.int .u32 z,.agg #[.pointer (some ⟨(L[j]).d,0,none⟩),.pointer (some ⟨(L[j]).k,0,none⟩)]]) w2 at hen
   generalize (L[j]).d=dd at *
   generalize (L[j]).k=kk at *
   clear hK bA D2 hr hr2 hg2 hs2 hat hv hlk hkey
   go_wp2_with (go_at_call 15;refine hTk.mono ?_;rintro e w3 ⟨rfl,h3⟩)
   obtain⟨hK,bA,hd,hr⟩:=HK.out
   obtain⟨U',g,D3⟩:=h3.out
   rw[← hd]at D3
   have hT3:=hK w3 U' (Gr.trans (Gr.below bA) g) D3
   go_roundw
   case rel=>exact⟨_,cnt2,hT3⟩
   case measure=>rw[hT3.rng.left_eq,hr.left_eq];exact hlt
open Go.RowKit Go.Maps Go.Sort Go.Shelf
def setN (E:List Ent) (j:Nat) (s:Sd):List Ent:=E.mapIdx fun i e=>if i=j then { e with s:=s,n:=e.n+1 } else e
theorem setN_len (E:List Ent) (j:Nat) (s:Sd):(setN E j s).length=E.length:=by simp[setN]
theorem setN_get (E:List Ent) (j:Nat) (s:Sd) (i:Nat) (hi:i < (setN E j s).length):(setN E j s)[i]=if i=j then { E[i]'(by simpa [setN] using hi) with s:=s,n:=(E[i]'(by simpa [setN] using hi)).n+1 } else E[i]'(by simpa [setN] using hi):=by
 simp[setN]
theorem setN_map {α:Type} (E:List Ent) (j:Nat) (s:Sd) (f:Ent→α) (hf:∀ e s n,f { e with s:=s,n:=n }=f e):(setN E j s).map f=E.map f:=by
 apply List.ext_getElem
 ·simp[setN]
 ·intro i h1 h2
  rw[List.getElem_map,List.getElem_map,setN_get]
  split
  ·exact hf _ _ _
  ·rfl
def One (E:List Ent):Prop:=∀ i j (hi:i<E.length) (hj:j<E.length),(E[i]).L.P.c=(E[j]).L.P.c→i=j
theorem Mxx.uniq {w:World} {b lost:Nat} {E:List Ent} {V:List Nat} (h:Mxx w b (prts E) lost V):One E:=by
 obtain⟨l,mb,nn,D,h,_⟩:=h
 intro i j hi hj e
 have hi':i < (prts E).length:=by rw[prts_len];exact hi
 have hj':j < (prts E).length:=by rw[prts_len];exact hj
 have hp:=List.pairwise_iff_getElem.1 h.one
 rcases Nat.lt_trichotomy i j with h1 | h1 | h1
 ·have:=(hp i j hi' hj' h1).1
  rw[prts_get,prts_get]at this
  exact absurd e this
 ·exact h1
 ·have:=(hp j i hj' hi' h1).1
  rw[prts_get,prts_get]at this
  exact absurd e.symm this
theorem bump_get (L:List Prt) (c i:Nat) (h:i < (bump L c).length):(bump L c)[i]=if (L[i]'(by simpa [bump] using h)).c=c then { L[i]'(by simpa [bump] using h) with n:=(L[i]'(by simpa [bump] using h)).n+1 } else L[i]'(by simpa [bump] using h):=by
 simp[bump]
theorem prts_setN {E:List Ent} (h:One E) {j:Nat} {en:Ent} (he:E[j]?=some en) (s:Sd):prts (setN E j s)=bump (prts E) en.L.P.c:=by
 obtain⟨hj,rfl⟩:=List.getElem?_eq_some_iff.1 he
 apply List.ext_getElem
 ·simp[prts,setN,bump]
 ·intro i h1 h2
  have hi:i<E.length:=by simpa [prts,setN] using h1
  have h3:i < (prts E).length:=by rw[prts_len];exact hi
  rw[prts_get,bump_get,prts_get]
  by_cases e:i=j
  ·subst e
   simp[setN]
  ·have hne:¬ (E[i]).L.P.c=(E[j]).L.P.c:=fun k=>e (h i j hi hj k)
   simp[setN,e,hne]
theorem n_setN {E:List Ent} {j:Nat} {en:Ent} (he:E[j]?=some en) (s:Sd):(setN E j s).map (·.n)=(E.map (·.n)).set j (en.n+1):=by
 obtain⟨hj,rfl⟩:=List.getElem?_eq_some_iff.1 he
 apply List.ext_getElem
 ·simp[setN]
 ·intro i h1 h2
  rw[List.getElem_map,setN_get,List.getElem_set]
  by_cases e:i=j
  ·subst e;simp
  ·rw[if_neg e,if_neg (Ne.symm e)];simp
def Er (t:Nat→Thing) (E:List Ent):Prop:=∀ j (hj:j<E.length),∃ U,t (11+2*j)=rwT ((E[j]).L.rr (E[j]).s) U
theorem Al.codesR {w0 w:World} {t:Nat→Thing} {E:List Ent} (A:Al w0 w t) (h:Er t E):∀ i (hi:i < (E.map (·.L.e)).length),w.cell? ⟨(E.map (·.L.e))[i],0,none⟩=some (.int .u32 (cdE E i:Nat)):=by
 intro i hi
 have hi':i<E.length:=by simpa using hi
 obtain⟨U,e⟩:=h i hi'
 have:=(A.rw e).code
 rw[cdE_get E i hi']
 simpa [Pl.rr] using this
theorem pfC_eq (E:List Ent) (bs:Nat→Nat) (len:Nat):pfC (E.map (·.L.e)).length (cdE E) bs len=pfE (prts E) bs len:=by
 unfold pfC pfE
 by_cases h:DE bs len≠0
 ·rw[if_pos h,if_pos h]
 ·rw[if_neg h,if_neg h]
  by_cases hf:(fnd (prts E) (w4v bs 1)).isSome=true
  ·rw[if_pos hf,if_pos]
   have:=(fnd_prts E _).1 hf
   simpa using this
  ·rw[if_neg hf,if_neg]
   intro hx
   exact hf ((fnd_prts E _).2 (by simpa using hx))
section
variable {w0 w:World} {b r lost:Nat} {E:List Ent} {t:Nat→Thing} {V:List Nat} {a:Option Addr} {len cap:Nat} {bs:Nat→Nat}
theorem recvP_lost (A:Al w0 w t) (e0:t 0=mxT b (prts E) lost V) (hr:Row8 w a len cap bs) (hE:pfE (prts E) bs len≠0) (hl:lost<1000000) :
  Calls Tryz.prog 17 #[.pointer (some ⟨b,0,none⟩),.slice a len cap] w fun e w'=>e=.returned (.tuple #[.int .u32 0,.slice none 0 0,.int .i64 (pfE (prts E) bs len)])∧Hid (∃ t',Al w0 w' t'∧t' 0=mxT b (prts E) (lost+1) V∧∀ i,i≠0→t' i=t i):=by
 refine (mrecv_lost b (prts E) lost V a len cap bs w (A.mx e0) hr hE hl).mono ?_
 rintro e w' ⟨rfl,h⟩
 refine⟨rfl,_,A.put0 e0 h.out.1 h.out.2 (fun k hk=>.inl hk),putT_same _ _ _,fun i hi=>putT_ne _ _ hi⟩
theorem recvR_lost {v1 v2:Value} (A:Al w0 w t) (e1:t 1=rmT r v1 v2 (E.map (·.L.e)) (E.map (·.n)) lost) (er:Er t E) (hr:Row8 w a len cap bs) (hE:pfE (prts E) bs len≠0) (hl:lost<1000000) (h8:E.length≤8) :
  Calls Tryz.prog 40 #[.pointer (some ⟨r,0,none⟩),.slice a len cap] w fun e w'=>e=.returned (.tuple #[.int .u32 0,.slice none 0 0,.int .i64 (pfE (prts E) bs len)])∧Hid (∃ t',Al w0 w' t'∧t' 1=rmT r v1 v2 (E.map (·.L.e)) (E.map (·.n)) (lost+1)∧∀ i,i≠1→t' i=t i):=by
 have hq:=rrecvM_lost r v1 v2 _ _ lost (cdE E) a len cap bs w (A.get e1) (A.codesR er) hr (by rw[pfC_eq];exact hE) hl (by simp;omega)
 rw[pfC_eq]at hq
 refine hq.mono ?_
 rintro e w' ⟨rfl,h⟩
 refine⟨rfl,_,A.step 1 (rmT r v1 v2 (E.map (·.L.e)) (E.map (·.n)) (lost+1)) (by rw[e1];rfl) ⟨h.out.1,fun k hk=>.inl hk⟩ h.out.2 (fun k hk=>h.out.2.lt k hk),putT_same _ _ _,fun i hi=>putT_ne _ _ hi⟩
theorem recvP_found (A:Al w0 w t) (e0:t 0=mxT b (prts E) lost V) {j:Nat} {en:Ent} (he:E[j]?=some en) {U:List Nat} (ed:t (10+2*j)=dvT (en.L.dr en.s) U) (hr:Row8 w a len cap bs) (hra:∀ x,a=some x→x.block ∉ V) (hD:DE bs len=0) (hc:w4v bs 1=en.L.P.c) (hv:Iv en.L.P en.s) (hL:en.s.L.length<800000) (ht:en.s.ms.t<9223372036854774000) (hn:en.n<1000000) :
  Calls Tryz.prog 17 #[.pointer (some ⟨b,0,none⟩),.slice a len cap] w fun e w'=>∃ ax cx,e=.returned (.tuple #[.int .u32 (en.L.P.c:Nat),.slice ax (drecv en.L.P en.L.mx en.L.n en.s len bs).f.1 cx,.int .i64 (drecv en.L.P en.L.mx en.L.n en.s len bs).e])∧Hid (∃ t' U',Al w0 w' t'∧t' 0=mxT b (bump (prts E) en.L.P.c) lost V∧t' (10+2*j)=dvT (en.L.dr (drecv en.L.P en.L.mx en.L.n en.s len bs).s) U'∧t' 5=r8T ax (drecv en.L.P en.L.mx en.L.n en.s len bs).f.1 cx (drecv en.L.P en.L.mx en.L.n en.s len bs).f.2∧∀ i,i≠0→i≠10+2*j→i≠5→t' i=t i):=by
 have hu:=(A.mx e0).uniq
 obtain⟨hj,hje⟩:=List.getElem?_eq_some_iff.1 he
 have hj':j < (prts E).length:=by rw[prts_len];exact hj
 have hp:(prts E)[j]=⟨en.L.P.c,en.L.d,en.k,en.n⟩:=by rw[prts_get];simp[hje]
 have hf:fnd (prts E) (w4v bs 1)=some ⟨en.L.P.c,en.L.d,en.k,en.n⟩:=by
  obtain⟨l,mb,nn,D,h,_⟩:=A.mx e0
  have:=fnd_get h.one j hj'
  rw[hp]at this
  rw[hc]
  exact this
 have hDV:=A.dv ed
 obtain⟨B,y⟩:=id hDV
 have hQ:=mrecv_any b (prts E) lost V ⟨en.L.P.c,en.L.d,en.k,en.n⟩ en.L.m en.L.g en.L.n en.L.mx en.L.P U en.s a len cap bs w (A.mx e0) hDV (A.apart (i:=10+2*j) (j:=0) (by omega) ed e0) hr hD hf rfl hn (hv.sent y.pok) hv.od hL ht hra
 refine hQ.mono ?_
 rintro e w' ⟨v,rfl,h⟩
 obtain⟨w1,o1,D1,⟨U',G,D2,F,kF⟩,m2,m1⟩:=h.out
 have hby:=drecv_byte en.L.P en.L.mx en.L.n en.s y.apb len bs
 obtain⟨ax,cx,rfl,rx⟩:=F.row hby
 have A1:=A.put0 e0 o1 m1 (fun k hk=>.inl hk)
 have A2:=A1.stepD (i:=10+2*j) (x:=en.L.dr en.s) (by rw[putT_ne _ _ (by omega)];exact ed) G D2
 have A3:=A2.turn 5 (r8T ax (drecv en.L.P en.L.mx en.L.n en.s len bs).f.1 cx (drecv en.L.P en.L.mx en.L.n en.s len bs).f.2) (Off.refl _ _) rx (fun k hk=>?_) (fun k hk i hi hm=>?_)
 ·refine⟨ax,cx,rfl,_,U',A3,?_,?_,putT_same _ _ _,fun i h1 h2 h3=>?_⟩
  ·rw[putT_ne _ _ (by omega),putT_ne _ _ (by omega),putT_same]
  ·rw[putT_ne _ _ (by omega),putT_same];rfl
  ·rw[putT_ne _ _ h3,putT_ne _ _ h2,putT_ne _ _ h1]
 ·simp[r8T]at hk
  obtain⟨z,hz,rfl⟩:=hk
  have h1:=own_far F z hz
  have:=A1.size
  omega
 ·simp[r8T]at hk
  obtain⟨z,hz,rfl⟩:=hk
  have h1:=own_far F z hz
  by_cases ej:i=10+2*j
  ·subst ej
   rw[putT_same]at hm
   exact kF z.block (by rw[hz];rfl) hm
  ·rw[putT_ne _ _ ej]at hm
   have:=(A1.lt i _ hm).2
   omega
theorem recvR_found {v1 v2:Value} (A:Al w0 w t) (e1:t 1=rmT r v1 v2 (E.map (·.L.e)) (E.map (·.n)) lost) (er:Er t E) (hu:One E) {j:Nat} {en:Ent} (he:E[j]?=some en) (hr:Row8 w a len cap bs) (hra:∀ x,a=some x→x.block ∉ RMU r v1 v2) (hD:DE bs len=0) (hc:w4v bs 1=en.L.P.c) (hv:Iv en.L.P en.s) (hL:en.s.L.length<800000) (ht:en.s.ms.t<9223372036854774000) (hn:en.n<1000000) (h8:E.length≤8) :
  Calls Tryz.prog 40 #[.pointer (some ⟨r,0,none⟩),.slice a len cap] w fun e w'=>∃ ay cy,e=.returned (.tuple #[.int .u32 (en.L.P.c:Nat),.slice ay (drecv en.L.P en.L.mx en.L.n en.s len bs).f.1 cy,.int .i64 (drecv en.L.P en.L.mx en.L.n en.s len bs).e])∧Hid (∃ t' U',Al w0 w' t'∧t' 1=rmT r v1 v2 (E.map (·.L.e)) ((E.map (·.n)).set j (en.n+1)) lost∧t' (11+2*j)=rwT (en.L.rr (drecv en.L.P en.L.mx en.L.n en.s len bs).s) U'∧Row8 w' ay (drecv en.L.P en.L.mx en.L.n en.s len bs).f.1 cy (drecv en.L.P en.L.mx en.L.n en.s len bs).f.2∧∀ i,i≠1→i≠11+2*j→t' i=t i):=by
 obtain⟨hj,hje⟩:=List.getElem?_eq_some_iff.1 he
 obtain⟨U,ed⟩:=er j hj
 rw[hje]at ed
 have hRW:=A.rw ed
 obtain⟨B,y⟩:=id hRW
 have hcs:∀ i (hi:i<E.length),cdE E i=(E[i]).L.P.c:=fun i hi=>cdE_get E i hi
 have hQ:=rrecvM_any r v1 v2 _ _ lost (cdE E) j en.L.e en.n en.L.r en.L.q en.L.n en.L.mx en.L.P U en.s a len cap bs w (A.get e1) (A.codesR er) (by simp[he]) (by simp[he]) (by rw[hcs j hj,hje,hc]) (fun i hi e=>by
  rw[hcs i (by omega),hcs j hj]at e
  have:=hu i j (by omega) hj e
  omega) hRW (A.apart (i:=11+2*j) (j:=1) (by omega) ed e1) hr hra hD (hv.sent y.pok) hv.od hL ht hv.ss (by simp;omega) hn
 rw[show cdE E j=en.L.P.c by rw[hcs j hj,hje]]at hQ
 refine hQ.mono ?_
 rintro e w' ⟨v,rfl,h⟩
 obtain⟨w1,o1,m1,R1,⟨U',G,R2,F,kF⟩⟩:=h.out
 have hby:=drecv_byte en.L.P en.L.mx en.L.n en.s y.apb len bs
 obtain⟨ay,cy,rfl,ry⟩:=F.row hby
 have A1:=A.step 1 (rmT r v1 v2 (E.map (·.L.e)) ((E.map (·.n)).set j (en.n+1)) lost) (by rw[e1];rfl) ⟨o1,fun k hk=>.inl hk⟩ m1 (fun k hk=>m1.lt k hk)
 have A2:=A1.stepR (i:=11+2*j) (x:=en.L.rr en.s) (by rw[putT_ne _ _ (by omega)];exact ed) G R2
 refine⟨ay,cy,rfl,_,U',A2,?_,?_,ry,fun i h1 h2=>?_⟩
 ·rw[putT_ne _ _ (by omega),putT_same]
 ·rw[putT_same];rfl
 ·rw[putT_ne _ _ h2,putT_ne _ _ h1]
end
end Go.Proofs.YtffehehghpafdaaGreat
namespace Go.Proofs.YtffehehghpafdaaGreat
set_option maxRecDepth 100000
open Go.RowKit
theorem dresetAll (d m g n mx:Nat) (P:Pm) (U:List Nat) (s:Sd) (k:Int) (w:World) (h:DV w d m g n mx P U s) (hk:k≤9223372036854775807) (ht:s.ms.t<9223372036854774000) :
  Calls Tryz.prog 43 #[.pointer (some ⟨d,0,none⟩),.int .i64 k] w fun e w'=>e=.returned (.int .i64 (dresetE mx n s k))∧Hid (∃ U',Gr U w U' w'∧DV w' d m g n mx P U' (dresetS mx n s k)):=by
 by_cases h0:k<0
 ·refine (reset_neg d k w h0).mono ?_
  rintro e w' ⟨rfl,rfl⟩
  rw[show dresetE mx n s k=2 from if_pos h0,show dresetS mx n s k=s from if_pos h0]
  exact⟨rfl,U,Gr.refl _ _,h⟩
 ·exact dvreset_any d m g n mx P U s k w h (by omega) hk ht
theorem rresetAll (d m g n mx:Nat) (P:Pm) (U:List Nat) (s:Sd) (k:Int) (w:World) (h:RW w d m g n mx P U s) (hk:k≤9223372036854775807) (ht:s.ms.t<9223372036854774000) :
  Calls Tryz.prog 44 #[.pointer (some ⟨d,0,none⟩),.int .i64 k] w fun e w'=>e=.returned (.int .i64 (dresetE mx n s k))∧Hid (∃ U',Gr U w U' w'∧RW w' d m g n mx P U' (dresetS mx n s k)):=by
 by_cases h0:k<0
 ·refine (rreset_neg d k w h0).mono ?_
  rintro e w' ⟨rfl,rfl⟩
  rw[show dresetE mx n s k=2 from if_pos h0,show dresetS mx n s k=s from if_pos h0]
  exact⟨rfl,U,Gr.refl _ _,h⟩
 ·exact rvreset_any d m g n mx P U s k w h (by omega) hk ht
theorem rvarm_any (d m g n mx:Nat) (P:Pm) (U:List Nat) (s:Sd) (p:Int) (w:World) (h:RW w d m g n mx P U s) (hp:p≤9223372036854775807) :
  Calls Tryz.prog 46 #[.pointer (some ⟨m,0,none⟩),.int .i64 p] w fun e w'=>e=.returned (.int .i64 (arE p))∧Hid (∃ U',Gr U w U' w'∧RW w' d m g n mx P U' { s with ms:=arS s.ms p }):=by
 obtain⟨B,x⟩:=h
 refine (rarm_any m g n s.ms p w x.mem hp).mono ?_
 rintro e w' ⟨rfl,o,m'⟩
 refine⟨rfl,U,Gr.same (o.more (m:=[m,g,B.c]) (by simp)) x.memU,B,x.memd (o.more (by simp)) m' (A':=s.st≠6) (fun hs=>?_)⟩
 obtain⟨c1,c2,c3⟩:=x.cel hs
 have hne:B.c ∉ [m]:=fun hm=>by simp at hm;have:=x.kc.1;rw[hm,x.km.1]at this;omega
 have e1:(arS s.ms p).bs=s.ms.bs:=by unfold arS;split <;> rfl
 have e2:(arS s.ms p).off=s.ms.off:=by unfold arS;split <;> rfl
 rw[e1,e2]
 exact⟨c1,c2.off o hne,c3⟩
end Go.Proofs.YtffehehghpafdaaGreat
