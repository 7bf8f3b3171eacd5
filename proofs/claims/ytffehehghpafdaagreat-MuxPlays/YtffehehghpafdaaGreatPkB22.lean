/- Part 23 of the texts on which the proofs of layer 13 rest: contracts of Go functions. -/
import Derived.Deep.CutBlock
import Derived.Test.YtffehehghpafdaaGreatPkB08
import Derived.Test.YtffehehghpafdaaGreatPkB21
namespace Go.Proofs.YtffehehghpafdaaGreat
set_option maxRecDepth 100000
open Go.RowKit Go.Maps Go.Sort Go.Shelf
theorem alloc_atU {W:World} {o:Obj} {g:Nat} (h:g=W.heap.size):(W.alloc o).heap[g]?=some o:=by subst h;exact heap_alloc_new _ _
theorem own_emptyU {W:World} {B g:Nat} (h:W.heap[g]?=some (.cells #[] 30 (0,0))) (hg:B≤g):W.ownsRow B 30 1 (.slice (some ⟨g,0,none⟩) 0 0) 0 (([]:List Int).map encU):=
 ⟨rfl,.inr ⟨g,0,#[],rfl,hg,h,Nat.le_refl _,Nat.zero_le _,rfl,rfl⟩⟩
theorem step_appU {ops:Array Oper} {o:Oper} {a:Act} {w:World} {K:Act→World→Prop} {Q:Exit→Act→World→Prop} {E:Prop}
  (hg:o.guard=none) (s x:Operand) (hop:o.op=Op.call { callee:=Callee.builtin Builtin.append,args:=#[s,x],argTypes:=#[22,22] }) (hty:o.type=22)
  (B n m c:Nat) (xs ys:List Int) (v:Value) (hs:a.eval s=v) (hown:w.ownsRow B 30 1 v n (xs.map encU)) (ad:Option Addr) (hx:a.eval x=.slice ad m c) (hy:ys.length=m) (h0:ad=none→m=0∧c=0)
  (hc:∀ b,ad=some b→∀ j u,(ys.map encU)[j]?=some u→w.cell? (b.add j)=some u) (hn:n+m<1000000) (w0:World) (hB0:B≤w0.heap.size) (hb:Below B w0 w)
  (hK:∀ v' w',Hid (w'.ownsRow B 30 1 v' (n+m) ((xs ++ ys).map encU)∧w.grownBy w' v.ownBlock)→Below B w0 w'→K (a.put o.dst v') w') :
  if Region.wanted o (yielded ops a.tmps)=true then Oper.wp Tryz.prog o a w K Q else E:=by
 have hw:Region.wanted o (yielded ops a.tmps)=true:=by simp[Region.wanted,hg]
 rw[if_pos hw]
 obtain⟨i,hi,hz0,hz1,hz2⟩:=info_parts info_u32
 have hBw:B≤w.heap.size:=Nat.le_trans hB0 hb.size
 unfold Oper.wp execOp
 cases ad with
 | none=>
  obtain⟨rfl,rfl⟩:=h0 rfl
  have hrun:=run_append_owned_none (P:=Tryz.prog) (w:=w) B 22 22 30 i 1 Tryz.underlying22 hi v n (xs.map encU) hown
  simp only[hop,hty,resolve,invoke,builtin,Sem.run_bind,Sem.run_pure,Result.andThen_ok,List.map_toArray,List.map_cons,List.map_nil,hs,hx,hrun]
  obtain rfl:ys=[]:=List.eq_nil_of_length_eq_zero hy
  rw[List.append_nil]at hK
  exact hK v w ⟨hown,World.grownBy.refl _ _⟩ hb
 | some b=>
  obtain⟨v',w',hrun,h3,h4,_⟩:=run_append_own w B 22 22 30 i _ 1 4 Tryz.underlying22 hi hz0 hz1 hz2 rfl (by decide) v n (xs.map encU) hown b m c (ys.map encU) (by simp[hy]) (hc b rfl) (by intro u hu;obtain⟨y,_,rfl⟩:=List.mem_map.1 hu;rfl) (by unfold maxLen;omega) (by omega) hBw
  simp only[hop,hty,resolve,invoke,builtin,Sem.run_bind,Sem.run_pure,Result.andThen_ok,List.map_toArray,List.map_cons,List.map_nil,hs,hx,hrun]
  refine hK v' w' ⟨?_,h4⟩ (hb.grown h4 hBw (fun j hj=>(hown.lt j hj).1))
  rw[List.map_append];exact h3
theorem grown_keepU {W w':World} {row:Option Nat} {r:Nat} (h:W.grownBy w' row) (e:row=some r):Hid (∀ g o,W.heap[g]?=some o→g≠r→w'.heap[g]?=some o):=fun g _o hg hne=>(h.block g (Array.getElem?_eq_some_iff.1 hg).1 (by rw[e];simpa using hne)).trans hg
theorem one_cellU {W:World} {g:Nat} {c:Int} (h:W.heap[g]?=some (.cells #[.int .u32 c] 30 (0,0))):∀ b,some (⟨g,0,none⟩:Addr)=some b→∀ j u,([c].map encU)[j]?=some u→W.cell? (b.add j)=some u:=by
 intro b e j u hu
 cases e
 have hj:j=0:=by
  have:=(List.getElem?_eq_some_iff.1 hu).1
  simp at this;exact this
 subst hj
 simp at hu
 subst hu
 rw[Go.WideShapes.add_plain]
 exact cell_at h rfl
theorem own_nilU {w:World} {B n:Nat} {e:TypeId} {cap:Nat} {xs:List Value} (h:w.ownsRow B e 1 (.slice none n cap) n xs):n=0∧cap=0:=by
 rcases h.2 with ⟨e,hn⟩ | ⟨g,cap,cur,e,_⟩
 ·simp only[Value.slice.injEq]at e;exact⟨hn,e.2.2⟩
 ·simp at e
theorem own_adU {w:World} {B n:Nat} {e:TypeId} {ad:Addr} {cap:Nat} {xs:List Value} (h:w.ownsRow B e 1 (.slice (some ad) n cap) n xs):∃ g,ad=⟨g,0,none⟩∧g<w.heap.size:=by
 rcases h.2 with ⟨e,hn⟩ | ⟨g,cap',cur,e,_,hgg,_⟩
 ·simp at e
 ·simp only[Value.slice.injEq,Option.some.injEq]at e
  exact⟨g,e.1,(Array.getElem?_eq_some_iff.1 hgg).1⟩
theorem own_capU {w:World} {B n:Nat} {e:TypeId} {a:Option Addr} {cap:Nat} {xs:List Value} (h:w.ownsRow B e 1 (.slice a n cap) n xs):n≤cap:=by
 rcases h.2 with ⟨e,hn⟩ | ⟨g,cap',cur,e,_,_,h1,_⟩
 ·omega
 ·simp only[Value.slice.injEq]at e;omega
theorem own_baseU {w:World} {B B' n:Nat} {e:TypeId} {v:Value} {xs:List Value} (h:w.ownsRow B e 1 v n xs) (hB:B'≤B):w.ownsRow B' e 1 v n xs:=by
 refine⟨h.1,?_⟩
 rcases h.2 with hn | ⟨g,cap,cur,rfl,hg,rest⟩
 ·exact .inl hn
 ·exact .inr ⟨g,cap,cur,rfl,by omega,rest⟩
theorem own_cellsU {w:World} {B:Nat} {v:Value} {l:List Int} (h:w.ownsRow B 30 1 v l.length (l.map encU)):∃ a cap,v=.slice a l.length cap∧∀ i (hi:i<l.length),∃ g,a=some ⟨g,0,none⟩∧g<w.heap.size∧w.cell? ⟨g,i,none⟩=some (.int .u32 l[i]):=by
 obtain⟨a,cap,e,hr,_⟩:=own_rowU h
 refine⟨a,cap,e,fun i hi=>?_⟩
 subst e
 cases a with
 | none=>
  have:=(own_nilU h).1
  omega
 | some ad=>
  obtain⟨g,rfl,hg⟩:=own_adU h
  obtain⟨b,o,e2,hc⟩:=hr i hi
  cases e2
  exact⟨g,rfl,hg,by simpa using hc⟩
theorem map_take_cellU {w:World} {g q:Nat} {l:List Int} (h:∀ i (hi:i<l.length),w.cell? ⟨g,i,none⟩=some (.int .u32 l[i])):∀ j u,((l.take q).map encU)[j]?=some u→w.cell? ((⟨g,0,none⟩:Addr).add j)=some u:=by
 intro j u hu
 rw[Go.WideShapes.add_plain,Nat.zero_add]
 obtain⟨hj,e⟩:=List.getElem?_eq_some_iff.1 hu
 simp at hj
 rw[h j (by omega),← e]
 simp[encU]
theorem map_drop_cellU {w:World} {g q:Nat} {l:List Int} (h:∀ i (hi:i<l.length),w.cell? ⟨g,i,none⟩=some (.int .u32 l[i])):∀ j u,((l.drop q).map encU)[j]?=some u→w.cell? ((⟨g,q,none⟩:Addr).add j)=some u:=by
 intro j u hu
 rw[Go.WideShapes.add_plain]
 obtain⟨hj,e⟩:=List.getElem?_eq_some_iff.1 hu
 simp at hj
 rw[h (q+j) (by omega),← e]
 simp[encU]
def loU (x:Int) (l:List Int):Nat:=(l.takeWhile (· < x)).length
theorem loU_le (x:Int) (l:List Int):loU x l≤l.length:=(List.takeWhile_sublist _).length_le
theorem loU_less (x:Int) (l:List Int) (i:Nat) (hi:i<l.length) (h:i<loU x l):l[i]<x:=by
 induction l generalizing i with
 | nil=>simp at hi
 | cons y l ih=>
  unfold loU at h
  rw[List.takeWhile_cons]at h
  split at h
  ·rename_i hy
   cases i with
   | zero=>simpa using hy
   | succ i=>exact ih i (by simpa using hi) (by simpa [loU] using h)
  ·simp at h
theorem loU_stop (x:Int) (l:List Int) (h:loU x l<l.length):¬ l[loU x l]<x:=by
 induction l with
 | nil=>simp at h
 | cons y l ih=>
  by_cases hy:y<x
  ·have e:loU x (y :: l)=loU x l+1:=by unfold loU;rw[List.takeWhile_cons,if_pos (by simpa using hy)];rfl
   have h2:loU x l<l.length:=by rw[e]at h;simpa using h
   have:=ih h2
   intro h3
   apply this
   have h4:(y :: l)[loU x (y :: l)]=l[loU x l]:=by simp only[e];rfl
   rw[← h4];exact h3
  ·have e:loU x (y :: l)=0:=by unfold loU;rw[List.takeWhile_cons,if_neg (by simpa using hy)];rfl
   intro h3
   apply hy
   have h4:(y :: l)[loU x (y :: l)]=y:=by simp only[e];rfl
   rw[← h4];exact h3
set_option maxHeartbeats 8000000 in
set_option maxRecDepth 100000 in
theorem rrising_any (a:Option Addr) (cap:Nat) (L:List Int) (w:World) (hr:∀ i (hi:i<L.length),∃ g,a=some ⟨g,0,none⟩∧g<w.heap.size∧w.cell? ⟨g,i,none⟩=some (.int .u32 L[i])) (hn:L.length<100000) :
  Calls Tryz.prog 98 #[.slice a L.length cap] w fun e w'=>∃ v',e=.returned v'∧Hid (w'.ownsRow w.heap.size 30 1 v' (riseU L).length ((riseU L).map encU)∧Below w.heap.size w w'):=by
 have HC:Hid (_):=hr
 obtain⟨n,en⟩:∃ n,n=L.length:=⟨_,rfl⟩
 have HN:Hid (n=L.length):=en
 rw[← en]at hn ⊢
 clear en hr
 go_enter Tryz.func98,Tryz.ntmps98
 go_wp2_with fail
 go_loopw [3,4,5] (fun v x _ wr=>∃ i,i≤n∧x=.int .i64 ((i:Nat):Int)∧wr.ownsRow w.heap.size 30 1 v (riseU (L.take i)).length ((riseU (L.take i)).map encU)∧Below w.heap.size w wr) (fun _ x _ _=>n-natU x)
 case atStart=>exact⟨0,by omega,rfl,World.ownsRow_nil _ _ _ _,Below.refl _ _⟩
 case round=>
  obtain⟨i,hi,rfl,hown,hbel⟩:=hrel
  by_cases hlt:i<n
  ·have hil:i<L.length:=by rw[← HN.out];exact hlt
   obtain⟨g0,rfl,hg0,x1⟩:=HC.out i hil
   have d1:wr.cell? ⟨g0,i,none⟩=some (.int .u32 L[i]):=(World.cell?_of_block (hbel.block g0 hg0)).trans x1
   clear x1
   have hll:(riseU (L.take i)).length≤i:=by rw[(riseU_perm _).length_eq];simp;omega
   obtain⟨a3,cap3,rfl,hcs⟩:=own_cellsU hown
   have hnil:=fun (e:a3=none)=>own_nilU (e ▸ hown)
   have hcap:=own_capU hown
   obtain⟨l,el⟩:∃ l,l=riseU (L.take i):=⟨_,rfl⟩
   obtain⟨c,ec⟩:∃ c,c=L[i]:=⟨_,rfl⟩
   obtain⟨k,ek⟩:∃ k,k=l.length:=⟨_,rfl⟩
   obtain⟨q,eq⟩:∃ q,q=loU c l:=⟨_,rfl⟩
   have HI:Hid (riseU (L.take (i+1))=insU c l):=by
    show _=_
    rw[List.take_succ_eq_append_getElem hil,riseU_snoc,ec,el]
   have HEnd:Hid (∀ v7 w7,True→w7.ownsRow wr.heap.size 30 1 v7 (0+q+1 + (k-q)) ((l.take q ++ [c] ++ l.drop q).map encU)→Below wr.heap.size wr w7→(w7.ownsRow w.heap.size 30 1 v7 (riseU (L.take (i+1))).length ((riseU (L.take (i+1))).map encU)∧Below w.heap.size w w7)):=by
    intro v7 w7 _ h7 hb7
    have hq:=loU_le c l
    have e:insU c l=l.take q ++ [c] ++ l.drop q:=by
     rw[insU_at c l q (by omega) (fun i hi hq=>loU_less c l i hi (eq ▸ hq)) (fun h=>by subst eq;exact loU_stop c l h)]
     simp
    refine⟨?_,hbel.trans (hb7.mono hbel.size)⟩
    rw[HI.out,e]
    have e2:(l.take q ++ [c] ++ l.drop q).length=0+q+1 + (k-q):=by simp;omega
    rw[e2]
    exact own_baseU h7 hbel.size
   have hne:True:=trivial
   have HSt:Hid (wr.ownsRow w.heap.size 30 1 (.slice a3 l.length cap3) l.length (l.map encU)∧Below w.heap.size w wr):=by rw[el];exact⟨hown,hbel⟩
   rw[← el]at hcs hll hnil hcap ⊢
   rw[← ec]at d1
   have hql:q≤k:=by rw[eq,ek];exact loU_le c l
   have HLo:Hid ((∀ j (hj:j<l.length),j<q→l[j]<c)∧∀ h:q<l.length,¬ l[q]<c):=by rw[eq];exact⟨fun j hj=>loU_less c l j hj,fun h=>loU_stop c l h⟩
   have HK:Hid (k=l.length):=ek
   have HCs:Hid (∀ j (hj:j<l.length),∃ g,a3=some ⟨g,0,none⟩∧g<wr.heap.size∧wr.cell? ⟨g,j,none⟩=some (.int .u32 l[j])):=hcs
   rw[← ek]at hll hnil hcap ⊢
   have hqc:q≤cap3:=by omega
   have hqc':(q:Int) ≤ (cap3:Int):=by omega
   have hqk':(q:Int) ≤ (k:Int):=by omega
   have hyA:(l.take q).length=q:=by simp;omega
   have hyC:(l.drop q).length=k-q:=by simp;omega
   have hin:(i:Int) < (n:Int):=by omega
   have hg0r:g0<wr.heap.size:=Nat.lt_of_lt_of_le hg0 hbel.size
   clear hown el ec ek eq hcs hil
   clear hbel
   go_upto_block 2 with fail
   go_cut [5] (fun x wx=>x=.int .i64 ((q:Nat):Int)∧∃ m,wx=wr.drewN m)
   case first=>
    go_wp2_with fail
    go_loopw [5] (fun x wz=>∃ t m,t≤q∧x=.int .i64 ((t:Nat):Int)∧wz=wr.drewN m) (fun x _=>q-natU x)
    case atStart=>exact⟨0,0,by omega,rfl,rfl⟩
    case round=>
     obtain⟨t,m,ht,rfl,rfl⟩:=hrel
     have d1:(wr.drewN m).cell? ⟨g0,i,none⟩=some (.int .u32 c):=d1
     by_cases htq:t<q
     ·have htl:t<l.length:=by rw[← HK.out];omega
      obtain⟨g,rfl,_,d2⟩:=HCs.out t htl
      have d2:(wr.drewN m).cell? ⟨g,t,none⟩=some (.int .u32 l[t]):=d2
      have hlt2:=HLo.out.1 t htl htq
      generalize l[t]=y at *
      have htk:(t:Int) < (k:Int):=by omega
      generalize hwm:wr.drewN m=wm at *
      go_wp2_with fail
      go_quiet (fail)
      go_wp2_with fail
      go_roundw
      case rel=>exact⟨t+1,m+nq,by omega,by go_num,by rw[← hwm,World.drewN_drewN]⟩
      case measure=>simp[natU] <;> omega
     ·obtain rfl:t=q:=by omega
      by_cases htk:t<k
      ·have htl:t<l.length:=by rw[← HK.out];omega
       obtain⟨g,rfl,_,d2⟩:=HCs.out t htl
       have d2:(wr.drewN m).cell? ⟨g,t,none⟩=some (.int .u32 l[t]):=d2
       have hlt2:=HLo.out.2 htl
       generalize l[t]=y at *
       have htk':(t:Int) < (k:Int):=by omega
       generalize hwm:wr.drewN m=wm at *
       go_wp2_with fail
       go_quiet (fail)
       go_wp2_with fail
       go_meet
       exact⟨rfl,m+nq,by rw[← hwm,World.drewN_drewN]⟩
      ·have htk':¬ (t:Int) < (k:Int):=by omega
       generalize hwm:wr.drewN m=wm at *
       go_wp2_with fail
       go_quiet (fail)
       go_wp2_with fail
       go_meet
       exact⟨rfl,m+nq,by rw[← hwm,World.drewN_drewN]⟩
   case rest=>
    obtain⟨rfl,m,hwc⟩:=hcut
    replace HEnd:Hid (∀ v7 w7,True→w7.ownsRow wc.heap.size 30 1 v7 (0+q+1 + (k-q)) ((l.take q ++ [c] ++ l.drop q).map encU)→Below wc.heap.size wc w7→(w7.ownsRow w.heap.size 30 1 v7 (riseU (L.take (i+1))).length ((riseU (L.take (i+1))).map encU)∧Below w.heap.size w w7)):=by
     intro v7 w7 h0 h7 hb7
     subst hwc
     exact HEnd.out v7 w7 h0 h7 ((below_drewNR (Below.refl _ _) m).trans hb7)
    replace HCs:Hid (∀ j (hj:j<l.length),∃ g,a3=some ⟨g,0,none⟩∧g<wc.heap.size∧wc.cell? ⟨g,j,none⟩=some (.int .u32 l[j])):=by
     subst hwc
     exact HCs.out
    replace HSt:Hid (wc.ownsRow w.heap.size 30 1 (.slice a3 l.length cap3) l.length (l.map encU)):=by
     subst hwc
     exact HSt.out.1
    replace d1:wc.cell? ⟨g0,i,none⟩=some (.int .u32 c):=by
     subst hwc
     exact d1
    have hg0c:g0<wc.heap.size:=by
     subst hwc
     exact hg0r
    have hg0n:¬ g0=wc.heap.size:=by omega
    clear hwc m
    by_cases htk:q<k
    ·have htl:q<l.length:=by rw[← HK.out];omega
     obtain⟨g,rfl,hgl,d2⟩:=HCs.out q htl
     have HCw:Hid (∀ wx,Below wc.heap.size wc wx→∀ j (hj:j<l.length),wx.cell? ⟨g,j,none⟩=some (.int .u32 l[j])):=by
      intro wx hx j hj
      obtain⟨g',e1,h2,h3⟩:=HCs.out j hj
      obtain rfl:g=g':=by simpa using e1
      exact (World.cell?_of_block (hx.block g h2)).trans h3
     have hcA:∀ wx,Below wc.heap.size wc wx→∀ b,some (⟨g,0,none⟩:Addr)=some b→∀ j u,((l.take q).map encU)[j]?=some u→wx.cell? (b.add j)=some u:=by
      intro wx hx b e
      cases e
      exact map_take_cellU (HCw.out wx hx)
     have hcC:∀ wx,Below wc.heap.size wc wx→∀ j u,((l.drop q).map encU)[j]?=some u→wx.cell? ((⟨g,q,none⟩:Addr).add j)=some u:=fun wx hx=>map_drop_cellU (HCw.out wx hx)
     have h0A:some (⟨g,0,none⟩:Addr)=none→q=0∧cap3=0:=by simp
     have htk':(q:Int) < (k:Int):=by omega
     have hcq:¬ cap3=q:=by omega
     clear d2 HSt HCs HLo
     go_upto_region 8 with fail
     go_region_law (first
      | (refine step_appU rfl (.tmp 29) (.tmp 32) rfl rfl wc.heap.size 0 q _ [] (l.take q) _ rfl (own_emptyU (by first | exact alloc_atU (by simp) | exact (old_allocU (by simp)).trans (alloc_atU (by simp))) (by simp)) _ rfl hyA h0A (hcA _ (by repeat (first | with_reducible assumption | with_reducible refine below_drewNR ?_ _ | with_reducible refine Below.drew ?_ | with_reducible refine belowAR ?_ (Nat.le_refl _) _ | with_reducible exact Below.refl _ _))) (by omega) wc (Nat.le_refl _) (by repeat (first | with_reducible assumption | with_reducible refine below_drewNR ?_ _ | with_reducible refine Below.drew ?_ | with_reducible refine belowAR ?_ (Nat.le_refl _) _ | with_reducible exact Below.refl _ _)) ?_;intro v5 w5 H5 hB5;have K5:=grown_keepU H5.out.2 rfl;have d5:w5.cell? ⟨g0,i,none⟩=some (.int .u32 c):=(World.cell?_of_block (hB5.block g0 hg0c)).trans d1)
      | (refine step_appU rfl (.tmp 33) (.tmp 38) rfl rfl wc.heap.size (0+q) 1 1 (l.take q) [c] _ rfl (by first | exact H5.out.1 | exact H5.out.1.alloc _) _ rfl rfl (by simp) (one_cellU (by first | exact alloc_atU (by simp) | exact K5.out _ _ (alloc_atU (by simp)) (by simp) | exact K5.out _ _ ((old_allocU (by simp)).trans (alloc_atU (by simp))) (by simp))) (by omega) wc (Nat.le_refl _) (by repeat (first | with_reducible assumption | with_reducible refine below_drewNR ?_ _ | with_reducible refine Below.drew ?_ | with_reducible refine belowAR ?_ (Nat.le_refl _) _ | with_reducible exact Below.refl _ _)) ?_;intro v6 w6 H6 hB6)
      | (refine step_appU rfl (.tmp 39) (.tmp 42) rfl rfl wc.heap.size (0+q+1) (k-q) _ (l.take q ++ [c]) (l.drop q) _ rfl H6.out.1 _ rfl hyC (by simp) (by intro b e;cases e;exact hcC _ (by repeat (first | with_reducible assumption | with_reducible refine below_drewNR ?_ _ | with_reducible refine Below.drew ?_ | with_reducible refine belowAR ?_ (Nat.le_refl _) _ | with_reducible exact Below.refl _ _))) (by omega) wc (Nat.le_refl _) (by repeat (first | with_reducible assumption | with_reducible refine below_drewNR ?_ _ | with_reducible refine Below.drew ?_ | with_reducible refine belowAR ?_ (Nat.le_refl _) _ | with_reducible exact Below.refl _ _)) ?_;intro v7 w7 H7 hB7))
     all_goals
      have HF:Hid (w7.ownsRow w.heap.size 30 1 v7 (riseU (L.take (i+1))).length ((riseU (L.take (i+1))).map encU)∧Below w.heap.size w w7):=HEnd.out v7 w7 hne H7.out.1 hB7
      clear H5 H6 H7 hB5 hB6 hB7 K5 hcA
      go_wp2_with fail
      go_roundw
      case rel=>exact⟨i+1,by omega,by go_num,HF.out.1,HF.out.2⟩
      case measure=>simp[natU] <;> omega
    ·have htk':¬ (q:Int) < (k:Int):=by omega
     have hdr:Hid (l.drop q=[]):=List.drop_eq_nil_of_le (by have:=HK.out;omega)
     cases a3 with
     | none=>
      obtain⟨rfl,rfl⟩:=hnil rfl
      obtain rfl:q=0:=by omega
      have hcA:∀ wx,Below wc.heap.size wc wx→∀ b,(none:Option Addr)=some b→∀ j u,((l.take 0).map encU)[j]?=some u→wx.cell? (b.add j)=some u:=by
       intro wx hx b e
       cases e
      have h0A:(none:Option Addr)=none→(0:Nat)=0∧(0:Nat)=0:=by simp
      clear HSt HCs HLo
      go_upto_region 8 with fail
      go_region_law (first
       | (refine step_appU rfl (.tmp 29) (.tmp 32) rfl rfl wc.heap.size 0 0 _ [] (l.take 0) _ rfl (own_emptyU (by first | exact alloc_atU (by simp) | exact (old_allocU (by simp)).trans (alloc_atU (by simp))) (by simp)) _ rfl hyA h0A (hcA _ (by repeat (first | with_reducible assumption | with_reducible refine below_drewNR ?_ _ | with_reducible refine Below.drew ?_ | with_reducible refine belowAR ?_ (Nat.le_refl _) _ | with_reducible exact Below.refl _ _))) (by omega) wc (Nat.le_refl _) (by repeat (first | with_reducible assumption | with_reducible refine below_drewNR ?_ _ | with_reducible refine Below.drew ?_ | with_reducible refine belowAR ?_ (Nat.le_refl _) _ | with_reducible exact Below.refl _ _)) ?_;intro v5 w5 H5 hB5;have K5:=grown_keepU H5.out.2 rfl;have d5:w5.cell? ⟨g0,i,none⟩=some (.int .u32 c):=(World.cell?_of_block (hB5.block g0 hg0c)).trans d1)
       | (refine step_appU rfl (.tmp 33) (.tmp 38) rfl rfl wc.heap.size (0+0) 1 1 (l.take 0) [c] _ rfl (by first | exact H5.out.1 | exact H5.out.1.alloc _) _ rfl rfl (by simp) (one_cellU (by first | exact alloc_atU (by simp) | exact K5.out _ _ (alloc_atU (by simp)) (by simp) | exact K5.out _ _ ((old_allocU (by simp)).trans (alloc_atU (by simp))) (by simp))) (by omega) wc (Nat.le_refl _) (by repeat (first | with_reducible assumption | with_reducible refine below_drewNR ?_ _ | with_reducible refine Below.drew ?_ | with_reducible refine belowAR ?_ (Nat.le_refl _) _ | with_reducible exact Below.refl _ _)) ?_;intro v6 w6 H6 hB6)
       | (refine step_appU rfl (.tmp 39) (.tmp 42) rfl rfl wc.heap.size (0+0+1) (0-0) _ (l.take 0 ++ [c]) (l.drop 0) _ rfl H6.out.1 _ rfl hyC (by simp) (by intro b _ j u hu;rw[hdr.out]at hu;simp at hu) (by omega) wc (Nat.le_refl _) (by repeat (first | with_reducible assumption | with_reducible refine below_drewNR ?_ _ | with_reducible refine Below.drew ?_ | with_reducible refine belowAR ?_ (Nat.le_refl _) _ | with_reducible exact Below.refl _ _)) ?_;intro v7 w7 H7 hB7))
      all_goals
       have HF:Hid (w7.ownsRow w.heap.size 30 1 v7 (riseU (L.take (i+1))).length ((riseU (L.take (i+1))).map encU)∧Below w.heap.size w w7):=HEnd.out v7 w7 hne H7.out.1 hB7
       clear H5 H6 H7 hB5 hB6 hB7 K5 hcA
       go_wp2_with fail
       go_roundw
       case rel=>exact⟨i+1,by omega,by go_num,HF.out.1,HF.out.2⟩
       case measure=>simp[natU] <;> omega
     | some ad=>
      obtain⟨g,rfl,hgl⟩:=own_adU HSt.out
      have HCw:Hid (∀ wx,Below wc.heap.size wc wx→∀ j (hj:j<l.length),wx.cell? ⟨g,j,none⟩=some (.int .u32 l[j])):=by
       intro wx hx j hj
       obtain⟨g',e1,h2,h3⟩:=HCs.out j hj
       obtain rfl:g=g':=by simpa using e1
       exact (World.cell?_of_block (hx.block g h2)).trans h3
      have hcA:∀ wx,Below wc.heap.size wc wx→∀ b,some (⟨g,0,none⟩:Addr)=some b→∀ j u,((l.take q).map encU)[j]?=some u→wx.cell? (b.add j)=some u:=by
       intro wx hx b e
       cases e
       exact map_take_cellU (HCw.out wx hx)
      have h0A:some (⟨g,0,none⟩:Addr)=none→q=0∧cap3=0:=by simp
      clear HSt HCs HLo
      by_cases hcq:cap3=q
      ·subst hcq
       have hk0:k-cap3=0:=by omega
       rw[hk0]at HEnd hyC
       clear hk0
       go_upto_region 8 with fail
       go_region_law (first
        | (refine step_appU rfl (.tmp 29) (.tmp 32) rfl rfl wc.heap.size 0 cap3 _ [] (l.take cap3) _ rfl (own_emptyU (by first | exact alloc_atU (by simp) | exact (old_allocU (by simp)).trans (alloc_atU (by simp))) (by simp)) _ rfl hyA h0A (hcA _ (by repeat (first | with_reducible assumption | with_reducible refine below_drewNR ?_ _ | with_reducible refine Below.drew ?_ | with_reducible refine belowAR ?_ (Nat.le_refl _) _ | with_reducible exact Below.refl _ _))) (by omega) wc (Nat.le_refl _) (by repeat (first | with_reducible assumption | with_reducible refine below_drewNR ?_ _ | with_reducible refine Below.drew ?_ | with_reducible refine belowAR ?_ (Nat.le_refl _) _ | with_reducible exact Below.refl _ _)) ?_;intro v5 w5 H5 hB5;have K5:=grown_keepU H5.out.2 rfl;have d5:w5.cell? ⟨g0,i,none⟩=some (.int .u32 c):=(World.cell?_of_block (hB5.block g0 hg0c)).trans d1)
        | (refine step_appU rfl (.tmp 33) (.tmp 38) rfl rfl wc.heap.size (0+cap3) 1 1 (l.take cap3) [c] _ rfl (by first | exact H5.out.1 | exact H5.out.1.alloc _) _ rfl rfl (by simp) (one_cellU (by first | exact alloc_atU (by simp) | exact K5.out _ _ (alloc_atU (by simp)) (by simp) | exact K5.out _ _ ((old_allocU (by simp)).trans (alloc_atU (by simp))) (by simp))) (by omega) wc (Nat.le_refl _) (by repeat (first | with_reducible assumption | with_reducible refine below_drewNR ?_ _ | with_reducible refine Below.drew ?_ | with_reducible refine belowAR ?_ (Nat.le_refl _) _ | with_reducible exact Below.refl _ _)) ?_;intro v6 w6 H6 hB6)
        | (refine step_appU rfl (.tmp 39) (.tmp 42) rfl rfl wc.heap.size (0+cap3+1) 0 _ (l.take cap3 ++ [c]) (l.drop cap3) _ rfl H6.out.1 _ rfl hyC (by simp) (by intro b _ j u hu;rw[hdr.out]at hu;simp at hu) (by omega) wc (Nat.le_refl _) (by repeat (first | with_reducible assumption | with_reducible refine below_drewNR ?_ _ | with_reducible refine Below.drew ?_ | with_reducible refine belowAR ?_ (Nat.le_refl _) _ | with_reducible exact Below.refl _ _)) ?_;intro v7 w7 H7 hB7))
       all_goals
        have HF:Hid (w7.ownsRow w.heap.size 30 1 v7 (riseU (L.take (i+1))).length ((riseU (L.take (i+1))).map encU)∧Below w.heap.size w w7):=HEnd.out v7 w7 hne H7.out.1 hB7
        clear H5 H6 H7 hB5 hB6 hB7 K5 hcA
        go_wp2_with fail
        go_roundw
        case rel=>exact⟨i+1,by omega,by go_num,HF.out.1,HF.out.2⟩
        case measure=>simp[natU] <;> omega
      ·go_upto_region 8 with fail
       go_region_law (first
        | (refine step_appU rfl (.tmp 29) (.tmp 32) rfl rfl wc.heap.size 0 q _ [] (l.take q) _ rfl (own_emptyU (by first | exact alloc_atU (by simp) | exact (old_allocU (by simp)).trans (alloc_atU (by simp))) (by simp)) _ rfl hyA h0A (hcA _ (by repeat (first | with_reducible assumption | with_reducible refine below_drewNR ?_ _ | with_reducible refine Below.drew ?_ | with_reducible refine belowAR ?_ (Nat.le_refl _) _ | with_reducible exact Below.refl _ _))) (by omega) wc (Nat.le_refl _) (by repeat (first | with_reducible assumption | with_reducible refine below_drewNR ?_ _ | with_reducible refine Below.drew ?_ | with_reducible refine belowAR ?_ (Nat.le_refl _) _ | with_reducible exact Below.refl _ _)) ?_;intro v5 w5 H5 hB5;have K5:=grown_keepU H5.out.2 rfl;have d5:w5.cell? ⟨g0,i,none⟩=some (.int .u32 c):=(World.cell?_of_block (hB5.block g0 hg0c)).trans d1)
        | (refine step_appU rfl (.tmp 33) (.tmp 38) rfl rfl wc.heap.size (0+q) 1 1 (l.take q) [c] _ rfl (by first | exact H5.out.1 | exact H5.out.1.alloc _) _ rfl rfl (by simp) (one_cellU (by first | exact alloc_atU (by simp) | exact K5.out _ _ (alloc_atU (by simp)) (by simp) | exact K5.out _ _ ((old_allocU (by simp)).trans (alloc_atU (by simp))) (by simp))) (by omega) wc (Nat.le_refl _) (by repeat (first | with_reducible assumption | with_reducible refine below_drewNR ?_ _ | with_reducible refine Below.drew ?_ | with_reducible refine belowAR ?_ (Nat.le_refl _) _ | with_reducible exact Below.refl _ _)) ?_;intro v6 w6 H6 hB6)
        | (refine step_appU rfl (.tmp 39) (.tmp 42) rfl rfl wc.heap.size (0+q+1) (k-q) _ (l.take q ++ [c]) (l.drop q) _ rfl H6.out.1 _ rfl hyC (by simp) (by intro b _ j u hu;rw[hdr.out]at hu;simp at hu) (by omega) wc (Nat.le_refl _) (by repeat (first | with_reducible assumption | with_reducible refine below_drewNR ?_ _ | with_reducible refine Below.drew ?_ | with_reducible refine belowAR ?_ (Nat.le_refl _) _ | with_reducible exact Below.refl _ _)) ?_;intro v7 w7 H7 hB7))
       all_goals
        have HF:Hid (w7.ownsRow w.heap.size 30 1 v7 (riseU (L.take (i+1))).length ((riseU (L.take (i+1))).map encU)∧Below w.heap.size w w7):=HEnd.out v7 w7 hne H7.out.1 hB7
        clear H5 H6 H7 hB5 hB6 hB7 K5 hcA
        go_wp2_with fail
        go_roundw
        case rel=>exact⟨i+1,by omega,by go_num,HF.out.1,HF.out.2⟩
        case measure=>simp[natU] <;> omega
  ·obtain rfl:i=n:=by omega
   have e:L.take i=L:=List.take_of_length_le (by have:=HN.out;omega)
   rw[e]at hown
   have HO:Hid (_):=And.intro hown hbel
   have hin:¬ (i:Int) < (i:Int):=by omega
   clear hown hbel
   go_wp2_with fail
   go_ret
   exact⟨_,rfl,HO⟩
end Go.Proofs.YtffehehghpafdaaGreat
