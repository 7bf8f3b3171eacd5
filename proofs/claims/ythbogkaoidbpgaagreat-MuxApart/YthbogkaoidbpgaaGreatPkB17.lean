/- Part 18 of the texts on which the proofs of layer 13 rest: contracts of Go functions. -/
import Derived.Test.YthbogkaoidbpgaaGreatPkB12
import Derived.Test.YthbogkaoidbpgaaGreatPkB13
import Derived.Test.YthbogkaoidbpgaaGreatPkB15
import Derived.Test.YthbogkaoidbpgaaGreatPkB16
namespace Go.Proofs.YthbogkaoidbpgaaGreat
set_option maxRecDepth 100000
open Go.RowKit Go.Maps Go.Sort Go.Shelf
def cdsM (L:List Prt):List Int:=L.map fun p=>(p.c:Int)
theorem MX.codes {w:World} {b:Nat} {L:List Prt} {lost l mb nn:Nat} {D:DataW Unit} (h:MX w b L lost l mb nn D) {ss:List Int} (hs:AllK D ss):ss.Perm (cdsM L):=by
 refine (List.perm_ext_iff_of_nodup hs.1 ?_).2 fun x=>?_
 ·unfold cdsM
  refine List.pairwise_map.2 (h.one.imp fun {p q} hpq e=>hpq.1 (by omega))
 ·rw[hs.2 x]
  constructor
  ·intro hx
   obtain⟨p,hp,e⟩:=h.key x hx
   exact List.mem_map.2 ⟨p,hp,e.symm⟩
  ·intro hx
   obtain⟨p,hp,rfl⟩:=List.mem_map.1 hx
   rw[h.has_ p.c (h.met p hp).2.2]
   cases hq:fnd L p.c with
   | none=>exact absurd rfl (fnd_none hq p hp)
   | some q=>rfl
set_option maxHeartbeats 1000000 in
theorem mcodes_any (b:Nat) (L:List Prt) (lost:Nat) (V:List Nat) (w:World) (h:Mxx w b L lost V) (hL:L.length≤12) :
  Calls Tryz.prog 32 #[.pointer (some ⟨b,0,none⟩)] w fun e w'=>∃ (v:Value) (ls:List Int),e=.returned v∧Hid (ls.Perm (cdsM L)∧ls.Pairwise (· ≤ ·)∧w'.ownsRow w.heap.size 40 1 v ls.length (ls.map encU)∧(v=.slice none 0 0 ↔ ls=[])∧Below w.heap.size w w'):=by
 obtain⟨l,mb,nn,D,h,_⟩:=h
 have c0:=h.c0
 have hlt:=h.map.lt
 have hseq:=keysU_gives w.heap.size mb nn 2 (by omega) D (w.alloc (.cells #[.map (some mb)] 110)) (by simp) (by simp) (ownsMap_off h.map (Off.alloc [] w _) (by simp))
 have cQ:=(callsIn_wide (n:=5)).2 (mnone_any b mb w c0)
 have cK:=keysU (some mb) 5 w
 have cS:=sortedU 5 (by omega) 132 #[.pointer (some ⟨w.heap.size,0,none⟩)] (enters_of Tryz.func132 (by kernel_rfl) rfl) (AllK D) (Maps.size D) (by rw[h.siz];omega) (fun ss hs=>by rw[(h.codes hs).length_eq];simpa [cdsM] using hL) _ hseq
 have f1:Fence.wide.fn 39:=trivial
 have f2:Fence.wide.fn 73:=trivial
 have f3:Fence.wide.fn 72:=trivial
 have H:Hid (_):=h
 clear h hseq
 refine (callsIn_wide (n:=6)).1 ?_
 refine callsIn_of_wp Tryz.func32 rfl trivial ?_ rfl
 simp only[Tryz.ntmps32,List.size_toArray,List.length_cons,List.length_nil,Nat.reduceAdd,Nat.reduceSub,Array.replicate_succ,Array.replicate_zero,List.push_toArray,List.append_toArray,List.nil_append,List.cons_append]
 gi_wp2_with (first
  | (gi_at_call 39;refine cQ.mono ?_;rintro e w' ⟨rfl,hw⟩;have hw:=hw.symm;subst hw)
  | (gi_at_call 73;refine cK.mono ?_;rintro e w' ⟨rfl,rfl⟩)
  | (gi_at_call 72;refine cS.mono ?_;rintro e w' ⟨v,ls,rfl,h2⟩))
 go_ret
 obtain⟨⟨ss,hs,hp⟩,hup,hrow,hnil,hb⟩:=h2.out
 exact⟨v,ls,rfl,hp.trans (H.out.codes hs),hup,ownsRow_base_a hrow (by simp),hnil,((Below.refl _ w).alloc (Nat.le_refl _) _).trans (hb.mono (by simp))⟩
theorem info_ptM:(Tryz.prog.info? 37).map (fun i=>(i.zero,i.size,i.bytes))=some (some (.pointer none),1,8):=by kernel_rfl
theorem info_inM:(Tryz.prog.info? 3).map (fun i=>(i.zero,i.size,i.bytes))=some (some (.int .i64 0),1,8):=by kernel_rfl
theorem grown_blk {w w':World} {row:Option Nat} {k:Nat} {o:Obj} (h:w.grownBy w' row) (hk:w.heap[k]?=some o) (hr:row≠some k):w'.heap[k]?=some o:=(h.block k (Array.getElem?_eq_some_iff.1 hk).1 (fun e=>hr e.symm)).trans hk
theorem Off.grownO {w w':World} {row:Option Nat} (h:w.grownBy w' row):Off row.toList w w':=⟨h.os,h.tape,h.output,h.size,fun k hk hb=>h.block k hk (by intro e;apply hb;rw[← e];simp)⟩
theorem one_cellG {W:World} {g:Nat} {e:TypeId} {y:Value} (h:W.heap[g]?=some (.cells #[y] e (0,0))):∀ j u,[y][j]?=some u→W.cell? ((⟨g,0,none⟩:Addr).add j)=some u:=by
 intro j u hu
 have hj:j=0:=by
  have:=(List.getElem?_eq_some_iff.1 hu).1
  simp at this;exact this
 subst hj
 simp at hu
 subst hu
 rw[Go.WideShapes.add_plain]
 exact (cell_of_row W g 0 _ _ _ h).trans rfl
theorem own_sl {w:World} {B e size n:Nat} {v:Value} {xs:List Value} (h:w.ownsRow B e size v n xs):∃ a cap m,v=.slice a m cap:=by
 rcases h.2 with ⟨rfl,_⟩ | ⟨g,cap,cur,rfl,_⟩
 ·exact⟨none,0,0,rfl⟩
 ·exact⟨_,cap,n,rfl⟩
theorem own_some1M {w:World} {B e size n:Nat} {v:Value} {xs:List Value} (h:w.ownsRow B e size v (n+1) xs):∃ g cap,v=.slice (some ⟨g,0,none⟩) (n+1) cap∧B≤g∧g<w.heap.size:=by
 rcases h.2 with ⟨_,hn⟩ | ⟨g,cap,cur,rfl,hB,hg,_⟩
 ·omega
 ·exact⟨g,cap,rfl,hB,(Array.getElem?_eq_some_iff.1 hg).1⟩
section
variable {w w1:World} {b lost:Nat} {v1 v2 v':Value} {ds ns:List Nat} {ob:Obj}
theorem RMx.app1 (h:RMx w b v1 v2 ds ns lost) (d:Nat) (o1:w1.ownsRow 0 37 1 v' (ds.length+1) (ds.map ptV ++ [ptV d])) (g1:(w.alloc ob).grownBy w1 v1.ownBlock) (hb:v'.ownBlock=v1.ownBlock∨v'.ownBlock=some (w.heap.size+1)) :
  w1.heap[b]?=some (.cells #[v1,v2,.int .i64 (lost:Nat)] 98 (0,0))∧RMx (w1.setCell ⟨b,0,none⟩ v') b v' v2 (ds ++ [d]) ns lost∧Gr (RMU b v1 v2) w (RMU b v' v2) (w1.setCell ⟨b,0,none⟩ v'):=by
 have hbl:=h.lt b (by simp[RMU])
 have nb1:v1.ownBlock≠some b:=fun e=>by
  obtain⟨c,hc⟩:=own_blkM h.r1 e
  exact tdiffM h.blk hc (by decide) rfl
 have nb2:v2.ownBlock≠some b:=fun e=>by
  obtain⟨c,hc⟩:=own_blkM h.r2 e
  exact tdiffM h.blk hc (by decide) rfl
 have n12:∀ k,v2.ownBlock=some k→v1.ownBlock≠some k:=fun k hk e=>by
  obtain⟨c,hc⟩:=own_blkM h.r1 e
  obtain⟨c',hc'⟩:=own_blkM h.r2 hk
  exact tdiffM hc hc' (by decide) rfl
 have e1:w1.heap[b]?=some (.cells #[v1,v2,.int .i64 (lost:Nat)] 98 (0,0)):=grown_blk g1 ((old_allocU hbl).trans h.blk) nb1
 have oA:Off (RMU b v1 v2) w w1:=((Off.alloc _ w ob).trans ((Off.grownO g1).more (fun k hk=>by simp at hk;simp[RMU,hk])))
 have oB:Off (RMU b v1 v2) w (w1.setCell ⟨b,0,none⟩ v'):=oA.trans ((Off.setCell b 0 w1 v').more (fun k hk=>by simp at hk;simp[RMU,hk]))
 have s1:(w.alloc ob).heap.size=w.heap.size+1:=by simp
 refine⟨e1,⟨?_,?_,?_⟩,oB,fun k hk=>?_⟩
 ·exact heap_setCell_same _ _ _ _ _ _ e1
 ·rw[List.length_append,List.map_append]
  refine own_offM o1 (Off.setCell b 0 w1 v') (fun k hk hm=>?_)
  simp at hm
  subst hm
  rcases hb with hb | hb
  ·exact nb1 (hb ▸ hk)
  ·rw[hb]at hk
   simp at hk
   omega
 ·refine own_offM (own_offM (own_offM h.r2 (Off.alloc [] w ob) (by simp)) (Off.grownO g1) (fun k hk hm=>?_)) (Off.setCell b 0 w1 v') (fun k hk hm=>?_)
  ·simp at hm
   exact n12 k hk hm
  ·simp at hm
   subst hm
   exact nb2 hk
 ·simp[RMU]at hk
  rcases hk with rfl | hk | hk
  ·exact .inl (by simp[RMU])
  ·rcases hb with hb | hb
   ·exact .inl (by simp[RMU,← hb,hk])
   ·rw[hb]at hk
    simp at hk
    exact .inr (by omega)
  ·exact .inl (by simp[RMU,hk])
theorem RMx.app2 (h:RMx w b v1 v2 ds ns lost) (o1:w1.ownsRow 0 3 1 v' (ns.length+1) (ns.map inV ++ [inV 0])) (g1:(w.alloc ob).grownBy w1 v2.ownBlock) (hb:v'.ownBlock=v2.ownBlock∨v'.ownBlock=some (w.heap.size+1)) :
  w1.heap[b]?=some (.cells #[v1,v2,.int .i64 (lost:Nat)] 98 (0,0))∧RMx (w1.setCell ⟨b,1,none⟩ v') b v1 v' ds (ns ++ [0]) lost∧Gr (RMU b v1 v2) w (RMU b v1 v') (w1.setCell ⟨b,1,none⟩ v'):=by
 have hbl:=h.lt b (by simp[RMU])
 have nb1:v1.ownBlock≠some b:=fun e=>by
  obtain⟨c,hc⟩:=own_blkM h.r1 e
  exact tdiffM h.blk hc (by decide) rfl
 have nb2:v2.ownBlock≠some b:=fun e=>by
  obtain⟨c,hc⟩:=own_blkM h.r2 e
  exact tdiffM h.blk hc (by decide) rfl
 have n12:∀ k,v1.ownBlock=some k→v2.ownBlock≠some k:=fun k hk e=>by
  obtain⟨c,hc⟩:=own_blkM h.r1 hk
  obtain⟨c',hc'⟩:=own_blkM h.r2 e
  exact tdiffM hc hc' (by decide) rfl
 have e1:w1.heap[b]?=some (.cells #[v1,v2,.int .i64 (lost:Nat)] 98 (0,0)):=grown_blk g1 ((old_allocU hbl).trans h.blk) nb2
 have oA:Off (RMU b v1 v2) w w1:=((Off.alloc _ w ob).trans ((Off.grownO g1).more (fun k hk=>by simp at hk;simp[RMU,hk])))
 have oB:Off (RMU b v1 v2) w (w1.setCell ⟨b,1,none⟩ v'):=oA.trans ((Off.setCell b 1 w1 v').more (fun k hk=>by simp at hk;simp[RMU,hk]))
 have s1:(w.alloc ob).heap.size=w.heap.size+1:=by simp
 refine⟨e1,⟨?_,?_,?_⟩,oB,fun k hk=>?_⟩
 ·exact heap_setCell_same _ _ _ _ _ _ e1
 ·refine own_offM (own_offM (own_offM h.r1 (Off.alloc [] w ob) (by simp)) (Off.grownO g1) (fun k hk hm=>?_)) (Off.setCell b 1 w1 v') (fun k hk hm=>?_)
  ·simp at hm
   exact n12 k hk hm
  ·simp at hm
   subst hm
   exact nb1 hk
 ·rw[List.length_append,List.map_append]
  refine own_offM o1 (Off.setCell b 1 w1 v') (fun k hk hm=>?_)
  simp at hm
  subst hm
  rcases hb with hb | hb
  ·exact nb2 (hb ▸ hk)
  ·rw[hb]at hk
   simp at hk
   omega
 ·simp[RMU]at hk
  rcases hk with rfl | hk | hk
  ·exact .inl (by simp[RMU])
  ·exact .inl (by simp[RMU,hk])
  ·rcases hb with hb | hb
   ·exact .inl (by simp[RMU,← hb,hk])
   ·rw[hb]at hk
    simp at hk
    exact .inr (by omega)
end
set_option maxHeartbeats 2000000 in
theorem radd_ok (b:Nat) (v1 v2:Value) (ds ns:List Nat) (lost:Nat) (cs:Nat→Nat) (d c:Nat) (w:World) (h:RMx w b v1 v2 ds ns lost) (hc:∀ i (hi:i<ds.length),w.cell? ⟨ds[i],0,none⟩=some (.int .u32 (cs i:Nat))) (cd:w.cell? ⟨d,0,none⟩=some (.int .u32 (c:Nat))) (hf:∀ i,i<ds.length→cs i≠c) (h8:ds.length<8) (hn8:ns.length<1000) :
  Calls Tryz.prog 33 #[.pointer (some ⟨b,0,none⟩),.pointer (some ⟨d,0,none⟩)] w fun e w'=>e=.returned (.int .i64 0)∧Hid (∃ v1' v2',Gr (RMU b v1 v2) w (RMU b v1' v2') w'∧RMx w' b v1' v2' (ds ++ [d]) (ns ++ [0]) lost):=by
 have hF:=rfind_any b v1 v2 ds ns lost cs c w h hc (by omega)
 obtain⟨i0,hi,hz0,hz1,hz2⟩:=info_parts info_ptM
 obtain⟨j0,hj,hy0,hy1,hy2⟩:=info_parts info_inM
 obtain⟨a1,cap1,rfl,_⟩:=own_ptr h.r1
 obtain⟨a2,cap2,m,rfl⟩:=own_sl h.r2
 have c0:w.cell? ⟨b,0,none⟩=some (.slice a1 ds.length cap1):=cell_of_row w b 0 _ _ _ h.blk
 have r1:=h.r1.alloc (.cells #[.pointer (some ⟨d,0,none⟩)] 37)
 have HH:Hid (_):=h
 have HF:Hid (_):=hf
 have hbl:=h.lt b (by simp[RMU])
 obtain⟨n,en⟩:∃ n,n=ds.length:=⟨_,rfl⟩
 have HN:Hid (n=ds.length):=en
 have h8':¬ (8:Int) ≤ (n:Int):=by omega
 rw[← en]at c0 r1
 clear h hf hc en
 go_enter Tryz.func33,Tryz.ntmps33
 go_wp2_with (first
  | (go_at_call 74;refine hF.mono ?_;rintro e w' ⟨r,rfl,hr,hw⟩;have hw:=hw.symm;subst hw;have hr':r = -1:=(by rcases hr.out with ⟨e,_⟩ | ⟨j,hj,_,e,_⟩;exact e;exact absurd e (HF.out j hj));subst hr')
  | (at_builtin;refine wpList_append_own_at _ rfl (.tmp 23) (.tmp 25) 32 rfl 0 37 i0 (.pointer none) 1 8 Tryz.underlying32 hi hz0 hz1 hz2 rfl (by decide) (.slice a1 n cap1) n (ds.map ptV) rfl r1 ⟨w.heap.size,0,none⟩ 1 1 [ptV d] rfl rfl (one_cellG (heap_alloc_new w _)) (by intro u hu;simp at hu;subst hu;rfl) (by unfold maxLen;omega) (by omega) (Nat.zero_le _) ?_))
 intro v1' w1 o1 g1 _ b1
 obtain⟨x1,y1,rfl,_,_⟩:=own_some1M o1
 have hA:=HH.out.app1 d (by rw[← HN.out];exact o1) (by rw[← HN.out];exact g1) (by rw[← HN.out];exact b1)
 have k0:w1.cell? ⟨b,0,none⟩=some (.slice a1 ds.length cap1):=cell_of_row w1 b 0 _ _ _ hA.1
 have z0:w1.frozen? ⟨b,0,none⟩=false:=frozen_of_row w1 b 0 _ _ hA.1
 have z1:(w1.setCell ⟨b,0,none⟩ (.slice (some ⟨x1,0,none⟩) (n+1) y1)).cell? ⟨b,1,none⟩=some (.slice a2 m cap2):=cell_of_row _ b 1 _ _ _ hA.2.1.blk
 have r2:=hA.2.1.r2.alloc (.cells #[.int .i64 0] 3)
 have HA:Hid (_):=hA
 clear hA o1 g1 b1 r1 hF
 generalize hw2:w1.setCell ⟨b,0,none⟩ (.slice (some ⟨x1,0,none⟩) (n+1) y1)=w2 at *
 go_wp2_with (at_builtin;refine wpList_append_own_at _ rfl (.tmp 33) (.tmp 34) 77 rfl 0 3 j0 (.int .i64 0) 1 8 Tryz.underlying77 hj hy0 hy1 hy2 rfl (by decide) (.slice a2 m cap2) ns.length (ns.map inV) rfl r2 ⟨w2.heap.size,0,none⟩ 1 1 [inV 0] rfl rfl (one_cellG (heap_alloc_new w2 _)) (by intro u hu;simp at hu;subst hu;rfl) (by unfold maxLen;omega) (by omega) (Nat.zero_le _) ?_)
 intro v2' w3 o3 g3 _ b3
 obtain⟨x3,y3,rfl,_,_⟩:=own_some1M o3
 have hB:=HA.out.2.1.app2 o3 g3 b3
 have k1:w3.cell? ⟨b,1,none⟩=some (.slice a2 m cap2):=cell_of_row w3 b 1 _ _ _ hB.1
 have z3:w3.frozen? ⟨b,1,none⟩=false:=frozen_of_row w3 b 1 _ _ hB.1
 have HB:Hid (_):=hB
 clear hB o3 g3 b3 r2
 go_wp2_with fail
 go_ret
 exact⟨rfl,_,_,HA.out.2.2.trans HB.out.2.2,HB.out.2.1⟩
theorem radd_no (b:Nat) (v1 v2:Value) (ds ns:List Nat) (lost:Nat) (cs:Nat→Nat) (d c:Nat) (w:World) (h:RMx w b v1 v2 ds ns lost) (hc:∀ i (hi:i<ds.length),w.cell? ⟨ds[i],0,none⟩=some (.int .u32 (cs i:Nat))) (cd:w.cell? ⟨d,0,none⟩=some (.int .u32 (c:Nat))) (hn:ds.length<1000) (E:Int) (hE:((∃ i,i<ds.length∧cs i=c)∧E=160)∨((∀ i,i<ds.length→cs i≠c)∧8≤ds.length∧E=150)) :
  Calls Tryz.prog 33 #[.pointer (some ⟨b,0,none⟩),.pointer (some ⟨d,0,none⟩)] w fun e w'=>e=.returned (.int .i64 E)∧w'=w:=by
 have hF:=rfind_any b v1 v2 ds ns lost cs c w h hc (by omega)
 obtain⟨a1,cap1,rfl,_⟩:=own_ptr h.r1
 have c0:w.cell? ⟨b,0,none⟩=some (.slice a1 ds.length cap1):=cell_of_row w b 0 _ _ _ h.blk
 obtain⟨n,en⟩:∃ n,n=ds.length:=⟨_,rfl⟩
 rw[← en]at c0 hF hn hE
 clear h hc en
 rcases hE with ⟨⟨i,hi,hic⟩,rfl⟩ | ⟨hf,h8,rfl⟩
 ·go_enter Tryz.func33,Tryz.ntmps33
  go_wp2_with (go_at_call 74;refine hF.mono ?_;rintro e w' ⟨r,rfl,hr,hw⟩;have hw:=hw.symm;subst hw;have hr':0≤r:=(by rcases hr.out with ⟨_,e⟩ | ⟨j,_,e,_⟩;exact absurd hic (e i hi);omega))
  go_ret
  exact⟨rfl,rfl⟩
 ·have h8':(8:Int) ≤ (n:Int):=by omega
  go_enter Tryz.func33,Tryz.ntmps33
  go_wp2_with (go_at_call 74;refine hF.mono ?_;rintro e w' ⟨r,rfl,hr,hw⟩;have hw:=hw.symm;subst hw;have hr':r = -1:=(by rcases hr.out with ⟨e,_⟩ | ⟨j,hj,_,e,_⟩;exact e;exact absurd e (hf j hj));subst hr')
  go_ret
  exact⟨rfl,rfl⟩
end Go.Proofs.YthbogkaoidbpgaaGreat
namespace Go.Proofs.YthbogkaoidbpgaaGreat
set_option maxRecDepth 100000
open Go.RowKit Go.Maps Go.Sort Go.Shelf
theorem RW.code {w:World} {d m g n mx:Nat} {P:Pm} {U:List Nat} {s:Sd} (h:RW w d m g n mx P U s):w.cell? ⟨d,0,none⟩=some (.int .u32 (P.c:Nat)):=by
 obtain⟨B,x⟩:=h
 exact cell_of_row w d 0 _ _ _ x.dev
open Go.RowKit Go.Maps
set_option maxHeartbeats 1000000 in
theorem mport_no (b:Nat) (a:Option Addr) (len cap:Nat) (bs:Nat→Nat) (w:World) (hr:Row8 w a len cap bs) (hE:DE bs len≠0) :
  Calls Tryz.prog 45 #[.pointer (some ⟨b,0,none⟩),.slice a len cap] w fun e w'=>e=.returned (.tuple #[.agg #[.pointer none,.pointer none],.int .i64 (DE bs len)])∧Below w.heap.size w w':=by
 have hb1:Below w.heap.size w (w.alloc (.cells #[.pointer none,.pointer none] 115)):=(Below.refl _ _).alloc (Nat.le_refl _) _
 have hD:=decode_no a len cap bs _ (hr.below hb1) hE
 have hs1:(w.alloc (.cells #[.pointer none,.pointer none] 115)).heap.size=w.heap.size+1:=by simp
 have hn1:=heap_alloc_new w (.cells #[.pointer none,.pointer none] 115)
 have HB:Hid (_):=And.intro hb1 (And.intro hs1 hn1)
 generalize DE bs len=E at *
 clear hr hb1 hs1 hn1
 go_enter Tryz.func45,Tryz.ntmps45
 go_wp2_with (go_at_call 67;refine hD.mono ?_;rintro e w2 ⟨rfl,b2⟩;have k:=(b2.block w.heap.size (by rw[HB.out.2.1];omega)).trans HB.out.2.2;have k0:=cell_of_row w2 w.heap.size 0 _ _ _ k;have k1:=cell_of_row w2 w.heap.size 1 _ _ _ k;have f0:=frozen_of_row w2 w.heap.size 0 _ _ k;have f1:=frozen_of_row w2 w.heap.size 1 _ _ k;have kl:w.heap.size<w2.heap.size:=(Array.getElem?_eq_some_iff.1 k).1;clear hD)
 have hb2:Below w.heap.size w w2:=HB.out.1.trans (b2.mono (by rw[HB.out.2.1];omega))
 refine bodyPost_ret (v:=.tuple #[.agg #[.pointer none,.pointer none],.int .i64 E]) (by simp[results,Tryz.results45,go_sem,k0,k1,kl]) rfl ⟨rfl,?_⟩
 exact ((hb2.setCell (Nat.le_refl _) _).setCell (Nat.le_refl _) _).alloc (by simp;omega) _
set_option maxHeartbeats 4000000 in
theorem mport_ok (b:Nat) (L:List Prt) (lost:Nat) (V:List Nat) (a:Option Addr) (len cap:Nat) (bs:Nat→Nat) (c:Nat) (w:World) (h:Mxx w b L lost V) (hr:Row8 w a len cap bs) (hE:DE bs len=0) (hc:c=w4v bs 1) (hcl:c<4294967296) (E:Int) (hEE:E=if (fnd L c).isSome then 0 else 44) :
  Calls Tryz.prog 45 #[.pointer (some ⟨b,0,none⟩),.slice a len cap] w fun e w'=>e=.returned (.tuple #[ptq (fndq L c),.int .i64 E])∧Below w.heap.size w w':=by
 obtain⟨l,mb,nn,D,h,hV⟩:=h
 have hb1:Below w.heap.size w (w.alloc (.cells #[.pointer none,.pointer none] 115)):=(Below.refl _ _).alloc (Nat.le_refl _) _
 have hD:=decode_ok a len cap bs _ (hr.below hb1) hE
 rw[← hc]at hD
 have hs1:(w.alloc (.cells #[.pointer none,.pointer none] 115)).heap.size=w.heap.size+1:=by simp
 have hn1:=heap_alloc_new w (.cells #[.pointer none,.pointer none] 115)
 have hbl:=h.lt b (by simp[MXU])
 obtain⟨xa,xb,th,hX,hth⟩:∃ xa xb th,ptq (fndq L c)=.agg #[.pointer xa,.pointer xb]∧(fnd L c).isSome=th:=by
  unfold fndq
  cases fnd L c with
  | none=>exact⟨none,none,false,rfl,rfl⟩
  | some q=>exact⟨_,_,true,rfl,rfl⟩
 have hX0:th=false→xa=none∧xb=none:=fun e=>by
  subst e
  unfold fndq at hX
  cases hq:fnd L c with
  | none=>rw[hq]at hX;simp[ptq]at hX;exact⟨hX.1.symm,hX.2.symm⟩
  | some q=>rw[hq]at hth;cases hth
 have HB:Hid (_):=And.intro hb1 (And.intro hs1 (And.intro hn1 (And.intro h (And.intro hX hth))))
 rw[hX]
 rw[hth]at hEE
 clear hr hb1 hs1 hn1 h hX hth hV hE hc
 generalize bs 0=q0 at hD
 generalize w4v bs 5=q5 at hD
 generalize w4v bs 9=q9 at hD
 generalize bs 13=q13 at hD
 generalize len-19=ln at hD
 go_enter Tryz.func45,Tryz.ntmps45
 go_wp2_with (go_at_call 67;refine hD.mono ?_;rintro e w2 ⟨a2,c2,rfl,h2⟩;have kl:w.heap.size<w2.heap.size:=Nat.lt_of_lt_of_le (by rw[HB.out.2.1];omega) h2.out.2.size;clear hD)
 generalize hW:w2.alloc (.cells #[.int .i64 (q0:Nat),.int .u32 (c:Nat),.int .u32 (q5:Nat),.int .u32 (q9:Nat),.int .i64 (q13:Nat),.slice a2 ln c2] 107)=W
 obtain⟨hb1,hs1,hn1,h,hX,hth⟩:=HB.out
 have b2:=h2.out.2
 have hBW:Below w.heap.size w W:=by rw[← hW];exact (hb1.trans (b2.mono (by rw[hs1];omega))).alloc (by omega) _
 have hsW:W.heap.size=w2.heap.size+1:=by rw[← hW];simp
 have hM:MX W b L lost l mb nn D:=h.off (o:=[]) (Off.of_below hBW) (by simp)
 have e1:=hM.c0
 have hu:W.heap[w2.heap.size]?=some (.cells #[.int .i64 (q0:Nat),.int .u32 (c:Nat),.int .u32 (q5:Nat),.int .u32 (q9:Nat),.int .i64 (q13:Nat),.slice a2 ln c2] 107 (0,0)):=by rw[← hW];exact heap_alloc_new w2 _
 have e2:W.cell? ⟨w2.heap.size,1,none⟩=some (.int .u32 (c:Nat)):=cell_of_row W w2.heap.size 1 _ _ _ hu
 have hN:W.heap[w.heap.size]?=some (.cells #[.pointer none,.pointer none] 115 (0,0)):=by rw[← hW];exact (Below.heap_alloc _ _ _ kl).trans ((b2.block w.heap.size (by rw[hs1];omega)).trans hn1)
 have hk:=(hM.off (Off.drew [] W) (by simp)).look2 c hcl
 have oW:Off [] W (W.alloc (.cells #[.pointer none,.pointer none] 115)).drew:=(Off.alloc [] W _).trans (Off.drew [] _)
 have hk2:=(hM.off oW (by simp)).look2 c hcl
 rw[hX,hth]at hk hk2
 have g1:(W.alloc (.cells #[.pointer none,.pointer none] 115)).drew.cell? ⟨b,0,none⟩=some (.map (some mb)):=(World.cell?_of_block (oW.block b (by omega) (by simp))).trans e1
 have g2:(W.alloc (.cells #[.pointer none,.pointer none] 115)).drew.cell? ⟨w2.heap.size,1,none⟩=some (.int .u32 (c:Nat)):=(World.cell?_of_block (oW.block w2.heap.size (by omega) (by simp))).trans e2
 have HM:Hid (_):=And.intro hBW (And.intro hN hsW)
 clear hW hb1 hs1 hn1 h hX hth b2 hBW hM hu hN oW h2 HB
 have hs:W.drew.heap.size=W.heap.size:=rfl
 go_cut [8,9] (fun x8 x9 wx=>x8=.pointer (some ⟨W.heap.size,0,none⟩)∧x9=.bool th∧Hid (Off [] W wx∧wx.heap[W.heap.size]?=some (.cells #[.pointer xa,.pointer xb] 115 (0,0))))
 case first=>
  go_region_with fail
  all_goals
   go_wp2_with fail
   go_meet
   exact⟨by rw[HM.out.2.2],rfl,(Off.alloc [] W _).trans (Off.drew [] _),heap_alloc_new W _⟩
 case rest=>
  obtain⟨rfl,rfl,H⟩:=hcut
  clear hk hk2 g1 g2 e1 e2 hs
  obtain⟨oc,hn⟩:=H.out
  obtain⟨hBW,hN,hsW⟩:=HM.out
  have hBc:Below w.heap.size w wc:=oc.below hBW (by simp) hBW.size
  have hNc:=(oc.block w.heap.size (by omega) (by simp)).trans hN
  have k0:wc.cell? ⟨w.heap.size,0,none⟩=some (.pointer none):=cell_of_row wc _ 0 _ _ _ hNc
  have k1:wc.cell? ⟨w.heap.size,1,none⟩=some (.pointer none):=cell_of_row wc _ 1 _ _ _ hNc
  have f0:=frozen_of_row wc w.heap.size 0 _ _ hNc
  have f1:=frozen_of_row wc w.heap.size 1 _ _ hNc
  have n0:wc.cell? ⟨W.heap.size,0,none⟩=some (.pointer xa):=cell_of_row wc _ 0 _ _ _ hn
  have n1:wc.cell? ⟨W.heap.size,1,none⟩=some (.pointer xb):=cell_of_row wc _ 1 _ _ _ hn
  have ne:¬ w.heap.size=W.heap.size:=by omega
  have HF:Hid (Below w.heap.size w wc):=hBc
  clear oc hn hBW hN hBc hNc H HM
  clear hsW
  clear hsW
  generalize W.heap.size=M at *
  cases th with
  | false=>
   obtain⟨rfl,rfl⟩:=hX0 rfl
   simp at hEE
   subst hEE
   go_wp2_with fail
   refine bodyPost_ret (v:=.tuple #[.agg #[.pointer none,.pointer none],.int .i64 44]) (by simp[results,Tryz.results45,go_sem,k0,k1]) rfl ⟨rfl,?_⟩
   exact (HF.out.setCell (Nat.le_refl _) _).setCell (Nat.le_refl _) _
  | true=>
   simp at hEE
   subst hEE
   go_wp2_with fail
   refine bodyPost_ret (v:=.tuple #[.agg #[.pointer xa,.pointer xb],.int .i64 0]) (by simp[results,Tryz.results45,go_sem,k0,k1]) rfl ⟨rfl,?_⟩
   exact (HF.out.setCell (Nat.le_refl _) _).setCell (Nat.le_refl _) _
def pfE (L:List Prt) (bs:Nat→Nat) (len:Nat):Int:=if DE bs len≠0 then DE bs len else if (fnd L (w4v bs 1)).isSome then 0 else 44
theorem sat_one (n:Nat) (h:n<1000000):sat n 1=n+1:=by unfold sat;rw[if_neg (by omega)]
theorem MX.lost {b:Nat} {L:List Prt} {lost l mb nn:Nat} {D:DataW Unit} {w:World} (h:MX w b L lost l mb nn D):MX (w.setCell ⟨l,0,none⟩ (.int .u64 ((lost+1:Nat):Int))) b L (lost+1) l mb nn D:=by
 have o:Off [l] w (w.setCell ⟨l,0,none⟩ (.int .u64 ((lost+1:Nat):Int))):=Off.setCell l 0 w _
 have hbl:b≠l:=fun e=>by
  have h1:=h.blk
  rw[e,h.los.at_]at h1
  simp at h1
 exact⟨(o.block b (h.lt b (by simp[MXU])) (by simpa using hbl)).trans h.blk,h.los.s0 _,ownsMap_off h.map o (by simpa using Ne.symm h.ne.2.1),h.nle,h.siz,h.at_,h.has_,h.key,fun p hp=>⟨(h.met p hp).1.off o (by simpa using (h.met p hp).2.1),(h.met p hp).2⟩,h.one⟩
theorem mport_lost (b:Nat) (L:List Prt) (lost:Nat) (V:List Nat) (a:Option Addr) (len cap:Nat) (bs:Nat→Nat) (w:World) (h:Mxx w b L lost V) (hr:Row8 w a len cap bs) (hE:pfE L bs len≠0) :
  Calls Tryz.prog 45 #[.pointer (some ⟨b,0,none⟩),.slice a len cap] w fun e w'=>e=.returned (.tuple #[.agg #[.pointer none,.pointer none],.int .i64 (pfE L bs len)])∧Below w.heap.size w w':=by
 by_cases hD:DE bs len=0
 ·have e1:pfE L bs len=if (fnd L (w4v bs 1)).isSome then 0 else 44:=by unfold pfE;rw[if_neg (by omega)]
  have hn:fnd L (w4v bs 1)=none:=by
   cases hq:fnd L (w4v bs 1) with
   | none=>rfl
   | some q=>rw[hq]at e1;exact absurd e1 hE
  obtain⟨h1,h2,_,_⟩:=DE_zero hD
  have q:=mport_ok b L lost V a len cap bs (w4v bs 1) w h hr hD rfl (w4v_lt fun j hj=>hr.byte _ (by omega)) _ e1
  rw[show ptq (fndq L (w4v bs 1))=.agg #[.pointer none,.pointer none] by unfold fndq;rw[hn];rfl]at q
  exact q
 ·have e1:pfE L bs len=DE bs len:=by unfold pfE;rw[if_pos hD]
  rw[e1]
  exact mport_no b a len cap bs w hr hD
set_option maxHeartbeats 1000000 in
theorem mrecv_lost (b:Nat) (L:List Prt) (lost:Nat) (V:List Nat) (a:Option Addr) (len cap:Nat) (bs:Nat→Nat) (w:World) (h:Mxx w b L lost V) (hr:Row8 w a len cap bs) (hE:pfE L bs len≠0) (hl:lost<1000000) :
  Calls Tryz.prog 12 #[.pointer (some ⟨b,0,none⟩),.slice a len cap] w fun e w'=>e=.returned (.tuple #[.int .u32 0,.slice none 0 0,.int .i64 (pfE L bs len)])∧Hid (Off V w w'∧Mxx w' b L (lost+1) V):=by
 have hP:=mport_lost b L lost V a len cap bs w h hr hE
 obtain⟨l,mb,nn,D,h,hV⟩:=h
 have hq:=mnone_any b mb w h.c0
 have H:Hid (_):=And.intro h hV
 generalize pfE L bs len=E at *
 clear hr hV h
 go_enter Tryz.func12,Tryz.ntmps12
 go_wp2_with (first
  | (go_at_call 39;refine hq.mono ?_;rintro e w' ⟨rfl,hw⟩;have hw:=hw.symm;subst hw)
  | (go_at_call 45;refine hP.mono ?_;rintro e w2 ⟨rfl,b2⟩;have h2:=(H.out.1.off (o:=[]) (Off.of_below b2) (by simp)).off (Off.alloc [] w2 (.cells #[.pointer none,.pointer none] 115)) (by simp);have c1:=h2.c1;have H2:Hid (_):=And.intro b2 h2;have hA:=add_any lost 1 l none none 0 0 _ (by omega) (by omega) h2.los;rw[sat_one lost hl]at hA;clear hP b2 h2)
  | (go_at_call 46;refine hA.mono ?_;rintro e w3 ⟨rfl,hw⟩;have hw:=hw.symm;subst hw))
 refine bodyPost_ret (v:=.tuple #[.int .u32 0,.slice none 0 0,.int .i64 E]) (by simp[results,Tryz.results12,go_sem]) rfl ⟨rfl,?_⟩
 have e3:=H2.out.2.lost
 rw[show ((lost+1:Nat):Int)=(lost:Int)+1 by omega]at e3
 refine⟨((Off.of_below H2.out.1).trans (Off.alloc V w2 _)).trans ((Off.setCell l 0 _ _).more (fun k hk=>by simp at hk;subst hk;rw[H.out.2];simp[MXU])),l,mb,nn,D,e3,H.out.2⟩
def bump (L:List Prt) (c:Nat):List Prt:=L.map fun q=>if q.c=c then { q with n:=q.n+1 } else q
theorem fnd_bump (L:List Prt) (c x:Nat):fnd (bump L c) x=(fnd L x).map fun q=>if q.c=c then { q with n:=q.n+1 } else q:=by
 induction L with
 | nil=>rfl
 | cons q L ih=>
  simp only[bump,List.map_cons,fnd]at ih ⊢
  by_cases e:q.c=c
  ·rw[if_pos e]
   by_cases e2:q.c=x
   ·simp[e2,e2 ▸ e]
   ·simp[e2,ih]
  ·rw[if_neg e]
   by_cases e2:q.c=x
   ·simp[e2,e2 ▸ e]
   ·simp[e2,ih]
theorem fndq_bump (L:List Prt) (c x:Nat):fndq (bump L c) x=fndq L x:=by
 unfold fndq
 rw[fnd_bump]
 cases fnd L x with
 | none=>rfl
 | some q=>simp;split <;> simp
theorem MXU_bump (L:List Prt) (c b l mb:Nat):MXU (bump L c) b l mb=MXU L b l mb:=by
 unfold MXU bump
 simp
 intro q _
 split <;> rfl
theorem MX.bump {b:Nat} {L:List Prt} {lost l mb nn:Nat} {D:DataW Unit} {w:World} (h:MX w b L lost l mb nn D) (p:Prt) (hp:p ∈ L):MX (w.setCell ⟨p.k,0,none⟩ (.int .u64 ((p.n+1:Nat):Int))) b (bump L p.c) lost l mb nn D:=by
 have o:Off [p.k] w (w.setCell ⟨p.k,0,none⟩ (.int .u64 ((p.n+1:Nat):Int))):=Off.setCell p.k 0 w _
 have hbl:b≠p.k:=fun e=>by
  have h1:=h.blk
  rw[e,(h.met p hp).1.at_]at h1
  simp at h1
 have hone:∀ q,q ∈ L→q.c≠p.c→q.k≠p.k:=fun q hq hne=>by
  rcases List.pairwise_iff_getElem.1 h.one with hh
  obtain⟨i,hi,rfl⟩:=List.getElem_of_mem hp
  obtain⟨j,hj,rfl⟩:=List.getElem_of_mem hq
  rcases Nat.lt_trichotomy i j with hij | hij | hij
  ·exact Ne.symm (hh i j hi hj hij).2
  ·subst hij;exact absurd rfl hne
  ·exact (hh j i hj hi hij).2
 have huni:∀ q,q ∈ L→q.c=p.c→q=p:=fun q hq he=>by
  rcases List.pairwise_iff_getElem.1 h.one with hh
  obtain⟨i,hi,rfl⟩:=List.getElem_of_mem hp
  obtain⟨j,hj,rfl⟩:=List.getElem_of_mem hq
  rcases Nat.lt_trichotomy i j with hij | hij | hij
  ·exact absurd he.symm (hh i j hi hj hij).1
  ·subst hij;rfl
  ·exact absurd he (hh j i hj hi hij).1
 refine⟨(o.block b (h.lt b (by simp[MXU])) (by simpa using hbl)).trans h.blk,h.los.off o (by simpa using Ne.symm (h.met p hp).2.1),ownsMap_off h.map o (by simpa using Ne.symm (h.ne.2.2 p hp)),?_,?_,fun c hc=>?_,fun c hc=>?_,fun c hc=>?_,fun q hq=>?_,?_⟩
 ·simpa [Go.Proofs.YthbogkaoidbpgaaGreat.bump] using h.nle
 ·simpa [Go.Proofs.YthbogkaoidbpgaaGreat.bump] using h.siz
 ·rw[fndq_bump];exact h.at_ c hc
 ·rw[fnd_bump];simpa using h.has_ c hc
 ·obtain⟨q,hq,e⟩:=h.key c hc
  exact⟨_,List.mem_map.2 ⟨q,hq,rfl⟩,by split <;> simpa using e⟩
 ·obtain⟨q,hq',rfl⟩:=List.mem_map.1 hq
  by_cases e:q.c=p.c
  ·have e2:=huni q hq' e
   subst e2
   rw[if_pos rfl]
   exact⟨(h.met q hp).1.s0 _,(h.met q hp).2⟩
  ·rw[if_neg e]
   exact⟨(h.met q hq').1.off o (by simpa using hone q hq' e),(h.met q hq').2⟩
 ·unfold Go.Proofs.YthbogkaoidbpgaaGreat.bump
  rw[List.pairwise_map]
  refine h.one.imp fun {x y} hxy=>?_
  split <;> split <;> exact hxy
theorem DV.offM {w w':World} {d m g n mx:Nat} {P:Pm} {U l:List Nat} {s:Sd} (h:DV w d m g n mx P U s) (q:Off l w w') (hl:∀ k,k ∈ U→k ∉ l):DV w' d m g n mx P U s:=by
 obtain⟨B,h⟩:=h
 exact⟨B,⟨(q.block d h.dlt (hl _ h.kd.2)).trans h.dev,h.mem.off q (hl _ h.km.2) (hl _ h.kg.2),fun hs=>⟨(h.cel hs).1,(h.cel hs).2.1.off q (hl _ h.kc.2),(h.cel hs).2.2⟩,h.dog.off q (hl _ h.kb.2),h.val.off q (hl _ h.kv.2) (hl _ h.kw.2) (fun k hk hM=>hl k (h.kM k hM).2 hk),h.log.off q (fun k hk=>hl _ (h.kl k hk).2),own_offk h.app q (fun k hk=>hl _ (h.ka k hk).2),h.apb,fun k hk=>Nat.lt_of_lt_of_le (h.ltU k hk) q.size,h.kd,h.km,h.kg,h.kc,h.kb,h.kv,h.kw,h.kM,h.kl,h.ka,h.pok,h.n10,h.mx0,h.mxl⟩⟩
theorem mrecv_end {w w2 W w4:World} {d m g n mx:Nat} {P:Pm} {U:List Nat} {s:Sd} {f:Fm} {v p q:Value} (hU:∀ k,k ∈ U→k<w.heap.size) (b2:Below w.heap.size w w2) (hn:W.heap[w2.heap.size]?=some (.cells #[p,q] 115 (0,0))) (h:Out U W w4 d m g n mx P s f v) :
  w4.cell? ⟨d,0,none⟩=some (.int .u32 (P.c:Nat))∧w4.cell? ⟨w2.heap.size,0,none⟩=some p:=by
 obtain⟨U',G,⟨B,x⟩,_,_⟩:=h
 refine⟨x.cells.1,?_⟩
 have:=b2.size
 have hl:w2.heap.size<W.heap.size:=(Array.getElem?_eq_some_iff.1 hn).1
 exact cell_of_row w4 _ 0 _ _ _ ((G.off.block w2.heap.size hl (fun hm=>by have:=hU _ hm;omega)).trans hn)
set_option maxHeartbeats 2000000 in
theorem mrecv_any (b:Nat) (L:List Prt) (lost:Nat) (V:List Nat) (p:Prt) (m g n mx:Nat) (P:Pm) (U:List Nat) (s:Sd) (a:Option Addr) (len cap:Nat) (bs:Nat→Nat) (w:World) (h:Mxx w b L lost V) (hD:DV w p.d m g n mx P U s) (hUV:∀ k,k ∈ U→k ∉ V) (hr:Row8 w a len cap bs) (hE:DE bs len=0) (hf:fnd L (w4v bs 1)=some p) (hP:P.c=p.c) (hpn:p.n<1000000) (hsn:s.st=4→s.sn+1<4294967296) (ho:s.od<4) (hL:s.L.length<800000) (ht:s.ms.t<9223372036854774000) (hra:∀ x,a=some x→x.block ∉ V) :
  Calls Tryz.prog 12 #[.pointer (some ⟨b,0,none⟩),.slice a len cap] w fun e w'=>∃ v,e=.returned (.tuple #[.int .u32 (p.c:Nat),v,.int .i64 (drecv P mx n s len bs).e])∧Hid (∃ w1,Off V w w1∧DV w1 p.d m g n mx P U s∧Out U w1 w' p.d m g n mx P (drecv P mx n s len bs).s (drecv P mx n s len bs).f v∧Mxx w' b (bump L p.c) lost V∧Mxx w1 b (bump L p.c) lost V):=by
 obtain⟨h1,h2,_,_⟩:=DE_zero hE
 have hQ:=mport_ok b L lost V a len cap bs (w4v bs 1) w h hr hE rfl (w4v_lt fun j hj=>hr.byte _ (by omega)) 0 (by rw[hf];rfl)
 rw[show ptq (fndq L (w4v bs 1))=.agg #[.pointer (some ⟨p.d,0,none⟩),.pointer (some ⟨p.k,0,none⟩)] by unfold fndq;rw[hf];rfl]at hQ
 obtain⟨l,mb,nn,D,h,hV⟩:=h
 have hpL:=(fnd_mem hf).1
 have hq:=mnone_any b mb w h.c0
 have hpV:p.k ∈ V:=by rw[hV];simp[MXU];exact .inr (.inr (.inr ⟨p,hpL,rfl⟩))
 have oV:∀ w2,Below w.heap.size w w2→Off V w ((w2.alloc (.cells #[.pointer (some ⟨p.d,0,none⟩),.pointer (some ⟨p.k,0,none⟩)] 115)).setCell ⟨p.k,0,none⟩ (.int .u64 ((p.n+1:Nat):Int))):=fun w2 b2=>((Off.of_below b2).trans (Off.alloc V w2 _)).trans ((Off.setCell p.k 0 _ _).more (fun k hk=>by simp at hk;subst hk;exact hpV))
 have hT:∀ w2,Below w.heap.size w w2→∃ W,W=(w2.alloc (.cells #[.pointer (some ⟨p.d,0,none⟩),.pointer (some ⟨p.k,0,none⟩)] 115)).setCell ⟨p.k,0,none⟩ (.int .u64 ((p.n+1:Nat):Int))∧Off V w W∧DV W p.d m g n mx P U s∧MX W b (bump L p.c) lost l mb nn D∧Row8 W a len cap bs∧W.heap[w2.heap.size]?=some (.cells #[.pointer (some ⟨p.d,0,none⟩),.pointer (some ⟨p.k,0,none⟩)] 115 (0,0)):=by
  intro w2 b2
  refine⟨_,rfl,?_,?_,?_,?_,?_⟩
  ·exact oV w2 b2
  ·exact hD.offM (oV w2 b2) hUV
  ·exact ((h.off (o:=[]) (Off.of_below b2) (by simp)).off (Off.alloc [] w2 _) (by simp)).bump p hpL
  ·exact hr.off (oV w2 b2) hra
  ·have hpl:=h.lt p.k (hV ▸ hpV)
   have:=b2.size
   exact ((Off.setCell p.k 0 (w2.alloc (.cells #[.pointer (some ⟨p.d,0,none⟩),.pointer (some ⟨p.k,0,none⟩)] 115)) (.int .u64 ((p.n+1:Nat):Int))).block w2.heap.size (by simp) (by simp;omega)).trans (heap_alloc_new w2 _)
 have hC0:=fun w2 b2=>(h.off (o:=[]) (Off.of_below (w':=w2) b2) (by simp)).off (Off.alloc [] w2 (.cells #[.pointer (some ⟨p.d,0,none⟩),.pointer (some ⟨p.k,0,none⟩)] 115)) (by simp)
 have hUl:∀ k,k ∈ U→k<w.heap.size:=fun k hk=>hD.ult k hk
 have hVl:∀ k,k ∈ V→k<w.heap.size:=fun k hk=>h.lt k (hV ▸ hk)
 have H:Hid (_):=And.intro hT (And.intro hC0 (And.intro hpL (And.intro hV (And.intro hUV (And.intro hP (And.intro hsn (And.intro ho (And.intro hL (And.intro ht (And.intro hUl hVl))))))))))
 clear hT hC0 hV hUV hP hsn ho hL ht h hr hra hD hE hf oV h1 h2 hpV hUl hVl hpL
 go_enter Tryz.func12,Tryz.ntmps12
 go_upto_region 3 with (go_at_call 39;refine hq.mono ?_;rintro e w' ⟨rfl,hw⟩;have hw:=hw.symm;subst hw)
 go_wp2_with (first
  | (go_at_call 45;refine hQ.mono ?_;rintro e w2 ⟨rfl,b2⟩;have hM2:=H.out.2.1 w2 b2;have hA:=add_any p.n 1 p.k none none 0 0 _ (by omega) (by omega) (hM2.met p H.out.2.2.1).1;rw[sat_one p.n hpn]at hA;obtain⟨W,hW,hX⟩:=H.out.1 w2 b2;rw[← hW]at hA;have HX:Hid (_):=And.intro b2 hX;have q0:W.cell? ⟨w2.heap.size,0,none⟩=some (.pointer (some ⟨p.d,0,none⟩)):=cell_of_row W _ 0 _ _ _ hX.2.2.2.2;have hR:=receive4_any p.d m g n mx P U s a len cap bs W hX.2.1 hX.2.2.2.1 H.out.2.2.2.2.2.2.1 H.out.2.2.2.2.2.2.2.1 H.out.2.2.2.2.2.2.2.2.1 H.out.2.2.2.2.2.2.2.2.2.1;clear hM2 hX hW hQ hq b2)
  | (go_at_call 46;refine hA.mono ?_;rintro e w3 ⟨rfl,hw⟩;have hw:=hw.symm;subst hw;clear hA)
  | (go_at_call 13;refine hR.mono ?_;rintro e w4 ⟨v,rfl,h4⟩;obtain⟨cd,q1⟩:=mrecv_end H.out.2.2.2.2.2.2.2.2.2.2.1 HX.out.1 HX.out.2.2.2.2.2 h4.out;have hC:=mcode_any p.d P.c w4 cd;clear cd hR)
  | (go_at_call 47;refine hC.mono ?_;rintro e w5 ⟨rfl,hw⟩;have hw:=hw.symm;subst hw;clear hC))
 refine bodyPost_ret (v:=.tuple #[.int .u32 (P.c:Nat),v,.int .i64 (drecv P mx n s len bs).e]) (by simp[results,Tryz.results12,go_sem]) rfl ?_
 obtain⟨b2,o1,D1,M1,r1,n1⟩:=HX.out
 refine⟨v,by rw[H.out.2.2.2.2.2.1],W,o1,D1,h4.out,?_⟩
 obtain⟨U',G,_⟩:=h4.out
 refine⟨⟨l,mb,nn,D,M1.off G.off (fun k hk hm=>?_),by rw[MXU_bump];exact H.out.2.2.2.1⟩,⟨l,mb,nn,D,M1,by rw[MXU_bump];exact H.out.2.2.2.1⟩⟩
 rw[MXU_bump,← H.out.2.2.2.1]at hk
 exact H.out.2.2.2.2.1 k hm hk
open Go.RowKit
def dvT (x:Dr) (U:List Nat):Thing:=⟨U,fun w=>DV w x.d x.m x.g x.n x.mx x.P U x.s,fun _ _ _ h o hl=>DV.off h o hl⟩
def rwT (x:Dr) (U:List Nat):Thing:=⟨U,fun w=>RW w x.d x.m x.g x.n x.mx x.P U x.s,fun _ _ _ h o hl=>RW.off h o hl⟩
theorem Mxx.off {w w':World} {b:Nat} {L:List Prt} {lost:Nat} {V l:List Nat} (h:Mxx w b L lost V) (o:Off l w w') (hl:∀ k,k ∈ V→k ∉ l):Mxx w' b L lost V:=by
 obtain⟨l,mb,nn,D,h,e⟩:=h
 subst e
 exact⟨l,mb,nn,D,h.off o hl,rfl⟩
theorem Mxx.lt {w:World} {b:Nat} {L:List Prt} {lost:Nat} {V:List Nat} (h:Mxx w b L lost V):∀ k,k ∈ V→k<w.heap.size:=by
 obtain⟨l,mb,nn,D,h,e⟩:=h
 subst e
 exact h.lt
def mxT (b:Nat) (L:List Prt) (lost:Nat) (V:List Nat):Thing:=⟨V,fun w=>Mxx w b L lost V,fun _ _ _ h o hl=>h.off o hl⟩
def r8T (a:Option Addr) (len cap:Nat) (bs:Nat→Nat):Thing:=⟨a.toList.map (·.block),fun w=>Row8 w a len cap bs,fun _ _ _ h o hl=>h.off o (fun x hx=>hl _ (by rw[hx];simp))⟩
section
variable {w0 w w':World} {t:Nat→Thing} {i:Nat}
theorem Al.dv (h:Al w0 w t) {x:Dr} {U:List Nat} (e:t i=dvT x U):DV w x.d x.m x.g x.n x.mx x.P U x.s:=h.get e
theorem Al.rw (h:Al w0 w t) {x:Dr} {U:List Nat} (e:t i=rwT x U):RW w x.d x.m x.g x.n x.mx x.P U x.s:=h.get e
theorem Al.mx (h:Al w0 w t) {b:Nat} {L:List Prt} {lost:Nat} {V:List Nat} (e:t i=mxT b L lost V):Mxx w b L lost V:=h.get e
theorem Al.stepD (h:Al w0 w t) {x:Dr} {U U':List Nat} (e:t i=dvT x U) (g:Gr U w U' w') {s':Sd} (hx:DV w' x.d x.m x.g x.n x.mx x.P U' s'):Al w0 w' (putT t i (dvT { x with s:=s' } U')):=
 h.step i (dvT { x with s:=s' } U') (by rw[e];rfl) g hx (fun k hk=>hx.ult k hk)
theorem Al.stepR (h:Al w0 w t) {x:Dr} {U U':List Nat} (e:t i=rwT x U) (g:Gr U w U' w') {s':Sd} (hx:RW w' x.d x.m x.g x.n x.mx x.P U' s'):Al w0 w' (putT t i (rwT { x with s:=s' } U')):=
 h.step i (rwT { x with s:=s' } U') (by rw[e];rfl) g hx (fun k hk=>hx.ult k hk)
theorem Al.apart (h:Al w0 w t) {j:Nat} (hij:i≠j) {x y:Thing} (ei:t i=x) (ej:t j=y):∀ k,k ∈ x.U→k ∉ y.U:=by
 subst ei;subst ej
 exact h.dis i j hij
end
def Pl.dr (L:Pl) (s:Sd):Dr:=⟨L.d,L.m,L.g,L.n,L.mx,L.P,s⟩
def Pl.rr (L:Pl) (s:Sd):Dr:=⟨L.e,L.r,L.q,L.n,L.mx,L.P,s⟩
theorem Al.two {w0 w w':World} {t:Nat→Thing} (h:Al w0 w t) {L:Pl} {s:Sd} (T:Two w w' L s) (i j:Nat):∃ U V,Al w0 w' (putT (putT t i (dvT (L.dr s) U)) j (rwT (L.rr s) V)):=by
 obtain⟨U,V,T⟩:=T
 have h1:=h.below T.bel
 have sz:=T.bel.size
 have s0:=h.size
 have hn:∀ k,w.heap.size≤k→∀ j,k ∉ (t j).U:=fun k hk j hm=>by have:=(h.lt j k hm).2;omega
 have h2:Al w0 w' (putT t i (dvT (L.dr s) U)):=h1.turn i _ (Off.refl _ _) T.dv (fun k hk=>⟨by have:=(T.uv k hk).1;omega,T.dv.ult k hk⟩) (fun k hk j _=>hn k (T.uv k hk).1 j)
 refine⟨U,V,h2.turn j _ (Off.refl _ _) T.rw (fun k hk=>⟨by have:=T.vb k hk;omega,T.rw.ult k hk⟩) (fun k hk q _ hm=>?_)⟩
 by_cases e:q=i
 ·subst e
  rw[putT_same]at hm
  exact (T.uv k hm).2 hk
 ·rw[putT_ne _ _ e]at hm
  exact hn k (T.vb k hk) q hm
end Go.Proofs.YthbogkaoidbpgaaGreat
namespace Go.Proofs.YthbogkaoidbpgaaGreat
set_option maxRecDepth 100000
open Go.RowKit Go.Maps Go.Sort Go.Shelf
structure WD (w:World) (x b r:Nat) (va vm vr:Value) (ds ms rs:List Nat):Prop where
 blk:w.heap[x]?=some (.cells #[ptV b,ptV r,va,vm,vr] 34 (0,0))
 ra:w.ownsRow 0 35 1 va ds.length (ds.map ptV)
 rm:w.ownsRow 0 36 1 vm ms.length (ms.map ptV)
 rr:w.ownsRow 0 37 1 vr rs.length (rs.map ptV)
def WDU (x:Nat) (va vm vr:Value):List Nat:=x :: (va.ownBlock.toList ++ (vm.ownBlock.toList ++ vr.ownBlock.toList))
section
variable {w w':World} {x b r:Nat} {va vm vr:Value} {ds ms rs:List Nat}
theorem WD.lt (h:WD w x b r va vm vr ds ms rs):∀ k,k ∈ WDU x va vm vr→k<w.heap.size:=by
 intro k hk
 simp[WDU]at hk
 rcases hk with rfl | hk | hk | hk
 ·exact (Array.getElem?_eq_some_iff.1 h.blk).1
 ·obtain⟨c,hc⟩:=own_blkM h.ra hk
  exact (Array.getElem?_eq_some_iff.1 hc).1
 ·obtain⟨c,hc⟩:=own_blkM h.rm hk
  exact (Array.getElem?_eq_some_iff.1 hc).1
 ·obtain⟨c,hc⟩:=own_blkM h.rr hk
  exact (Array.getElem?_eq_some_iff.1 hc).1
theorem WD.off {l:List Nat} (h:WD w x b r va vm vr ds ms rs) (o:Off l w w') (hl:∀ k,k ∈ WDU x va vm vr→k ∉ l):WD w' x b r va vm vr ds ms rs:=
 ⟨(o.block x (h.lt x (by simp[WDU])) (hl x (by simp[WDU]))).trans h.blk,own_offM h.ra o (fun k hk=>hl k (by simp[WDU,hk])),own_offM h.rm o (fun k hk=>hl k (by simp[WDU,hk])),own_offM h.rr o (fun k hk=>hl k (by simp[WDU,hk]))⟩
end
def wdT (x b r:Nat) (va vm vr:Value) (ds ms rs:List Nat):Thing:=⟨WDU x va vm vr,fun w=>WD w x b r va vm vr ds ms rs,fun _ _ _ h o hl=>h.off o hl⟩
theorem own_keepM {w w1:World} {ob:Obj} {row:Option Nat} {B e size n x i:Nat} {v y:Value} {xs:List Value} (h:w.ownsRow B e size v n xs) (g:(w.alloc ob).grownBy w1 row) (h1:∀ k,v.ownBlock=some k→row≠some k) (h2:v.ownBlock≠some x):(w1.setCell ⟨x,i,none⟩ y).ownsRow B e size v n xs:=by
 refine own_offM (own_offM (own_offM h (Off.alloc [] w ob) (by simp)) (Off.grownO g) (fun k hk hm=>?_)) (Off.setCell x i w1 y) (fun k hk hm=>?_)
 ·simp at hm
  exact h1 k hk hm
 ·simp at hm
  subst hm
  exact h2 hk
section
variable {w w1:World} {x b r:Nat} {va vm vr v':Value} {ds ms rs:List Nat} {ob:Obj}
theorem WD.app_a (h:WD w x b r va vm vr ds ms rs) (d:Nat) (o1:w1.ownsRow 0 35 1 v' (ds.length+1) (ds.map ptV ++ [ptV d])) (g1:(w.alloc ob).grownBy w1 va.ownBlock) (hb:v'.ownBlock=va.ownBlock∨v'.ownBlock=some (w.heap.size+1)) :
  w1.heap[x]?=some (.cells #[ptV b,ptV r,va,vm,vr] 34 (0,0))∧WD (w1.setCell ⟨x,2,none⟩ v') x b r v' vm vr (ds ++ [d]) ms rs∧Gr (WDU x va vm vr) w (WDU x v' vm vr) (w1.setCell ⟨x,2,none⟩ v'):=by
 have hxl:=h.lt x (by simp[WDU])
 have nx:va.ownBlock≠some x:=fun e=>by
  obtain⟨c,hc⟩:=own_blkM h.ra e
  exact tdiffM h.blk hc (by decide) rfl
 have e1:w1.heap[x]?=some (.cells #[ptV b,ptV r,va,vm,vr] 34 (0,0)):=grown_blk g1 ((old_allocU hxl).trans h.blk) nx
 have oA:Off (WDU x va vm vr) w w1:=((Off.alloc _ w ob).trans ((Off.grownO g1).more (fun k hk=>by simp at hk;simp[WDU,hk])))
 have oB:Off (WDU x va vm vr) w (w1.setCell ⟨x,2,none⟩ v'):=oA.trans ((Off.setCell x 2 w1 v').more (fun k hk=>by simp at hk;simp[WDU,hk]))
 refine⟨e1,⟨?_,?_,?_,?_⟩,oB,fun k hk=>?_⟩
 ·exact heap_setCell_same _ _ _ _ _ _ e1
 ·rw[List.length_append,List.map_append]
  refine own_offM o1 (Off.setCell x 2 w1 v') (fun k hk hm=>?_)
  simp at hm
  subst hm
  rcases hb with hb | hb
  ·exact nx (hb ▸ hk)
  ·rw[hb]at hk
   simp at hk
   omega
 ·exact own_keepM h.rm g1 (fun k hk e=>by
   obtain⟨c,hc⟩:=own_blkM h.ra e
   obtain⟨c',hc'⟩:=own_blkM h.rm hk
   exact tdiffM hc hc' (by decide) rfl) (fun e=>by
   obtain⟨c,hc⟩:=own_blkM h.rm e
   exact tdiffM h.blk hc (by decide) rfl)
 ·exact own_keepM h.rr g1 (fun k hk e=>by
   obtain⟨c,hc⟩:=own_blkM h.ra e
   obtain⟨c',hc'⟩:=own_blkM h.rr hk
   exact tdiffM hc hc' (by decide) rfl) (fun e=>by
   obtain⟨c,hc⟩:=own_blkM h.rr e
   exact tdiffM h.blk hc (by decide) rfl)
 ·simp[WDU]at hk
  rcases hk with rfl | hk | hk | hk
  ·exact .inl (by simp[WDU])
  ·rcases hb with hb | hb
   ·exact .inl (by simp[WDU,← hb,hk])
   ·rw[hb]at hk
    simp at hk
    exact .inr (by omega)
  ·exact .inl (by simp[WDU,hk])
  ·exact .inl (by simp[WDU,hk])
theorem WD.app_m (h:WD w x b r va vm vr ds ms rs) (d:Nat) (o1:w1.ownsRow 0 36 1 v' (ms.length+1) (ms.map ptV ++ [ptV d])) (g1:(w.alloc ob).grownBy w1 vm.ownBlock) (hb:v'.ownBlock=vm.ownBlock∨v'.ownBlock=some (w.heap.size+1)) :
  w1.heap[x]?=some (.cells #[ptV b,ptV r,va,vm,vr] 34 (0,0))∧WD (w1.setCell ⟨x,3,none⟩ v') x b r va v' vr ds (ms ++ [d]) rs∧Gr (WDU x va vm vr) w (WDU x va v' vr) (w1.setCell ⟨x,3,none⟩ v'):=by
 have hxl:=h.lt x (by simp[WDU])
 have nx:vm.ownBlock≠some x:=fun e=>by
  obtain⟨c,hc⟩:=own_blkM h.rm e
  exact tdiffM h.blk hc (by decide) rfl
 have e1:w1.heap[x]?=some (.cells #[ptV b,ptV r,va,vm,vr] 34 (0,0)):=grown_blk g1 ((old_allocU hxl).trans h.blk) nx
 have oA:Off (WDU x va vm vr) w w1:=((Off.alloc _ w ob).trans ((Off.grownO g1).more (fun k hk=>by simp at hk;simp[WDU,hk])))
 have oB:Off (WDU x va vm vr) w (w1.setCell ⟨x,3,none⟩ v'):=oA.trans ((Off.setCell x 3 w1 v').more (fun k hk=>by simp at hk;simp[WDU,hk]))
 refine⟨e1,⟨?_,?_,?_,?_⟩,oB,fun k hk=>?_⟩
 ·exact heap_setCell_same _ _ _ _ _ _ e1
 ·exact own_keepM h.ra g1 (fun k hk e=>by
   obtain⟨c,hc⟩:=own_blkM h.rm e
   obtain⟨c',hc'⟩:=own_blkM h.ra hk
   exact tdiffM hc hc' (by decide) rfl) (fun e=>by
   obtain⟨c,hc⟩:=own_blkM h.ra e
   exact tdiffM h.blk hc (by decide) rfl)
 ·rw[List.length_append,List.map_append]
  refine own_offM o1 (Off.setCell x 3 w1 v') (fun k hk hm=>?_)
  simp at hm
  subst hm
  rcases hb with hb | hb
  ·exact nx (hb ▸ hk)
  ·rw[hb]at hk
   simp at hk
   omega
 ·exact own_keepM h.rr g1 (fun k hk e=>by
   obtain⟨c,hc⟩:=own_blkM h.rm e
   obtain⟨c',hc'⟩:=own_blkM h.rr hk
   exact tdiffM hc hc' (by decide) rfl) (fun e=>by
   obtain⟨c,hc⟩:=own_blkM h.rr e
   exact tdiffM h.blk hc (by decide) rfl)
 ·simp[WDU]at hk
  rcases hk with rfl | hk | hk | hk
  ·exact .inl (by simp[WDU])
  ·exact .inl (by simp[WDU,hk])
  ·rcases hb with hb | hb
   ·exact .inl (by simp[WDU,← hb,hk])
   ·rw[hb]at hk
    simp at hk
    exact .inr (by omega)
  ·exact .inl (by simp[WDU,hk])
theorem WD.app_r (h:WD w x b r va vm vr ds ms rs) (d:Nat) (o1:w1.ownsRow 0 37 1 v' (rs.length+1) (rs.map ptV ++ [ptV d])) (g1:(w.alloc ob).grownBy w1 vr.ownBlock) (hb:v'.ownBlock=vr.ownBlock∨v'.ownBlock=some (w.heap.size+1)) :
  w1.heap[x]?=some (.cells #[ptV b,ptV r,va,vm,vr] 34 (0,0))∧WD (w1.setCell ⟨x,4,none⟩ v') x b r va vm v' ds ms (rs ++ [d])∧Gr (WDU x va vm vr) w (WDU x va vm v') (w1.setCell ⟨x,4,none⟩ v'):=by
 have hxl:=h.lt x (by simp[WDU])
 have nx:vr.ownBlock≠some x:=fun e=>by
  obtain⟨c,hc⟩:=own_blkM h.rr e
  exact tdiffM h.blk hc (by decide) rfl
 have e1:w1.heap[x]?=some (.cells #[ptV b,ptV r,va,vm,vr] 34 (0,0)):=grown_blk g1 ((old_allocU hxl).trans h.blk) nx
 have oA:Off (WDU x va vm vr) w w1:=((Off.alloc _ w ob).trans ((Off.grownO g1).more (fun k hk=>by simp at hk;simp[WDU,hk])))
 have oB:Off (WDU x va vm vr) w (w1.setCell ⟨x,4,none⟩ v'):=oA.trans ((Off.setCell x 4 w1 v').more (fun k hk=>by simp at hk;simp[WDU,hk]))
 refine⟨e1,⟨?_,?_,?_,?_⟩,oB,fun k hk=>?_⟩
 ·exact heap_setCell_same _ _ _ _ _ _ e1
 ·exact own_keepM h.ra g1 (fun k hk e=>by
   obtain⟨c,hc⟩:=own_blkM h.rr e
   obtain⟨c',hc'⟩:=own_blkM h.ra hk
   exact tdiffM hc hc' (by decide) rfl) (fun e=>by
   obtain⟨c,hc⟩:=own_blkM h.ra e
   exact tdiffM h.blk hc (by decide) rfl)
 ·exact own_keepM h.rm g1 (fun k hk e=>by
   obtain⟨c,hc⟩:=own_blkM h.rr e
   obtain⟨c',hc'⟩:=own_blkM h.rm hk
   exact tdiffM hc hc' (by decide) rfl) (fun e=>by
   obtain⟨c,hc⟩:=own_blkM h.rm e
   exact tdiffM h.blk hc (by decide) rfl)
 ·rw[List.length_append,List.map_append]
  refine own_offM o1 (Off.setCell x 4 w1 v') (fun k hk hm=>?_)
  simp at hm
  subst hm
  rcases hb with hb | hb
  ·exact nx (hb ▸ hk)
  ·rw[hb]at hk
   simp at hk
   omega
 ·simp[WDU]at hk
  rcases hk with rfl | hk | hk | hk
  ·exact .inl (by simp[WDU])
  ·exact .inl (by simp[WDU,hk])
  ·exact .inl (by simp[WDU,hk])
  ·rcases hb with hb | hb
   ·exact .inl (by simp[WDU,← hb,hk])
   ·rw[hb]at hk
    simp at hk
    exact .inr (by omega)
end
structure Ent where
 L:Pl
 s:Sd
 n:Nat
 k:Nat
def prts (E:List Ent):List Prt:=E.map fun e=>⟨e.L.P.c,e.L.d,e.k,e.n⟩
structure Wo (w0 w:World) (x b r:Nat) (E:List Ent) (lost:Nat) (t:Nat→Thing):Prop where
 al:Al w0 w t
 mx:∃ V,t 0=mxT b (prts E) lost V
 rm:∃ v1 v2,t 1=rmT r v1 v2 (E.map (·.L.e)) (E.map (·.n)) lost
 wd:∃ va vm vr,t 2=wdT x b r va vm vr (E.map (·.L.d)) (E.map (·.L.m)) (E.map (·.L.e))
 dv:∀ j (hj:j<E.length),∃ U,t (10+2*j)=dvT ((E[j]).L.dr (E[j]).s) U
 rw:∀ j (hj:j<E.length),∃ U,t (11+2*j)=rwT ((E[j]).L.rr (E[j]).s) U
 le:E.length≤8
 pc:∀ e,e ∈ E→e.L.n=16∧e.L.mx=99∧e.L.P.c≠0∧e.L.P.c<4294967296∧e.L.P=Pc e.L.P.c
section
variable {w0 w w':World} {x b r lost:Nat} {E:List Ent} {t:Nat→Thing}
theorem prts_len (E:List Ent):(prts E).length=E.length:=by simp[prts]
theorem prts_get (E:List Ent) (j:Nat) (hj:j < (prts E).length):(prts E)[j]=⟨(E[j]'(by simpa [prts] using hj)).L.P.c,(E[j]'(by simpa [prts] using hj)).L.d,(E[j]'(by simpa [prts] using hj)).k,(E[j]'(by simpa [prts] using hj)).n⟩:=by simp[prts]
theorem Wo.below (h:Wo w0 w x b r E lost t) (q:Below w.heap.size w w'):Wo w0 w' x b r E lost t:=⟨h.al.below q,h.mx,h.rm,h.wd,h.dv,h.rw,h.le,h.pc⟩
def cdE (E:List Ent) (i:Nat):Nat:=match E[i]? with | some e=>e.L.P.c | none=>0
theorem cdE_get (E:List Ent) (i:Nat) (hi:i<E.length):cdE E i=(E[i]).L.P.c:=by unfold cdE;rw[List.getElem?_eq_getElem hi]
theorem Wo.codes (h:Wo w0 w x b r E lost t):∀ i (hi:i < (E.map (·.L.e)).length),w.cell? ⟨(E.map (·.L.e))[i],0,none⟩=some (.int .u32 (cdE E i:Nat)):=by
 intro i hi
 have hi':i<E.length:=by simpa using hi
 obtain⟨U,e⟩:=h.rw i hi'
 have:=(h.al.rw e).code
 rw[cdE_get E i hi']
 simpa [Pl.rr] using this
end
end Go.Proofs.YthbogkaoidbpgaaGreat
