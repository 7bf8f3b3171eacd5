/- Part 9 of the texts on which the proofs of layer 13 rest: contracts of Go functions. -/
import Derived.Deep.RegionHeld3
import Derived.Sort.WalkA
import Derived.Deep.RegionLaw
import Derived.Maps.AppendAt
import Derived.Test.YthbogkaoidbpgaaGreatPkB00
import Derived.Test.YthbogkaoidbpgaaGreatPkB07
namespace Go.Proofs.YthbogkaoidbpgaaGreat
set_option maxRecDepth 100000
open Go.RowKit Go.Maps
theorem info_rec:(Tryz.prog.info? 212).map (fun i=>(i.zero,i.size,i.bytes))=some (some (.agg #[.int .i64 0,.int .i64 0,.int .u32 0,.int .u32 0]),4,24):=by kernel_rfl
theorem rv_one (x:R4):∀ u ∈ rv x,u.oneCell'=true:=by intro u hu;simp[rv]at hu;rcases hu with rfl | rfl | rfl | rfl <;> rfl
theorem belowAR {B:Nat} {w0 w:World} (h:Below B w0 w) (hs:B≤w0.heap.size) (o:Obj):Below B w0 (w.alloc o):=h.alloc (Nat.le_trans hs h.size) o
theorem below_drewNR {B:Nat} {w0 w:World} (h:Below B w0 w) (n:Nat):Below B w0 (w.drewN n):=⟨h.os,h.tape,h.output,h.size,h.block⟩
theorem own_some {w:World} {B e size n:Nat} {v:Value} {xs:List Value} (h:w.ownsRow B e size v (n+1) xs):∃ g cap,v=.slice (some ⟨g,0,none⟩) (n+1) cap∧B≤g∧g<w.heap.size:=by
 rcases h.2 with ⟨_,hn⟩ | ⟨g,cap,cur,rfl,hg,hgg,rest⟩
 ·omega
 ·exact⟨g,cap,rfl,hg,(Array.getElem?_eq_some_iff.1 hgg).1⟩
theorem cells_rv {w:World} {g:Nat} {x:R4} (hg:w.heap[g]?=some (.cells #[.int .i64 x.1,.int .i64 x.2.1,.int .u32 x.2.2.1,.int .u32 x.2.2.2] 212 (0,0))):∀ j u,(rv x)[j]?=some u→w.cell? ((⟨g,0,none⟩:Addr).add j)=some u:=by
 obtain⟨c0,c1,c2,c3,_⟩:=cells4 hg
 intro j u hu
 have hj:j<4:=by
  by_cases hj:j<4
  ·exact hj
  ·rw[List.getElem?_eq_none (by rw[rv_len];omega)]at hu;cases hu
 have c:j=0∨j=1∨j=2∨j=3:=by omega
 rcases c with rfl | rfl | rfl | rfl
 ·simp[rv]at hu;subst hu;simpa [Addr.add] using c0
 ·simp[rv]at hu;subst hu;simpa [Addr.add] using c1
 ·simp[rv]at hu;subst hu;simpa [Addr.add] using c2
 ·simp[rv]at hu;subst hu;simpa [Addr.add] using c3
theorem step_appT {ops:Array Oper} {o:Oper} {a:Act} {w:World} {K:Act→World→Prop} {Q:Exit→Act→World→Prop} {E:Prop}
  (hg:o.guard=none) (s x:Operand) (hop:o.op=Op.call { callee:=Callee.builtin Builtin.append,args:=#[s,x],argTypes:=#[45,45] }) (hty:o.type=45)
  (B n g:Nat) (L:List R4) (xr:R4) (v:Value) (hs:a.eval s=v) (hown:w.ownsRow B 212 4 v n (rvs L)) (hx:a.eval x=.slice (some ⟨g,0,none⟩) 1 1)
  (hgc:w.heap[g]?=some (.cells #[.int .i64 xr.1,.int .i64 xr.2.1,.int .u32 xr.2.2.1,.int .u32 xr.2.2.2] 212 (0,0))) (hn:n<1000000) (hB:B≤w.heap.size)
  (hK:∀ g' cap' w',Hid (w'.ownsRow B 212 4 (.slice (some ⟨g',0,none⟩) (n+1) cap') (n+1) (rvs (L ++ [xr]))∧w.grownBy w' v.ownBlock∧(v.ownBlock=some g'∨g'=w.heap.size))→K (a.put o.dst (.slice (some ⟨g',0,none⟩) (n+1) cap')) w') :
  if Region.wanted o (yielded ops a.tmps)=true then Oper.wp Tryz.prog o a w K Q else E:=by
 have hw:Region.wanted o (yielded ops a.tmps)=true:=by simp[Region.wanted,hg]
 rw[if_pos hw]
 obtain⟨i,hi,h0,h1,h2⟩:=info_parts info_rec
 obtain⟨v',w',hrun,h3,h4,_,h5⟩:=run_append_own_at w B 45 45 212 i _ 4 24 Tryz.underlying45 hi h0 h1 h2 rfl (by decide) v n (rvs L) hown ⟨g,0,none⟩ 1 1 (rv xr) rfl (cells_rv hgc) (rv_one xr) (by unfold maxLen;omega) (by omega) hB
 obtain⟨g',cap',rfl,_,_⟩:=own_some h3
 unfold Oper.wp execOp
 simp only[hop,hty,resolve,invoke,builtin,Sem.run_bind,Sem.run_pure,Result.andThen_ok,List.map_toArray,List.map_cons,List.map_nil,hs,hx,hrun]
 refine hK g' cap' w' ⟨?_,h4,?_⟩
 ·rw[rvs_append,rvs_one];exact h3
 ·rcases h5 with h5 | h5
  ·left;rw[← h5];rfl
  ·right;simpa [Value.ownBlock] using h5
theorem own_form4 {w:World} {B n:Nat} {e:TypeId} {v:Value} {xs:List Value} (h:w.ownsRow B e 4 v n xs):∃ a cap,v=.slice a n cap:=by
 rcases h.2 with ⟨rfl,hn⟩ | ⟨g,cap,cur,rfl,_⟩
 ·exact⟨none,0,by rw[hn]⟩
 ·exact⟨_,cap,rfl⟩
section
variable {w wx w3:World} {d m g n mx:Nat} {P:Pm} {U:List Nat} {s:Sd} {B:Bk2} {A:Prop}
theorem RB.grown (h:RB w d m g n mx P U s B A) (hx:Below w.heap.size w wx) (hg:wx.grownBy w3 B.lv.ownBlock):w3.heap[d]?=some (.cells (RDC P m mx B.cp B.lv B.vv s B.av) 54 (0,0)):=by
 rw[hg.block d (Nat.lt_of_lt_of_le h.dlt hx.size) (fun e=>by have:=(h.kl d e.symm).1;rw[h.kd.1]at this;omega),hx.block d h.dlt]
 exact h.dev
theorem RB.logd (h:RB w d m g n mx P U s B A) {gg cap:Nat} {x:R4} (hx:Below w.heap.size w wx)
  (ho:w3.ownsRow 0 212 4 (.slice (some ⟨gg,0,none⟩) (s.L.length+1) cap) (s.L.length+1) (rvs (s.L ++ [x]))∧wx.grownBy w3 B.lv.ownBlock∧(B.lv.ownBlock=some gg∨gg=wx.heap.size)) :
  ∃ U' B',Gr U w U' (w3.setCell ⟨d,8,none⟩ (.slice (some ⟨gg,0,none⟩) (s.L.length+1) cap))∧RB (w3.setCell ⟨d,8,none⟩ (.slice (some ⟨gg,0,none⟩) (s.L.length+1) cap)) d m g n mx P U' { s with L:=s.L ++ [x] } B' A:=by
 obtain⟨h1,h2,h3⟩:=ho
 have hd3:=h.grown hx h2
 have hs:=hx.size
 have hs2:=h2.size
 obtain⟨g',cap',e,_,hgl⟩:=own_some h1
 have hgl:gg<w3.heap.size:=by
  simp only[Value.slice.injEq,Option.some.injEq,Addr.mk.injEq]at e
  rw[e.1.1];exact hgl
 have q:Off B.lv.ownBlock.toList w w3:=by
  refine⟨h2.os.trans hx.os,h2.tape.trans hx.tape,h2.output.trans hx.output,Nat.le_trans hs hs2,fun k hk hkV=>?_⟩
  rw[h2.block k (by omega) (fun e=>hkV (by rw[← e];simp))]
  exact hx.block k hk
 have o3:Off [d] w3 (w3.setCell ⟨d,8,none⟩ (.slice (some ⟨gg,0,none⟩) (s.L.length+1) cap)):=Off.setCell d 8 w3 _
 have s3:=o3.size
 have hn:∀ k,B.col k≠0→k ∉ [d]:=fun k hk hm=>by simp at hm;rw[hm,h.kd.1]at hk;exact hk rfl
 have hl:∀ k,B.col k≠5→k ∉ B.lv.ownBlock.toList:=fun k hk hm=>hk (h.kl k (by simpa using hm)).1
 have hgU:(B.col gg=5∧gg ∈ U)∨w.heap.size≤gg:=by
  rcases h3 with h3 | h3
  ·exact .inl (h.kl gg h3)
  ·right;omega
 have hdg:gg≠d:=by
  rcases hgU with hh | hh
  ·intro e;rw[e,h.kd.1]at hh;omega
  ·have:=h.dlt;omega
 have hq:∀ k x,B.col k=x∧k ∈ U→(if k<w.heap.size then B.col k else 5)=x∧k ∈ gg :: U:=fun k x hk=>⟨by rw[if_pos (h.ltU k hk.2)];exact hk.1,by simp[hk.2]⟩
 refine⟨gg :: U,{ B with lv:=.slice (some ⟨gg,0,none⟩) (s.L.length+1) cap,col:=fun k=>if k<w.heap.size then B.col k else 5 },⟨?_,?_⟩,?_⟩
 ·exact (q.more (fun k hk=>(h.kl k (by simpa using hk)).2)).trans (o3.more (by simp[h.kd.2]))
 ·intro k hk
  simp at hk
  rcases hk with rfl | hk
  ·rcases hgU with hh | hh
   ·exact .inl hh.2
   ·exact .inr hh
  ·exact .inl hk
 ·refine⟨heap_setCell_same _ _ _ _ _ _ hd3,(h.mem.off q (hl _ (by rw[h.km.1];omega)) (hl _ (by rw[h.kg.1];omega))).off o3 (hn _ (by rw[h.km.1];omega)) (hn _ (by rw[h.kg.1];omega)),fun hA=>?_,?_,?_,?_,h.apb,h.vok,h.dcl,?_,hq _ _ h.kd,hq _ _ h.km,hq _ _ h.kg,hq _ _ h.kc,fun k hk=>hq _ _ (h.kM k hk),?_,fun k hk=>hq _ _ (h.ka k hk),h.pok,h.n10,h.mx0,h.mxl,fun e=>by simp at e⟩
  ·obtain⟨c1,c2,c3⟩:=h.cel hA
   exact⟨c1,(c2.off q (hl _ (by rw[h.kc.1];omega))).off o3 (hn _ (by rw[h.kc.1];omega)),c3⟩
  ·exact (h.val.off q (fun k hk hM=>hl k (by rw[(h.kM k hM).1];omega) hk)).off o3 (fun k hk hM=>hn k (by rw[(h.kM k hM).1];omega) hk)
  ·have:(s.L ++ [x]).length=s.L.length+1:=by simp
   show World.ownsRow _ 0 _ 4 _ (s.L ++ [x]).length _
   rw[this]
   exact own_offk h1 o3 (fun k hk=>by simp only[Value.ownBlock,Option.some.injEq]at hk;subst hk;simpa using hdg)
  ·exact own_offk (own_offk h.app q (fun k hk=>hl _ (by rw[(h.ka k hk).1];omega))) o3 (fun k hk=>hn _ (by rw[(h.ka k hk).1];omega))
  ·intro k hk
   simp at hk
   rcases hk with rfl | hk
   ·omega
   ·have:=h.ltU k hk;omega
  ·intro k hk
   simp only[Value.ownBlock,Option.some.injEq]at hk
   subst hk
   refine⟨?_,by simp⟩
   show (if gg<w.heap.size then B.col gg else 5)=5
   rcases hgU with hh | hh
   ·rw[if_pos (h.ltU _ hh.2)];exact hh.1
   ·rw[if_neg (by omega)]
end
set_option maxHeartbeats 3200000 in
theorem rnotev_any (d m g n mx:Nat) (P:Pm) (U:List Nat) (s:Sd) (B:Bk2) (A:Prop) (x:Int) (w:World) (h:RB w d m g n mx P U s B A) (hL:s.L.length<900000) :
  Calls Tryz.prog 53 #[.pointer (some ⟨d,8,none⟩),.int .i64 x,.int .u32 (s.ss:Nat),.int .u32 (s.nm:Nat)] w fun e w'=>e=.returned (.int .i64 ((s.L.length+1:Nat):Int))∧Hid (∃ U' B',Gr U w U' w'∧RB w' d m g n mx P U' (dnote s x) B' A):=by
 have HG:Hid (RB w d m g n mx P U s B A):=h
 have c8:w.cell? ⟨d,8,none⟩=some B.lv:=cell_of_row w d 8 _ _ _ h.dev
 have hf:=h.fz 8
 have hpl:=h.dlt
 have ho:Hid (∀ wx,Below w.heap.size w wx→wx.ownsRow 0 212 4 B.lv s.L.length (rvs s.L)):=fun wx hx=>own_below HG.out.log hx
 obtain⟨a,cap,hlv⟩:=own_form4 h.log
 rw[hlv]at c8 ho
 obtain⟨k,em⟩:∃ k,k=s.L.length:=⟨_,rfl⟩
 rw[← em]at hlv ho c8 hL ⊢
 have HM:Hid (_):=And.intro em hlv
 have e1:IntKind.i64.wrap ((k:Int)+1)=((k+1:Nat):Int):=by rw[IntKind.wrap_i64];omega
 have ca1:(w.alloc (.cells #[.int .i64 ((k:Int)+1),.int .i64 x,.int .u32 (s.ss:Nat),.int .u32 (s.nm:Nat)] 212)).cell? ⟨d,8,none⟩=some (.slice a k cap):=(World.cell?_of_block ((Off.alloc [] w _).block d hpl (by simp))).trans c8
 have ca2:(w.drew.alloc (.cells #[.int .i64 ((k:Int)+1),.int .i64 x,.int .u32 (s.ss:Nat),.int .u32 (s.nm:Nat)] 212)).cell? ⟨d,8,none⟩=some (.slice a k cap):=ca1
 clear em h hlv
 go_enter Tryz.func53,Tryz.ntmps53
 go_wp2_with fail
 go_region_law (first
  | (refine step_appT rfl (.tmp 13) (.tmp 24) rfl rfl 0 k w.heap.size s.L (((k+1:Nat):Int),x,(s.ss:Int),(s.nm:Int)) _ rfl (ho.out _ (by repeat (first | with_reducible assumption | with_reducible refine below_drewNR ?_ _ | with_reducible refine Below.drew ?_ | with_reducible refine belowAR ?_ (by omega) _ | with_reducible exact Below.refl _ _))) rfl (heap_alloc_new w _) (by omega) (Nat.zero_le _) ?_;intro g3 cap3 w3 H3;have hgb:=H3.out.2.1;rw[← HM.out.2]at hgb;have hp3:=HG.out.grown (by repeat (first | with_reducible assumption | with_reducible refine below_drewNR ?_ _ | with_reducible refine Below.drew ?_ | with_reducible refine belowAR ?_ (by omega) _ | with_reducible exact Below.refl _ _)) hgb;have hc3:w3.cell? ⟨d,8,none⟩=some B.lv:=cell_of_row w3 d 8 _ _ _ hp3;rw[HM.out.2]at hc3;have hf3:=frozen_of_row w3 d 8 _ _ hp3))
 all_goals
  have H4:=H3.out
  rw[← HM.out.2]at H4
  rw[HM.out.1]at H4
  have HF:Hid (∃ U' B',Gr U w U' (w3.setCell ⟨d,8,none⟩ (.slice (some ⟨g3,0,none⟩) (s.L.length+1) cap3))∧RB (w3.setCell ⟨d,8,none⟩ (.slice (some ⟨g3,0,none⟩) (s.L.length+1) cap3)) d m g n mx P U' (dnote s x) B' A):=
   HG.out.logd (by repeat (first | with_reducible assumption | with_reducible refine below_drewNR ?_ _ | with_reducible refine Below.drew ?_ | with_reducible refine belowAR ?_ (by omega) _ | with_reducible exact Below.refl _ _)) H4
  rw[← HM.out.1]at HF
  clear ca1 ca2 H3 hp3 HG ho H4 hgb
  go_wp2_with fail
  go_ret
  exact⟨rfl,HF⟩
end Go.Proofs.YthbogkaoidbpgaaGreat
namespace Go.Proofs.YthbogkaoidbpgaaGreat
set_option maxRecDepth 100000
open Go.RowKit
set_option maxHeartbeats 3200000 in
theorem rvlatch_any (d m g n mx:Nat) (P:Pm) (U:List Nat) (s:Sd) (x:Int) (w:World) (h:RW w d m g n mx P U s) (hx:x≠0) (hL:s.L.length<900000) :
  Calls Tryz.prog 44 #[.pointer (some ⟨d,0,none⟩),.int .i64 x] w fun e w'=>e=.returned (.tuple #[])∧Hid (∃ U',Gr U w U' w'∧RW w' d m g n mx P U' (dlatch s x)):=by
 obtain⟨B,h⟩:=h
 have hT:=rtripv_any d m g n mx P U s B _ x w h hx
 have HL:Hid (_):=hL
 clear h hx hL
 unfold dlatch
 by_cases ht:vtripB s.v x=true
 ·rw[if_pos ht]
  rw[ht]at hT
  go_enter Tryz.func44,Tryz.ntmps44
  go_wp2_with (go_at_call 84;refine hT.mono ?_;rintro e w2 ⟨rfl,h2⟩)
  obtain⟨g2,B2,x2⟩:=h2.out
  have xd:=x2.newd (Off.drew [] w2)
  have hN:=rnotev_any d m g n mx P U _ B2 _ x w2.drew xd HL.out
  have c19:w2.cell? ⟨d,19,none⟩=some (.int .u32 (s.ss:Nat)):=cell_of_row w2 d 19 _ _ _ x2.dev
  have c20:w2.cell? ⟨d,20,none⟩=some (.int .u32 (s.nm:Nat)):=cell_of_row w2 d 20 _ _ _ x2.dev
  have H2:Hid (_):=g2.trans (Gr.same (l:=[]) (Off.drew [] w2) (by simp))
  clear hT h2 g2 x2 xd
  go_region_with (go_at_call 53;refine hN.mono ?_;rintro e w3 ⟨rfl,h3⟩)
  all_goals
   clear hN c19 c20
   go_wp2_with fail
   go_end0
   obtain⟨U3,B3,g3,x3⟩:=h3.out
   exact⟨rfl,U3,H2.out.trans g3,B3,x3⟩
 ·rw[if_neg ht]
  have ht':vtripB s.v x=false:=by simpa using ht
  rw[ht']at hT
  go_enter Tryz.func44,Tryz.ntmps44
  go_wp2_with (go_at_call 84;refine hT.mono ?_;rintro e w2 ⟨rfl,h2⟩)
  go_end0
  obtain⟨g2,B2,x2⟩:=h2.out
  exact⟨rfl,U,g2,B2,x2⟩
set_option maxHeartbeats 3200000 in
theorem rvon_any (d m g n mx:Nat) (P:Pm) (U:List Nat) (s:Sd) (w:World) (h:RW w d m g n mx P U s) :
  Calls Tryz.prog 97 #[.pointer (some ⟨d,0,none⟩)] w fun e w'=>e=.returned (.tuple #[])∧Hid (∃ U',Gr U w U' w'∧RW w' d m g n mx P U' (don s)):=by
 obtain⟨B,h⟩:=h
 have c22:w.cell? ⟨d,22,none⟩=some (.int .i64 (s.od:Nat)):=cell_of_row w d 22 _ _ _ h.dev
 have c10:w.cell? ⟨d,10,none⟩=some (.int .i64 (s.dc:Nat)):=cell_of_row w d 10 _ _ _ h.dev
 have z22:=h.fz 22
 have z10:=h.fz 10
 have e1:(w.setCell ⟨d,22,none⟩ (.int .i64 0)).heap[d]?=some (.cells (RDC P m mx B.cp B.lv B.vv { s with od:=0 } B.av) 54 (0,0)):=heap_setCell_same _ _ _ _ _ _ h.dev
 have e2:((w.setCell ⟨d,22,none⟩ (.int .i64 0)).setCell ⟨d,10,none⟩ (.int .i64 0)).heap[d]?=some (.cells (RDC P m mx B.cp B.lv B.vv { s with od:=0,dc:=0 } B.av) 54 (0,0)):=heap_setCell_same _ _ _ _ _ _ e1
 have o2:=(Off.setCell d 22 w (.int .i64 0)).trans (Off.setCell d 10 _ (.int .i64 0))
 have x2:=h.own (A':=s.st≠6) (s':={ s with od:=0,dc:=0 }) o2 e2 rfl ⟨rfl,rfl⟩ rfl rfl h.vok (Nat.zero_le _) id
 have hC:=rcomev_any d m g n mx P U _ B _ _ x2
 have H2:Hid (_):=Gr.same (U:=U) o2 (by simp[h.kd.2])
 clear h e1 e2 o2 x2
 go_enter Tryz.func97,Tryz.ntmps97
 go_wp2_with (go_at_call 158;refine hC.mono ?_;rintro e w3 ⟨rfl,h3⟩)
 go_end0
 obtain⟨g3,B3,x3⟩:=h3.out
 exact⟨rfl,U,H2.out.trans g3,B3,x3⟩
set_option maxHeartbeats 3200000 in
theorem rvleave_any (d m g n mx:Nat) (P:Pm) (U:List Nat) (s:Sd) (k:Nat) (w:World) (h:RW w d m g n mx P U s) (hs:s.st≠6) :
  Calls Tryz.prog 157 #[.pointer (some ⟨d,0,none⟩),.int .i64 (k:Nat)] w fun e w'=>e=.returned (.tuple #[])∧Hid (∃ U',Gr U w U' w'∧RW w' d m g n mx P U' (dleave s k)):=by
 obtain⟨B,h⟩:=h
 have hR:=rrunv_any d m g n mx P U s B _ false w h
 clear h
 go_enter Tryz.func157,Tryz.ntmps157
 go_wp2_with (go_at_call 99;refine hR.mono ?_;rintro e w2 ⟨rfl,h2⟩;obtain⟨g2,B2,x2⟩:=h2.out;have c18:w2.cell? ⟨d,18,none⟩=some (.int .i64 (s.st:Nat)):=cell_of_row w2 d 18 _ _ _ x2.dev;have c19:w2.cell? ⟨d,19,none⟩=some (.int .u32 (s.ss:Nat)):=cell_of_row w2 d 19 _ _ _ x2.dev;have c20:w2.cell? ⟨d,20,none⟩=some (.int .u32 (s.nm:Nat)):=cell_of_row w2 d 20 _ _ _ x2.dev;have c21:w2.cell? ⟨d,21,none⟩=some (.int .u32 (s.sn:Nat)):=cell_of_row w2 d 21 _ _ _ x2.dev;have c22:w2.cell? ⟨d,22,none⟩=some (.int .i64 (s.od:Nat)):=cell_of_row w2 d 22 _ _ _ x2.dev;have z18:=x2.fz 18;have z19:=x2.fz 19;have z20:=x2.fz 20;have z21:=x2.fz 21;have z22:=x2.fz 22;have H2:Hid (_):=And.intro g2 x2;clear hR h2 g2 x2)
 go_end0
 obtain⟨g2,x2⟩:=H2.out
 have e1:(w2.setCell ⟨d,18,none⟩ (.int .i64 (k:Nat))).heap[d]?=some (.cells (RDC P m mx B2.cp B2.lv B2.vv { s with v:=vrun s.v false,st:=k } B2.av) 54 (0,0)):=heap_setCell_same _ _ _ _ _ _ x2.dev
 have e2:((w2.setCell ⟨d,18,none⟩ (.int .i64 (k:Nat))).setCell ⟨d,19,none⟩ (.int .u32 0)).heap[d]?=some (.cells (RDC P m mx B2.cp B2.lv B2.vv { s with v:=vrun s.v false,st:=k,ss:=0 } B2.av) 54 (0,0)):=heap_setCell_same _ _ _ _ _ _ e1
 have e3:(((w2.setCell ⟨d,18,none⟩ (.int .i64 (k:Nat))).setCell ⟨d,19,none⟩ (.int .u32 0)).setCell ⟨d,20,none⟩ (.int .u32 0)).heap[d]?=some (.cells (RDC P m mx B2.cp B2.lv B2.vv { s with v:=vrun s.v false,st:=k,ss:=0,nm:=0 } B2.av) 54 (0,0)):=heap_setCell_same _ _ _ _ _ _ e2
 have e4:((((w2.setCell ⟨d,18,none⟩ (.int .i64 (k:Nat))).setCell ⟨d,19,none⟩ (.int .u32 0)).setCell ⟨d,20,none⟩ (.int .u32 0)).setCell ⟨d,21,none⟩ (.int .u32 0)).heap[d]?=some (.cells (RDC P m mx B2.cp B2.lv B2.vv { s with v:=vrun s.v false,st:=k,ss:=0,nm:=0,sn:=0 } B2.av) 54 (0,0)):=heap_setCell_same _ _ _ _ _ _ e3
 have e5:(((((w2.setCell ⟨d,18,none⟩ (.int .i64 (k:Nat))).setCell ⟨d,19,none⟩ (.int .u32 0)).setCell ⟨d,20,none⟩ (.int .u32 0)).setCell ⟨d,21,none⟩ (.int .u32 0)).setCell ⟨d,22,none⟩ (.int .i64 0)).heap[d]?=some (.cells (RDC P m mx B2.cp B2.lv B2.vv (dleave s k) B2.av) 54 (0,0)):=heap_setCell_same _ _ _ _ _ _ e4
 have o5:=((((Off.setCell d 18 w2 (.int .i64 (k:Nat))).trans (Off.setCell d 19 _ (.int .u32 0))).trans (Off.setCell d 20 _ (.int .u32 0))).trans (Off.setCell d 21 _ (.int .u32 0))).trans (Off.setCell d 22 _ (.int .i64 0))
 have x5:=x2.own (A':=(dleave s k).st≠6) (s':=dleave s k) o5 e5 rfl ⟨rfl,rfl⟩ rfl rfl x2.vok x2.dcl (fun _=>hs)
 exact⟨rfl,U,g2.trans (Gr.same o5 (by simp[x2.kd.2])),B2,x5⟩
set_option maxHeartbeats 1600000 in
theorem rbusy_any (d k:Nat) (w:World) (c18:w.cell? ⟨d,18,none⟩=some (.int .i64 (k:Nat))) :
  Calls Tryz.prog 154 #[.pointer (some ⟨d,0,none⟩)] w fun e w'=>e=.returned (.bool (decide (k=2∨k=3∨k=4)))∧w'=w:=by
 go_enter Tryz.func154,Tryz.ntmps154
 go_wp2_with fail
 all_goals
  go_ret
  refine⟨congrArg (fun b=>Ending.returned (Value.bool b)) (?_:_=decide (k=2∨k=3∨k=4)),rfl⟩
  rw[Bool.eq_iff_iff]
  simp <;> omega
set_option maxRecDepth 100000 in
set_option maxHeartbeats 1600000 in
theorem bringOn_any (d m g n mx:Nat) (P:Pm) (U:List Nat) (s:Sd) (w:World) (h:DV w d m g n mx P U s) :
  Calls Tryz.prog 196 #[.pointer (some ⟨d,9,none⟩)] w fun e w'=>e=.returned (.tuple #[])∧Hid (∃ U',Gr U w U' w'∧DV w' d m g n mx P U' (don s)):=by
 obtain⟨B,h⟩:=h
 have o1:=Off.setCell d 15 w (.int .i64 0)
 have h1:=h.own o1 (s':={ s with od:=0 }) (heap_setCell_same _ _ _ _ _ _ h.dev) rfl rfl rfl rfl rfl id
 obtain⟨_,_,_,_,_,_,_,_,_,c9,_,_,_,_,_,c15,_⟩:=h.cells
 have z15:=h.fz 15
 have H:Hid (_):=And.intro h.kd.2 (And.intro o1 h1)
 clear h h1 o1
 go_enter Tryz.func196,Tryz.ntmps196
 go_wp2_with fail
 refine (wfeed_any _ _ _ _ H.out.2.2.dog).mono ?_
 rintro e w2 ⟨rfl,o2,d2⟩
 have h2:=H.out.2.2.dogd o2 d2
 have c10:=h2.cells.2.2.2.2.2.2.2.2.2.2.1
 have H2:Hid (_):=And.intro (H.out.2.1.more (m:=U) (by simp[H.out.1])) (And.intro (o2.more (m:=U) (by simp[H.out.2.2.kb.2])) h2)
 clear h2 o2 d2 H c9 c15 z15
 go_wp2_with fail
 refine (vfresh_any _ _ _ _ _ _ H2.out.2.2.val).mono ?_
 rintro e w3 ⟨rfl,h3⟩
 obtain⟨U',B',g3,x3⟩:=H2.out.2.2.vals h3.out.1 h3.out.2
 have H3:Hid (∃ U',Gr U w U' w3∧DV w3 d m g n mx P U' (don s)):=⟨U',(Gr.trans (Gr.trans ⟨H2.out.1,fun _ h=>.inl h⟩ ⟨H2.out.2.1,fun _ h=>.inl h⟩) g3),B',x3⟩
 clear H2 h3 g3 x3 c10
 go_wp2_with fail
 go_end0
 exact⟨rfl,H3⟩
set_option maxRecDepth 100000 in
set_option maxHeartbeats 1600000 in
theorem leave_any (d m g n mx:Nat) (P:Pm) (U:List Nat) (s:Sd) (k:Nat) (w:World) (h:DV w d m g n mx P U s) (hs:s.st≠6) :
  Calls Tryz.prog 223 #[.pointer (some ⟨d,9,none⟩),.int .i64 (k:Nat)] w fun e w'=>e=.returned (.tuple #[])∧Hid (∃ U',Gr U w U' w'∧DV w' d m g n mx P U' (dleave s k)):=by
 obtain⟨B,h⟩:=h
 have c10:=h.cells.2.2.2.2.2.2.2.2.2.2.1
 have H:Hid (_):=h
 clear h
 go_enter Tryz.func223,Tryz.ntmps223
 go_wp2_with fail
 refine (vrun_any _ _ _ _ _ _ _ H.out.val).mono ?_
 rintro e w2 ⟨rfl,h2⟩
 obtain⟨U',B',g2,x2⟩:=H.out.vals h2.out.1 h2.out.2
 have o3:=Off.setCell d 12 w2 (.int .u32 0)
 have o4:=o3.trans (Off.setCell d 13 _ (.int .u32 0))
 have o5:=o4.trans (Off.setCell d 14 _ (.int .u32 0))
 have o6:=o5.trans (Off.setCell d 15 _ (.int .i64 0))
 have o7:=o6.trans (Off.setCell d 11 _ (.int .i64 (k:Nat)))
 have x7:=x2.own o7 (A':=(dleave s k).st≠6) (s':=dleave s k) (heap_setCell_same _ _ _ _ _ _ (heap_setCell_same _ _ _ _ _ _ (heap_setCell_same _ _ _ _ _ _ (heap_setCell_same _ _ _ _ _ _ (heap_setCell_same _ _ _ _ _ _ x2.dev))))) rfl rfl rfl rfl rfl (fun _=>hs)
 have H7:Hid (_):=And.intro (Gr.trans g2 (Gr.same o7 (by simp[x2.kd.2]))) x7
 obtain⟨_,_,_,_,_,_,_,_,_,_,_,c11,c12,c13,c14,c15,_⟩:=x2.cells
 have z11:=x2.fz 11
 have z12:=x2.fz 12
 have z13:=x2.fz 13
 have z14:=x2.fz 14
 have z15:=x2.fz 15
 clear H h2 g2 x2 o3 o4 o5 o6 o7 x7 c10
 go_wp2_with fail
 go_end0
 exact⟨rfl,_,H7.out.1,_,H7.out.2⟩
set_option maxRecDepth 100000 in
theorem inSession_any (d k:Nat) (w:World) (c11:w.cell? ⟨d,11,none⟩=some (.int .i64 (k:Nat))) :
  Calls Tryz.prog 222 #[.pointer (some ⟨d,9,none⟩)] w fun e w'=>e=.returned (.bool (decide (k=2∨k=3∨k=4)))∧w'=w:=by
 go_enter Tryz.func222,Tryz.ntmps222
 go_wp2_with fail
 all_goals
  go_ret
  refine⟨congrArg (fun b=>Ending.returned (Value.bool b)) (?_:_=decide (k=2∨k=3∨k=4)),rfl⟩
  rw[Bool.eq_iff_iff]
  simp <;> omega
theorem silent_down (d:Nat) (w:World) (c11:w.cell? ⟨d,11,none⟩=some (.int .i64 (6:Nat))):Calls Tryz.prog 40 #[.pointer (some ⟨d,0,none⟩)] w fun e w'=>e=.returned (.int .i64 70)∧w'=w:=by
 go_enter Tryz.func40,Tryz.ntmps40
 go_wp2_with fail
 go_ret
 exact⟨rfl,rfl⟩
theorem silent_up (d k:Nat) (w:World) (c11:w.cell? ⟨d,11,none⟩=some (.int .i64 (k:Nat))) (h6:k≠6):Calls Tryz.prog 40 #[.pointer (some ⟨d,0,none⟩)] w fun e w'=>e=.returned (.int .i64 0)∧w'=w:=by
 have e6:((k:Int)=6)=False:=by simp;omega
 go_enter Tryz.func40,Tryz.ntmps40
 go_wp2_with fail
 go_ret
 exact⟨rfl,rfl⟩
set_option maxRecDepth 100000 in
set_option maxHeartbeats 1600000 in
theorem dvnote_any (d m g n mx:Nat) (P:Pm) (U:List Nat) (s:Sd) (x:Int) (w:World) (h:DV w d m g n mx P U s) (hx:x≠0) (hw:(Lit.int .i64 x).wf=true) (hL:s.L.length<900000) :
  Calls Tryz.prog 49 #[.pointer (some ⟨d,0,none⟩),.int .i64 x] w fun e w'=>e=.returned (.tuple #[])∧Hid (∃ U',Gr U w U' w'∧DV w' d m g n mx P U' (dnote s x)):=by
 obtain⟨B,h⟩:=h
 have hd:=h.newd (Off.drew [] w)
 have hC:=dnote_any B.lb B.Ul s.L x (s.ss:Nat) (s.nm:Nat) w.drew hd.log (by omega) hw hx
 obtain⟨_,_,_,_,_,_,_,_,c8,_,_,_,c12,c13,_⟩:=h.cells
 have H:Hid (_):=hd
 clear h hd
 go_enter Tryz.func49,Tryz.ntmps49
 go_wp2_with fail
 go_region_with (go_at_call 90;refine hC.mono ?_;rintro e w2 ⟨rfl,h2⟩)
 all_goals
  obtain⟨V,o2,L2,hV⟩:=h2.out
  obtain⟨U',B',g3,x3⟩:=H.out.logd o2 L2 hV
  have H3:Hid (∃ U',Gr U w U' w2∧DV w2 d m g n mx P U' (dnote s x)):=⟨U',Gr.trans (Gr.same (Off.drew [] w) (by simp)) g3,B',x3⟩
  clear hC H h2 o2 L2 hV g3 x3
  go_wp2_with fail
  go_end0
  exact⟨rfl,H3⟩
set_option maxRecDepth 100000 in
set_option maxHeartbeats 1600000 in
theorem dvlatch_any (d m g n mx:Nat) (P:Pm) (U:List Nat) (s:Sd) (x:Int) (w:World) (h:DV w d m g n mx P U s) (hx:x≠0) (hw:(Lit.int .i64 x).wf=true) (hL:s.L.length<900000) :
  Calls Tryz.prog 42 #[.pointer (some ⟨d,0,none⟩),.int .i64 x] w fun e w'=>e=.returned (.tuple #[])∧Hid (∃ U',Gr U w U' w'∧DV w' d m g n mx P U' (dlatch s x)):=by
 obtain⟨B,h⟩:=h
 have c10:=h.cells.2.2.2.2.2.2.2.2.2.2.1
 have H:Hid (_):=h
 clear h
 unfold dlatch
 by_cases ht:vtripB s.v x=true
 ·rw[if_pos ht]
  go_enter Tryz.func42,Tryz.ntmps42
  go_wp2_with fail
  refine (vtrip_any _ _ _ _ _ _ _ H.out.val).mono ?_
  rintro e w2 ⟨rfl,h2⟩
  rw[ht]
  obtain⟨U',B',g2,x2⟩:=H.out.vals h2.out.1 h2.out.2
  have hN:=dvnote_any d m g n mx P U' { s with v:=vtrip s.v x } x w2 ⟨B',x2⟩ hx hw hL
  have H2:Hid (_):=g2
  clear H h2 g2 x2 c10
  go_wp2_with (go_at_call 49;refine hN.mono ?_;rintro e w3 ⟨rfl,h3⟩)
  go_end0
  obtain⟨U3,g3,x3⟩:=h3.out
  exact⟨rfl,U3,H2.out.trans g3,x3⟩
 ·rw[if_neg ht]
  have ht':vtripB s.v x=false:=by simpa using ht
  go_enter Tryz.func42,Tryz.ntmps42
  go_wp2_with fail
  refine (vtrip_any _ _ _ _ _ _ _ H.out.val).mono ?_
  rintro e w2 ⟨rfl,h2⟩
  rw[ht']
  obtain⟨U',B',g2,x2⟩:=H.out.vals h2.out.1 h2.out.2
  have H2:Hid (_):=And.intro g2 x2
  clear H h2 g2 x2 c10
  go_wp2_with fail
  go_end0
  exact⟨rfl,U',H2.out.1,B',H2.out.2⟩
end Go.Proofs.YthbogkaoidbpgaaGreat
