/- Part 11 of the texts on which the proofs of layer 13 rest: contracts of Go functions. -/
import Derived.Test.YthbogkaoidbpgaaGreatPkB07
import Derived.Test.YthbogkaoidbpgaaGreatPkB09
namespace Go.Proofs.YthbogkaoidbpgaaGreat
set_option maxRecDepth 100000
open Go.RowKit
structure NL (w w':World) (P:Pm) (db vb vg ga:Nat):Prop where
 dog:DR w' db P.t 0
 val:VR w' vb vg [] P.o vnew
 app:w'.ownsRow w.heap.size 5 1 (.slice (some ⟨ga,0,none⟩) P.i P.i) P.i (CB (fun _=>0) P.i)
 bel:Below w.heap.size w w'
 h1:w.heap.size≤db
 h2:db<vb
 h3:db<vg
 h4:vb<ga
 h5:vg<ga
 h6:ga<w'.heap.size
def zLife:Array Value:=#[.pointer none,.pointer none,.int .i64 0,.int .u32 0,.int .u32 0,.int .u32 0,.int .i64 0,.slice none 0 0,.bool false]
theorem two_new (w:World) (o p:Array Value) (t u:TypeId) (wx:World) (hb:Below ((w.alloc (.cells o t)).alloc (.cells p u)).heap.size ((w.alloc (.cells o t)).alloc (.cells p u)) wx) :
  wx.heap[w.heap.size]?=some (.cells o t (0,0))∧wx.heap[w.heap.size+1]?=some (.cells p u (0,0)):=by
 have s1:(w.alloc (.cells o t)).heap.size=w.heap.size+1:=by simp
 have s2:((w.alloc (.cells o t)).alloc (.cells p u)).heap.size=w.heap.size+2:=by simp
 constructor
 ·rw[hb.block _ (by omega),Below.heap_alloc _ _ _ (by omega)]
  exact heap_alloc_new w _
 ·rw[hb.block _ (by omega),← s1]
  exact heap_alloc_new _ _
theorem nine (b:Nat) (w:World) (x0 x1 x2 x3 x4 x5 x6 x7 x8:Value) :
  Off [b] w (((((((((w.setCell ⟨b,0,none⟩ x0).setCell ⟨b,1,none⟩ x1).setCell ⟨b,2,none⟩ x2).setCell ⟨b,3,none⟩ x3).setCell ⟨b,4,none⟩ x4).setCell ⟨b,5,none⟩ x5).setCell ⟨b,6,none⟩ x6).setCell ⟨b,7,none⟩ x7).setCell ⟨b,8,none⟩ x8):=
 ((((((((Off.setCell b 0 w x0).trans (Off.setCell b 1 _ x1)).trans (Off.setCell b 2 _ x2)).trans (Off.setCell b 3 _ x3)).trans (Off.setCell b 4 _ x4)).trans (Off.setCell b 5 _ x5)).trans (Off.setCell b 6 _ x6)).trans (Off.setCell b 7 _ x7)).trans (Off.setCell b 8 _ x8)
set_option maxHeartbeats 3200000 in
theorem newLife_any (P:Pm) (hP:Pok P) (w:World) :
  Calls Tryz.prog 62 #[.agg #[.int .u32 (P.c:Nat),.int .i64 (P.o:Nat),.int .i64 (P.i:Nat),.int .i64 (P.t:Nat),.int .u32 (P.n:Nat)]] w fun e w'=>∃ db vb vg ga,e=.returned (.agg #[.pointer (some ⟨db,0,none⟩),.pointer (some ⟨vb,0,none⟩),.int .i64 1,.int .u32 0,.int .u32 0,.int .u32 0,.int .i64 0,.slice (some ⟨ga,0,none⟩) P.i P.i,.bool false])∧Hid (NL w w' P db vb vg ga):=by
 obtain⟨i0,hi,hz0,hz1,hz2⟩:=info_parts info_u8
 have hX:=two_new w #[.int .u32 (P.c:Nat),.int .i64 (P.o:Nat),.int .i64 (P.i:Nat),.int .i64 (P.t:Nat),.int .u32 (P.n:Nat)] zLife 42 123
 have hA:Below w.heap.size w ((w.alloc (.cells #[.int .u32 (P.c:Nat),.int .i64 (P.o:Nat),.int .i64 (P.i:Nat),.int .i64 (P.t:Nat),.int .u32 (P.n:Nat)] 42)).alloc (.cells zLife 123)):=((Below.refl _ _).alloc (Nat.le_refl _) _).alloc (by simp) _
 have hs:((w.alloc (.cells #[.int .u32 (P.c:Nat),.int .i64 (P.o:Nat),.int .i64 (P.i:Nat),.int .i64 (P.t:Nat),.int .u32 (P.n:Nat)] 42)).alloc (.cells zLife 123)).heap.size=w.heap.size+2:=by simp
 have hW:=fun wx=>wnew_ok P.t wx hP.t1 hP.t2
 have hV:=fun wx=>vnew_ok P.o wx hP.o1 hP.o8
 have hi8:=hP.i8
 have hi1:=hP.i1
 have HW:Hid (_):=hW
 have HV:Hid (_):=hV
 have HA:Hid (_):=And.intro hA hs
 clear hA hs hW hV hP
 go_enter Tryz.func62,Tryz.ntmps62
 go_wp2_with fail
 refine (HW.out _).mono ?_
 rintro e w2 ⟨rfl,o2,d2⟩
 unfold zLife at hX HA
 generalize hwa:(w.alloc (.cells #[.int .u32 (P.c:Nat),.int .i64 (P.o:Nat),.int .i64 (P.i:Nat),.int .i64 (P.t:Nat),.int .u32 (P.n:Nat)] 42)).alloc (.cells #[.pointer none,.pointer none,.int .i64 0,.int .u32 0,.int .u32 0,.int .u32 0,.int .i64 0,.slice none 0 0,.bool false] 123)=wa at *
 clear hwa
 have b2:Below wa.heap.size wa w2:=⟨o2.os,o2.tape,o2.output,o2.size,fun k hk=>o2.block k hk (by simp)⟩
 have p1:w2.cell? ⟨w.heap.size,1,none⟩=some (.int .i64 (P.o:Nat)):=cell_of_row w2 _ 1 _ _ _ (hX w2 b2).1
 have K2:Hid (_):=And.intro b2 d2
 have HX:Hid (_):=hX
 clear b2 d2 o2 HW hX
 go_wp2_with fail
 refine (HV.out _).mono ?_
 rintro e w3 ⟨vb,vg,rfl,h3⟩
 have o3:=h3.out.2.2.2.2.1
 have b3:Below wa.heap.size wa w3:=K2.out.1.trans ⟨o3.os,o3.tape,o3.output,o3.size,fun k hk=>o3.block k (Nat.lt_of_lt_of_le hk K2.out.1.size) (by simp)⟩
 have p2:w3.cell? ⟨w.heap.size,2,none⟩=some (.int .i64 (P.i:Nat)):=cell_of_row w3 _ 2 _ _ _ (HX.out w3 b3).1
 have K3:Hid (_):=And.intro b3 (And.intro (K2.out.2.off o3 (by simp)) (And.intro h3.out (Nat.lt_of_lt_of_le K2.out.2.lt (Nat.le_refl _))))
 have K4:Hid (_):=K2.out.2.lt
 clear b3 o3 h3 p1 HV K2
 go_wp2_with (at_make;refine wpList_make8 _ rfl (.tmp 22) (.tmp 22) 50 rfl w3.heap.size 5 i0 Tryz.underlying50 hi hz0 hz1 hz2 _ _ _ _ P.i P.i rfl rfl rfl rfl (Nat.le_refl _) (by omega) (Nat.le_refl _) ?_)
 intro w4 hown4 hbel4
 have b4:Below wa.heap.size wa w4:=K3.out.1.trans (hbel4.mono K3.out.1.size)
 have e4:=(HX.out w4 b4).2
 have y0:=cell_of_row w4 (w.heap.size+1) 0 _ _ _ e4
 have y1:=cell_of_row w4 (w.heap.size+1) 1 _ _ _ e4
 have y2:=cell_of_row w4 (w.heap.size+1) 2 _ _ _ e4
 have y3:=cell_of_row w4 (w.heap.size+1) 3 _ _ _ e4
 have y4:=cell_of_row w4 (w.heap.size+1) 4 _ _ _ e4
 have y5:=cell_of_row w4 (w.heap.size+1) 5 _ _ _ e4
 have y6:=cell_of_row w4 (w.heap.size+1) 6 _ _ _ e4
 have y7:=cell_of_row w4 (w.heap.size+1) 7 _ _ _ e4
 have y8:=cell_of_row w4 (w.heap.size+1) 8 _ _ _ e4
 have fz:=fun j=>frozen_of_row w4 (w.heap.size+1) j _ _ e4
 have f0:=fz 0
 have f1:=fz 1
 have f2:=fz 2
 have f3:=fz 3
 have f4:=fz 4
 have f5:=fz 5
 have f6:=fz 6
 have f7:=fz 7
 have f8:=fz 8
 have K5:Hid (_):=And.intro b4 (And.intro hown4 hbel4)
 clear e4 b4 hown4 hbel4 fz p2 HX
 go_wp2_with fail
 refine bodyPost_ret (v:=.agg #[.pointer (some ⟨wa.heap.size,0,none⟩),.pointer (some ⟨vb,0,none⟩),.int .i64 1,.int .u32 0,.int .u32 0,.int .u32 0,.int .i64 0,.slice (some ⟨w3.heap.size,0,none⟩) P.i P.i,.bool false]) (by simp[results,Tryz.results62,go_sem,y0,y1,y2,y3,y4,y5,y6,y7,y8]) rfl ⟨wa.heap.size,vb,vg,w3.heap.size,rfl,?_⟩
 obtain⟨b4,hown4,hbel4⟩:=K5.out
 obtain⟨b3,d3,⟨v1,v2,v3,v4,o3,x3⟩,_⟩:=K3.out
 obtain⟨hA,hs⟩:=HA.out
 have hlt:=(hown4.lt _ rfl).2
 have k4:=K4.out
 have oo:Off [w.heap.size+1] w4 _:=nine (w.heap.size+1) w4 (.pointer (some ⟨wa.heap.size,0,none⟩)) (.pointer (some ⟨vb,0,none⟩)) (.int .i64 1) (.int .u32 0) (.int .u32 0) (.int .u32 0) (.int .i64 0) (.slice (some ⟨w3.heap.size,0,none⟩) P.i P.i) (.bool false)
 have q4:=Off.of_below (l:=[]) hbel4
 have sz:=oo.size
 have s3:=b3.size
 have s4:=b4.size
 have so:w4.ownsRow w.heap.size 5 1 (.slice (some ⟨w3.heap.size,0,none⟩) P.i P.i) P.i (CB (fun _=>0) P.i):=own_base hown4 (by omega)
 have z6:w3.heap.size<w4.heap.size:=hlt
 have z2:wa.heap.size<vb:=by omega
 have z3:wa.heap.size<vg:=by omega
 refine⟨(d3.off q4 (by simp)).off oo (by simp;omega),((x3.off q4 (by simp) (by simp) (by simp)).off oo (by simp;omega) (by simp;omega) (by simp)),own_offk so oo ?_,?_,by omega,z2,z3,v3,v4,Nat.lt_of_lt_of_le z6 sz⟩
 ·intro k hk
  cases hk
  have:=b3.size
  simp;omega
 ·have bo:=oo.below (B:=w.heap.size) (w0:=w) (hA.trans (b4.mono (by omega))) (by simp) (by have:=b4.size;omega)
  exact bo
section
variable {w w' w1 w2:World} {d m g n mx:Nat} {P:Pm} {U:List Nat} {s s':Sd} {B:Bk} {A A':Prop}
theorem DX.memd (h:DX w d m g n mx P U s B A) (q:Off [m,g,B.c] w w') {ms:Ms} (e:MR w' m g n ms) (hc:A'→B.cp=.pointer (some ⟨B.c,0,none⟩)∧CS w' B.c m mx ms.bs false∧ms.off=false) :
  DX w' d m g n mx P U { s with ms:=ms } B A':=by
 have hn:∀ k,B.col k≠1→B.col k≠2→k ∉ [m,g,B.c]:=fun k hk h2 hm=>by
  simp at hm
  rcases hm with hm | hm | hm
  ·rw[hm]at hk;exact hk h.km.1
  ·rw[hm]at hk;exact hk h.kg.1
  ·rw[hm]at h2;exact h2 h.kc.1
 refine⟨(q.block d h.dlt (hn _ (by rw[h.kd.1];omega) (by rw[h.kd.1];omega))).trans h.dev,e,hc,?_,?_,?_,?_,h.apb,fun k hk=>Nat.lt_of_lt_of_le (h.ltU k hk) q.size,h.kd,h.km,h.kg,h.kc,h.kb,h.kv,h.kw,h.kM,h.kl,h.ka,h.pok,h.n10,h.mx0,h.mxl⟩
 ·exact h.dog.off q (hn _ (by rw[h.kb.1];omega) (by rw[h.kb.1];omega))
 ·refine h.val.off q (hn _ (by rw[h.kv.1];omega) (by rw[h.kv.1];omega)) (hn _ (by rw[h.kw.1];omega) (by rw[h.kw.1];omega)) (fun k hk hM=>hn k ?_ ?_ hk)
  ·rw[(h.kM k hM).1];omega
  ·rw[(h.kM k hM).1];omega
 ·exact h.log.off q (fun k hk=>hn _ (by rw[(h.kl k hk).1];omega) (by rw[(h.kl k hk).1];omega))
 ·exact own_offk h.app q (fun k hk=>hn _ (by rw[(h.ka k hk).1];omega) (by rw[(h.ka k hk).1];omega))
theorem DX.memU (h:DX w d m g n mx P U s B A):∀ k,k ∈ [m,g,B.c]→k ∈ U:=fun k hk=>by
 simp at hk
 rcases hk with hk | hk | hk
 ·rw[hk];exact h.km.2
 ·rw[hk];exact h.kg.2
 ·rw[hk];exact h.kc.2
theorem DX.lived (h:DX w d m g n mx P U s B A) {db vb vg ga k:Nat} (q:NL w w1 P db vb vg ga) (o:Off [d] w1 w2)
  (e:w2.heap[d]?=some (.cells (DVC P m mx B.cp B.lb db vb (dlife s k) (.slice (some ⟨ga,0,none⟩) P.i P.i)) 125 (0,0))) :
  ∃ U' B',Gr U w U' w2∧DX w2 d m g n mx P U' (dlife s k) B' A:=by
 obtain⟨q1,q2,q3,q4,q5,q6,q7,q8,q9,q10⟩:=q
 have hd:=h.dlt
 have hq:∀ k x,B.col k=x∧k ∈ U→(if k<w.heap.size then B.col k else if k=db then 3 else if k=vb∨k=vg then 4 else 6)=x∧k ∈ [db,vb,vg,ga] ++ U:=fun k x hk=>⟨by rw[if_pos (h.ltU k hk.2)];exact hk.1,List.mem_append.2 (.inr hk.2)⟩
 have hn:∀ k,B.col k≠0→k ∉ [d]:=fun k hk hm=>by simp at hm;rw[hm,h.kd.1]at hk;exact hk rfl
 have h1:=h.newd (Off.of_below (l:=[]) q4)
 refine⟨[db,vb,vg,ga] ++ U,{ B with db:=db,vb:=vb,vg:=vg,M:=[],av:=.slice (some ⟨ga,0,none⟩) P.i P.i,col:=fun k=>if k<w.heap.size then B.col k else if k=db then 3 else if k=vb∨k=vg then 4 else 6 },⟨?_,?_⟩,?_⟩
 ·exact (Off.of_below q4).trans (o.more (by simp[h.kd.2]))
 ·intro k hk
  rcases List.mem_append.1 hk with hk | hk
  ·simp at hk;right;omega
  ·exact .inl hk
 ·refine⟨e,h1.mem.off o (hn _ (by rw[h.km.1];omega)) (hn _ (by rw[h.kg.1];omega)),?_,q1.off o (by simp;omega),q2.off o (by simp;omega) (by simp;omega) (by simp),h1.log.off o (fun k hk=>hn _ (by rw[(h.kl k hk).1];omega)),?_,fun _ _=>by show 0<256;omega,?_,hq _ _ h.kd,hq _ _ h.km,hq _ _ h.kg,hq _ _ h.kc,?_,?_,?_,fun k hk=>(by simp at hk),fun k hk=>hq _ _ (h.kl k hk),?_,h.pok,h.n10,h.mx0,h.mxl⟩
  ·intro hs
   obtain⟨c1,c2,c3⟩:=h1.cel hs
   exact⟨c1,c2.off o (hn _ (by rw[h.kc.1];omega)),c3⟩
  ·refine own_offk (own_base q3 (Nat.zero_le _)) o (fun k hk=>?_)
   cases hk
   simp;omega
  ·intro k hk
   have so:=o.size
   rcases List.mem_append.1 hk with hk | hk
   ·simp at hk;omega
   ·exact Nat.lt_of_lt_of_le (h1.ltU k hk) so
  ·exact⟨by show (if db<w.heap.size then _ else if db=db then 3 else _)=3;rw[if_neg (by omega),if_pos rfl],by simp⟩
  ·exact⟨by show (if vb<w.heap.size then _ else if vb=db then 3 else if vb=vb∨vb=vg then 4 else 6)=4;rw[if_neg (by omega),if_neg (by omega),if_pos (.inl rfl)],by simp⟩
  ·exact⟨by show (if vg<w.heap.size then _ else if vg=db then 3 else if vg=vb∨vg=vg then 4 else 6)=4;rw[if_neg (by omega),if_neg (by omega),if_pos (.inr rfl)],by simp⟩
  ·intro k hk
   cases hk
   exact⟨by show (if ga<w.heap.size then _ else if ga=db then 3 else if ga=vb∨ga=vg then 4 else 6)=6;rw[if_neg (by omega),if_neg (by omega),if_neg (by omega)],by simp⟩
end
theorem nineAt (b:Nat) (w:World) (x0 x1 x2 x3 x4 x5 x6 x7 x8:Value) :
  Off [b] w (((((((((w.setCell ⟨b,9,none⟩ x0).setCell ⟨b,10,none⟩ x1).setCell ⟨b,11,none⟩ x2).setCell ⟨b,12,none⟩ x3).setCell ⟨b,13,none⟩ x4).setCell ⟨b,14,none⟩ x5).setCell ⟨b,15,none⟩ x6).setCell ⟨b,16,none⟩ x7).setCell ⟨b,17,none⟩ x8):=
 ((((((((Off.setCell b 9 w x0).trans (Off.setCell b 10 _ x1)).trans (Off.setCell b 11 _ x2)).trans (Off.setCell b 12 _ x3)).trans (Off.setCell b 13 _ x4)).trans (Off.setCell b 14 _ x5)).trans (Off.setCell b 15 _ x6)).trans (Off.setCell b 16 _ x7)).trans (Off.setCell b 17 _ x8)
theorem nineHeap {w:World} {d m mx lb db vb db' vb':Nat} {P:Pm} {cp av av':Value} {s:Sd} (e:w.heap[d]?=some (.cells (DVC P m mx cp lb db vb s av) 125 (0,0))) :
  (((((((((w.setCell ⟨d,9,none⟩ (.pointer (some ⟨db',0,none⟩))).setCell ⟨d,10,none⟩ (.pointer (some ⟨vb',0,none⟩))).setCell ⟨d,11,none⟩ (.int .i64 1)).setCell ⟨d,12,none⟩ (.int .u32 0)).setCell ⟨d,13,none⟩ (.int .u32 0)).setCell ⟨d,14,none⟩ (.int .u32 0)).setCell ⟨d,15,none⟩ (.int .i64 0)).setCell ⟨d,16,none⟩ av').setCell ⟨d,17,none⟩ (.bool false)).heap[d]?=some (.cells (DVC P m mx cp lb db' vb' (dlife s 1) av') 125 (0,0)):=by
 have e0:(w.setCell ⟨d,9,none⟩ (.pointer (some ⟨db',0,none⟩))).heap[d]?=some (.cells (DVC P m mx cp lb db' vb s av) 125 (0,0)):=heap_setCell_same _ _ _ _ _ _ e
 have e1:((w.setCell ⟨d,9,none⟩ (.pointer (some ⟨db',0,none⟩))).setCell ⟨d,10,none⟩ (.pointer (some ⟨vb',0,none⟩))).heap[d]?=some (.cells (DVC P m mx cp lb db' vb' s av) 125 (0,0)):=heap_setCell_same _ _ _ _ _ _ e0
 have e2:(((w.setCell ⟨d,9,none⟩ (.pointer (some ⟨db',0,none⟩))).setCell ⟨d,10,none⟩ (.pointer (some ⟨vb',0,none⟩))).setCell ⟨d,11,none⟩ (.int .i64 1)).heap[d]?=some (.cells (DVC P m mx cp lb db' vb' { s with st:=1 } av) 125 (0,0)):=heap_setCell_same _ _ _ _ _ _ e1
 have e3:((((w.setCell ⟨d,9,none⟩ (.pointer (some ⟨db',0,none⟩))).setCell ⟨d,10,none⟩ (.pointer (some ⟨vb',0,none⟩))).setCell ⟨d,11,none⟩ (.int .i64 1)).setCell ⟨d,12,none⟩ (.int .u32 0)).heap[d]?=some (.cells (DVC P m mx cp lb db' vb' { s with st:=1,ss:=0 } av) 125 (0,0)):=heap_setCell_same _ _ _ _ _ _ e2
 have e4:(((((w.setCell ⟨d,9,none⟩ (.pointer (some ⟨db',0,none⟩))).setCell ⟨d,10,none⟩ (.pointer (some ⟨vb',0,none⟩))).setCell ⟨d,11,none⟩ (.int .i64 1)).setCell ⟨d,12,none⟩ (.int .u32 0)).setCell ⟨d,13,none⟩ (.int .u32 0)).heap[d]?=some (.cells (DVC P m mx cp lb db' vb' { s with st:=1,ss:=0,nm:=0 } av) 125 (0,0)):=heap_setCell_same _ _ _ _ _ _ e3
 have e5:((((((w.setCell ⟨d,9,none⟩ (.pointer (some ⟨db',0,none⟩))).setCell ⟨d,10,none⟩ (.pointer (some ⟨vb',0,none⟩))).setCell ⟨d,11,none⟩ (.int .i64 1)).setCell ⟨d,12,none⟩ (.int .u32 0)).setCell ⟨d,13,none⟩ (.int .u32 0)).setCell ⟨d,14,none⟩ (.int .u32 0)).heap[d]?=some (.cells (DVC P m mx cp lb db' vb' { s with st:=1,ss:=0,nm:=0,sn:=0 } av) 125 (0,0)):=heap_setCell_same _ _ _ _ _ _ e4
 have e6:(((((((w.setCell ⟨d,9,none⟩ (.pointer (some ⟨db',0,none⟩))).setCell ⟨d,10,none⟩ (.pointer (some ⟨vb',0,none⟩))).setCell ⟨d,11,none⟩ (.int .i64 1)).setCell ⟨d,12,none⟩ (.int .u32 0)).setCell ⟨d,13,none⟩ (.int .u32 0)).setCell ⟨d,14,none⟩ (.int .u32 0)).setCell ⟨d,15,none⟩ (.int .i64 0)).heap[d]?=some (.cells (DVC P m mx cp lb db' vb' { s with st:=1,ss:=0,nm:=0,sn:=0,od:=0 } av) 125 (0,0)):=heap_setCell_same _ _ _ _ _ _ e5
 have e7:((((((((w.setCell ⟨d,9,none⟩ (.pointer (some ⟨db',0,none⟩))).setCell ⟨d,10,none⟩ (.pointer (some ⟨vb',0,none⟩))).setCell ⟨d,11,none⟩ (.int .i64 1)).setCell ⟨d,12,none⟩ (.int .u32 0)).setCell ⟨d,13,none⟩ (.int .u32 0)).setCell ⟨d,14,none⟩ (.int .u32 0)).setCell ⟨d,15,none⟩ (.int .i64 0)).setCell ⟨d,16,none⟩ av').heap[d]?=some (.cells (DVC P m mx cp lb db' vb' { s with st:=1,ss:=0,nm:=0,sn:=0,od:=0 } av') 125 (0,0)):=heap_setCell_same _ _ _ _ _ _ e6
 have e8:(((((((((w.setCell ⟨d,9,none⟩ (.pointer (some ⟨db',0,none⟩))).setCell ⟨d,10,none⟩ (.pointer (some ⟨vb',0,none⟩))).setCell ⟨d,11,none⟩ (.int .i64 1)).setCell ⟨d,12,none⟩ (.int .u32 0)).setCell ⟨d,13,none⟩ (.int .u32 0)).setCell ⟨d,14,none⟩ (.int .u32 0)).setCell ⟨d,15,none⟩ (.int .i64 0)).setCell ⟨d,16,none⟩ av').setCell ⟨d,17,none⟩ (.bool false)).heap[d]?=some (.cells (DVC P m mx cp lb db' vb' { s with st:=1,ss:=0,nm:=0,sn:=0,od:=0,hd:=false } av') 125 (0,0)):=heap_setCell_same _ _ _ _ _ _ e7
 exact e8
set_option maxHeartbeats 3200000 in
theorem goDown_any (d m g n mx:Nat) (P:Pm) (U:List Nat) (s:Sd) (B:Bk) (A:Prop) (w:World) (h:DX w d m g n mx P U s B A) :
  Calls Tryz.prog 225 #[.pointer (some ⟨d,0,none⟩)] w fun e w'=>e=.returned (.tuple #[])∧Hid (∃ U',Gr U w U' w'∧DV w' d m g n mx P U' (dlife s 6)):=by
 obtain⟨c0,c1,c2,c3,c4,_⟩:=h.cells
 have hL:=newLife_any P h.pok w
 have H:Hid (_):=h
 clear h
 go_enter Tryz.func225,Tryz.ntmps225
 go_wp2_with (go_at_call 62;refine hL.mono ?_;rintro e w1 ⟨db,vb,vg,ga,rfl,h1⟩;obtain⟨_,_,_,_,_,_,_,_,_,y9,y10,y11,y12,y13,y14,y15,y16,y17⟩:=(H.out.newd (Off.of_below h1.out.bel)).cells;have fz:=(H.out.newd (Off.of_below h1.out.bel)).fz;have f9:=fz 9;have f10:=fz 10;have f11:=fz 11;have f12:=fz 12;have f13:=fz 13;have f14:=fz 14;have f15:=fz 15;have f16:=fz 16;have f17:=fz 17;clear fz c0 c1 c2 c3 c4 hL)
 go_end0
 have e1:=(H.out.newd (Off.of_below h1.out.bel)).dev
 have o:=(nineAt d w1 (.pointer (some ⟨db,0,none⟩)) (.pointer (some ⟨vb,0,none⟩)) (.int .i64 1) (.int .u32 0) (.int .u32 0) (.int .u32 0) (.int .i64 0) (.slice (some ⟨ga,0,none⟩) P.i P.i) (.bool false)).trans (Off.setCell d 11 _ (.int .i64 6))
 have e2:=nineHeap (db':=db) (vb':=vb) (av':=.slice (some ⟨ga,0,none⟩) P.i P.i) e1
 have e3:(World.setCell _ ⟨d,11,none⟩ (.int .i64 6)).heap[d]?=some (.cells (DVC P m mx B.cp B.lb db vb (dlife s 6) (.slice (some ⟨ga,0,none⟩) P.i P.i)) 125 (0,0)):=heap_setCell_same _ _ _ _ _ _ e2
 obtain⟨U',B',g2,x2⟩:=H.out.lived (k:=6) h1.out o e3
 exact⟨rfl,U',g2,B',{ x2 with cel:=fun hs=>absurd rfl hs }⟩
end Go.Proofs.YthbogkaoidbpgaaGreat
namespace Go.Proofs.YthbogkaoidbpgaaGreat
set_option maxRecDepth 100000
open Go.RowKit
theorem nx_live {mx n:Nat} {s:Ms} (hn:10≤n) (ho:s.off=false) (hl:0≤s.l) :
  ((nx mx n s.bs false s).e=70)∨(((nx mx n s.bs false s).e=80∨(nx mx n s.bs false s).e=0)∧(nx mx n s.bs false s).c=false∧(nx mx n s.bs false s).z=(nx mx n s.bs false s).s.bs∧(nx mx n s.bs false s).s.off=false):=by
 unfold nx
 rw[if_neg (by simp[ho])]
 by_cases hm:mx≤vz s.bs
 ·rw[if_pos hm]
  exact .inr ⟨.inl rfl,rfl,rfl,ho⟩
 ·rw[if_neg hm]
  by_cases hq:sqE n (six (tg s.bs) (vz s.bs+1)) s=0
  ·rw[if_pos hq]
   refine .inr ⟨.inr rfl,rfl,rfl,?_⟩
   rcases sq_all n (six (tg s.bs) (vz s.bs+1)) s (fun x hx=>(six_in _ _ n (tg_lt _) hn x hx).1) ho hl with ⟨_,h2,_⟩ | ⟨h1,_⟩
   ·rw[h2]
   ·omega
  ·rw[if_neg hq]
   exact .inl rfl
set_option maxHeartbeats 3200000 in
theorem begin_any (d m g n mx:Nat) (P:Pm) (U:List Nat) (s:Sd) (w:World) (h:DV w d m g n mx P U s) (hs:s.st≠6) (hL:s.L.length<900000) (ht:s.ms.t<9223372036854774000) :
  Calls Tryz.prog 195 #[.pointer (some ⟨d,0,none⟩)] w fun e w'=>∃ v,e=.returned (.tuple #[v,.int .i64 (dbegin P mx n s).e])∧Hid (Out U w w' d m g n mx P (dbegin P mx n s).s (dbegin P mx n s).f v):=by
 obtain⟨B,h⟩:=h
 obtain⟨hcp,hC,ho⟩:=h.cel hs
 have c7:=h.cells.2.2.2.2.2.2.2.1
 rw[hcp]at c7
 have hX:=pnext B.c m g n mx s.ms.bs false s.ms w h.mem hC (fun i hi=>h.mem.byte i (by have:=h.n10;omega)) (fun _=>rfl) (fun e=>by have:=h.kc.1;rw[e,h.km.1]at this;omega) (fun e=>by have:=h.kc.1;rw[e,h.kg.1]at this;omega) h.n10 h.mxl ht
 have hv:=nx_live (mx:=mx) h.n10 ho h.mem.l0
 have HE:Hid (dbegin P mx n s=_):=rfl
 unfold dbegin at HE ⊢
 generalize nx mx n s.ms.bs false s.ms=x at *
 have HH:Hid (_):=And.intro h hcp
 have HL:Hid (_):=And.intro hL hs
 clear h hC ho hcp hL ht HE
 rcases hv with he | ⟨he,hc,hz,hoff⟩
 ·rw[he,if_neg (by omega),if_pos (by omega)]
  rw[he]at hX
  go_enter Tryz.func195,Tryz.ntmps195
  go_wp2_with (go_at_call 224;refine hX.mono ?_;rintro e w2 ⟨rfl,o2,m2,k2⟩)
  have x2:=HH.out.1.memd o2 m2 (A':=False) (fun h=>h.elim)
  have hD:=goDown_any d m g n mx P U _ B False w2 x2
  have H2:Hid (_):=Gr.same o2 HH.out.1.memU
  clear hX HH HL o2 m2 k2 x2 c7
  go_wp2_with (go_at_call 225;refine hD.mono ?_;rintro e w3 ⟨rfl,h3⟩)
  go_ret2
  obtain⟨U3,g3,x3⟩:=h3.out
  exact⟨_,rfl,Out.none_ (H2.out.trans g3) x3⟩
 ·have hst:(dlatch { s with ms:=x.s } 80).st=s.st:=by unfold dlatch;split <;> rfl
  rcases he with he | he
  ·rw[he,if_pos rfl]
   rw[he]at hX
   go_enter Tryz.func195,Tryz.ntmps195
   go_wp2_with (go_at_call 224;refine hX.mono ?_;rintro e w2 ⟨rfl,o2,m2,k2⟩)
   rw[hc,hz]at k2
   have x2:=HH.out.1.memd o2 m2 (A':=s.st≠6) (fun _=>⟨HH.out.2,k2,hoff⟩)
   have hT:=dvlatch_any d m g n mx P U { s with ms:=x.s } 80 w2 ⟨B,x2⟩ (by omega) (by decide) HL.out.1
   have H2:Hid (_):=Gr.same o2 HH.out.1.memU
   have HS:Hid (_):=And.intro HL.out.2 hst
   clear hX HH HL o2 m2 k2 x2 c7 hst
   go_wp2_with (go_at_call 42;refine hT.mono ?_;rintro e w3 ⟨rfl,h3⟩)
   obtain⟨U3,g3,x3⟩:=h3.out
   have hV:=leave_any d m g n mx P U3 _ 5 w3 x3 (by rw[HS.out.2];exact HS.out.1)
   have H3:Hid (_):=H2.out.trans g3
   clear hT h3 g3 x3 H2 HS
   go_wp2_with (go_at_call 223;refine hV.mono ?_;rintro e w4 ⟨rfl,h4⟩)
   obtain⟨U4,g4,x4⟩:=h4.out
   have hN:=none_any d m g n mx P U4 _ w4 x4
   have H4:Hid (_):=And.intro (H3.out.trans g4) x4
   clear hV h4 g4 x4 H3
   go_wp2_with (go_at_call 194;refine hN.mono ?_;rintro e w5 ⟨v,rfl,h5⟩)
   go_ret2
   exact⟨v,rfl,Out.mk H4.out.1 H4.out.2 h5.out.1 h5.out.2⟩
  ·rw[he,if_neg (by omega),if_neg (by omega)]
   rw[he]at hX
   go_enter Tryz.func195,Tryz.ntmps195
   go_wp2_with (go_at_call 224;refine hX.mono ?_;rintro e w2 ⟨rfl,o2,m2,k2⟩)
   rw[hc,hz]at k2
   have x2:=HH.out.1.memd o2 m2 (A':=s.st≠6) (fun _=>⟨HH.out.2,k2,hoff⟩)
   have hV:=leave_any d m g n mx P U { s with ms:=x.s } 2 w2 ⟨B,x2⟩ HL.out.2
   have H2:Hid (_):=Gr.same o2 HH.out.1.memU
   clear hX HH HL o2 m2 k2 x2 c7 hst
   go_wp2_with (go_at_call 223;refine hV.mono ?_;rintro e w4 ⟨rfl,h4⟩;obtain⟨U4,g4,B4,x4⟩:=h4.out;have y12:=x4.cells.2.2.2.2.2.2.2.2.2.2.2.2.1;have f12:=x4.fz 12;have H4:Hid (_):=And.intro g4 x4;clear hV h4 g4 x4)
   have x4:=H4.out.2
   have o5:=Off.setCell d 12 w4 (.int .u32 (x.v:Nat))
   have x5:=x4.own o5 (s':={ dleave { s with ms:=x.s } 2 with ss:=x.v }) (heap_setCell_same _ _ _ _ _ _ x4.dev) rfl rfl rfl rfl rfl id
   have hN:=offer_any d m g n mx P U4 _ _ ⟨B4,x5⟩
   have H5:Hid (_):=And.intro ((H2.out.trans H4.out.1).trans (Gr.same o5 (by simp[x4.kd.2]))) x5
   clear x4 H2 H4 o5 x5
   go_wp2_with (go_at_call 193;refine hN.mono ?_;rintro e w5 ⟨v,rfl,h5⟩)
   go_ret2
   exact⟨v,rfl,Out.mk H5.out.1 ⟨B4,H5.out.2⟩ h5.out.1 h5.out.2⟩
set_option maxHeartbeats 3200000 in
theorem wish_any (d m g n mx:Nat) (P:Pm) (U:List Nat) (s:Sd) (a:Option Addr) (len cap:Nat) (bs:Nat→Nat) (w:World) (h:DV w d m g n mx P U s) (hr:Row8 w a len cap bs) (hs:s.st≠6) (ho:s.od<4) (hL:s.L.length<800000) (ht:s.ms.t<9223372036854774000) :
  Calls Tryz.prog 144 #[.pointer (some ⟨d,0,none⟩),.slice a len cap] w fun e w'=>∃ v,e=.returned (.tuple #[v,.int .i64 (if dsigned P len bs=true then dwish P mx n s else drefuse P s 91).e])∧Hid (Out U w w' d m g n mx P (if dsigned P len bs=true then dwish P mx n s else drefuse P s 91).s (if dsigned P len bs=true then dwish P mx n s else drefuse P s 91).f v):=by
 have hS:=signed_any d m g n mx P U s a len cap bs w h hr
 have H:Hid (_):=And.intro h (And.intro hs (And.intro ho (And.intro hL ht)))
 clear h hr hs ho hL ht
 by_cases hg:dsigned P len bs=true
 ·rw[if_pos hg]
  rw[hg]at hS
  unfold dwish
  by_cases h2:(dodd s).st=2
  ·rw[if_pos h2]
   go_enter Tryz.func144,Tryz.ntmps144
   go_wp2_with (go_at_call 191;refine hS.mono ?_;rintro e w2 ⟨rfl,b2⟩)
   obtain⟨h,hs,ho,hL,ht⟩:=H.out
   have h2:=DV.below h b2
   have hC:=countOdd_any d m g n mx P U s w2 h2 hs ho (by omega)
   have H2:Hid (_):=And.intro (Gr.below (U:=U) b2) H.out
   clear hS H b2 h hs ho hL ht h2
   go_wp2_with (go_at_call 192;refine hC.mono ?_;rintro e w3 ⟨rfl,h3⟩;obtain⟨U3,g3,B3,x3⟩:=h3.out;have c11:=x3.cells.2.2.2.2.2.2.2.2.2.2.2.1;have H3:Hid (_):=And.intro (H2.out.1.trans g3) (And.intro x3 H2.out.2);clear hC h3 g3 x3 H2;rw[h2]at c11)
   have hN:=offer_any d m g n mx P U3 (dodd s) w3 ⟨B3,H3.out.2.1⟩
   go_wp2_with (go_at_call 193;refine hN.mono ?_;rintro e w5 ⟨v,rfl,h5⟩)
   go_ret2
   exact⟨v,rfl,Out.mk H3.out.1 ⟨B3,H3.out.2.1⟩ h5.out.1 h5.out.2⟩
  ·rw[if_neg h2]
   have e2:(((dodd s).st:Int) == 2)=false:=by simp;omega
   by_cases h4:(dodd s).st=3∨(dodd s).st=4
   ·rw[if_pos h4]
    rcases h4 with h4 | h4 <;> clear h2 e2
    all_goals
     go_enter Tryz.func144,Tryz.ntmps144
     go_wp2_with (go_at_call 191;refine hS.mono ?_;rintro e w2 ⟨rfl,b2⟩)
     obtain⟨h,hs,ho,hL,ht⟩:=H.out
     have h2:=DV.below h b2
     have hC:=countOdd_any d m g n mx P U s w2 h2 hs ho (by omega)
     have H2:Hid (_):=And.intro (Gr.below (U:=U) b2) H.out
     clear hS H b2 h hs ho hL ht h2
     go_wp2_with (go_at_call 192;refine hC.mono ?_;rintro e w3 ⟨rfl,h3⟩;obtain⟨U3,g3,B3,x3⟩:=h3.out;have c11:=x3.cells.2.2.2.2.2.2.2.2.2.2.2.1;have H3:Hid (_):=And.intro (H2.out.1.trans g3) (And.intro x3 H2.out.2);clear hC h3 g3 x3 H2;rw[h4]at c11)
     have hN:=none_any d m g n mx P U3 (dodd s) w3 ⟨B3,H3.out.2.1⟩
     go_wp2_with (go_at_call 194;refine hN.mono ?_;rintro e w5 ⟨v,rfl,h5⟩)
     go_ret2
     exact⟨v,rfl,Out.mk H3.out.1 ⟨B3,H3.out.2.1⟩ h5.out.1 h5.out.2⟩
   ·rw[if_neg h4]
    have e3:(((dodd s).st:Int) == 3)=false:=by simp;omega
    have e4:(((dodd s).st:Int) == 4)=false:=by simp;omega
    clear h2 h4
    go_enter Tryz.func144,Tryz.ntmps144
    go_wp2_with (go_at_call 191;refine hS.mono ?_;rintro e w2 ⟨rfl,b2⟩)
    obtain⟨h,hs,ho,hL,ht⟩:=H.out
    have h2:=DV.below h b2
    have hC:=countOdd_any d m g n mx P U s w2 h2 hs ho (by omega)
    have H2:Hid (_):=And.intro (Gr.below (U:=U) b2) H.out
    clear hS H b2 h hs ho hL ht h2
    go_wp2_with (go_at_call 192;refine hC.mono ?_;rintro e w3 ⟨rfl,h3⟩;obtain⟨U3,g3,B3,x3⟩:=h3.out;have c11:=x3.cells.2.2.2.2.2.2.2.2.2.2.2.1;have H3:Hid (_):=And.intro (H2.out.1.trans g3) (And.intro x3 H2.out.2);clear hC h3 g3 x3 H2)
    have hB:=begin_any d m g n mx P U3 (dodd s) w3 ⟨B3,H3.out.2.1⟩ (dodd_up H3.out.2.2.2.1) (by have:=dodd_len s;have:=H3.out.2.2.2.2.2.1;omega) (by rw[dodd_ms];exact H3.out.2.2.2.2.2.2)
    go_wp2_with (go_at_call 195;refine hB.mono ?_;rintro e w5 ⟨v,rfl,h5⟩)
    go_ret2
    exact⟨v,rfl,Out.pre H3.out.1 h5.out⟩
 ·have hg':dsigned P len bs=false:=by simpa using hg
  rw[if_neg hg]
  rw[hg']at hS
  go_enter Tryz.func144,Tryz.ntmps144
  go_wp2_with (go_at_call 191;refine hS.mono ?_;rintro e w2 ⟨rfl,b2⟩)
  obtain⟨h,hs,ho,hL,ht⟩:=H.out
  have h2:=DV.below h b2
  have hR:=refuse_any d m g n mx P U s 91 w2 h2 hs ho (by omega)
  have H2:Hid (_):=Gr.below (U:=U) b2
  clear hS H b2 h hs ho hL ht h2
  go_wp2_with (go_at_call 149;refine hR.mono ?_;rintro e w3 ⟨v,rfl,h3⟩)
  go_ret2
  exact⟨v,rfl,Out.pre H2.out h3.out⟩
theorem Fr.lt {w:World} {M:Nat} {v:Value} {f:Fm} (h:Fr w M v f) (k:Nat) (hk:v.ownBlock=some k):k<w.heap.size:=by
 rcases h.2 with hn | ⟨g',cap',cur',rfl,hg',hh,_⟩
 ·rw[hn.1]at hk;cases hk
 ·cases hk;exact (Array.getElem?_eq_some_iff.1 hh).1
theorem Out.next {U U1 U2:List Nat} {w w1 w2:World} {d m g n mx:Nat} {P:Pm} {s:Sd} {f:Fm} {v:Value} (g1:Gr U w U1 w1) (hf:Fr w1 w.heap.size v f) (hk:∀ k,v.ownBlock=some k→k ∉ U1) (g2:Gr U1 w1 U2 w2) (x2:DV w2 d m g n mx P U2 s):Out U w w2 d m g n mx P s f v:=
 ⟨U2,g1.trans g2,x2,own_offk hf g2.off hk,fun k e=>g2.out (hf.lt k e) (hk k e)⟩
set_option maxHeartbeats 3200000 in
theorem echo_any (d m g n mx:Nat) (P:Pm) (U:List Nat) (s:Sd) (a:Option Addr) (len cap:Nat) (bs:Nat→Nat) (w:World) (h:DV w d m g n mx P U s) (hr:Row8 w a len cap bs) (hs:s.st≠6) (ho:s.od<4) (hL:s.L.length<800000) :
  Calls Tryz.prog 145 #[.pointer (some ⟨d,0,none⟩),.slice a len cap] w fun e w'=>∃ v,e=.returned (.tuple #[v,.int .i64 (if dsigned P len bs=true then (⟨dechoS s,dsay P (dechoS s) 18 0 0 0 (fun _=>0),0⟩:Rs) else drefuse P s 91).e])∧Hid (Out U w w' d m g n mx P (if dsigned P len bs=true then (⟨dechoS s,dsay P (dechoS s) 18 0 0 0 (fun _=>0),0⟩:Rs) else drefuse P s 91).s (if dsigned P len bs=true then (⟨dechoS s,dsay P (dechoS s) 18 0 0 0 (fun _=>0),0⟩:Rs) else drefuse P s 91).f v):=by
 have hS:=signed_any d m g n mx P U s a len cap bs w h hr
 have H:Hid (_):=And.intro h (And.intro hs (And.intro ho hL))
 clear h hr hs ho hL
 by_cases hg:dsigned P len bs=true
 ·rw[if_pos hg]
  rw[hg]at hS
  unfold dechoS
  by_cases h2:s.st=2
  ·rw[if_pos h2]
   go_enter Tryz.func145,Tryz.ntmps145
   go_wp2_with (go_at_call 191;refine hS.mono ?_;rintro e w2 ⟨rfl,b2⟩;obtain⟨B,h2'⟩:=DV.below H.out.1 b2;have c11:=h2'.cells.2.2.2.2.2.2.2.2.2.2.2.1;rw[h2]at c11;have f11:=h2'.fz 11;have H2:Hid (_):=And.intro (Gr.below (U:=U) b2) h2';clear h2' b2 hS)
   have x2:=H2.out.2
   have o3:=Off.setCell d 11 w2 (.int .i64 3)
   have x3:=x2.own o3 (A':=({ s with st:=3 }:Sd).st≠6) (s':={ s with st:=3 }) (heap_setCell_same _ _ _ _ _ _ x2.dev) rfl rfl rfl rfl rfl (fun _=>H.out.2.1)
   have hO:=bringOn_any d m g n mx P U _ _ ⟨B,x3⟩
   have H3:Hid (_):=H2.out.1.trans (Gr.same o3 (by simp[x2.kd.2]))
   clear x2 x3 o3 H2 c11 f11
   go_wp2_with (go_at_call 196;refine hO.mono ?_;rintro e w4 ⟨rfl,h4⟩)
   obtain⟨U4,g4,x4⟩:=h4.out
   have hY:=say_any d m g n mx P U4 _ 18 0 0 none 0 0 (fun _=>0) w4 x4 (row_nilX _ _)
   have H4:Hid (_):=And.intro (H3.out.trans g4) x4
   clear hO h4 g4 x4 H3
   go_wp2_with (go_at_call 197;refine hY.mono ?_;rintro e w5 ⟨v,rfl,h5⟩)
   go_ret2
   exact⟨v,rfl,Out.mk H4.out.1 H4.out.2 h5.out.1 h5.out.2⟩
  ·rw[if_neg h2]
   have e2:((s.st:Int) == 2)=false:=by simp;omega
   clear h2
   go_enter Tryz.func145,Tryz.ntmps145
   go_wp2_with (go_at_call 191;refine hS.mono ?_;rintro e w2 ⟨rfl,b2⟩;obtain⟨B,h2'⟩:=DV.below H.out.1 b2;have c11:=h2'.cells.2.2.2.2.2.2.2.2.2.2.2.1;have H2:Hid (_):=And.intro (Gr.below (U:=U) b2) h2';clear h2' b2 hS)
   have hY:=say_any d m g n mx P U _ 18 0 0 none 0 0 (fun _=>0) w2 ⟨B,H2.out.2⟩ (row_nilX _ _)
   clear c11
   go_wp2_with (go_at_call 197;refine hY.mono ?_;rintro e w5 ⟨v,rfl,h5⟩)
   go_ret2
   exact⟨v,rfl,Out.mk H2.out.1 ⟨B,H2.out.2⟩ h5.out.1 h5.out.2⟩
 ·have hg':dsigned P len bs=false:=by simpa using hg
  rw[if_neg hg]
  rw[hg']at hS
  go_enter Tryz.func145,Tryz.ntmps145
  go_wp2_with (go_at_call 191;refine hS.mono ?_;rintro e w2 ⟨rfl,b2⟩)
  obtain⟨h,hs,ho,hL⟩:=H.out
  have h2:=DV.below h b2
  have hR:=refuse_any d m g n mx P U s 91 w2 h2 hs ho (by omega)
  have H2:Hid (_):=Gr.below (U:=U) b2
  clear hS H b2 h hs ho hL h2
  go_wp2_with (go_at_call 149;refine hR.mono ?_;rintro e w3 ⟨v,rfl,h3⟩)
  go_ret2
  exact⟨v,rfl,Out.pre H2.out h3.out⟩
set_option maxHeartbeats 3200000 in
theorem start_any (d m g n mx:Nat) (P:Pm) (U:List Nat) (s:Sd) (w:World) (h:DV w d m g n mx P U s) :
  Calls Tryz.prog 146 #[.pointer (some ⟨d,0,none⟩)] w fun e w'=>∃ v,e=.returned v∧Hid (Out U w w' d m g n mx P (dstartS s) (dsay P (dstartS s) 19 0 0 0 (fun _=>0)) v):=by
 obtain⟨B,h⟩:=h
 have c11:=h.cells.2.2.2.2.2.2.2.2.2.2.2.1
 have c10:=h.cells.2.2.2.2.2.2.2.2.2.2.1
 have f11:=h.fz 11
 unfold dstartS
 by_cases h3:s.st=3
 ·rw[if_pos h3]
  have o1:=Off.setCell d 11 w (.int .i64 4)
  have x1:=h.own o1 (A':=({ s with st:=4 }:Sd).st≠6) (s':={ s with st:=4 }) (heap_setCell_same _ _ _ _ _ _ h.dev) rfl rfl rfl rfl rfl (fun _=>by rw[h3];omega)
  have hV:=vrun_any _ _ _ _ _ true _ x1.val
  have H1:Hid (_):=And.intro (Gr.same (U:=U) o1 (by simp[h.kd.2])) x1
  rw[h3]at c11
  clear h o1 x1 h3
  go_enter Tryz.func146,Tryz.ntmps146
  go_wp2_with (go_at_call 125;refine hV.mono ?_;rintro e w2 ⟨rfl,h2⟩)
  obtain⟨U2,B2,g2,x2⟩:=H1.out.2.vals h2.out.1 h2.out.2
  have hO:=bringOn_any d m g n mx P U2 _ _ ⟨B2,x2⟩
  have H2:Hid (_):=H1.out.1.trans g2
  clear hV H1 h2 g2 x2 c10 c11 f11
  go_wp2_with (go_at_call 196;refine hO.mono ?_;rintro e w4 ⟨rfl,h4⟩)
  obtain⟨U4,g4,x4⟩:=h4.out
  have hY:=say_any d m g n mx P U4 _ 19 0 0 none 0 0 (fun _=>0) w4 x4 (row_nilX _ _)
  have H4:Hid (_):=And.intro (H2.out.trans g4) x4
  clear hO h4 g4 x4 H2
  go_wp2_with (go_at_call 197;refine hY.mono ?_;rintro e w5 ⟨v,rfl,h5⟩)
  go_ret
  exact⟨v,rfl,Out.mk H4.out.1 H4.out.2 h5.out.1 h5.out.2⟩
 ·rw[if_neg h3]
  have e3:((s.st:Int) == 3)=false:=by simp;omega
  have hY:=say_any d m g n mx P U _ 19 0 0 none 0 0 (fun _=>0) w ⟨B,h⟩ (row_nilX _ _)
  have H:Hid (_):=h
  clear h h3 c10 f11
  go_enter Tryz.func146,Tryz.ntmps146
  go_wp2_with (go_at_call 197;refine hY.mono ?_;rintro e w5 ⟨v,rfl,h5⟩)
  go_ret
  exact⟨v,rfl,Out.mk (Gr.refl _ _) ⟨B,H.out⟩ h5.out.1 h5.out.2⟩
set_option maxHeartbeats 3200000 in
theorem last_any (d m g n mx:Nat) (P:Pm) (U:List Nat) (s:Sd) (w:World) (h:DV w d m g n mx P U s) (hs:s.st≠6) (hL:s.L.length<800000) :
  Calls Tryz.prog 148 #[.pointer (some ⟨d,0,none⟩)] w fun e w'=>∃ v,e=.returned v∧Hid (Out U w w' d m g n mx P (dendS (dlastS P s)) (dsay P (dlastS P s) 21 P.n 0 0 (fun _=>0)) v):=by
 obtain⟨B,h⟩:=h
 have c4:=h.cells.2.2.2.2.1
 have c13:=h.cells.2.2.2.2.2.2.2.2.2.2.2.2.2.1
 have f13:=h.fz 13
 have o1:=Off.setCell d 13 w (.int .u32 (P.n:Nat))
 have x1:=h.own o1 (s':={ s with nm:=P.n }) (heap_setCell_same _ _ _ _ _ _ h.dev) rfl rfl rfl rfl rfl id
 have hO:=bringOn_any d m g n mx P U _ _ ⟨B,x1⟩
 have H1:Hid (_):=Gr.same (U:=U) o1 (by simp[h.kd.2])
 have HS:Hid (_):=And.intro hs hL
 clear h o1 x1 hs hL
 go_enter Tryz.func148,Tryz.ntmps148
 go_wp2_with (go_at_call 196;refine hO.mono ?_;rintro e w2 ⟨rfl,h2⟩)
 obtain⟨U2,g2,x2⟩:=h2.out
 have hT:=dvlatch_any d m g n mx P U2 _ 80 w2 x2 (by omega) (by decide) (by show s.L.length<900000;have:=HS.out.2;omega)
 have H2:Hid (_):=H1.out.trans g2
 clear hO h2 g2 x2 H1 c4 c13 f13
 go_wp2_with (go_at_call 42;refine hT.mono ?_;rintro e w3 ⟨rfl,h3⟩;obtain⟨U3,g3,B3,x3⟩:=h3.out;have y4:=x3.cells.2.2.2.2.1;have y14:=x3.cells.2.2.2.2.2.2.2.2.2.2.2.2.2.2.1;have f14:=x3.fz 14;have H3:Hid (_):=And.intro (H2.out.trans g3) x3;clear hT h3 g3 x3 H2)
 have x3:=H3.out.2
 have o4:=Off.setCell d 14 w3 (.int .u32 (P.n:Nat))
 have x4:=x3.own o4 (s':=dlastS P s) (heap_setCell_same _ _ _ _ _ _ x3.dev) rfl rfl rfl rfl rfl id
 have hY:=say_any d m g n mx P U3 _ 21 P.n 0 none 0 0 (fun _=>0) _ ⟨B3,x4⟩ (row_nilX _ _)
 have H4:Hid (_):=And.intro (H3.out.1.trans (Gr.same o4 (by simp[x3.kd.2]))) x4
 clear x3 x4 o4 H3
 go_wp2_with (go_at_call 197;refine hY.mono ?_;rintro e w5 ⟨v,rfl,h5⟩;obtain⟨U5,g5,⟨B5,x5⟩,f5,k5⟩:=Out.mk H4.out.1 ⟨B3,H4.out.2⟩ h5.out.1 h5.out.2;have y10:=x5.cells.2.2.2.2.2.2.2.2.2.2.1;have H5:Hid (_):=And.intro g5 (And.intro x5 (And.intro f5 k5));clear hY h5 x5 H4 y4 y14 f14 g5 f5 k5)
 have hV:=vrun_any _ _ _ _ _ false _ H5.out.2.1.val
 go_wp2_with (go_at_call 125;refine hV.mono ?_;rintro e w6 ⟨rfl,h6⟩;obtain⟨U6,B6,g6,x6⟩:=H5.out.2.1.vals h6.out.1 h6.out.2;have y11:=x6.cells.2.2.2.2.2.2.2.2.2.2.2.1;have f11:=x6.fz 11;have H6:Hid (_):=And.intro g6 x6;clear hV h6 g6 x6 y10)
 go_ret
 have x6:=H6.out.2
 have o7:=Off.setCell d 11 w6 (.int .i64 5)
 have x7:=x6.own o7 (A':=(dendS (dlastS P s)).st≠6) (s':=dendS (dlastS P s)) (heap_setCell_same _ _ _ _ _ _ x6.dev) rfl rfl rfl rfl rfl (fun _=>by show (dlatch (don { s with nm:=P.n }) 80).st≠6;rw[dlatch_st];exact HS.out.1)
 obtain⟨g5,x5,f5,k5⟩:=H5.out
 exact⟨v,rfl,Out.next g5 f5 k5 (H6.out.1.trans (Gr.same o7 (by simp[x6.kd.2]))) ⟨B6,x7⟩⟩
theorem Gr.far {U U':List Nat} {w w':World} (h:Gr U w U' w') {k:Nat} (hk:k<w.heap.size∧k ∉ U):(k<w'.heap.size∧k ∉ U')∧w'.heap[k]?=w.heap[k]?:=
 ⟨⟨Nat.lt_of_lt_of_le hk.1 h.off.size,h.out hk.1 hk.2⟩,h.off.block k hk.1 hk.2⟩
theorem bitHold (fl:Nat) (h:fl<16):(bits .and .i64 (fl:Int) 8 != 0)=decide (8≤fl):=by
 have:fl=0∨fl=1∨fl=2∨fl=3∨fl=4∨fl=5∨fl=6∨fl=7∨fl=8∨fl=9∨fl=10∨fl=11∨fl=12∨fl=13∨fl=14∨fl=15:=by omega
 rcases this with rfl | rfl | rfl | rfl | rfl | rfl | rfl | rfl | rfl | rfl | rfl | rfl | rfl | rfl | rfl | rfl <;> rfl
set_option maxHeartbeats 6400000 in
theorem data_any (d m g n mx:Nat) (P:Pm) (U:List Nat) (s:Sd) (k c ss num fl:Nat) (a:Option Addr) (cap:Nat) (bs:Nat→Nat) (w:World) (h:DV w d m g n mx P U s) (hr:Row8 w a P.o cap bs) (ha:∀ x,a=some x→x.block<w.heap.size∧x.block ∉ U) (hfl:fl<16) (hsn:s.sn+1<4294967296) :
  Calls Tryz.prog 147 #[.pointer (some ⟨d,0,none⟩),.agg #[.int .i64 (k:Nat),.int .u32 (c:Nat),.int .u32 (ss:Nat),.int .u32 (num:Nat),.int .i64 (fl:Nat),.slice a P.o cap]] w fun e w'=>∃ v,e=.returned v∧Hid (Out U w w' d m g n mx P (ddataS s num fl bs) (dsay P (ddataS s num fl bs) 20 (s.sn+1) (dflags (ddataS s num fl bs)) P.i s.ap) v):=by
 have hb0:Below w.heap.size w (w.alloc (.cells #[.int .i64 (k:Nat),.int .u32 (c:Nat),.int .u32 (ss:Nat),.int .u32 (num:Nat),.int .i64 (fl:Nat),.slice a P.o cap] 107)):=(Below.refl _ _).alloc (Nat.le_refl _) _
 have hx0:(w.alloc (.cells #[.int .i64 (k:Nat),.int .u32 (c:Nat),.int .u32 (ss:Nat),.int .u32 (num:Nat),.int .i64 (fl:Nat),.slice a P.o cap] 107)).heap[w.heap.size]?=some (.cells #[.int .i64 (k:Nat),.int .u32 (c:Nat),.int .u32 (ss:Nat),.int .u32 (num:Nat),.int .i64 (fl:Nat),.slice a P.o cap] 107 (0,0)):=heap_alloc_new w _
 have hs0:w.heap.size < (w.alloc (.cells #[.int .i64 (k:Nat),.int .u32 (c:Nat),.int .u32 (ss:Nat),.int .u32 (num:Nat),.int .i64 (fl:Nat),.slice a P.o cap] 107)).heap.size:=by simp
 have hU:=fun k hk=>DV.ult h k hk
 obtain⟨B,h0⟩:=DV.below h hb0
 have far0:w.heap.size < (w.alloc (.cells #[.int .i64 (k:Nat),.int .u32 (c:Nat),.int .u32 (ss:Nat),.int .u32 (num:Nat),.int .i64 (fl:Nat),.slice a P.o cap] 107)).heap.size∧w.heap.size ∉ U:=⟨hs0,fun hm=>by have:=hU _ hm;omega⟩
 have r0:=hr.below hb0
 have ra0:∀ x,a=some x→x.block < (w.alloc (.cells #[.int .i64 (k:Nat),.int .u32 (c:Nat),.int .u32 (ss:Nat),.int .u32 (num:Nat),.int .i64 (fl:Nat),.slice a P.o cap] 107)).heap.size∧x.block ∉ U:=fun x hx=>⟨by have:=(ha x hx).1;omega,(ha x hx).2⟩
 have c13:=h0.cells.2.2.2.2.2.2.2.2.2.2.2.2.2.1
 have f13:=h0.fz 13
 have o1:=Off.setCell d 13 (w.alloc (.cells #[.int .i64 (k:Nat),.int .u32 (c:Nat),.int .u32 (ss:Nat),.int .u32 (num:Nat),.int .i64 (fl:Nat),.slice a P.o cap] 107)) (.int .u32 (num:Nat))
 have x1:=h0.own o1 (s':={ s with nm:=num }) (heap_setCell_same _ _ _ _ _ _ h0.dev) rfl rfl rfl rfl rfl id
 have g1:=Gr.same (U:=U) o1 (by simp[h0.kd.2])
 have hO:=bringOn_any d m g n mx P U _ _ ⟨B,x1⟩
 have H1:Hid (_):=And.intro ((Gr.below (U:=U) hb0).trans g1) (And.intro g1 (And.intro far0 (And.intro hx0 (And.intro r0 ra0))))
 have HB:=bitHold fl hfl
 have hdn:¬ d=w.heap.size:=fun e=>far0.2 (by rw[← e];exact h0.kd.2)
 have hdn':¬ w.heap.size=d:=fun e=>hdn e.symm
 clear h hb0 hx0 hs0 hU h0 far0 r0 ra0 o1 x1 g1 hr ha hfl
 go_enter Tryz.func147,Tryz.ntmps147
 go_wp2_with (go_at_call 196;refine hO.mono ?_;rintro e w2 ⟨rfl,h2⟩)
 obtain⟨U2,g2,B2,x2⟩:=h2.out
 obtain⟨g01,g1,far0,hx0,r0,ra0⟩:=H1.out
 have G2:=g1.trans g2
 have far2:=G2.far far0
 have e2:=far2.2.trans hx0
 have q4:w2.cell? ⟨w.heap.size,4,none⟩=some (.int .i64 (fl:Nat)):=cell_of_row w2 _ 4 _ _ _ e2
 have y10:=x2.cells.2.2.2.2.2.2.2.2.2.2.1
 have r2:Row8 w2 a P.o cap bs:=r0.off G2.off (fun x hx=>(ra0 x hx).2)
 have ra2:∀ x,a=some x→x.block<w2.heap.size∧x.block ∉ U2:=fun x hx=>(G2.far (ra0 x hx)).1
 have x2d:=x2.newd (Off.drew [] w2)
 have hV:=vhold_any _ _ _ _ _ (bits .and .i64 (fl:Int) 8 != 0) _ x2d.val
 have H2:Hid (_):=And.intro (g01.trans g2) (And.intro x2d (And.intro far2.1 (And.intro e2 (And.intro r2 (And.intro ra2 HB)))))
 clear hO h2 g2 x2 g01 g1 far0 hx0 r0 ra0 G2 far2 e2 r2 ra2 x2d H1 c13 f13 HB
 go_region_with (go_at_call 127;refine hV.mono ?_;rintro e w3 ⟨rfl,h3⟩)
 all_goals
  obtain⟨g2,x2d,far2,e2,r2,ra2,HB⟩:=H2.out
  obtain⟨U3,B3,g3',x3⟩:=x2d.vals h3.out.1 h3.out.2
  have g3:Gr U2 w2 U3 w3:=Gr.trans (Gr.same (Off.drew [] w2) (by simp)) g3'
  have far3:=g3.far far2
  have e3:=far3.2.trans e2
  have q5:w3.cell? ⟨w.heap.size,5,none⟩=some (.slice a P.o cap):=cell_of_row w3 _ 5 _ _ _ e3
  have z10:=x3.cells.2.2.2.2.2.2.2.2.2.2.1
  have r3:Row8 w3 a P.o cap bs:=r2.off g3.off (fun x hx=>(ra2 x hx).2)
  have x3d:=x3.newd (Off.drew [] w3)
  have hT:=vtake_any _ _ _ _ _ a P.o cap bs _ x3d.val (r3.below (Below.drew (Below.refl _ _)))
  have H3:Hid (_):=And.intro (g2.trans g3) (And.intro x3d HB)
  clear hV H2 h3 g2 x2d far2 e2 r2 ra2 g3' x3 g3 far3 e3 r3 x3d q4 y10 HB
  go_wp2_with fail
  go_region_with (go_at_call 128;refine hT.mono ?_;rintro e w4 ⟨rfl,h4⟩)
  all_goals
   obtain⟨M4,o4,v4,hM4⟩:=h4.out
   rw[if_pos trivial]at v4
   obtain⟨g3,x3d,HB⟩:=H3.out
   have hlt4:∀ k,k ∈ M4→k<w4.heap.size:=fun k hk=>by
    rcases hM4 k hk with h | h
    ·exact Nat.lt_of_lt_of_le (x3d.ltU k (x3d.kM k h).2) o4.size
    ·exact h.2
   obtain⟨U4,B4,g4',x4⟩:=x3d.vald o4 v4 (fun k hk=>(hM4 k hk).imp id And.left) hlt4
   have g4:Gr U w U4 w4:=g3.trans (Gr.trans (Gr.same (Off.drew [] w3) (by simp)) g4')
   obtain⟨sn1,hs1⟩:∃ k,s.sn+1=k:=⟨_,rfl⟩
   have y14:w4.cell? ⟨d,14,none⟩=some (.int .u32 (s.sn:Nat)):=x4.cells.2.2.2.2.2.2.2.2.2.2.2.2.2.2.1
   have f14:=x4.fz 14
   have o5:=Off.setCell d 14 w4 (.int .u32 (sn1:Nat))
   have x5:=x4.own o5 (s':=ddataS s num fl bs) (by rw[show (DVC P m mx B4.cp B4.lb B4.db B4.vb (ddataS s num fl bs) B4.av)=DVC P m mx B4.cp B4.lb B4.db B4.vb { don { s with nm:=num } with sn:=sn1 } B4.av from by subst hs1;rfl];exact heap_setCell_same _ _ _ _ _ _ x4.dev) rfl rfl (congrArg (fun b=>vtake (vhold (don { s with nm:=num }).v b) bs) HB.symm) rfl rfl id
   have g5:=g4.trans (Gr.same o5 (by simp[x4.kd.2]))
   have hw:IntKind.u32.wrap ((s.sn:Int)+1)=(sn1:Int):=by rw[IntKind.wrap_u32];omega
   have hm:((s.sn:Int)+1) % 4294967296=(sn1:Int):=by omega
   have H5:Hid (_):=And.intro g5 (And.intro x5 hs1)
   clear hT H3 h4 o4 v4 hM4 hlt4 g3 x3d g4' x4 g4 o5 x5 g5 HB q5 z10 hs1
   go_wp2_with fail
   obtain⟨g5,x5,hs1⟩:=H5.out
   obtain⟨a5,cap5,hav,r5⟩:=own_row8 x5.app x5.apb
   have z14:=x5.cells.2.2.2.2.2.2.2.2.2.2.2.2.2.2.1
   have z16:=x5.cells.2.2.2.2.2.2.2.2.2.2.2.2.2.2.2.2.1
   rw[hav]at z16
   rw[show (ddataS s num fl bs).sn=sn1 from hs1]at z14
   have xd:=x5.newd (Off.drew [] _)
   have hF:=flags_any d m g n mx P U4 (ddataS s num fl bs) _ ⟨B4,xd⟩
   generalize hw5:w4.setCell ⟨d,14,none⟩ (.int .u32 (sn1:Int))=w5 at *
   have H6:Hid (_):=And.intro g5 (And.intro xd (And.intro (r5.below (Below.drew (Below.refl _ _))) (And.intro hs1 hav)))
   clear g5 x5 hs1 r5 xd H5 y14 f14 hw hm hsn hw5 hav
   have HS:w5.drew.cell? ⟨d,14,none⟩=some (.int .u32 (sn1:Nat))∧w5.drew.cell? ⟨d,16,none⟩=some (.slice a5 P.i cap5):=⟨z14,z16⟩
   clear z14 z16
   go_region_held3 (fun w'=>w'.cell? ⟨d,14,none⟩=some (.int .u32 (sn1:Nat))∧w'.cell? ⟨d,16,none⟩=some (.slice a5 P.i cap5)) (assumption) (first
    | (go_at_call 198;refine hF.mono ?_;rintro e w6 ⟨rfl,b6⟩;have x6:=H6.out.2.1.newd (Off.of_below b6);have hY:=say_any d m g n mx P U4 _ 20 sn1 (dflags (ddataS s num fl bs)) a5 P.i cap5 s.ap w6 ⟨B4,x6⟩ (H6.out.2.2.1.below b6);have H7:Hid (_):=And.intro b6 x6;have HT:w6.cell? ⟨d,14,none⟩=some (.int .u32 (sn1:Nat))∧w6.cell? ⟨d,16,none⟩=some (.slice a5 P.i cap5):=⟨(b6.cell H6.out.2.1.dlt).trans HS.1,(b6.cell H6.out.2.1.dlt).trans HS.2⟩;clear hF b6 x6)
    | (go_at_call 197;refine hY.mono ?_;rintro e w7 ⟨v,rfl,h7⟩;have HV:w7.cell? ⟨d,14,none⟩=some (.int .u32 (sn1:Nat))∧w7.cell? ⟨d,16,none⟩=some (.slice a5 P.i cap5):=⟨(h7.out.2.cell H7.out.2.dlt).trans HT.1,(h7.out.2.cell H7.out.2.dlt).trans HT.2⟩;clear hY))
   all_goals
    go_wp2_with fail
    go_ret
    obtain⟨g5,x5,_,hs1,_⟩:=H6.out
    have:=Out.mk (g5.trans (Gr.trans (Gr.same (Off.drew [] w5) (by simp)) (Gr.below H7.out.1))) ⟨B4,H7.out.2⟩ h7.out.1 h7.out.2
    rw[← hs1]at this
    exact⟨v,rfl,this⟩
end Go.Proofs.YthbogkaoidbpgaaGreat
