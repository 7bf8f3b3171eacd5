/- Part 17 of the texts on which the proofs of layer 13 rest: contracts of Go functions. -/
import Derived.Test.YtffehehghpafdaaGreatPkB14
import Derived.Test.YtffehehghpafdaaGreatPkB15
namespace Go.Proofs.YtffehehghpafdaaGreat
set_option maxRecDepth 100000
open Go.RowKit
theorem life14 {w:World} {d m mx k:Nat} {P:Pm} {s:Sd} {B:Bk2} (h:w.heap[d]?=some (.cells (RDC P m mx B.cp B.lv B.vv s B.av) 60 (0,0))) :
  ((((((((((((((w.setCell ⟨d,9,none⟩ (.int .i64 (P.t:Nat))).setCell ⟨d,10,none⟩ (.int .i64 0)).setCell ⟨d,11,none⟩ (.int .i64 (P.o:Nat))).setCell ⟨d,12,none⟩ (.bool false)).setCell ⟨d,13,none⟩ (.bool false)).setCell ⟨d,14,none⟩ (.bool false)).setCell ⟨d,15,none⟩ (.int .i64 0)).setCell ⟨d,16,none⟩ (.slice none 0 0)).setCell ⟨d,17,none⟩ (.bool false)).setCell ⟨d,18,none⟩ (.int .i64 (k:Nat))).setCell ⟨d,19,none⟩ (.int .u32 0)).setCell ⟨d,20,none⟩ (.int .u32 0)).setCell ⟨d,21,none⟩ (.int .u32 0)).setCell ⟨d,22,none⟩ (.int .i64 0)).heap[d]?=some (.cells (RDC P m mx B.cp B.lv (.slice none 0 0) { s with v:={ s.v with run:=false,held:=false,fr:=false,lat:=0,sm:=false },dc:=0,st:=k,ss:=0,nm:=0,sn:=0,od:=0 } B.av) 60 (0,0))∧Off [d] w ((((((((((((((w.setCell ⟨d,9,none⟩ (.int .i64 (P.t:Nat))).setCell ⟨d,10,none⟩ (.int .i64 0)).setCell ⟨d,11,none⟩ (.int .i64 (P.o:Nat))).setCell ⟨d,12,none⟩ (.bool false)).setCell ⟨d,13,none⟩ (.bool false)).setCell ⟨d,14,none⟩ (.bool false)).setCell ⟨d,15,none⟩ (.int .i64 0)).setCell ⟨d,16,none⟩ (.slice none 0 0)).setCell ⟨d,17,none⟩ (.bool false)).setCell ⟨d,18,none⟩ (.int .i64 (k:Nat))).setCell ⟨d,19,none⟩ (.int .u32 0)).setCell ⟨d,20,none⟩ (.int .u32 0)).setCell ⟨d,21,none⟩ (.int .u32 0)).setCell ⟨d,22,none⟩ (.int .i64 0)):=by
 have e0:(w.setCell ⟨d,9,none⟩ (.int .i64 (P.t:Nat))).heap[d]?=some (.cells (RDC P m mx B.cp B.lv B.vv s B.av) 60 (0,0)):=heap_setCell_same _ _ _ _ _ _ h
 have e1:((w.setCell ⟨d,9,none⟩ (.int .i64 (P.t:Nat))).setCell ⟨d,10,none⟩ (.int .i64 0)).heap[d]?=some (.cells (RDC P m mx B.cp B.lv B.vv { s with dc:=0 } B.av) 60 (0,0)):=heap_setCell_same _ _ _ _ _ _ e0
 have e2:(((w.setCell ⟨d,9,none⟩ (.int .i64 (P.t:Nat))).setCell ⟨d,10,none⟩ (.int .i64 0)).setCell ⟨d,11,none⟩ (.int .i64 (P.o:Nat))).heap[d]?=some (.cells (RDC P m mx B.cp B.lv B.vv { s with dc:=0 } B.av) 60 (0,0)):=heap_setCell_same _ _ _ _ _ _ e1
 have e3:((((w.setCell ⟨d,9,none⟩ (.int .i64 (P.t:Nat))).setCell ⟨d,10,none⟩ (.int .i64 0)).setCell ⟨d,11,none⟩ (.int .i64 (P.o:Nat))).setCell ⟨d,12,none⟩ (.bool false)).heap[d]?=some (.cells (RDC P m mx B.cp B.lv B.vv { s with v:={ s.v with run:=false },dc:=0 } B.av) 60 (0,0)):=heap_setCell_same _ _ _ _ _ _ e2
 have e4:(((((w.setCell ⟨d,9,none⟩ (.int .i64 (P.t:Nat))).setCell ⟨d,10,none⟩ (.int .i64 0)).setCell ⟨d,11,none⟩ (.int .i64 (P.o:Nat))).setCell ⟨d,12,none⟩ (.bool false)).setCell ⟨d,13,none⟩ (.bool false)).heap[d]?=some (.cells (RDC P m mx B.cp B.lv B.vv { s with v:={ s.v with run:=false,held:=false },dc:=0 } B.av) 60 (0,0)):=heap_setCell_same _ _ _ _ _ _ e3
 have e5:((((((w.setCell ⟨d,9,none⟩ (.int .i64 (P.t:Nat))).setCell ⟨d,10,none⟩ (.int .i64 0)).setCell ⟨d,11,none⟩ (.int .i64 (P.o:Nat))).setCell ⟨d,12,none⟩ (.bool false)).setCell ⟨d,13,none⟩ (.bool false)).setCell ⟨d,14,none⟩ (.bool false)).heap[d]?=some (.cells (RDC P m mx B.cp B.lv B.vv { s with v:={ s.v with run:=false,held:=false,fr:=false },dc:=0 } B.av) 60 (0,0)):=heap_setCell_same _ _ _ _ _ _ e4
 have e6:(((((((w.setCell ⟨d,9,none⟩ (.int .i64 (P.t:Nat))).setCell ⟨d,10,none⟩ (.int .i64 0)).setCell ⟨d,11,none⟩ (.int .i64 (P.o:Nat))).setCell ⟨d,12,none⟩ (.bool false)).setCell ⟨d,13,none⟩ (.bool false)).setCell ⟨d,14,none⟩ (.bool false)).setCell ⟨d,15,none⟩ (.int .i64 0)).heap[d]?=some (.cells (RDC P m mx B.cp B.lv B.vv { s with v:={ s.v with run:=false,held:=false,fr:=false,lat:=0 },dc:=0 } B.av) 60 (0,0)):=heap_setCell_same _ _ _ _ _ _ e5
 have e7:((((((((w.setCell ⟨d,9,none⟩ (.int .i64 (P.t:Nat))).setCell ⟨d,10,none⟩ (.int .i64 0)).setCell ⟨d,11,none⟩ (.int .i64 (P.o:Nat))).setCell ⟨d,12,none⟩ (.bool false)).setCell ⟨d,13,none⟩ (.bool false)).setCell ⟨d,14,none⟩ (.bool false)).setCell ⟨d,15,none⟩ (.int .i64 0)).setCell ⟨d,16,none⟩ (.slice none 0 0)).heap[d]?=some (.cells (RDC P m mx B.cp B.lv (.slice none 0 0) { s with v:={ s.v with run:=false,held:=false,fr:=false,lat:=0 },dc:=0 } B.av) 60 (0,0)):=heap_setCell_same _ _ _ _ _ _ e6
 have e8:(((((((((w.setCell ⟨d,9,none⟩ (.int .i64 (P.t:Nat))).setCell ⟨d,10,none⟩ (.int .i64 0)).setCell ⟨d,11,none⟩ (.int .i64 (P.o:Nat))).setCell ⟨d,12,none⟩ (.bool false)).setCell ⟨d,13,none⟩ (.bool false)).setCell ⟨d,14,none⟩ (.bool false)).setCell ⟨d,15,none⟩ (.int .i64 0)).setCell ⟨d,16,none⟩ (.slice none 0 0)).setCell ⟨d,17,none⟩ (.bool false)).heap[d]?=some (.cells (RDC P m mx B.cp B.lv (.slice none 0 0) { s with v:={ s.v with run:=false,held:=false,fr:=false,lat:=0,sm:=false },dc:=0 } B.av) 60 (0,0)):=heap_setCell_same _ _ _ _ _ _ e7
 have e9:((((((((((w.setCell ⟨d,9,none⟩ (.int .i64 (P.t:Nat))).setCell ⟨d,10,none⟩ (.int .i64 0)).setCell ⟨d,11,none⟩ (.int .i64 (P.o:Nat))).setCell ⟨d,12,none⟩ (.bool false)).setCell ⟨d,13,none⟩ (.bool false)).setCell ⟨d,14,none⟩ (.bool false)).setCell ⟨d,15,none⟩ (.int .i64 0)).setCell ⟨d,16,none⟩ (.slice none 0 0)).setCell ⟨d,17,none⟩ (.bool false)).setCell ⟨d,18,none⟩ (.int .i64 (k:Nat))).heap[d]?=some (.cells (RDC P m mx B.cp B.lv (.slice none 0 0) { s with v:={ s.v with run:=false,held:=false,fr:=false,lat:=0,sm:=false },dc:=0,st:=k } B.av) 60 (0,0)):=heap_setCell_same _ _ _ _ _ _ e8
 have e10:(((((((((((w.setCell ⟨d,9,none⟩ (.int .i64 (P.t:Nat))).setCell ⟨d,10,none⟩ (.int .i64 0)).setCell ⟨d,11,none⟩ (.int .i64 (P.o:Nat))).setCell ⟨d,12,none⟩ (.bool false)).setCell ⟨d,13,none⟩ (.bool false)).setCell ⟨d,14,none⟩ (.bool false)).setCell ⟨d,15,none⟩ (.int .i64 0)).setCell ⟨d,16,none⟩ (.slice none 0 0)).setCell ⟨d,17,none⟩ (.bool false)).setCell ⟨d,18,none⟩ (.int .i64 (k:Nat))).setCell ⟨d,19,none⟩ (.int .u32 0)).heap[d]?=some (.cells (RDC P m mx B.cp B.lv (.slice none 0 0) { s with v:={ s.v with run:=false,held:=false,fr:=false,lat:=0,sm:=false },dc:=0,st:=k,ss:=0 } B.av) 60 (0,0)):=heap_setCell_same _ _ _ _ _ _ e9
 have e11:((((((((((((w.setCell ⟨d,9,none⟩ (.int .i64 (P.t:Nat))).setCell ⟨d,10,none⟩ (.int .i64 0)).setCell ⟨d,11,none⟩ (.int .i64 (P.o:Nat))).setCell ⟨d,12,none⟩ (.bool false)).setCell ⟨d,13,none⟩ (.bool false)).setCell ⟨d,14,none⟩ (.bool false)).setCell ⟨d,15,none⟩ (.int .i64 0)).setCell ⟨d,16,none⟩ (.slice none 0 0)).setCell ⟨d,17,none⟩ (.bool false)).setCell ⟨d,18,none⟩ (.int .i64 (k:Nat))).setCell ⟨d,19,none⟩ (.int .u32 0)).setCell ⟨d,20,none⟩ (.int .u32 0)).heap[d]?=some (.cells (RDC P m mx B.cp B.lv (.slice none 0 0) { s with v:={ s.v with run:=false,held:=false,fr:=false,lat:=0,sm:=false },dc:=0,st:=k,ss:=0,nm:=0 } B.av) 60 (0,0)):=heap_setCell_same _ _ _ _ _ _ e10
 have e12:(((((((((((((w.setCell ⟨d,9,none⟩ (.int .i64 (P.t:Nat))).setCell ⟨d,10,none⟩ (.int .i64 0)).setCell ⟨d,11,none⟩ (.int .i64 (P.o:Nat))).setCell ⟨d,12,none⟩ (.bool false)).setCell ⟨d,13,none⟩ (.bool false)).setCell ⟨d,14,none⟩ (.bool false)).setCell ⟨d,15,none⟩ (.int .i64 0)).setCell ⟨d,16,none⟩ (.slice none 0 0)).setCell ⟨d,17,none⟩ (.bool false)).setCell ⟨d,18,none⟩ (.int .i64 (k:Nat))).setCell ⟨d,19,none⟩ (.int .u32 0)).setCell ⟨d,20,none⟩ (.int .u32 0)).setCell ⟨d,21,none⟩ (.int .u32 0)).heap[d]?=some (.cells (RDC P m mx B.cp B.lv (.slice none 0 0) { s with v:={ s.v with run:=false,held:=false,fr:=false,lat:=0,sm:=false },dc:=0,st:=k,ss:=0,nm:=0,sn:=0 } B.av) 60 (0,0)):=heap_setCell_same _ _ _ _ _ _ e11
 have e13:((((((((((((((w.setCell ⟨d,9,none⟩ (.int .i64 (P.t:Nat))).setCell ⟨d,10,none⟩ (.int .i64 0)).setCell ⟨d,11,none⟩ (.int .i64 (P.o:Nat))).setCell ⟨d,12,none⟩ (.bool false)).setCell ⟨d,13,none⟩ (.bool false)).setCell ⟨d,14,none⟩ (.bool false)).setCell ⟨d,15,none⟩ (.int .i64 0)).setCell ⟨d,16,none⟩ (.slice none 0 0)).setCell ⟨d,17,none⟩ (.bool false)).setCell ⟨d,18,none⟩ (.int .i64 (k:Nat))).setCell ⟨d,19,none⟩ (.int .u32 0)).setCell ⟨d,20,none⟩ (.int .u32 0)).setCell ⟨d,21,none⟩ (.int .u32 0)).setCell ⟨d,22,none⟩ (.int .i64 0)).heap[d]?=some (.cells (RDC P m mx B.cp B.lv (.slice none 0 0) { s with v:={ s.v with run:=false,held:=false,fr:=false,lat:=0,sm:=false },dc:=0,st:=k,ss:=0,nm:=0,sn:=0,od:=0 } B.av) 60 (0,0)):=heap_setCell_same _ _ _ _ _ _ e12
 exact⟨e13,((((((((((((((Off.setCell d 9 w (.int .i64 (P.t:Nat))).trans (Off.setCell d 10 _ (.int .i64 0))).trans (Off.setCell d 11 _ (.int .i64 (P.o:Nat)))).trans (Off.setCell d 12 _ (.bool false))).trans (Off.setCell d 13 _ (.bool false))).trans (Off.setCell d 14 _ (.bool false))).trans (Off.setCell d 15 _ (.int .i64 0))).trans (Off.setCell d 16 _ (.slice none 0 0))).trans (Off.setCell d 17 _ (.bool false))).trans (Off.setCell d 18 _ (.int .i64 (k:Nat)))).trans (Off.setCell d 19 _ (.int .u32 0))).trans (Off.setCell d 20 _ (.int .u32 0))).trans (Off.setCell d 21 _ (.int .u32 0))).trans (Off.setCell d 22 _ (.int .i64 0)))⟩
theorem RB.lived {w w1 w2 w3:World} {d m g n mx:Nat} {P:Pm} {U:List Nat} {s:Sd} {B:Bk2} {A A':Prop} (h:RB w d m g n mx P U s B A) {k ga:Nat} (q1:Off [d] w w1) (b2:Below w1.heap.size w1 w2) (ho:w2.ownsRow w1.heap.size 5 1 (.slice (some ⟨ga,0,none⟩) P.i P.i) P.i (CB (fun _=>0) P.i)) (q3:Off [d] w2 w3)
  (e:w3.heap[d]?=some (.cells (RDC P m mx B.cp B.lv (.slice none 0 0) (dlife s k) (.slice (some ⟨ga,0,none⟩) P.i P.i)) 60 (0,0))) (h6:A'→A) :
  ∃ U' B',Gr U w U' w3∧RB w3 d m g n mx P U' (dlife s k) B' A':=by
 have s1:=q1.size
 have s2:=b2.size
 have s3:=q3.size
 have hga:=own_far ho ⟨ga,0,none⟩ rfl
 have hgl:ga<w3.heap.size:=Nat.lt_of_lt_of_le hga.2 s3
 have hge:w.heap.size≤ga:=Nat.le_trans s1 hga.1
 have hd:=h.dlt
 have Q:Off [d] w w3:=(q1.trans (Off.of_below b2)).trans q3
 have hn:∀ k,B.col k≠0→k ∉ [d]:=fun k hk hm=>by simp at hm;rw[hm,h.kd.1]at hk;exact hk rfl
 have hq:∀ k x,B.col k=x∧k ∈ U→(if k<w.heap.size then B.col k else 6)=x∧k ∈ ga :: U:=fun k x hk=>⟨by rw[if_pos (h.ltU k hk.2)];exact hk.1,by simp[hk.2]⟩
 refine⟨ga :: U,{ B with vv:=.slice none 0 0,av:=.slice (some ⟨ga,0,none⟩) P.i P.i,col:=fun k=>if k<w.heap.size then B.col k else 6 },⟨Q.more (by simp[h.kd.2]),fun k hk=>?_⟩,?_⟩
 ·simp at hk
  rcases hk with rfl | hk
  ·exact .inr hge
  ·exact .inl hk
 ·refine⟨e,h.mem.off Q (hn _ (by rw[h.km.1];omega)) (hn _ (by rw[h.kg.1];omega)),fun hA=>?_,.inl ⟨rfl,rfl⟩,own_offk h.log Q (fun k hk=>hn _ (by rw[(h.kl k hk).1];omega)),?_,fun _ _=>by show 0<256;omega,Vok.new,Nat.zero_le _,?_,hq _ _ h.kd,hq _ _ h.km,hq _ _ h.kg,hq _ _ h.kc,fun k hk=>hq _ _ (h.kM k hk),fun k hk=>hq _ _ (h.kl k hk),?_,h.pok,h.n10,h.mx0,h.mxl,h.nl⟩
  ·obtain⟨c1,c2,c3⟩:=h.cel (h6 hA)
   exact⟨c1,c2.off Q (hn _ (by rw[h.kc.1];omega)),c3⟩
  ·refine own_offk (own_base ho (Nat.zero_le _)) q3 (fun k hk=>?_)
   cases hk
   simp;omega
  ·intro k hk
   simp at hk
   rcases hk with rfl | hk
   ·exact hgl
   ·exact Nat.lt_of_lt_of_le (h.ltU k hk) Q.size
  ·intro k hk
   cases hk
   exact⟨by show (if ga<w.heap.size then _ else 6)=6;rw[if_neg (by omega)],by simp⟩
set_option maxHeartbeats 6400000 in
theorem rlife_any (d m g n mx:Nat) (P:Pm) (U:List Nat) (s:Sd) (B:Bk2) (A:Prop) (k:Nat) (w:World) (h:RB w d m g n mx P U s B A) :
  Calls Tryz.prog 95 #[.pointer (some ⟨d,0,none⟩),.int .i64 (k:Nat)] w fun e w'=>e=.returned (.tuple #[])∧Hid (∃ U' B',Gr U w U' w'∧RB w' d m g n mx P U' (dlife s k) B' A):=by
 obtain⟨i0,hi,hz0,hz1,hz2⟩:=info_parts info_u8
 have c1:w.cell? ⟨d,1,none⟩=some (.int .i64 (P.o:Nat)):=cell_of_row w d 1 _ _ _ h.dev
 have c2:w.cell? ⟨d,2,none⟩=some (.int .i64 (P.i:Nat)):=cell_of_row w d 2 _ _ _ h.dev
 have c3:w.cell? ⟨d,3,none⟩=some (.int .i64 (P.t:Nat)):=cell_of_row w d 3 _ _ _ h.dev
 have c9:w.cell? ⟨d,9,none⟩=some (.int .i64 (P.t:Nat)):=cell_of_row w d 9 _ _ _ h.dev
 have z9:=h.fz 9
 have c10:w.cell? ⟨d,10,none⟩=some (.int .i64 (s.dc:Nat)):=cell_of_row w d 10 _ _ _ h.dev
 have z10:=h.fz 10
 have c11:w.cell? ⟨d,11,none⟩=some (.int .i64 (P.o:Nat)):=cell_of_row w d 11 _ _ _ h.dev
 have z11:=h.fz 11
 have c12:w.cell? ⟨d,12,none⟩=some (.bool s.v.run):=cell_of_row w d 12 _ _ _ h.dev
 have z12:=h.fz 12
 have c13:w.cell? ⟨d,13,none⟩=some (.bool s.v.held):=cell_of_row w d 13 _ _ _ h.dev
 have z13:=h.fz 13
 have c14:w.cell? ⟨d,14,none⟩=some (.bool s.v.fr):=cell_of_row w d 14 _ _ _ h.dev
 have z14:=h.fz 14
 have c15:w.cell? ⟨d,15,none⟩=some (.int .i64 s.v.lat):=cell_of_row w d 15 _ _ _ h.dev
 have z15:=h.fz 15
 have c16:w.cell? ⟨d,16,none⟩=some (B.vv):=cell_of_row w d 16 _ _ _ h.dev
 have z16:=h.fz 16
 have c17:w.cell? ⟨d,17,none⟩=some (.bool s.v.sm):=cell_of_row w d 17 _ _ _ h.dev
 have z17:=h.fz 17
 have c18:w.cell? ⟨d,18,none⟩=some (.int .i64 (s.st:Nat)):=cell_of_row w d 18 _ _ _ h.dev
 have z18:=h.fz 18
 have c19:w.cell? ⟨d,19,none⟩=some (.int .u32 (s.ss:Nat)):=cell_of_row w d 19 _ _ _ h.dev
 have z19:=h.fz 19
 have c20:w.cell? ⟨d,20,none⟩=some (.int .u32 (s.nm:Nat)):=cell_of_row w d 20 _ _ _ h.dev
 have z20:=h.fz 20
 have c21:w.cell? ⟨d,21,none⟩=some (.int .u32 (s.sn:Nat)):=cell_of_row w d 21 _ _ _ h.dev
 have z21:=h.fz 21
 have c22:w.cell? ⟨d,22,none⟩=some (.int .i64 (s.od:Nat)):=cell_of_row w d 22 _ _ _ h.dev
 have z22:=h.fz 22
 have hi8:=h.pok.i8
 have l14:=life14 (k:=k) h.dev
 have H:Hid (_):=And.intro h l14
 clear h l14
 go_enter Tryz.func95,Tryz.ntmps95
 go_upto_region 7 with fail
 generalize ((((((((((((((w.setCell ⟨d,9,none⟩ (.int .i64 (P.t:Nat))).setCell ⟨d,10,none⟩ (.int .i64 0)).setCell ⟨d,11,none⟩ (.int .i64 (P.o:Nat))).setCell ⟨d,12,none⟩ (.bool false)).setCell ⟨d,13,none⟩ (.bool false)).setCell ⟨d,14,none⟩ (.bool false)).setCell ⟨d,15,none⟩ (.int .i64 0)).setCell ⟨d,16,none⟩ (.slice none 0 0)).setCell ⟨d,17,none⟩ (.bool false)).setCell ⟨d,18,none⟩ (.int .i64 (k:Nat))).setCell ⟨d,19,none⟩ (.int .u32 0)).setCell ⟨d,20,none⟩ (.int .u32 0)).setCell ⟨d,21,none⟩ (.int .u32 0)).setCell ⟨d,22,none⟩ (.int .i64 0))=w1 at *
 have e1:=H.out.2.1
 have hd1:d<w1.heap.size:=Nat.lt_of_lt_of_le H.out.1.dlt H.out.2.2.size
 have d2:w1.cell? ⟨d,2,none⟩=some (.int .i64 (P.i:Nat)):=cell_of_row w1 d 2 _ _ _ e1
 have H1:Hid (_):=And.intro e1 hd1
 clear e1 hd1 c1 c2 c3 c9 z9 c10 z10 c11 z11 c12 z12 c13 z13 c14 z14 c15 z15 c16 z16 c17 z17 c18 z18 c19 z19 c20 z20 c21 z21 c22 z22
 go_wp2_with (at_make;refine wpList_make8 _ rfl (.tmp 43) (.tmp 43) 29 rfl w1.heap.size 5 i0 Tryz.underlying29 hi hz0 hz1 hz2 _ _ _ _ P.i P.i rfl rfl rfl rfl (Nat.le_refl _) (by omega) (Nat.le_refl _) ?_)
 intro w2 hown2 hbel2
 have e2:=(hbel2.block d H1.out.2).trans H1.out.1
 have c23:w2.cell? ⟨d,23,none⟩=some B.av:=cell_of_row w2 d 23 _ _ _ e2
 have c24:w2.cell? ⟨d,24,none⟩=some (.bool s.hd):=cell_of_row w2 d 24 _ _ _ e2
 have z23:=frozen_of_row w2 d 23 _ _ e2
 have z24:=frozen_of_row w2 d 24 _ _ e2
 have H2:Hid (_):=And.intro hown2 (And.intro hbel2 e2)
 clear hown2 hbel2 e2 d2 H1
 go_wp2_with fail
 go_end0
 obtain⟨hown2,hbel2,e2⟩:=H2.out
 have e3:(w2.setCell ⟨d,23,none⟩ (.slice (some ⟨w1.heap.size,0,none⟩) P.i P.i)).heap[d]?=some (.cells (RDC P m mx B.cp B.lv (.slice none 0 0) { dlife s k with ap:=s.ap,hd:=s.hd,v:={ s.v with run:=false,held:=false,fr:=false,lat:=0,sm:=false } } (.slice (some ⟨w1.heap.size,0,none⟩) P.i P.i)) 60 (0,0)):=heap_setCell_same _ _ _ _ _ _ e2
 have e4:((w2.setCell ⟨d,23,none⟩ (.slice (some ⟨w1.heap.size,0,none⟩) P.i P.i)).setCell ⟨d,24,none⟩ (.bool false)).heap[d]?=some (.cells (RDC P m mx B.cp B.lv (.slice none 0 0) (dlife s k) (.slice (some ⟨w1.heap.size,0,none⟩) P.i P.i)) 60 (0,0)):=heap_setCell_same _ _ _ _ _ _ e3
 obtain⟨U',B',g',x'⟩:=H.out.1.lived (A':=A) (k:=k) H.out.2.2 hbel2 hown2 ((Off.setCell d 23 w2 _).trans (Off.setCell d 24 _ (.bool false))) e4 id
 exact⟨rfl,U',B',g',x'⟩
set_option maxHeartbeats 1600000 in
theorem rnone_any (d m g n mx:Nat) (P:Pm) (U:List Nat) (s:Sd) (w:World) (h:RW w d m g n mx P U s) (hss:s.ss<4294967296) :
  Calls Tryz.prog 120 #[.pointer (some ⟨d,0,none⟩)] w fun e w'=>∃ v,e=.returned v∧Hid (Fr w' w.heap.size v (dnone P s)∧Below w.heap.size w w'):=by
 have hS:=ranswer_any d m g n mx P U s 22 0 0 none 0 0 (fun _=>0) w h (row_nilX _ _) hss (by omega)
 clear h hss
 go_enter Tryz.func120,Tryz.ntmps120
 go_wp2_with fail
 refine hS.mono ?_
 rintro e w2 ⟨v,rfl,h2⟩
 clear hS
 go_wp2_with fail
 go_ret
 exact⟨v,rfl,h2⟩
set_option maxHeartbeats 1600000 in
theorem roffer_any (d m g n mx:Nat) (P:Pm) (U:List Nat) (s:Sd) (w:World) (h:RW w d m g n mx P U s) (hss:s.ss<4294967296) :
  Calls Tryz.prog 181 #[.pointer (some ⟨d,0,none⟩)] w fun e w'=>∃ v,e=.returned v∧Hid (Fr w' w.heap.size v (doffer P s)∧Below w.heap.size w w'):=by
 obtain⟨B,h0⟩:=id h
 have c0:w.cell? ⟨d,0,none⟩=some (.int .u32 (P.c:Nat)):=cell_of_row w d 0 _ _ _ h0.dev
 have c1:w.cell? ⟨d,1,none⟩=some (.int .i64 (P.o:Nat)):=cell_of_row w d 1 _ _ _ h0.dev
 have c2:w.cell? ⟨d,2,none⟩=some (.int .i64 (P.i:Nat)):=cell_of_row w d 2 _ _ _ h0.dev
 have c3:w.cell? ⟨d,3,none⟩=some (.int .i64 (P.t:Nat)):=cell_of_row w d 3 _ _ _ h0.dev
 have c4:w.cell? ⟨d,4,none⟩=some (.int .u32 (P.n:Nat)):=cell_of_row w d 4 _ _ _ h0.dev
 have hG:=rsign_good P.c P.o P.i P.t P.n w h0.pok.c h0.pok.n h0.pok.ok
 have H:Hid (_):=And.intro h hss
 clear h h0 hss
 go_enter Tryz.func181,Tryz.ntmps181
 go_wp2_with fail
 refine hG.mono ?_
 rintro e w2 ⟨gs,rfl,h2⟩
 have hS:=ranswer_any d m g n mx P U s 17 0 0 (some ⟨gs,0,none⟩) 4 4 (dsg P) w2 (RW.below H.out.1 h2.out.2) h2.out.1 H.out.2 (by omega)
 have HB:Hid (_):=h2.out.2
 clear hG c0 c1 c2 c3 c4 H h2
 go_wp2_with fail
 refine hS.mono ?_
 rintro e w4 ⟨v,rfl,h4⟩
 have H4:Hid (Fr w4 w.heap.size v (doffer P s)∧Below w.heap.size w w4):=⟨own_base h4.out.1 HB.out.size,HB.out.trans (h4.out.2.mono HB.out.size)⟩
 clear hS h4 HB
 go_wp2_with fail
 go_ret
 exact⟨v,rfl,H4⟩
theorem build0D (w:World):(Instr.buildSlice 29 0 #[]).run Tryz.prog w=.ok (.slice (some ⟨w.heap.size,0,none⟩) 0 0) (w.alloc (.cells #[] 5)):=by kernel_rfl
theorem own0D (B:Nat) (bs:Nat→Nat) (w:World) (h:B≤w.heap.size):(w.alloc (.cells #[] 5)).ownsRow B 5 1 (.slice (some ⟨w.heap.size,0,none⟩) 0 0) 0 (CB bs 0):=World.ownsRow_made w #[] 0 h (Nat.zero_le _) rfl
set_option maxHeartbeats 6400000 in
theorem same13_any (st ss nm sn dc lat:Int) (rq on:Bool) (a a':Option Addr) (n n' cap cap':Nat) (bs bs':Nat→Nat) (w:World) (R:Row8 w a n cap bs) (R':Row8 w a' n' cap' bs') (hX:BA bs n=BA bs' n') :
  Calls Tryz.prog 20 #[.agg #[.int .i64 st,.int .u32 ss,.int .u32 nm,.int .u32 sn,.int .i64 dc,.int .i64 lat,.bool rq,.bool on,.slice a n cap],.agg #[.int .i64 st,.int .u32 ss,.int .u32 nm,.int .u32 sn,.int .i64 dc,.int .i64 lat,.bool rq,.bool on,.slice a' n' cap']] w fun e w'=>e=.returned (.bool true)∧Below w.heap.size w w':=by
 have b0:Below w.heap.size w ((w.alloc (.cells #[.int .i64 st,.int .u32 ss,.int .u32 nm,.int .u32 sn,.int .i64 dc,.int .i64 lat,.bool rq,.bool on,.slice a n cap] 76)).alloc (.cells #[.int .i64 st,.int .u32 ss,.int .u32 nm,.int .u32 sn,.int .i64 dc,.int .i64 lat,.bool rq,.bool on,.slice a' n' cap'] 76)):=((Below.refl _ _).alloc (Nat.le_refl _) _).alloc (by simp) _
 obtain⟨X,hX1⟩:∃ X,BA bs n=X:=⟨_,rfl⟩
 have hX2:BA bs' n'=X:=hX ▸ hX1
 have q1:=conv_any a n cap bs _ (R.below b0)
 have q2:=conv_any a' n' cap' bs' _ (R'.below b0)
 rw[hX1]at q1
 rw[hX2]at q2
 have HB:Hid (_):=b0
 clear R R' hX hX1 hX2 b0
 go_enter Tryz.func20,Tryz.ntmps20
 go_wp2_with fail
 go_ret
 exact⟨by simp,HB.out⟩
theorem RB.vald {w w1 w2 w3:World} {d m g n mx:Nat} {P:Pm} {U:List Nat} {s:Sd} {B:Bk2} {A:Prop} (h:RB w d m g n mx P U s B A) {v:Value} {bs:Nat→Nat} (q1:Off [d] w w1) (b2:Below w1.heap.size w1 w2) (ho:w2.ownsRow w1.heap.size 5 1 v P.o (CB bs P.o)) (hy:∀ i,i<P.o→bs i<256) (q3:Off [d] w2 w3)
  (e:w3.heap[d]?=some (.cells (RDC P m mx B.cp B.lv v { s with v:={ s.v with sm:=true,bs:=bs } } B.av) 60 (0,0))) (hl:s.v.lat=0) :
  ∃ U' B',Gr U w U' w3∧RB w3 d m g n mx P U' { s with v:={ s.v with sm:=true,bs:=bs } } B' A:=by
 have s1:=q1.size
 have s2:=b2.size
 have s3:=q3.size
 have hge:∀ k,v.ownBlock=some k→w.heap.size≤k:=fun k hk=>Nat.le_trans s1 (Fr.ge (f:=(P.o,bs)) ho k hk)
 have hlt:∀ k,v.ownBlock=some k→k<w3.heap.size:=fun k hk=>Nat.lt_of_lt_of_le (Fr.lt (f:=(P.o,bs)) ho k hk) s3
 have hd:=h.dlt
 have Q:Off [d] w w3:=(q1.trans (Off.of_below b2)).trans q3
 have hn:∀ k,B.col k≠0→k ∉ [d]:=fun k hk hm=>by simp at hm;rw[hm,h.kd.1]at hk;exact hk rfl
 have hq:∀ k x,B.col k=x∧k ∈ U→(if k<w.heap.size then B.col k else 4)=x∧k ∈ v.ownBlock.toList ++ U:=fun k x hk=>⟨by rw[if_pos (h.ltU k hk.2)];exact hk.1,List.mem_append.2 (.inr hk.2)⟩
 refine⟨v.ownBlock.toList ++ U,{ B with vv:=v,M:=v.ownBlock.toList,col:=fun k=>if k<w.heap.size then B.col k else 4 },⟨Q.more (by simp[h.kd.2]),fun k hk=>?_⟩,?_⟩
 ·rcases List.mem_append.1 hk with hk | hk
  ·exact .inr (hge k (by simpa using hk))
  ·exact .inl hk
 ·refine⟨e,h.mem.off Q (hn _ (by rw[h.km.1];omega)) (hn _ (by rw[h.kg.1];omega)),fun hA=>?_,.inr ⟨rfl,⟨own_offk (own_base ho (Nat.zero_le _)) q3 (fun k hk=>by have:=hge k hk;simp;omega),fun k hk=>by simpa using hk⟩,hy⟩,own_offk h.log Q (fun k hk=>hn _ (by rw[(h.kl k hk).1];omega)),own_offk h.app Q (fun k hk=>hn _ (by rw[(h.ka k hk).1];omega)),h.apb,⟨h.vok.fr,fun _=>hl⟩,h.dcl,?_,hq _ _ h.kd,hq _ _ h.km,hq _ _ h.kg,hq _ _ h.kc,?_,fun k hk=>hq _ _ (h.kl k hk),fun k hk=>hq _ _ (h.ka k hk),h.pok,h.n10,h.mx0,h.mxl,h.nl⟩
  ·obtain⟨c1,c2,c3⟩:=h.cel hA
   exact⟨c1,c2.off Q (hn _ (by rw[h.kc.1];omega)),c3⟩
  ·intro k hk
   rcases List.mem_append.1 hk with hk | hk
   ·exact hlt k (by simpa using hk)
   ·exact Nat.lt_of_lt_of_le (h.ltU k hk) Q.size
  ·intro k hk
   have:=hge k (by simpa using hk)
   exact⟨by show (if k<w.heap.size then _ else 4)=4;rw[if_neg (by omega)],List.mem_append.2 (.inl hk)⟩
set_option maxHeartbeats 3200000 in
theorem rtakev_any (d m g n mx:Nat) (P:Pm) (U:List Nat) (s:Sd) (B:Bk2) (A:Prop) (a:Option Addr) (cap:Nat) (bs:Nat→Nat) (w:World) (h:RB w d m g n mx P U s B A) (hr:Row8 w a P.o cap bs) (ha:∀ x,a=some x→x.block≠d) :
  Calls Tryz.prog 125 #[.pointer (some ⟨d,11,none⟩),.slice a P.o cap] w fun e w'=>e=.returned (.tuple #[])∧Hid (∃ U' B',Gr U w U' w'∧RB w' d m g n mx P U' { s with v:=vtake s.v bs } B' A):=by
 have c12:w.cell? ⟨d,12,none⟩=some (.bool s.v.run):=cell_of_row w d 12 _ _ _ h.dev
 have c15:w.cell? ⟨d,15,none⟩=some (.int .i64 s.v.lat):=cell_of_row w d 15 _ _ _ h.dev
 have c17:w.cell? ⟨d,17,none⟩=some (.bool s.v.sm):=cell_of_row w d 17 _ _ _ h.dev
 have z17:=h.fz 17
 unfold vtake
 by_cases hk:s.v.run=true∧s.v.lat=0
 ·rw[if_pos hk]
  rw[hk.1]at c12
  rw[hk.2]at c15
  obtain⟨i0,hi,hz0,hz1,hz2⟩:=info_parts info_u8
  have hbd:=build0D
  have e1:(w.setCell ⟨d,17,none⟩ (.bool true)).heap[d]?=some (.cells (RDC P m mx B.cp B.lv B.vv { s with v:={ s.v with sm:=true } } B.av) 60 (0,0)):=heap_setCell_same _ _ _ _ _ _ h.dev
  have o1:=Off.setCell d 17 w (.bool true)
  have r1:Row8 (w.setCell ⟨d,17,none⟩ (.bool true)) a P.o cap bs:=hr.off o1 (fun x hx=>by simpa using ha x hx)
  have ho8:=h.pok.o8
  have H:Hid (_):=And.intro h (And.intro hk.2 (And.intro hr.byte (And.intro e1 o1)))
  have H1:Hid (_):=r1
  clear h hr ha hk e1 o1 r1
  go_enter Tryz.func125,Tryz.ntmps125
  go_upto_region 2 with fail
  generalize w.setCell ⟨d,17,none⟩ (.bool true)=w1 at *
  have hbelA:Below w1.heap.size w1 (w1.alloc (.cells #[] 5)):=(Below.refl _ _).alloc (Nat.le_refl _) _
  have R0:=H1.out.below hbelA
  have O0:=own0D w1.heap.size bs w1 (Nat.le_refl _)
  have hszA:=hbelA.size
  clear H1 c12 c15 c17 z17
  go_wp2_with (at_builtin;refine wpList_append_row8 rfl (.tmp 19) (.tmp 20) 29 rfl w1.heap.size 5 i0 (.int .u8 0) Tryz.underlying29 hi hz0 hz1 hz2 rfl _ 0 _ rfl O0 a P.o cap bs rfl R0 (by unfold maxLen;omega) (by omega) hszA ?_)
  intro v2 w2 hown2 hgrow2
  have hbel2:Below w1.heap.size w1 w2:=hbelA.grown hgrow2 hszA (fun k hk=>(O0.lt k hk).1)
  rw[show CB bs 0=[] from rfl,List.nil_append]at hown2
  obtain⟨a2,k2,rfl,R2⟩:=own_row8 (by simpa using hown2) H.out.2.2.1
  have hd1:d<w1.heap.size:=Nat.lt_of_lt_of_le H.out.1.dlt H.out.2.2.2.2.size
  have e2:=(hbel2.block d hd1).trans H.out.2.2.2.1
  have c16:w2.cell? ⟨d,16,none⟩=some B.vv:=cell_of_row w2 d 16 _ _ _ e2
  have z16:=frozen_of_row w2 d 16 _ _ e2
  have hown3:w2.ownsRow w1.heap.size 5 1 (.slice a2 P.o k2) P.o (CB bs P.o):=by simpa using hown2
  have H2:Hid (_):=And.intro hown3 (And.intro hbel2 e2)
  clear hown2 hown3 hgrow2 hbel2 O0 R0 hbelA R2 hd1 e2 hszA
  go_wp2_with fail
  go_end0
  obtain⟨hown2,hbel2,e2⟩:=H2.out
  obtain⟨h,hl,hby,e1,o1⟩:=H.out
  have e3:(w2.setCell ⟨d,16,none⟩ (.slice a2 P.o k2)).heap[d]?=some (.cells (RDC P m mx B.cp B.lv (.slice a2 P.o k2) { s with v:={ s.v with sm:=true,bs:=bs } } B.av) 60 (0,0)):=heap_setCell_same _ _ _ _ _ _ e2
  obtain⟨U',B',g',x'⟩:=h.vald o1 hbel2 hown2 hby (Off.setCell d 16 w2 _) e3 hl
  exact⟨rfl,U',B',g',x'⟩
 ·rw[if_neg hk]
  have H:Hid (_):=h
  cases hrun:s.v.run
  ·rw[hrun]at c12
   clear h hr ha hk
   go_enter Tryz.func125,Tryz.ntmps125
   go_wp2_with fail
   go_end0
   exact⟨rfl,U,B,Gr.refl _ _,H.out⟩
  ·rw[hrun]at c12
   have hl:(s.v.lat == 0)=false:=by simp;intro e;exact hk ⟨hrun,e⟩
   clear h hr ha hk
   go_enter Tryz.func125,Tryz.ntmps125
   go_wp2_with fail
   go_end0
   exact⟨rfl,U,B,Gr.refl _ _,H.out⟩
set_option maxHeartbeats 3200000 in
theorem routv_any (d m g n mx:Nat) (P:Pm) (U:List Nat) (s:Sd) (B:Bk2) (A:Prop) (w:World) (h:RB w d m g n mx P U s B A) :
  Calls Tryz.prog 99 #[.pointer (some ⟨d,11,none⟩)] w fun e w'=>∃ a cap,e=.returned (.tuple #[.slice a P.o cap,.bool (von s.v)])∧Hid (Fr w' w.heap.size (.slice a P.o cap) (P.o,vout s.v)∧Row8 w' a P.o cap (vout s.v)∧Below w.heap.size w w'):=by
 obtain⟨i0,hi,hz0,hz1,hz2⟩:=info_parts info_u8
 have c11:w.cell? ⟨d,11,none⟩=some (.int .i64 (P.o:Nat)):=cell_of_row w d 11 _ _ _ h.dev
 have c12:w.cell? ⟨d,12,none⟩=some (.bool s.v.run):=cell_of_row w d 12 _ _ _ h.dev
 have c13:w.cell? ⟨d,13,none⟩=some (.bool s.v.held):=cell_of_row w d 13 _ _ _ h.dev
 have c16:w.cell? ⟨d,16,none⟩=some B.vv:=cell_of_row w d 16 _ _ _ h.dev
 have c17:w.cell? ⟨d,17,none⟩=some (.bool s.v.sm):=cell_of_row w d 17 _ _ _ h.dev
 have ho8:=h.pok.o8
 have hdl:=h.dlt
 unfold vout
 by_cases hon:von s.v=true
 ·rw[if_pos hon,hon]
  simp only[von,Bool.and_eq_true,Bool.not_eq_true']at hon
  obtain⟨o1,o2,o3⟩:=hon
  rcases h.val with ⟨e,_⟩ | ⟨_,⟨V,_⟩,hby⟩
  ·rw[o3]at e;cases e
  obtain⟨av,kv,hvv,R⟩:=own_row8 V hby
  rw[hvv]at c16
  rw[o1]at c12
  rw[o2]at c13
  rw[o3]at c17
  have hbd:=build0D
  have hbelA:Below w.heap.size w (w.alloc (.cells #[] 5)):=(Below.refl _ _).alloc (Nat.le_refl _) _
  have R0:=R.below hbelA
  have O0:=own0D w.heap.size s.v.bs w (Nat.le_refl _)
  have hszA:=hbelA.size
  have d16:(w.alloc (.cells #[] 5)).cell? ⟨d,16,none⟩=some (.slice av P.o kv):=(hbelA.cell hdl).trans c16
  have HB:Hid (_):=hby
  clear h V R hvv o1 o2 o3 hby
  go_enter Tryz.func99,Tryz.ntmps99
  go_wp2_with (at_builtin;refine wpList_append_row8 rfl (.tmp 21) (.tmp 25) 29 rfl w.heap.size 5 i0 (.int .u8 0) Tryz.underlying29 hi hz0 hz1 hz2 rfl _ 0 _ rfl O0 av P.o kv s.v.bs rfl R0 (by unfold maxLen;omega) (by omega) hszA ?_)
  intro v2 w2 hown2 hgrow2
  have hbel2:Below w.heap.size w w2:=hbelA.grown hgrow2 hszA (fun k hk=>(O0.lt k hk).1)
  rw[show CB s.v.bs 0=[] from rfl,List.nil_append]at hown2
  have hown3:w2.ownsRow w.heap.size 5 1 v2 P.o (CB s.v.bs P.o):=by simpa using hown2
  obtain⟨a2,k2,rfl,R2⟩:=own_row8 hown3 HB.out
  have H2:Hid (_):=And.intro hown3 (And.intro R2 hbel2)
  clear hown2 hown3 hgrow2 hbel2 O0 R0 hbelA R2 hszA d16
  go_wp2_with fail
  go_ret2
  exact⟨a2,k2,rfl,H2.out⟩
 ·rw[if_neg hon]
  have hon':von s.v=false:=by simpa using hon
  have fin:∀ b1 b2 b3:Bool,(b1 && (!b2 && b3))=false→w.cell? ⟨d,12,none⟩=some (.bool b1)→w.cell? ⟨d,13,none⟩=some (.bool b2)→w.cell? ⟨d,17,none⟩=some (.bool b3)→Calls Tryz.prog 99 #[.pointer (some ⟨d,11,none⟩)] w fun e w'=>∃ a cap,e=.returned (.tuple #[.slice a P.o cap,.bool false])∧Hid (Fr w' w.heap.size (.slice a P.o cap) (P.o,fun _=>0)∧Row8 w' a P.o cap (fun _=>0)∧Below w.heap.size w w'):=by
   clear h c12 c13 c16 c17 hon hon'
   intro b1 b2 b3 hb c12 c13 c17
   have hzb:∀ i,i<P.o→(fun _:Nat=>(0:Nat)) i<256:=fun _ _=>by show 0<256;omega
   cases b1 <;> cases b2 <;> cases b3 <;> first | (simp at hb;done) | skip
   all_goals
    clear hb
    go_enter Tryz.func99,Tryz.ntmps99
    go_wp2_with (at_make;refine wpList_make8 _ rfl (.tmp 30) (.tmp 30) 29 rfl w.heap.size 5 i0 Tryz.underlying29 hi hz0 hz1 hz2 _ _ _ _ P.o P.o rfl rfl rfl rfl (Nat.le_refl _) (by omega) (Nat.le_refl _) ?_)
    intro w2 hown2 hbel2
    obtain⟨a2,k2,ha2,R2⟩:=own_row8 hown2 hzb
    have H2:Hid (_):=And.intro hown2 (And.intro R2 (And.intro hbel2 ha2))
    clear hown2 hbel2 R2 ha2
    go_wp2_with fail
    go_ret2
    obtain⟨h1,h2,h3,h4⟩:=H2.out
    cases h4
    exact⟨_,_,rfl,h1,h2,h3⟩
  rw[hon']
  exact fin _ _ _ hon' c12 c13 c17
set_option maxHeartbeats 3200000 in
theorem rflags_any (d m g n mx:Nat) (P:Pm) (U:List Nat) (s:Sd) (B:Bk2) (A:Prop) (w:World) (h:RB w d m g n mx P U s B A) :
  Calls Tryz.prog 126 #[.pointer (some ⟨d,11,none⟩),.bool s.hd] w fun e w'=>e=.returned (.int .i64 (dflags s:Nat))∧Below w.heap.size w w':=by
 have hO:=routv_any d m g n mx P U s B A w h
 have H:Hid (_):=h
 clear h
 unfold dflags
 cases h1:von s.v <;> cases h2:vreq s.v <;> by_cases h3:s.v.lat=0 <;> cases h4:s.hd
 all_goals
  rw[h1]at hO
  go_enter Tryz.func126,Tryz.ntmps126
  go_wp2_with fail
  refine hO.mono ?_
  rintro e w2 ⟨a2,k2,rfl,h5⟩
  have hb:=h5.out.2.2
  have x2:=H.out.newd (Off.of_below hb)
  have c15:w2.cell? ⟨d,15,none⟩=some (.int .i64 s.v.lat):=cell_of_row w2 d 15 _ _ _ x2.dev
  have q1:=rqv_any _ _ _ _ _ _ _ _ _ _ _ x2
  rw[h2]at q1
  first
   | rw[h3]at c15
   | (have h3':(s.v.lat != 0)=true:=by simpa using h3)
  have HB:Hid (_):=hb
  clear H h5 hb x2 hO
  go_wp2_with (go_at_call 100;refine q1.mono ?_;rintro e w' ⟨rfl,hw⟩;have hw:=hw.symm;subst hw)
  go_ret
  exact⟨by first | rfl | (simp[h3];done) | (simp[h3];rfl),HB.out⟩
end Go.Proofs.YtffehehghpafdaaGreat
