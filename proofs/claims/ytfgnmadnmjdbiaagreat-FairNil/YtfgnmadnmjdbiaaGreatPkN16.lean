/- Part 17: contracts that the proof rests on. -/
import Derived.Deep.QuietTactic
import Derived.BigQuiet
import Derived.Test.YtfgnmadnmjdbiaaGreatPkN15
set_option maxHeartbeats 64000000
set_option maxRecDepth 100000
namespace Go.Proofs.YtfgnmadnmjdbiaaGreat
open Tryz
open Go.RowKit
theorem qp {mx n:Nat} {s:Ms} (hl:0≤s.l) (h:lU mx n s=0):(jw mx n s).off=false:=by
 unfold lU at h
 unfold jw
 by_cases h1:mx=0∨n<10
 ·rw[if_pos h1]at h;omega
 ·rw[if_neg h1]at h ⊢
  by_cases h2:s.off=true
  ·rw[if_pos h2]at h;omega
  ·rw[if_neg h2]at h ⊢
   rcases fM n (dn s.bs) s (fun x hx=>(ii s.bs n (by omega) x hx).1) (by simpa using h2) hl with ⟨_,e,_⟩ | ⟨e,_⟩
   ·rw[e]
   ·omega
theorem DX.celn {w w':World} {d m g n mx:Nat} {P:Pm} {U:List Nat} {s:Sd} {B:Bk} {A:Prop} (h:DX w d m g n mx P U s B A) {cp:Value} (q:Off [d] w w') (e:w'.heap[d]?=some (.cells (jo P m mx cp B.lb B.db B.vb s B.av) 132 (0,0))):DX w' d m g n mx P U s { B with cp:=cp } False:=by
 have hn:∀ k,B.col k≠0→k ∉ [d]:=fun k hk hm=>by simp at hm;rw[hm,h.kd.1]at hk;exact hk rfl
 refine⟨e,?_,fun h=>h.elim,?_,?_,?_,?_,h.apb,fun k hk=>Nat.lt_of_lt_of_le (h.ltU k hk) q.size,h.kd,h.km,h.kg,h.kc,h.kb,h.kv,h.kw,h.kM,h.kl,h.ka,h.pok,h.n10,h.mx0,h.mxl⟩
 ·exact h.mem.off q (hn _ (by rw[h.km.1];omega)) (hn _ (by rw[h.kg.1];omega))
 ·exact h.dog.off q (hn _ (by rw[h.kb.1];omega))
 ·exact h.val.off q (hn _ (by rw[h.kv.1];omega)) (hn _ (by rw[h.kw.1];omega)) (fun k hk hM=>by simp at hk;subst hk;have:=(h.kM _ hM).1;rw[h.kd.1]at this;omega)
 ·exact h.log.off q (fun k hk=>hn _ (by rw[(h.kl k hk).1];omega))
 ·exact aI h.app q (fun k hk=>hn _ (by rw[(h.ka k hk).1];omega))
theorem pY (d m g n mx:Nat) (P:Pm) (U:List Nat) (s:Sd) (B:Bk) (A:Prop) (w:World) (h:DX w d m g n mx P U s B A) (ms:Ms) (hms:s.ms=ms) (E:Int) (hE:lU mx n ms=E) (ht:ms.t<9223372036854774000) :
  Calls prog 66 #[ac m 0,.int .u32 (mx:Nat)] w fun e w'=>∃ p,e=.returned (.tuple #[.pointer p,.int .i64 E])∧Hid (∃ B',Gr U w U w'∧DX w' d m g n mx P U { s with ms:=jw mx n ms } B' False ∧
   (E=0→∃ c,p=af c 0∧c ∉ U∧w.heap.size≤c∧c<w'.heap.size∧CS w' c m mx (jw mx n ms).bs false∧(jw mx n ms).off=false)∧(¬ E=0→p=none)):=by
 subst hms
 subst hE
 refine (xh m g n mx s.ms w h.mem ht).mono ?_
 rintro e w' ⟨p,rfl,h2⟩
 obtain⟨o2,m2,c2,p2⟩:=h2.out
 refine⟨p,rfl,B,Gr.same o2 (fun k hk=>h.memU k (by simp at hk ⊢;rcases hk with hk | hk <;> simp[hk])),h.memd (o2.more (by simp)) m2 (fun h=>h.elim),fun he=>?_,p2⟩
 obtain⟨c,hp,hc,hC⟩:=c2 he
 exact⟨c,hp,fun hm=>by have:=h.ltU c hm;omega,hc,hC.lt,hC,qp h.mem.l0 he⟩
theorem nT (d m g n mx:Nat) (P:Pm) (U:List Nat) (s:Sd) (k:Int) (w:World) (h:DV w d m g n mx P U s) (hk0:0≤k) (hk:k≤9223372036854775807) (ht:s.ms.t<9223372036854774000) :
  Calls prog 75 #[ac d 0,.int .i64 k] w fun e w'=>e=.returned (.int .i64 (fQ mx n s k))∧Hid (∃ U',Gr U w U' w'∧DV w' d m g n mx P U' (cK mx n s k)):=by
 unfold fQ cK
 rw[if_neg (by omega),if_neg (by omega)]
 obtain⟨B,h⟩:=h
 obtain⟨c0,c1,c2,c3,c4,_⟩:=h.cells
 have hL:=go P h.pok w
 have H:Hid (_):=And.intro h ht
 clear h ht
 obtain⟨MS,hMS⟩:∃ x,pW s.ms k=x:=⟨_,rfl⟩
 rw[hMS]
 obtain⟨E,hE⟩:∃ x,lU mx n MS=x:=⟨_,rfl⟩
 rw[hE]
 have hMt:MS.t=s.ms.t:=by subst hMS;unfold pW ks;split <;> (try split) <;> rfl
 obtain⟨K6,hK6⟩:∃ x,(if E=0 then 1 else 6)=x:=⟨_,rfl⟩
 rw[hK6]
 have HM:Hid (_):=And.intro hMS (And.intro hE (And.intro hMt hK6))
 clear hMS hE hMt hK6
 by_cases hp:0<k
 ·go_enter func75,ntmps75
  go_wp2_with (go_at_call 67;refine hL.mono ?_;rintro e w1 ⟨db,vb,vg,ga,rfl,h1⟩;obtain⟨_,_,_,_,_,y5,_,_,_,y9,y10,y11,y12,y13,y14,y15,y16,y17⟩:=(H.out.1.newd (Off.of_below h1.out.bel)).cells;have fz:=(H.out.1.newd (Off.of_below h1.out.bel)).fz;have f9:=fz 9;have f10:=fz 10;have f11:=fz 11;have f12:=fz 12;have f13:=fz 13;have f14:=fz 14;have f15:=fz 15;have f16:=fz 16;have f17:=fz 17;clear fz c0 c1 c2 c3 c4 hL)
  have e1:=(H.out.1.newd (Off.of_below h1.out.bel)).dev
  have o:=pr d w1 (ac db 0) (ac vb 0) (.int .i64 1) (.int .u32 0) (.int .u32 0) (.int .u32 0) (.int .i64 0) (.slice (af ga 0) P.i P.i) (.bool false)
  have e2:=jZ (db':=db) (vb':=vb) (av':=.slice (af ga 0) P.i P.i) e1
  obtain⟨U2,B2,g2,x2⟩:=H.out.1.lived (k:=1) h1.out o e2
  refine (ur _ _ _ _ _ x2.mem).mono ?_
  rintro e w3 ⟨rfl,o3,m3⟩
  have x3:=x2.memd (o3.more (by simp)) m3 (A':=False) (fun h=>h.elim)
  have z5:=x3.cells.2.2.2.2.2.1
  have z6:=x3.cells.2.2.2.2.2.2.1
  have H3:Hid (_):=And.intro (g2.trans (Gr.same (o3.more (by simp)) x2.memU)) (And.intro x3 H.out.2)
  clear H h1 e1 o e2 g2 x2 o3 m3 x3 y5 y9 y10 y11 y12 y13 y14 y15 y16 y17 f9 f10 f11 f12 f13 f14 f15 f16 f17
  go_wp2_with fail
  refine (qJ _ _ _ _ (k-1) w3 H3.out.2.1.mem (by omega)).mono ?_
  rintro e w4 ⟨rfl,o4,m4⟩
  have x4:=H3.out.2.1.memd (o4.more (by simp)) m4 (A':=False) (fun h=>h.elim)
  have y5:=x4.cells.2.2.2.2.2.1
  have y6:=x4.cells.2.2.2.2.2.2.1
  have H4:Hid (_):=And.intro (H3.out.1.trans (Gr.same (o4.more (by simp)) H3.out.2.1.memU)) (And.intro x4 H3.out.2.2)
  clear H3 o4 m4 x4 z5 z6
  go_wp2_with fail
  have hO:=pY d m g n mx P U2 _ _ _ _ (H4.out.2.1.newd (Off.drew [] w4)) MS (by rw[← HM.out.1];unfold pW;rw[if_pos hp];rfl) E HM.out.2.1 (by rw[HM.out.2.2.1];exact H4.out.2.2)
  go_region_with (go_at_call 66;refine hO.mono ?_;rintro e w5 ⟨p,rfl,h5⟩)
  all_goals
   obtain⟨B5,g5,x5,c5,p5⟩:=h5.out
   have G5:=H4.out.1.trans (Gr.trans (Gr.same (Off.drew [] w4) (by simp)) g5)
   have y7:=x5.cells.2.2.2.2.2.2.2.1
   have f7:=x5.fz 7
   have H5:Hid (_):=And.intro G5 (And.intro x5 (And.intro c5 p5))
   have H2s:Hid (_):=Nat.le_trans H4.out.1.off.size (Nat.le_refl _)
   clear hO h5 g5 x5 c5 p5 G5 H4 y5 y6
   by_cases he:E=0
   ·have e0:(E != 0)=false:=by simp[he]
    obtain⟨c,rfl,hc,hge,hlt,hC,hoff⟩:=H5.out.2.2.1 he
    have HE:Hid (_):=And.intro he (And.intro hc (And.intro hge (And.intro hlt (And.intro hC hoff))))
    clear he hc hge hlt hC hoff
    go_wp2_with fail
    go_ret
    obtain⟨he,hc,hge,hlt,hC,hoff⟩:=HE.out
    obtain⟨G5,x5,_,_⟩:=H5.out
    have hk6:K6=1:=by rw[← HM.out.2.2.2,if_pos he]
    subst hk6
    have x6:=x5.celd (A':=(1:Nat)≠6) (cp:=ac c 0) hc hlt (Off.setCell d 7 w5 (ac c 0)) (heap_setCell_same _ _ _ _ _ _ x5.dev) (fun _=>⟨rfl,hC,hoff⟩)
    refine⟨rfl,c :: U2,⟨(G5.trans (Gr.same (Off.setCell d 7 w5 (ac c 0)) (by simp[x5.kd.2]))).off,fun j hj=>?_⟩,_,x6⟩
    simp at hj
    rcases hj with rfl | hj
    ·exact .inr (Nat.le_trans H2s.out hge)
    ·exact G5.new j hj
   ·have e0:(E != 0)=true:=by simp[he]
    obtain rfl:=H5.out.2.2.2 he
    have x6:=H5.out.2.1.celn (cp:=.pointer none) (Off.setCell d 7 w5 (.pointer none)) (heap_setCell_same _ _ _ _ _ _ H5.out.2.1.dev)
    have hD:=gT d m g n mx P U2 _ _ _ _ x6
    have H6:Hid (_):=And.intro he (H5.out.1.trans (Gr.same (Off.setCell d 7 w5 (.pointer none)) (by simp[H5.out.2.1.kd.2])))
    clear he x6 H5
    go_wp2_with (go_at_call 98;refine hD.mono ?_;rintro e w7 ⟨rfl,h7⟩)
    go_ret
    obtain⟨U7,g7,x7⟩:=h7.out
    have hk6:K6=6:=by rw[← HM.out.2.2.2,if_neg H6.out.1]
    subst hk6
    exact⟨rfl,U7,H6.out.2.trans g7,x7⟩
 ·go_enter func75,ntmps75
  go_wp2_with (go_at_call 67;refine hL.mono ?_;rintro e w1 ⟨db,vb,vg,ga,rfl,h1⟩;obtain⟨_,_,_,_,_,y5,_,_,_,y9,y10,y11,y12,y13,y14,y15,y16,y17⟩:=(H.out.1.newd (Off.of_below h1.out.bel)).cells;have fz:=(H.out.1.newd (Off.of_below h1.out.bel)).fz;have f9:=fz 9;have f10:=fz 10;have f11:=fz 11;have f12:=fz 12;have f13:=fz 13;have f14:=fz 14;have f15:=fz 15;have f16:=fz 16;have f17:=fz 17;clear fz c0 c1 c2 c3 c4 hL)
  have e1:=(H.out.1.newd (Off.of_below h1.out.bel)).dev
  have o:=pr d w1 (ac db 0) (ac vb 0) (.int .i64 1) (.int .u32 0) (.int .u32 0) (.int .u32 0) (.int .i64 0) (.slice (af ga 0) P.i P.i) (.bool false)
  have e2:=jZ (db':=db) (vb':=vb) (av':=.slice (af ga 0) P.i P.i) e1
  obtain⟨U2,B2,g2,x2⟩:=H.out.1.lived (k:=1) h1.out o e2
  refine (ur _ _ _ _ _ x2.mem).mono ?_
  rintro e w3 ⟨rfl,o3,m3⟩
  have x3:=x2.memd (o3.more (by simp)) m3 (A':=False) (fun h=>h.elim)
  have z5:=x3.cells.2.2.2.2.2.1
  have z6:=x3.cells.2.2.2.2.2.2.1
  have H3:Hid (_):=And.intro (g2.trans (Gr.same (o3.more (by simp)) x2.memU)) (And.intro x3 H.out.2)
  clear H h1 e1 o e2 g2 x2 o3 m3 x3 y5 y9 y10 y11 y12 y13 y14 y15 y16 y17 f9 f10 f11 f12 f13 f14 f15 f16 f17
  go_wp2_with fail
  have H4:Hid (_):=H3.out
  have y5:=z5
  have y6:=z6
  clear H3 z5 z6
  have hO:=pY d m g n mx P U2 _ _ _ _ (H4.out.2.1.newd (Off.drew [] w3)) MS (by rw[← HM.out.1];unfold pW;rw[if_neg (by omega)];rfl) E HM.out.2.1 (by rw[HM.out.2.2.1];exact H4.out.2.2)
  go_region_with (go_at_call 66;refine hO.mono ?_;rintro e w5 ⟨p,rfl,h5⟩)
  all_goals
   obtain⟨B5,g5,x5,c5,p5⟩:=h5.out
   have G5:=H4.out.1.trans (Gr.trans (Gr.same (Off.drew [] w3) (by simp)) g5)
   have y7:=x5.cells.2.2.2.2.2.2.2.1
   have f7:=x5.fz 7
   have H5:Hid (_):=And.intro G5 (And.intro x5 (And.intro c5 p5))
   have H2s:Hid (_):=Nat.le_trans H4.out.1.off.size (Nat.le_refl _)
   clear hO h5 g5 x5 c5 p5 G5 H4 y5 y6
   by_cases he:E=0
   ·have e0:(E != 0)=false:=by simp[he]
    obtain⟨c,rfl,hc,hge,hlt,hC,hoff⟩:=H5.out.2.2.1 he
    have HE:Hid (_):=And.intro he (And.intro hc (And.intro hge (And.intro hlt (And.intro hC hoff))))
    clear he hc hge hlt hC hoff
    go_wp2_with fail
    go_ret
    obtain⟨he,hc,hge,hlt,hC,hoff⟩:=HE.out
    obtain⟨G5,x5,_,_⟩:=H5.out
    have hk6:K6=1:=by rw[← HM.out.2.2.2,if_pos he]
    subst hk6
    have x6:=x5.celd (A':=(1:Nat)≠6) (cp:=ac c 0) hc hlt (Off.setCell d 7 w5 (ac c 0)) (heap_setCell_same _ _ _ _ _ _ x5.dev) (fun _=>⟨rfl,hC,hoff⟩)
    refine⟨rfl,c :: U2,⟨(G5.trans (Gr.same (Off.setCell d 7 w5 (ac c 0)) (by simp[x5.kd.2]))).off,fun j hj=>?_⟩,_,x6⟩
    simp at hj
    rcases hj with rfl | hj
    ·exact .inr (Nat.le_trans H2s.out hge)
    ·exact G5.new j hj
   ·have e0:(E != 0)=true:=by simp[he]
    obtain rfl:=H5.out.2.2.2 he
    have x6:=H5.out.2.1.celn (cp:=.pointer none) (Off.setCell d 7 w5 (.pointer none)) (heap_setCell_same _ _ _ _ _ _ H5.out.2.1.dev)
    have hD:=gT d m g n mx P U2 _ _ _ _ x6
    have H6:Hid (_):=And.intro he (H5.out.1.trans (Gr.same (Off.setCell d 7 w5 (.pointer none)) (by simp[H5.out.2.1.kd.2])))
    clear he x6 H5
    go_wp2_with (go_at_call 98;refine hD.mono ?_;rintro e w7 ⟨rfl,h7⟩)
    go_ret
    obtain⟨U7,g7,x7⟩:=h7.out
    have hk6:K6=6:=by rw[← HM.out.2.2.2,if_neg H6.out.1]
    subst hk6
    exact⟨rfl,U7,H6.out.2.trans g7,x7⟩
def dJ (ms:Ms):Sd:=⟨ms,[],0,kH,1,0,0,0,0,fun _=>0,false⟩
theorem DX.made {w2 w3 w4:World} {m g n mx c:Nat} {P:Pm} {ms:Ms} {db vb vg ga b:Nat} (hP:Pok P) (hn:10≤n) (hx0:mx≠0) (hx:mx<4294967296) (hM:MR w2 m g n ms) (hC:CS w2 c m mx ms.bs false) (hoff:ms.off=false)
  (hm:m<c) (hg:g<c) (q:Off [] w2 w3) (hD:DG w3 (b+2) [b,b+1,b+2] []) (hb:w2.heap.size≤b) (hN:NL w3 w4 P db vb vg ga) :
  DX (w4.alloc (.cells (jo P m mx (ac c 0) (b+2) db vb (dJ ms) (.slice (af ga 0) P.i P.i)) 132)) w4.heap.size m g n mx P [w4.heap.size,m,g,c,db,vb,vg,ga,b,b+1,b+2] (dJ ms)
   ⟨c,b+2,db,vb,vg,[],[b,b+1,b+2],ac c 0,.slice (af ga 0) P.i P.i,fun k=>if k=w4.heap.size then 0 else if k=m∨k=g then 1 else if k=c then 2 else if k=db then 3 else if k=vb∨k=vg then 4 else if k=ga then 6 else 5⟩ True:=by
 obtain⟨q1,q2,q3,q4,q5,q6,q7,q8,q9,q10⟩:=hN
 have hc:=hC.lt
 have s2:=q.size
 have s3:=q4.size
 have d3:b+2<w3.heap.size:=hD.ult _ (by simp)
 have o34:Off [] w3 w4:=Off.of_below q4
 have oA:Off [] w4 (w4.alloc (.cells (jo P m mx (ac c 0) (b+2) db vb (dJ ms) (.slice (af ga 0) P.i P.i)) 132)):=Off.alloc _ _ _
 have oB:=(q.trans o34).trans oA
 refine⟨aE w4 _,hM.off oB (by simp) (by simp),fun _=>⟨rfl,hC.off oB (by simp),hoff⟩,q1.off oA (by simp),q2.off oA (by simp) (by simp) (by simp),hD.off (o34.trans oA) (by simp),aI (aP q3 (Nat.zero_le _)) oA (by simp),fun i _=>(by show 0<256;omega),?_,?_,?_,?_,?_,?_,?_,?_,fun k hk=>(by simp at hk),?_,?_,hP,hn,hx0,hx⟩
 ·intro k hk
  rw[World.size_alloc]
  simp at hk
  omega
 ·exact⟨if_pos rfl,by simp⟩
 ·exact⟨by dsimp only;rw[if_neg (by omega),if_pos (.inl rfl)],by simp⟩
 ·exact⟨by dsimp only;rw[if_neg (by omega),if_pos (.inr rfl)],by simp⟩
 ·exact⟨by dsimp only;rw[if_neg (by omega),if_neg (by omega),if_pos rfl],by simp⟩
 ·exact⟨by dsimp only;rw[if_neg (by omega),if_neg (by omega),if_neg (by omega),if_pos rfl],by simp⟩
 ·exact⟨by dsimp only;rw[if_neg (by omega),if_neg (by omega),if_neg (by omega),if_neg (by omega),if_pos (.inl rfl)],by simp⟩
 ·exact⟨by dsimp only;rw[if_neg (by omega),if_neg (by omega),if_neg (by omega),if_neg (by omega),if_pos (.inr rfl)],by simp⟩
 ·intro k hk
  refine⟨?_,by simp at hk ⊢;omega⟩
  dsimp only
  simp at hk
  rw[if_neg (by omega),if_neg (by omega),if_neg (by omega),if_neg (by omega),if_neg (by omega),if_neg (by omega)]
 ·intro k hk
  cases hk
  exact⟨by dsimp only;rw[if_neg (by omega),if_neg (by omega),if_neg (by omega),if_neg (by omega),if_neg (by omega),if_pos rfl],by simp⟩
theorem t6 (m g n mx:Nat) (P:Pm) (hP:Pok P) (ms:Ms) (w:World) (hM:MR w m g n ms) (hx:mx<4294967296) (ht:ms.t<9223372036854774000) :
  Calls prog 47 #[.agg #[.int .u32 (P.c:Nat),.int .i64 (P.o:Nat),.int .i64 (P.i:Nat),.int .i64 (P.t:Nat),.int .u32 (P.n:Nat)],ac m 0,.int .u32 (mx:Nat)] w fun e w'=>∃ p,e=.returned (.tuple #[.pointer p,.int .i64 (lU mx n ms)])∧Hid (Off [m,g] w w'∧MR w' m g n (jw mx n ms) ∧
   (lU mx n ms=0→∃ d U,p=af d 0∧DV w' d m g n mx P U (dJ (jw mx n ms))∧(∀ k,k ∈ U→k=m∨k=g∨w.heap.size≤k))∧(¬ lU mx n ms=0→p=none)):=by
 have hb:Below w.heap.size w (w.alloc (.cells #[.int .u32 (P.c:Nat),.int .i64 (P.o:Nat),.int .i64 (P.i:Nat),.int .i64 (P.t:Nat),.int .u32 (P.n:Nat)] 42)):=(Below.refl _ _).alloc (Nat.le_refl _) _
 have hs:(w.alloc (.cells #[.int .u32 (P.c:Nat),.int .i64 (P.o:Nat),.int .i64 (P.i:Nat),.int .i64 (P.t:Nat),.int .u32 (P.n:Nat)] 42)).heap.size=w.heap.size+1:=by simp
 have hx0:=aE w (.cells #[.int .u32 (P.c:Nat),.int .i64 (P.o:Nat),.int .i64 (P.i:Nat),.int .i64 (P.t:Nat),.int .u32 (P.n:Nat)] 42)
 have hC:=fE P.c P.o P.i P.t P.n (w.alloc (.cells #[.int .u32 (P.c:Nat),.int .i64 (P.o:Nat),.int .i64 (P.i:Nat),.int .i64 (P.t:Nat),.int .u32 (P.n:Nat)] 42)) 0 (if_pos hP.ok)
 obtain⟨E,hE⟩:∃ x,lU mx n ms=x:=⟨_,rfl⟩
 rw[hE]
 have hO:∀ wx,MR wx m g n ms→Calls prog 66 #[ac m 0,.int .u32 (mx:Nat)] wx fun e w'=>∃ p,e=.returned (.tuple #[.pointer p,.int .i64 E])∧Hid (Off [m,g] wx w'∧MR w' m g n (jw mx n ms) ∧
   (E=0→∃ c,p=af c 0∧wx.heap.size≤c∧CS w' c m mx (jw mx n ms).bs false)∧(¬ E=0→p=none)):=by
  intro wx hMx
  subst hE
  exact xh m g n mx ms wx hMx ht
 have HO:Hid (_):=hO
 have HH:Hid (_):=And.intro hb (And.intro hs (And.intro hx0 (And.intro hM (And.intro hE (And.intro hP hx)))))
 clear hO hb hs hx0 hM hE hP hx ht
 go_enter func47,ntmps47
 go_wp2_with (first | (go_at_call 41;refine hC.mono ?_;rintro e w1 ⟨rfl,b1⟩))
 obtain⟨hb,hs,hx0,hM,_⟩:=HH.out
 have bb:=hb.trans (b1.mono hb.size)
 refine (HO.out w1 (hM.off (Off.of_below (l:=[]) bb) (by simp) (by simp))).mono ?_
 rintro e w2 ⟨p,rfl,h2⟩
 have e2:w2.heap[w.heap.size]?=some (.cells #[.int .u32 (P.c:Nat),.int .i64 (P.o:Nat),.int .i64 (P.i:Nat),.int .i64 (P.t:Nat),.int .u32 (P.n:Nat)] 42 (0,0)):=by
  have l1:=hM.lt
  have l2:=hM.lg
  have l3:=b1.size
  rw[h2.out.1.block w.heap.size (by omega) (by simp;omega),b1.block _ (by omega)]
  exact hx0
 have H2:Hid (_):=And.intro bb (And.intro h2.out (And.intro HH.out (by have:=b1.size;omega:w.heap.size<w1.heap.size)))
 by_cases he:E=0
 ·have e0:(E != 0)=false:=by simp[he]
  obtain⟨c,rfl,hc,hC2⟩:=h2.out.2.2.1 he
  have HE:Hid (_):=And.intro he (And.intro hc hC2)
  have HS:w2.drew.cell? ⟨w.heap.size,0,none⟩=some (.int .u32 (P.c:Nat))∧w2.drew.cell? ⟨w.heap.size,1,none⟩=some (.int .i64 (P.o:Nat))∧w2.drew.cell? ⟨w.heap.size,2,none⟩=some (.int .i64 (P.i:Nat))∧w2.drew.cell? ⟨w.heap.size,3,none⟩=some (.int .i64 (P.t:Nat))∧w2.drew.cell? ⟨w.heap.size,4,none⟩=some (.int .u32 (P.n:Nat)):=
   ⟨ae w2 _ 0 _ _ _ e2,ae w2 _ 1 _ _ _ e2,ae w2 _ 2 _ _ _ e2,ae w2 _ 3 _ _ _ e2,ae w2 _ 4 _ _ _ e2⟩
  have hN:=nZ w2.drew
  clear hC b1 hb hs hx0 hM bb h2 e2 he hc hC2 HO
  go_wp2_with fail
  go_region_held3 (fun w'=>w'.cell? ⟨w.heap.size,0,none⟩=some (.int .u32 (P.c:Nat))∧w'.cell? ⟨w.heap.size,1,none⟩=some (.int .i64 (P.o:Nat))∧w'.cell? ⟨w.heap.size,2,none⟩=some (.int .i64 (P.i:Nat))∧w'.cell? ⟨w.heap.size,3,none⟩=some (.int .i64 (P.t:Nat))∧w'.cell? ⟨w.heap.size,4,none⟩=some (.int .u32 (P.n:Nat))) (first | with_reducible assumption | exact⟨(belA _).cell hwl |>.trans HU.1,(belA _).cell hwl |>.trans HU.2.1,(belA _).cell hwl |>.trans HU.2.2.1,(belA _).cell hwl |>.trans HU.2.2.2.1,(belA _).cell hwl |>.trans HU.2.2.2.2⟩) (first
   | (go_at_call 64;refine hN.mono ?_;rintro e w3 ⟨rfl,h3⟩;have hL:=go P H2.out.2.2.1.2.2.2.2.2.1 w3;have hl3:w.heap.size<w2.drew.heap.size:=(Nat.lt_of_lt_of_le H2.out.2.2.2 H2.out.2.1.1.size);have HT:w3.cell? ⟨w.heap.size,0,none⟩=some (.int .u32 (P.c:Nat))∧w3.cell? ⟨w.heap.size,1,none⟩=some (.int .i64 (P.o:Nat))∧w3.cell? ⟨w.heap.size,2,none⟩=some (.int .i64 (P.i:Nat))∧w3.cell? ⟨w.heap.size,3,none⟩=some (.int .i64 (P.t:Nat))∧w3.cell? ⟨w.heap.size,4,none⟩=some (.int .u32 (P.n:Nat)):=⟨(h3.out.1.cell hl3).trans HS.1,(h3.out.1.cell hl3).trans HS.2.1,(h3.out.1.cell hl3).trans HS.2.2.1,(h3.out.1.cell hl3).trans HS.2.2.2.1,(h3.out.1.cell hl3).trans HS.2.2.2.2⟩;have hl4:w.heap.size<w3.heap.size:=(Nat.lt_of_lt_of_le hl3 h3.out.1.size);clear hN)
   | (go_at_call 67;refine hL.mono ?_;rintro e w4 ⟨db,vb,vg,ga,rfl,h4⟩;have HU:w4.cell? ⟨w.heap.size,0,none⟩=some (.int .u32 (P.c:Nat))∧w4.cell? ⟨w.heap.size,1,none⟩=some (.int .i64 (P.o:Nat))∧w4.cell? ⟨w.heap.size,2,none⟩=some (.int .i64 (P.i:Nat))∧w4.cell? ⟨w.heap.size,3,none⟩=some (.int .i64 (P.t:Nat))∧w4.cell? ⟨w.heap.size,4,none⟩=some (.int .u32 (P.n:Nat)):=⟨(h4.out.bel.cell hl4).trans HT.1,(h4.out.bel.cell hl4).trans HT.2.1,(h4.out.bel.cell hl4).trans HT.2.2.1,(h4.out.bel.cell hl4).trans HT.2.2.2.1,(h4.out.bel.cell hl4).trans HT.2.2.2.2⟩;have hwl:w.heap.size<w4.heap.size:=(Nat.lt_of_lt_of_le hl4 h4.out.bel.size);have belA:∀ o,Below w4.heap.size w4 (w4.alloc o):=(fun o=>(Below.refl _ _).alloc (Nat.le_refl _) o);clear hL))
  all_goals
   go_wp2_with fail
   go_ret2
   obtain⟨bb,⟨o2,m2,_,_⟩,⟨_,hs,_,hM,hE,hP,hx⟩,hw1⟩:=H2.out
   obtain⟨he,hc,hC2⟩:=HE.out
   subst he
   obtain⟨mx0,n10,_⟩:=xB m g n mx ms w hM hE
   have l1:=hM.lt
   have l2:=hM.lg
   have hoff:=qp hM.l0 hE
   have q3:Off [] w2.drew w3:=Off.of_below h3.out.1
   have X:=DX.made hP n10 mx0 hx (m2.off (Off.drew [] w2) (by simp) (by simp)) (hC2.off (Off.drew [] w2) (by simp)) hoff (by omega) (by omega) q3 h3.out.2.2 (Nat.le_refl _) h4.out
   have hcl:=hC2.lt
   have s3:=q3.size
   have s2:w2.drew.heap.size=w2.heap.size:=rfl
   have k1:=h4.out.h1
   have k2:=h4.out.h2
   have k3:=h4.out.h3
   have k4:=h4.out.h4
   have k6:=h4.out.h6
   have k7:=o2.size
   refine⟨_,rfl,?_,?_,fun _=>⟨w4.heap.size,_,rfl,⟨_,{ X with cel:=fun _=>X.cel trivial }⟩,?_⟩,fun h=>absurd rfl h⟩
   ·exact ((Off.of_below bb).trans o2).trans ((((Off.drew _ w2).trans (q3.more (by simp))).trans (Off.of_below h4.out.bel)).trans (Off.alloc _ _ _))
   ·exact X.mem
   ·intro k hk
    simp at hk
    omega
 ·have e0:(E != 0)=true:=by simp[he]
  obtain rfl:=h2.out.2.2.2 he
  have HE:Hid (_):=he
  clear he hC b1 hb hs hx0 hM bb h2 e2
  go_wp2_with fail
  go_ret2
  obtain⟨bb,⟨o2,m2,_,_⟩,hh,_⟩:=H2.out
  exact⟨none,rfl,(Off.of_below bb).trans o2,m2,fun h=>absurd h HE.out,fun _=>rfl⟩
def zG (k c s n:Nat) (f:Int) (len:Nat) (bs:Nat→Nat):Fm:=if LW k c s n f len len=0 then (15+len+4,PM.sl (fr k c s n f.toNat len bs) (15+len)) else dX
def P0:Pm:=⟨7,2,1,10,9⟩
theorem ja:Pok P0:=⟨by unfold vD P0;decide,by decide,by decide⟩
def dG (P:Pm):Fm:=(23,PM.sl (fr 1 P.c 0 0 0 4 (jj P)) 19)
theorem qI {c:Nat} (h:c≠0):LW 1 c 0 0 0 4 4=0:=by
 unfold LW
 rw[if_neg (by decide),if_neg (by omega),if_neg (by decide),if_neg (by decide),if_neg (by decide),if_neg (by decide)]
theorem tz (P:Pm) (h:Pok P):dC 1 P.c 0 0 0 4 (jj P)=dG P:=by
 exact if_pos (qI h.c0)
theorem iF (f g:Nat→Nat) (n:Nat) (h:∀ i,i<n→f i=g i):BA f n=BA g n:=by
 unfold BA
 congr 1
 apply List.map_congr_left
 intro i hi
 rw[h i (List.mem_range.1 hi)]
theorem qX (P:Pm) (h:Pok P) (mx n:Nat) (s:Sd):bK P mx n s (dG P).1 (dG P).2=bO P mx n s:=by
 obtain⟨e1,e2,e3,e4,e5,e6,e7⟩:=qo 1 P.c 0 0 0 4 (jj P) h.c (by omega) (by omega) (by omega) (qI h.c0)
 have hd:DE (dG P).2 (dG P).1=0:=e1
 have h0:(dG P).2 0=1:=e2
 have h1:aV (dG P).2 1=P.c:=e3
 unfold bK
 rw[if_neg (by omega),if_neg (by rw[h0];decide),if_neg (by omega),h0]
 unfold aL
 rw[if_pos rfl,if_pos]
 unfold aO
 exact decide_eq_true (iF _ _ 4 (fun i hi=>e7 i hi))
def M0:Ms:=S0 fun _=>0
theorem wU (mx:Nat) (h:mx≠0):lU mx 16 M0=0∧jw mx 16 M0=M0:=by
 have hm:dn M0.bs=[]:=by decide
 constructor
 ·unfold lU
  rw[if_neg (by omega),if_neg (by decide),hm]
  rfl
 ·unfold jw
  rw[if_neg (by omega),if_neg (by decide),hm]
  rfl
theorem wV (mx:Nat) (h:mx≠0):(nx mx 16 M0.bs false M0).e=0∧(nx mx 16 M0.bs false M0).v=1:=by
 have hv:vz M0.bs=0:=by decide
 have ht:tg M0.bs=0:=by decide
 unfold nx
 rw[if_neg (by decide),hv,if_neg (by omega),ht]
 rcases fM 16 (cT 0 (0+1)) M0 (fun x hx=>(fo _ _ 16 (by omega) (by omega) x hx).1) rfl (Int.le_refl _) with ⟨e,_⟩ | ⟨_,_,e,_⟩
 ·rw[if_pos e];exact⟨rfl,rfl⟩
 ·cases e
theorem oE (P:Pm) (h:Pok P) (mx:Nat) (hm:mx≠0) :
  (au P mx 16 (dJ M0) (dG P).1 (dG P).2).e=0∧(au P mx 16 (dJ M0) (dG P).1 (dG P).2).s.st=2∧(au P mx 16 (dJ M0) (dG P).1 (dG P).2).f=dC 17 P.c 1 0 0 4 (jj P):=by
 obtain⟨n1,n2⟩:=wV mx hm
 have hw:bO P mx 16 (dJ M0)=bG P mx 16 (dJ M0):=rfl
 have hb:bG P mx 16 (dJ M0)=⟨{ cy { dJ M0 with ms:=(nx mx 16 M0.bs false M0).s } 2 with ss:=(nx mx 16 M0.bs false M0).v },ft P { cy { dJ M0 with ms:=(nx mx 16 M0.bs false M0).s } 2 with ss:=(nx mx 16 M0.bs false M0).v },0⟩:=by
  unfold bG
  have e1:(nx mx 16 (dJ M0).ms.bs false (dJ M0).ms).e=0:=n1
  rw[if_neg (by rw[e1];decide),if_neg (by rw[e1];decide)]
  rfl
 unfold au
 rw[if_neg (by show (1:Nat)≠6;omega),qX P h,hw,hb,if_neg (by rintro ⟨e,_⟩;exact e rfl)]
 refine⟨rfl,rfl,?_⟩
 show dC 17 P.c (nx mx 16 M0.bs false M0).v 0 0 4 (jj P)=_
 rw[n2]
theorem us {c s:Nat} (h:c≠0) (hs:s≠0):LW 17 c s 0 0 4 4=0:=by
 unfold LW
 rw[if_neg (by decide),if_neg (by omega),if_neg (by decide),if_neg (by unfold cZ;rw[if_neg (by omega),if_neg (by omega)];simp;omega),if_neg (by decide),if_neg (by decide)]
theorem Fr.row {w:World} {M:Nat} {v:Value} {f:Fm} (h:Fr w M v f) (hb:∀ i,i<f.1→f.2 i<256):∃ a cap,v=.slice a f.1 cap∧Row8 w a f.1 cap f.2:=aX h hb
theorem eu (k c s n f len:Nat) (bs:Nat→Nat) (hb:∀ i,i<len→bs i<256):∀ i,i < (dC k c s n f len bs).1→(dC k c s n f len bs).2 i<256:=by
 unfold dC
 by_cases h:LW k c s n f len len=0
 ·rw[if_pos h]
  have hz:=gN h
  intro i _
  have hfr:=wO (K:=k) (c:=c) (s:=s) (n:=n) (F:=f) (len:=len) (bs:=bs) (by omega) (by omega) (by omega) hb
  show PM.sl _ _ i<256
  unfold PM.sl PM.ct
  split
  ·rename_i h2;exact hfr i h2
  ·exact PM.w4_lt _ _
 ·rw[if_neg h];intro i hi;exact absurd hi (Nat.not_lt_zero i)
theorem it (P:Pm):∀ i,i<4→jj P i<256:=fun i _=>PM.w4_lt _ i
structure Ow (w0 w:World) (d m g n mx:Nat) (P:Pm) (U:List Nat) (s:Sd):Prop where
 bel:Below w0.heap.size w0 w
 dv:DV w d m g n mx P U s
 ge:∀ k,k ∈ U→w0.heap.size≤k
theorem vm (m g n mx:Nat) (P:Pm) (hP:Pok P) (ms:Ms) (w:World) (hM:MR w m g n ms) (hx:mx<4294967296) (ht:ms.t<9223372036854774000) (h0:lU mx n ms=0) :
  Calls prog 47 #[.agg #[.int .u32 (P.c:Nat),.int .i64 (P.o:Nat),.int .i64 (P.i:Nat),.int .i64 (P.t:Nat),.int .u32 (P.n:Nat)],ac m 0,.int .u32 (mx:Nat)] w fun e w'=>∃ d,e=.returned (.tuple #[ac d 0,.int .i64 0])∧Hid (∃ U,Off [m,g] w w'∧DV w' d m g n mx P U (dJ (jw mx n ms))∧∀ k,k ∈ U→k=m∨k=g∨w.heap.size≤k):=by
 refine (t6 m g n mx P hP ms w hM hx ht).mono ?_
 rintro e w' ⟨p,rfl,h⟩
 obtain⟨o,_,hd,_⟩:=h.out
 obtain⟨d,U,rfl,D,hU⟩:=hd h0
 rw[h0]
 exact⟨d,rfl,U,o,D,hU⟩
theorem xV (mx:Nat) (P:Pm) (hP:Pok P) (w0 w:World) (m g:Nat) (hb:Below w0.heap.size w0 w) (hm:w0.heap.size≤m) (hg:w0.heap.size≤g) (hM:MR w m g 16 M0) (hx:mx<4294967296) (h0:mx≠0) :
  Calls prog 47 #[.agg #[.int .u32 (P.c:Nat),.int .i64 (P.o:Nat),.int .i64 (P.i:Nat),.int .i64 (P.t:Nat),.int .u32 (P.n:Nat)],ac m 0,.int .u32 (mx:Nat)] w fun e w'=>∃ d,e=.returned (.tuple #[ac d 0,.int .i64 0])∧Hid (∃ U,Ow w0 w' d m g 16 mx P U (dJ M0)):=by
 have hN:=vm m g 16 mx P hP M0 w hM hx (by decide) (wU mx h0).1
 rw[(wU mx h0).2]at hN
 refine hN.mono ?_
 rintro e w' ⟨d,rfl,h⟩
 obtain⟨U,o,D,hU⟩:=h.out
 refine⟨d,rfl,U,o.below hb (by simp;omega) hb.size,D,fun k hk=>?_⟩
 have:=hb.size
 rcases hU k hk with h | h | h <;> omega
theorem iH (d m g n mx:Nat) (P:Pm) (U:List Nat) (s:Sd) (w:World) (h:DV w d m g n mx P U s) :
  Calls prog 35 #[ac d 0] w fun e w'=>∃ a cap,e=.returned (.agg (bn s.st s.ss s.nm s.sn s.dc s.v.lat (aq s.v) (aB s.v) a P.o cap))∧Hid (Fr w' w.heap.size (.slice a P.o cap) (P.o,cG s.v)∧Row8 w' a P.o cap (cG s.v)∧Below w.heap.size w w'):=by
 obtain⟨B,x⟩:=id h
 refine (vI d m g n mx P U s w h).mono ?_
 rintro e w' ⟨v,rfl,h2⟩
 obtain⟨a,cap,hv,r⟩:=h2.out.1.row (gG x.val)
 subst hv
 exact⟨a,cap,rfl,h2.out.1,r,h2.out.2⟩
theorem zJ {mx n:Nat} {s:Ms} (hn:10≤n) (ho:s.off=false) (hl:0≤s.l) (hmx:mx<4294967296) :
  ((nx mx n s.bs false s).e=0→(nx mx n s.bs false s).v=vz s.bs+1∧vz (nx mx n s.bs false s).s.bs=vz s.bs+1∧vz s.bs<mx)∧((nx mx n s.bs false s).e≠0→vz (nx mx n s.bs false s).s.bs=vz s.bs):=by
 unfold nx
 rw[if_neg (by simp[ho])]
 by_cases hm:mx≤vz s.bs
 ·rw[if_pos hm]
  exact⟨fun e=>(by cases e),fun _=>rfl⟩
 ·rw[if_neg hm]
  rcases fM n (cT (tg s.bs) (vz s.bs+1)) s (fun x hx=>(fo _ _ n (j4 _) hn x hx).1) ho hl with ⟨h1,h2,_⟩ | ⟨h1,h2,_,h4⟩
  ·rw[if_pos h1]
   refine⟨fun _=>⟨rfl,?_,by omega⟩,fun e=>absurd rfl e⟩
   show vz (fU n (cT (tg s.bs) (vz s.bs+1)) s).bs=_
   rw[h2]
   exact vN _ _ (by omega) (by omega)
  ·rw[if_neg (by omega)]
   refine⟨fun e=>(by cases e),fun _=>?_⟩
   show vz (fU n (cT (tg s.bs) (vz s.bs+1)) s).bs=_
   rw[h2]
   refine xA _ _ _ ?_
   have:(cT (tg s.bs) (vz s.bs+1)).length=6:=rfl
   omega
theorem ye {mx n:Nat} {s:Ms} (hl:0≤s.l) (hz:Bz s.bs):vz (jw mx n s).bs=vz s.bs:=by
 unfold jw
 by_cases h1:mx=0∨n<10
 ·rw[if_pos h1]
 ·rw[if_neg h1]
  by_cases h2:s.off=true
  ·rw[if_pos h2]
  ·rw[if_neg h2]
   rcases fM n (dn s.bs) s (fun x hx=>(ii s.bs n (by omega) x hx).1) (by simpa using h2) hl with ⟨_,e,_⟩ | ⟨_,e,_⟩
   ·rw[e]
    have:=lS s.bs (dn s.bs).length hz
    rwa [List.take_length]at this
   ·rw[e]
    exact lS s.bs _ hz
theorem qW {s:Sd} (h:s.st=1):bF s=s:=by
 unfold bF mY
 rw[h]
 rfl
theorem pO (P:Pm) (mx n:Nat) {s:Sd} (h:s.st=1):bO P mx n s=bG P mx n s:=by
 unfold bO
 rw[qW h,h]
 rfl
theorem un {mx n:Nat} (s:Sd) (k:Int) (hz:Bz s.ms.bs) (hl:0≤s.ms.l):vz (cK mx n s k).ms.bs=vz s.ms.bs∧(cK mx n s k).ms.t≤s.ms.t+6∧(cK mx n s k).L=s.L:=by
 unfold cK
 by_cases hk:k<0
 ·rw[if_pos hk];exact⟨rfl,by omega,rfl⟩
 ·rw[if_neg hk]
  have hb:(pW s.ms k).bs=s.ms.bs∧(pW s.ms k).t=s.ms.t∧0 ≤ (pW s.ms k).l:=by
   unfold pW ks
   split
   ·split
    ·exact⟨rfl,rfl,hl⟩
    ·exact⟨rfl,rfl,by show 0≤k-1;omega⟩
   ·exact⟨rfl,rfl,hl⟩
  refine⟨?_,?_,rfl⟩
  ·show vz (jw mx n (pW s.ms k)).bs=_
   rw[ye hb.2.2 (by rw[hb.1];exact hz),hb.1]
  ·have:=aad mx n (pW s.ms k) hb.2.2
   show (jw mx n (pW s.ms k)).t≤_
   omega
theorem DV.facts {w:World} {d m g n mx:Nat} {P:Pm} {U:List Nat} {s:Sd} (h:DV w d m g n mx P U s):Bz s.ms.bs∧0≤s.ms.l∧10≤n∧mx≠0∧mx<4294967296∧(s.st≠6→s.ms.off=false):=by
 obtain⟨B,x⟩:=h
 exact⟨fun i hi=>x.mem.byte i (by have:=x.n10;omega),x.mem.l0,x.n10,x.mx0,x.mxl,fun hs=>(x.cel hs).2.2⟩
theorem ro (d m g n mx:Nat) (P:Pm) (U:List Nat) (s:Sd) (p:Int) (w:World) (h:DV w d m g n mx P U s) (hp:p≤9223372036854775807) :
  Calls prog 55 #[ac m 0,.int .i64 p] w fun e w'=>e=.returned (.int .i64 (yr p))∧Hid (∃ U',Gr U w U' w'∧DV w' d m g n mx P U' { s with ms:=ks s.ms p }):=by
 obtain⟨B,x⟩:=h
 refine (qJ m g n s.ms p w x.mem hp).mono ?_
 rintro e w' ⟨rfl,o,m'⟩
 refine⟨rfl,U,Gr.same (o.more (m:=[m,g,B.c]) (by simp)) x.memU,B,x.memd (o.more (by simp)) m' (A':=s.st≠6) (fun hs=>?_)⟩
 obtain⟨c1,c2,c3⟩:=x.cel hs
 have hne:B.c ∉ [m]:=fun hm=>by simp at hm;have:=x.kc.1;rw[hm,x.km.1]at this;omega
 have e1:(ks s.ms p).bs=s.ms.bs:=by unfold ks;split <;> rfl
 have e2:(ks s.ms p).off=s.ms.off:=by unfold ks;split <;> rfl
 rw[e1,e2]
 exact⟨c1,c2.off o hne,c3⟩
structure Vok (s:Vs):Prop where
 fr:s.lat=0→s.fr=false
 sm:s.sm=true→s.lat=0
theorem Vok.new:Vok kH:=⟨fun _=>rfl,fun h=>by cases h⟩
theorem Vok.trip {s:Vs} (h:Vok s) (x:Int):Vok (du s x):=by
 unfold du
 split
 ·exact h
 ·exact⟨fun _=>rfl,fun h=>by cases h⟩
theorem Vok.run {s:Vs} (h:Vok s) (o:Bool):Vok (dI s o):=by
 unfold dI
 split
 ·exact h
 ·exact⟨h.fr,fun h=>by cases h⟩
theorem Vok.hold {s:Vs} (h:Vok s) (o:Bool):Vok (cP s o):=⟨h.fr,h.sm⟩
theorem Vok.fresh {s:Vs} (h:Vok s):Vok (bH s):=⟨fun e=>by show (s.lat != 0)=false;rw[show s.lat=0 from e];rfl,h.sm⟩
theorem Vok.take {s:Vs} (h:Vok s) (bs:Nat→Nat):Vok (bP s bs):=by
 unfold bP
 split
 ·rename_i k
  exact⟨h.fr,fun _=>k.2⟩
 ·exact h
theorem Vok.ack {s:Vs} (h:Vok s):Vok (ep s):=by
 unfold ep
 split
 ·exact⟨fun _=>rfl,fun _=>rfl⟩
 ·exact h
structure Bk2 where
 c:Nat
 M:List Nat
 cp:Value
 lv:Value
 vv:Value
 av:Value
 col:Nat→Nat
section
variable {w w':World} {d m g n mx:Nat} {P:Pm} {U:List Nat} {s s':Sd} {B:Bk2} {A A':Prop}
end
end Go.Proofs.YtfgnmadnmjdbiaaGreat
namespace Go.Proofs.YtfgnmadnmjdbiaaGreat
open Tryz
open Go.RowKit
structure Iv (P:Pm) (s:Sd):Prop where
 st1:1≤s.st
 st6:s.st≤6
 ss:s.ss<4294967296
 nm:s.nm<4294967296
 sn:s.sn<4294967296
 hs:s.st=2∨s.st=3→s.sn=0∧s.nm=0∧s.ss≠0
 run:s.st=4→s.sn≤s.nm∧s.nm<P.n∧s.ss≠0
 od:s.od<4
 vr:s.v.run=decide (s.st=4)
 vok:Vok s.v
 s0:s.ss=0→s.nm=0
 z:s.ss=0∨s.ss=vz s.ms.bs
 d6:s.st=6→s.ap=(fun _=>0)∧s.hd=false
structure Mo (mx n:Nat) (s:Sd):Prop where
 n10:10≤n
 mx0:mx≠0
 mxl:mx<4294967296
 l0:0≤s.ms.l
 bz:Bz s.ms.bs
 off:s.st≠6→s.ms.off=false
theorem Mo.of {w:World} {d m g n mx:Nat} {P:Pm} {U:List Nat} {s:Sd} (h:DV w d m g n mx P U s):Mo mx n s:=by
 obtain⟨a,b,c,e,f,g⟩:=h.facts
 exact⟨c,e,f,b,a,g⟩
section
variable {P:Pm} {mx n:Nat} {s:Sd}
theorem gE (v:Vs) (x:Int):(du v x).run=v.run:=by unfold du;split <;> rfl
theorem eR (v:Vs) (o:Bool):(dI v o).run=o:=by
 unfold dI
 split
 ·assumption
 ·rfl
theorem lr (v:Vs) (bs:Nat→Nat):(bP v bs).run=v.run:=by unfold bP;split <;> rfl
theorem m7 (v:Vs):(ep v).run=v.run:=by unfold ep;split <;> rfl
theorem iJ (s:Sd) (x:Int):(aJ s x).v=du s.v x:=by unfold aJ gR;split <;> rfl
theorem je (s:Sd) (x:Int):(aJ s x).st=s.st∧(aJ s x).ss=s.ss∧(aJ s x).nm=s.nm∧(aJ s x).sn=s.sn∧(aJ s x).od=s.od∧(aJ s x).ms=s.ms∧(aJ s x).ap=s.ap∧(aJ s x).hd=s.hd:=by unfold aJ gR;split <;> exact⟨rfl,rfl,rfl,rfl,rfl,rfl,rfl,rfl⟩
theorem Iv.latch (h:Iv P s) (x:Int):Iv P (aJ s x):=by
 unfold aJ gR
 split
 ·exact⟨h.st1,h.st6,h.ss,h.nm,h.sn,h.hs,h.run,h.od,(gE _ _).trans h.vr,h.vok.trip x,h.s0,h.z,h.d6⟩
 ·exact⟨h.st1,h.st6,h.ss,h.nm,h.sn,h.hs,h.run,h.od,(gE _ _).trans h.vr,h.vok.trip x,h.s0,h.z,h.d6⟩
theorem Iv.note (h:Iv P s) (x:Int):Iv P (gR s x):=⟨h.st1,h.st6,h.ss,h.nm,h.sn,h.hs,h.run,h.od,h.vr,h.vok,h.s0,h.z,h.d6⟩
theorem Iv.leave (hv:Vok s.v) {k:Nat} (h1:1≤k) (h5:k≤5) (h4:k≠4) (h2:k≠2) (h3:k≠3):Iv P (cy s k):=
 ⟨h1,Nat.le_succ_of_le h5,by show (0:Nat)<_;omega,by show (0:Nat)<_;omega,by show (0:Nat)<_;omega,fun e=>by have e:k=2∨k=3:=e;omega,fun e=>absurd e h4,by show (0:Nat)<4;omega,by
  show (dI s.v false).run=decide (k=4)
  rw[eR,decide_eq_false h4],hv.run false,fun _=>rfl,.inl rfl,fun e=>by have e:k=6:=e;omega⟩
theorem Iv.life {k:Nat} (h1:1≤k) (h6:k≤6) (h4:k≠4) (h2:k≠2) (h3:k≠3):Iv P (jd s k):=
 ⟨h1,h6,by show (0:Nat)<_;omega,by show (0:Nat)<_;omega,by show (0:Nat)<_;omega,fun e=>by have e:k=2∨k=3:=e;omega,fun e=>absurd e h4,by show (0:Nat)<4;omega,(decide_eq_false h4).symm,Vok.new,fun _=>rfl,.inl rfl,fun _=>⟨rfl,rfl⟩⟩
theorem Iv.odd (h:Iv P s):Iv P (bF s):=by
 unfold bF
 split
 ·split
  ·rename_i h4
   exact⟨h.st1,h.st6,h.ss,h.nm,h.sn,h.hs,h.run,h4,h.vr,h.vok,h.s0,h.z,h.d6⟩
  ·refine Iv.leave ?_ (by omega) (by omega) (by omega) (by omega) (by omega)
   split
   ·rw[iJ];exact h.vok.trip _
   ·exact h.vok
 ·exact h
theorem Iv.begin_ (h:Iv P s) (M:Mo mx n s) (hu:s.st≠6):Iv P (bG P mx n s).s:=by
 have hv:=zJ (mx:=mx) (n:=n) (s:=s.ms) M.n10 (M.off hu) M.l0 M.mxl
 unfold bG
 generalize nx mx n s.ms.bs false s.ms=X at *
 have hm:=M.mxl
 split
 ·refine Iv.leave ?_ (by omega) (by omega) (by omega) (by omega) (by omega)
  rw[iJ];exact h.vok.trip _
 ·split
  ·exact Iv.life (by omega) (by omega) (by omega) (by omega) (by omega)
  ·rename_i e0
   have e0:X.e=0:=by simpa using e0
   obtain⟨v1,v2,v3⟩:=hv.1 e0
   refine⟨by show 1≤2;omega,by show 2≤6;omega,by show X.v<_;omega,by show (0:Nat)<_;omega,by show (0:Nat)<_;omega,fun _=>⟨rfl,rfl,by show X.v≠0;omega⟩,fun e=>by have e:(2:Nat)=4:=e;omega,by show (0:Nat)<4;omega,?_,h.vok.run false,fun _=>rfl,.inr ?_,fun e=>by have e:(2:Nat)=6:=e;omega⟩
   ·show (dI s.v false).run=decide ((2:Nat)=4)
    rw[eR];rfl
   ·show X.v=vz X.s.bs
    omega
theorem Mo.odd (M:Mo mx n s):Mo mx n (bF s):=by
 refine⟨M.n10,M.mx0,M.mxl,by rw[gP];exact M.l0,by rw[gP];exact M.bz,fun _=>?_⟩
 rw[gP]
 by_cases h6:s.st=6
 ·exfalso
  have:bF s=s:=by unfold bF mY;rw[h6];rfl
  rename_i hh
  rw[this]at hh
  exact hh h6
 ·exact M.off h6
theorem Iv.wish (h:Iv P s) (M:Mo mx n s) (hu:s.st≠6):Iv P (bO P mx n s).s:=by
 unfold bO
 split
 ·exact h.odd
 ·split
  ·exact h.odd
  ·exact h.odd.begin_ M.odd (qt hu)
theorem Iv.echo (h:Iv P s):Iv P (bi s):=by
 unfold bi
 split
 ·rename_i h2
  have hq:=h.hs (.inl h2)
  refine⟨by show 1≤3;omega,by show 3≤6;omega,h.ss,h.nm,h.sn,fun _=>hq,fun e=>by have e:(3:Nat)=4:=e;omega,by show (0:Nat)<4;omega,?_,h.vok.fresh,h.s0,h.z,fun e=>by have e:(3:Nat)=6:=e;omega⟩
  show s.v.run=decide ((3:Nat)=4)
  rw[h.vr,h2];rfl
 ·exact h
theorem Iv.start (h:Iv P s) (hP:Pok P):Iv P (cr s):=by
 unfold cr
 split
 ·rename_i h3
  have hq:=h.hs (.inr h3)
  have:=hP.n2
  refine⟨by show 1≤4;omega,by show 4≤6;omega,h.ss,h.nm,h.sn,fun e=>by have e:(4:Nat)=2∨(4:Nat)=3:=e;omega,fun _=>⟨by show s.sn≤s.nm;omega,by show s.nm<_;omega,hq.2.2⟩,by show (0:Nat)<4;omega,?_,(h.vok.run true).fresh,h.s0,h.z,fun e=>by have e:(4:Nat)=6:=e;omega⟩
  show (dI s.v true).run=decide ((4:Nat)=4)
  rw[eR];rfl
 ·exact h
theorem Iv.data (h:Iv P s) (hP:Pok P) {num fl:Nat} {bs:Nat→Nat} (h4:s.st=4) (hn:s.nm<num) (hc:num<P.n):Iv P (cF s num fl bs):=by
 have hq:=h.run h4
 have hp:=hP.n
 refine⟨h.st1,h.st6,h.ss,by show num<_;omega,by show s.sn+1<_;omega,fun e=>by have e:s.st=2∨s.st=3:=e;omega,fun _=>⟨by show s.sn+1≤num;omega,hc,hq.2.2⟩,by show (0:Nat)<4;omega,?_,(h.vok.fresh.hold _).take _,fun e=>absurd e hq.2.2,h.z,fun e=>by have e:s.st=6:=e;omega⟩
 show (bP (cP (bH s.v) (decide (8≤fl))) bs).run=decide (s.st=4)
 rw[lr];exact h.vr
theorem Iv.last (h:Iv P s) (hP:Pok P) (h4:s.st=4):Iv P (lD (fp P s)):=by
 have hq:=h.run h4
 have hp:=hP.n
 obtain⟨l1,l2,l3,l4,l5,l6,l7,l8⟩:=je (gy { s with nm:=P.n }) 80
 refine⟨by show 1≤5;omega,by show 5≤6;omega,?_,?_,hp,fun e=>by have e:(5:Nat)=2∨(5:Nat)=3:=e;omega,fun e=>by have e:(5:Nat)=4:=e;omega,?_,?_,?_,?_,?_,fun e=>by have e:(5:Nat)=6:=e;omega⟩
 ·show (aJ (gy { s with nm:=P.n }) 80).ss<_
  rw[l2];exact h.ss
 ·show (aJ (gy { s with nm:=P.n }) 80).nm<_
  rw[l3];exact hp
 ·show (aJ (gy { s with nm:=P.n }) 80).od<4
  rw[l5];show (0:Nat)<4;omega
 ·show (dI (aJ (gy { s with nm:=P.n }) 80).v false).run=decide ((5:Nat)=4)
  rw[eR];rfl
 ·show Vok (dI (aJ (gy { s with nm:=P.n }) 80).v false)
  rw[iJ]
  exact (h.vok.fresh.trip _).run _
 ·intro e
  have e:(aJ (gy { s with nm:=P.n }) 80).ss=0:=e
  rw[l2]at e
  exact absurd e hq.2.2
 ·show (aJ (gy { s with nm:=P.n }) 80).ss=0∨(aJ (gy { s with nm:=P.n }) 80).ss=vz (aJ (gy { s with nm:=P.n }) 80).ms.bs
  rw[l2,l6];exact h.z
theorem Iv.take (h:Iv P s) (hP:Pok P) (M:Mo mx n s) (hu:s.st≠6) (k ss num fl len:Nat) (bs:Nat→Nat):Iv P (aL P mx n s k ss num fl len bs).s:=by
 unfold aL
 split
 ·split
  ·exact h.wish M hu
  ·exact h.odd
 ·split
  ·split
   ·exact h.echo
   ·exact h.odd
  ·split
   ·exact h.start hP
   ·split
    ·rename_i hh
     exact h.data hP hh.2.1.2.1 hh.2.1.2.2 hh.2.2.1
    ·split
     ·rename_i hh
      exact h.last hP hh.2.1.2.1
     ·exact h.odd
theorem Iv.hear (h:Iv P s) (hP:Pok P) (M:Mo mx n s) (hu:s.st≠6) (len:Nat) (bs:Nat→Nat):Iv P (bK P mx n s len bs).s:=by
 unfold bK
 split
 ·exact h
 ·split
  ·exact h
  ·split
   ·exact h
   ·exact h.take hP M hu _ _ _ _ _ _
theorem Iv.recv (h:Iv P s) (hP:Pok P) (M:Mo mx n s) (len:Nat) (bs:Nat→Nat):Iv P (au P mx n s len bs).s:=by
 unfold au
 split
 ·exact h
 ·rename_i hu
  split
  ·exact (h.hear hP M hu len bs).note _
  ·exact h.hear hP M hu len bs
theorem Iv.write (h:Iv P s) (len:Nat) (bs:Nat→Nat) (o:Bool):Iv P (dz P s len bs o):=by
 unfold dz
 split
 ·exact h
 ·rename_i h6
  split
  ·exact⟨h.st1,h.st6,h.ss,h.nm,h.sn,h.hs,h.run,h.od,h.vr,h.vok,h.s0,h.z,fun e=>absurd e h6⟩
  ·exact h
theorem Iv.tick (h:Iv P s) (k:Int):Iv P (dk P s k):=by
 unfold dk
 split
 ·exact h
 ·split
  ·exact h
  ·have h':Iv P { s with dc:=tk P.t s.dc k.toNat }:=⟨h.st1,h.st6,h.ss,h.nm,h.sn,h.hs,h.run,h.od,h.vr,h.vok,h.s0,h.z,h.d6⟩
   split
   ·exact h'.latch _
   ·exact h'
theorem Iv.ack (h:Iv P s):Iv P (cY s):=by
 unfold cY
 split
 ·exact h
 ·exact⟨h.st1,h.st6,h.ss,h.nm,h.sn,h.hs,h.run,h.od,(m7 _).trans h.vr,h.vok.ack,h.s0,h.z,h.d6⟩
theorem Iv.reset (h:Iv P s) (k:Int):Iv P (cK mx n s k):=by
 unfold cK
 split
 ·exact h
 ·split
  ·exact Iv.life (by omega) (by omega) (by omega) (by omega) (by omega)
  ·exact Iv.life (by omega) (by omega) (by omega) (by omega) (by omega)
theorem Iv.arm (h:Iv P s) (p:Int):Iv P { s with ms:=ks s.ms p }:=
 ⟨h.st1,h.st6,h.ss,h.nm,h.sn,h.hs,h.run,h.od,h.vr,h.vok,h.s0,by
  have:(ks s.ms p).bs=s.ms.bs:=by unfold ks;split <;> rfl
  show s.ss=0∨s.ss=vz (ks s.ms p).bs
  rw[this];exact h.z,h.d6⟩
theorem Iv.new_ (ms:Ms):Iv P (dJ ms):=
 ⟨by show 1≤1;omega,by show 1≤6;omega,by show (0:Nat)<_;omega,by show (0:Nat)<_;omega,by show (0:Nat)<_;omega,fun e=>by have e:(1:Nat)=2∨(1:Nat)=3:=e;omega,fun e=>by have e:(1:Nat)=4:=e;omega,by show (0:Nat)<4;omega,rfl,Vok.new,fun _=>rfl,.inl rfl,fun e=>by have e:(1:Nat)=6:=e;omega⟩
theorem Iv.sent (h:Iv P s) (hP:Pok P):s.st=4→s.sn+1<4294967296:=fun e=>by
 have:=h.run e
 have:=hP.n
 omega
def Gw (a b:Sd):Prop:=b.L.length≤a.L.length+3∧b.ms.t≤a.ms.t+6
theorem uF (M:Mo mx n s):(bG P mx n s).s.ms.t≤s.ms.t+6:=by
 have ht:=aaj mx n s.ms.bs false s.ms M.n10 M.l0
 unfold bG
 generalize nx mx n s.ms.bs false s.ms=X at *
 split
 ·show (aJ { s with ms:=X.s } 80).ms.t≤_
  rw[gK];exact ht
 ·split
  ·exact ht
  ·exact ht
theorem vn (M:Mo mx n s):(bO P mx n s).s.ms.t≤s.ms.t+6:=by
 have e:=gP s
 unfold bO
 split
 ·show (bF s).ms.t≤_;rw[e];omega
 ·split
  ·show (bF s).ms.t≤_;rw[e];omega
  ·have:=uF (P:=P) M.odd
   rw[e]at this;exact this
theorem wF (M:Mo mx n s) (k ss num fl len:Nat) (bs:Nat→Nat):(aL P mx n s k ss num fl len bs).s.ms.t≤s.ms.t+6:=by
 have e:=gP s
 have r:∀ x:Int,(aS P s x).s.ms.t≤s.ms.t+6:=fun x=>by show (bF s).ms.t≤_;rw[e];omega
 unfold aL
 split
 ·split
  ·exact vn M
  ·exact r _
 ·split
  ·split
   ·show (bi s).ms.t≤_;unfold bi;split <;> (show s.ms.t≤_;omega)
   ·exact r _
  ·split
   ·show (cr s).ms.t≤_;unfold cr;split <;> (show s.ms.t≤_;omega)
   ·split
    ·show s.ms.t≤_;omega
    ·split
     ·show (aJ (gy { s with nm:=P.n }) 80).ms.t≤_
      rw[gK];show s.ms.t≤_;omega
     ·exact r _
theorem uS (M:Mo mx n s) (len:Nat) (bs:Nat→Nat):Gw s (au P mx n s len bs).s:=by
 have h1:=lE P mx n s len bs
 have h2:(bK P mx n s len bs).s.ms.t≤s.ms.t+6:=by
  unfold bK
  split
  ·show s.ms.t≤_;omega
  ·split
   ·show s.ms.t≤_;omega
   ·split
    ·show s.ms.t≤_;omega
    ·exact wF M _ _ _ _ _ _
 unfold au
 split
 ·exact⟨by show s.L.length≤_;omega,by show s.ms.t≤_;omega⟩
 ·split
  ·exact⟨by show ((bK P mx n s len bs).s.L ++ [_]).length≤_;simp;omega,h2⟩
  ·exact⟨by omega,h2⟩
theorem vq (k:Int):Gw s (dk P s k):=by
 unfold dk
 split
 ·exact⟨by omega,by omega⟩
 ·split
  ·exact⟨by omega,by omega⟩
  ·split
   ·refine⟨?_,?_⟩
    ·have:=fI { s with dc:=tk P.t s.dc k.toNat } 100
     have e:({ s with dc:=tk P.t s.dc k.toNat }:Sd).L.length=s.L.length:=rfl
     omega
    ·rw[gK];show s.ms.t≤_;omega
   ·exact⟨by show s.L.length≤_;omega,by show s.ms.t≤_;omega⟩
theorem xX:Gw s (cY s):=by
 unfold cY
 split <;> exact⟨by show s.L.length≤_;omega,by show s.ms.t≤_;omega⟩
theorem uk (len:Nat) (bs:Nat→Nat) (o:Bool):Gw s (dz P s len bs o):=by
 unfold dz
 split
 ·exact⟨by omega,by omega⟩
 ·split <;> exact⟨by show s.L.length≤_;omega,by show s.ms.t≤_;omega⟩
theorem su (M:Mo mx n s) (k:Int):Gw s (cK mx n s k):=by
 obtain⟨_,h2,h3⟩:=un (mx:=mx) (n:=n) s k M.bz M.l0
 exact⟨by rw[h3];omega,h2⟩
theorem xD (p:Int):Gw s { s with ms:=ks s.ms p }:=⟨by show s.L.length≤_;omega,by
 have:(ks s.ms p).t=s.ms.t:=by unfold ks;split <;> rfl
 show (ks s.ms p).t≤_;omega⟩
end
end Go.Proofs.YtfgnmadnmjdbiaaGreat
namespace Go.Proofs.YtfgnmadnmjdbiaaGreat
open Tryz
open Go.RowKit
end Go.Proofs.YtfgnmadnmjdbiaaGreat
namespace Go.Proofs.YtfgnmadnmjdbiaaGreat.PM
def lJ (p:Nat→Bool):Nat→Nat
 | 0=>0
 | n+1=>lJ p n + (p n).toNat
theorem ux (p:Nat→Bool) (n:Nat):lJ p (n+1)=lJ p n + (p n).toNat:=rfl
theorem tf (p:Nat→Bool) (n:Nat):lJ p n≤n:=by
 induction n with
 | zero=>exact Nat.le_refl _
 | succ n ih=>rw[ux];have:=Bool.toNat_le (p n);omega
theorem byte_ext {f g:Nat→Nat} {n:Nat} (hf:∀ i,i<n→f i<256) (hg:∀ i,i<n→g i<256) (h:∀ k,k<8*n→fb f k=fb g k):∀ i,i<n→f i=g i:=by
 intro i hi
 apply Nat.eq_of_testBit_eq
 intro k
 by_cases hk:k<8
 ·have:=h (8*i + (7-k)) (by omega)
  rw[fb_at f i _ (by omega),fb_at g i _ (by omega),show 7 - (7-k)=k by omega]at this
  exact this
 ·have hp:2 ^ 8≤2 ^ k:=Nat.pow_le_pow_right (by omega) (by omega)
  rw[Nat.testBit_lt_two_pow (Nat.lt_of_lt_of_le (hf i hi) hp),Nat.testBit_lt_two_pow (Nat.lt_of_lt_of_le (hg i hi) hp)]
def ly (a s x i k:Nat):Bool:=decide (a≤k∧k<a+i) && x.testBit (s-1 - (k-a))
theorem ly_zero (a s x k:Nat):ly a s x 0 k=false:=by
 unfold ly;rw[decide_eq_false (by omega)];rfl
theorem ly_succ (a s x i k:Nat):ly a s x (i+1) k=(ly a s x i k || (decide (k=a+i) && x.testBit (s-1-i))):=by
 unfold ly
 by_cases e:k=a+i
 ·subst e
  rw[decide_eq_true (show a≤a+i∧a+i<a + (i+1) by omega),decide_eq_false (show ¬ (a≤a+i∧a+i<a+i) by omega),show a+i-a=i by omega]
  simp
 ·rw[decide_eq_false e,Bool.false_and,Bool.or_false]
  congr 1
  rw[decide_eq_decide];omega
def ol (f:Nat→Nat) (k:Nat) (b:Bool) (q:Nat):Nat:=if q=k / 8 then f (k / 8) ||| b.toNat*2 ^ (7-k % 8) else f q
theorem ol_lt {f:Nat→Nat} {n:Nat} (hf:∀ i,i<n→f i<256) (k:Nat) (b:Bool) (hk:k / 8<n):∀ i,i<n→ol f k b i<256:=by
 intro i hi
 unfold ol
 by_cases h:i=k / 8
 ·rw[if_pos h]
  refine Nat.or_lt_two_pow (n:=8) (hf _ hk) ?_
  have:2 ^ (7-k % 8)<2 ^ 8:=Nat.pow_lt_pow_right (by omega) (by omega)
  cases b
  ·simp
  ·simpa using this
 ·rw[if_neg h];exact hf i hi
theorem ol_fb (f:Nat→Nat) (k:Nat) (b:Bool) (n:Nat):fb (ol f k b) n=(fb f n || (decide (n=k) && b)):=by
 unfold fb ol
 by_cases h:n / 8=k / 8
 ·rw[if_pos h,Nat.testBit_or,h]
  congr 1
  cases b
  ·simp
  ·rw[Bool.toNat_true,Nat.one_mul,Nat.testBit_two_pow,Bool.and_true,decide_eq_decide]
   omega
 ·rw[if_neg h,decide_eq_false (fun e=>h (by rw[e])),Bool.false_and,Bool.or_false]
theorem xor_lt8 {a b:Nat} (ha:a<256) (hb:b<256):a ^^^ b<256:=Nat.xor_lt_two_pow (n:=8) ha hb
end Go.Proofs.YtfgnmadnmjdbiaaGreat.PM
namespace Go.Proofs.YtfgnmadnmjdbiaaGreat
open Tryz
open Go.RowKit
theorem gQ (T:ByteArray) (a b c d:List UInt8) (h:(⟨((a.append b).append (c.append d)).toArray⟩:ByteArray)=T):Value.string ⟨((a.append b).append (c.append d)).toArray⟩=.string T:=by rw[h]
theorem vh (x:Int) (w:World) (h0:0≤x) (h1:x<256) :
  Calls prog 131 #[.int .u32 x] w fun e w'=>e=.returned (.int .i64 (0+Lib.len8 x))∧w'=w:=by
 obtain⟨z,hz,l0,l1,hr⟩:=jl (x) (by omega) (by omega)
 rw[hz]
 clear hz
 go_enter func131,ntmps131
 rw[gQ Lib.len8tab]
 case h=>kernel_rfl
 generalize Lib.len8tab=T at hr ⊢
 go_wp2
 go_ret
 exact⟨dW (by omega),rfl⟩
theorem uA (x:Int) (w:World) (h0:256≤x) (h1:x<65536) :
  Calls prog 131 #[.int .u32 x] w fun e w'=>e=.returned (.int .i64 (8+Lib.len8 (x / 256)))∧w'=w:=by
 obtain⟨z,hz,l0,l1,hr⟩:=jl (x / 256) (by omega) (by omega)
 rw[hz]
 clear hz
 go_enter func131,ntmps131
 rw[gQ Lib.len8tab]
 case h=>kernel_rfl
 generalize Lib.len8tab=T at hr ⊢
 go_wp2
 go_ret
 exact⟨dW (by omega),rfl⟩
theorem uC (x:Int) (w:World) (h0:65536≤x) (h1:x<16777216) :
  Calls prog 131 #[.int .u32 x] w fun e w'=>e=.returned (.int .i64 (16+Lib.len8 (x / 65536)))∧w'=w:=by
 obtain⟨z,hz,l0,l1,hr⟩:=jl (x / 65536) (by omega) (by omega)
 rw[hz]
 clear hz
 go_enter func131,ntmps131
 rw[gQ Lib.len8tab]
 case h=>kernel_rfl
 generalize Lib.len8tab=T at hr ⊢
 go_wp2
 go_ret
 exact⟨dW (by omega),rfl⟩
theorem tT (x:Int) (w:World) (h0:16777216≤x) (h1:x<4294967296) :
  Calls prog 131 #[.int .u32 x] w fun e w'=>e=.returned (.int .i64 (24+Lib.len8 (x / 65536 / 256)))∧w'=w:=by
 obtain⟨z,hz,l0,l1,hr⟩:=jl (x / 65536 / 256) (by omega) (by omega)
 rw[hz]
 clear hz
 go_enter func131,ntmps131
 rw[gQ Lib.len8tab]
 case h=>kernel_rfl
 generalize Lib.len8tab=T at hr ⊢
 go_wp2
 go_ret
 exact⟨dW (by omega),rfl⟩
theorem kJ (x:Nat) (w:World) (hx:x<4294967296) :
  Calls prog 131 #[.int .u32 x] w fun e w'=>e=.returned (.int .i64 (PM.bl x:Nat))∧w'=w:=by
 by_cases c0:x<256
 ·refine (vh x w (by omega) (by omega)).mono fun e w' h=>?_
  exact⟨h.1.trans (dW ((Int.zero_add _).trans (pt x (by omega)))),h.2⟩
 by_cases c1:x<65536
 ·refine (uA x w (by omega) (by omega)).mono fun e w' h=>?_
  exact⟨h.1.trans (dW (iS 8 x (by omega) (by omega) _ (by omega))),h.2⟩
 by_cases c2:x<16777216
 ·refine (uC x w (by omega) (by omega)).mono fun e w' h=>?_
  exact⟨h.1.trans (dW (iS 16 x (by omega) (by omega) _ (by omega))),h.2⟩
 refine (tT x w (by omega) (by omega)).mono fun e w' h=>?_
 exact⟨h.1.trans (dW (iS 24 x (by omega) (by omega) _ (by omega))),h.2⟩
end Go.Proofs.YtfgnmadnmjdbiaaGreat
