/- Part 28: contracts that the proof rests on. -/
import Derived.Test.YtenilkloffnjlaaGreatPkH24
import Derived.Test.YtenilkloffnjlaaGreatPkH26
set_option maxHeartbeats 64000000
set_option maxRecDepth 100000
namespace Go.Proofs.YtenilkloffnjlaaGreat
open Tryz
open Go.RowKit
theorem sG {mx n:Nat} {s:Ms} (hl:0≤s.l) (h:nK mx n s=0):(j3 mx n s).off=false:=by
 unfold nK at h
 unfold j3
 by_cases h1:mx=0∨n<10
 ·rw[if_pos h1]at h;omega
 ·rw[if_neg h1]at h ⊢
  by_cases h2:s.off=true
  ·rw[if_pos h2]at h;omega
  ·rw[if_neg h2]at h ⊢
   rcases gd n (dj s.bs) s (fun x hx=>(iS s.bs n (by omega) x hx).1) (by simpa using h2) hl with ⟨_,e,_⟩ | ⟨e,_⟩
   ·rw[e]
   ·omega
theorem DX.celn {w w':World} {d m g n mx:Nat} {P:Pm} {U:List Nat} {s:Sd} {B:Bk} {A:Prop} (h:DX w d m g n mx P U s B A) {cp:Value} (q:Off [d] w w') (e:w'.heap[d]?=some (.cells (jS P m mx cp B.lb B.db B.vb s B.av) 147 (0,0))):DX w' d m g n mx P U s { B with cp:=cp } False:=by
 have hn:∀ k,B.col k≠0→k ∉ [d]:=fun k hk hm=>by simp at hm;rw[hm,h.kd.1]at hk;exact hk rfl
 refine⟨e,?_,fun h=>h.elim,?_,?_,?_,?_,h.apb,fun k hk=>Nat.lt_of_lt_of_le (h.ltU k hk) q.size,h.kd,h.km,h.kg,h.kc,h.kb,h.kv,h.kw,h.kM,h.kl,h.ka,h.pok,h.n10,h.mx0,h.mxl⟩
 ·exact h.mem.off q (hn _ (by rw[h.km.1];omega)) (hn _ (by rw[h.kg.1];omega))
 ·exact h.dog.off q (hn _ (by rw[h.kb.1];omega))
 ·exact h.val.off q (hn _ (by rw[h.kv.1];omega)) (hn _ (by rw[h.kw.1];omega)) (fun k hk hM=>by simp at hk;subst hk;have:=(h.kM _ hM).1;rw[h.kd.1]at this;omega)
 ·exact h.log.off q (fun k hk=>hn _ (by rw[(h.kl k hk).1];omega))
 ·exact aO h.app q (fun k hk=>hn _ (by rw[(h.ka k hk).1];omega))
theorem sH (d m g n mx:Nat) (P:Pm) (U:List Nat) (s:Sd) (B:Bk) (A:Prop) (w:World) (h:DX w d m g n mx P U s B A) (ms:Ms) (hms:s.ms=ms) (E:Int) (hE:nK mx n ms=E) (ht:ms.t<9223372036854774000) :
  Calls prog 76 #[ac m 0,.int .u32 (mx:Nat)] w fun e w'=>∃ p,e=.returned (.tuple #[.pointer p,.int .i64 E])∧Hid (∃ B',Gr U w U w'∧DX w' d m g n mx P U { s with ms:=j3 mx n ms } B' False ∧
   (E=0→∃ c,p=af c 0∧c ∉ U∧w.heap.size≤c∧c<w'.heap.size∧CS w' c m mx (j3 mx n ms).bs false∧(j3 mx n ms).off=false)∧(¬ E=0→p=none)):=by
 subst hms
 subst hE
 refine (zY m g n mx s.ms w h.mem ht).mono ?_
 rintro e w' ⟨p,rfl,h2⟩
 obtain⟨o2,m2,c2,p2⟩:=h2.out
 refine⟨p,rfl,B,Gr.same o2 (fun k hk=>h.memU k (by simp at hk ⊢;rcases hk with hk | hk <;> simp[hk])),h.memd (o2.more (by simp)) m2 (fun h=>h.elim),fun he=>?_,p2⟩
 obtain⟨c,hp,hc,hC⟩:=c2 he
 exact⟨c,hp,fun hm=>by have:=h.ltU c hm;omega,hc,hC.lt,hC,sG h.mem.l0 he⟩
theorem oX (d m g n mx:Nat) (P:Pm) (U:List Nat) (s:Sd) (k:Int) (w:World) (h:DV w d m g n mx P U s) (hk0:0≤k) (hk:k≤9223372036854775807) (ht:s.ms.t<9223372036854774000) :
  Calls prog 85 #[ac d 0,.int .i64 k] w fun e w'=>e=.returned (.int .i64 (fS mx n s k))∧Hid (∃ U',Gr U w U' w'∧DV w' d m g n mx P U' (cL mx n s k)):=by
 unfold fS cL
 rw[if_neg (by omega),if_neg (by omega)]
 obtain⟨B,h⟩:=h
 obtain⟨c0,c1,c2,c3,c4,_⟩:=h.cells
 have hL:=gB P h.pok w
 have H:Hid (_):=And.intro h ht
 clear h ht
 obtain⟨MS,hMS⟩:∃ x,sQ s.ms k=x:=⟨_,rfl⟩
 rw[hMS]
 obtain⟨E,hE⟩:∃ x,nK mx n MS=x:=⟨_,rfl⟩
 rw[hE]
 have hMt:MS.t=s.ms.t:=by subst hMS;unfold sQ lK;split <;> (try split) <;> rfl
 obtain⟨K6,hK6⟩:∃ x,(if E=0 then 1 else 6)=x:=⟨_,rfl⟩
 rw[hK6]
 have HM:Hid (_):=And.intro hMS (And.intro hE (And.intro hMt hK6))
 clear hMS hE hMt hK6
 by_cases hp:0<k
 ·go_enter func85,ntmps85
  go_wp2_with (go_at_call 77;refine hL.mono ?_;rintro e w1 ⟨db,vb,vg,ga,rfl,h1⟩;obtain⟨_,_,_,_,_,y5,_,_,_,y9,y10,y11,y12,y13,y14,y15,y16,y17⟩:=(H.out.1.newd (Off.of_below h1.out.bel)).cells;have fz:=(H.out.1.newd (Off.of_below h1.out.bel)).fz;have f9:=fz 9;have f10:=fz 10;have f11:=fz 11;have f12:=fz 12;have f13:=fz 13;have f14:=fz 14;have f15:=fz 15;have f16:=fz 16;have f17:=fz 17;clear fz c0 c1 c2 c3 c4 hL)
  have e1:=(H.out.1.newd (Off.of_below h1.out.bel)).dev
  have o:=rA d w1 (ac db 0) (ac vb 0) (.int .i64 1) (.int .u32 0) (.int .u32 0) (.int .u32 0) (.int .i64 0) (.slice (af ga 0) P.i P.i) (.bool false)
  have e2:=kY (db':=db) (vb':=vb) (av':=.slice (af ga 0) P.i P.i) e1
  obtain⟨U2,B2,g2,x2⟩:=H.out.1.lived (k:=1) h1.out o e2
  refine (wl _ _ _ _ _ x2.mem).mono ?_
  rintro e w3 ⟨rfl,o3,m3⟩
  have x3:=x2.memd (o3.more (by simp)) m3 (A':=False) (fun h=>h.elim)
  have z5:=x3.cells.2.2.2.2.2.1
  have z6:=x3.cells.2.2.2.2.2.2.1
  have H3:Hid (_):=And.intro (g2.trans (Gr.same (o3.more (by simp)) x2.memU)) (And.intro x3 H.out.2)
  clear H h1 e1 o e2 g2 x2 o3 m3 x3 y5 y9 y10 y11 y12 y13 y14 y15 y16 y17 f9 f10 f11 f12 f13 f14 f15 f16 f17
  go_wp2_with fail
  refine (sj _ _ _ _ (k-1) w3 H3.out.2.1.mem (by omega)).mono ?_
  rintro e w4 ⟨rfl,o4,m4⟩
  have x4:=H3.out.2.1.memd (o4.more (by simp)) m4 (A':=False) (fun h=>h.elim)
  have y5:=x4.cells.2.2.2.2.2.1
  have y6:=x4.cells.2.2.2.2.2.2.1
  have H4:Hid (_):=And.intro (H3.out.1.trans (Gr.same (o4.more (by simp)) H3.out.2.1.memU)) (And.intro x4 H3.out.2.2)
  clear H3 o4 m4 x4 z5 z6
  go_wp2_with fail
  have hO:=sH d m g n mx P U2 _ _ _ _ (H4.out.2.1.newd (Off.drew [] w4)) MS (by rw[← HM.out.1];unfold sQ;rw[if_pos hp];rfl) E HM.out.2.1 (by rw[HM.out.2.2.1];exact H4.out.2.2)
  go_region_with (go_at_call 76;refine hO.mono ?_;rintro e w5 ⟨p,rfl,h5⟩)
  all_goals
   obtain⟨B5,g5,x5,c5,p5⟩:=h5.out
   have G5:=H4.out.1.trans (Gr.trans (Gr.same (Off.drew [] w4) (by simp)) g5)
   have y7:=x5.cells.2.2.2.2.2.2.2.1
   have f7:=x5.fz 7
   have H5:Hid (_):=And.intro G5 (And.intro x5 (And.intro c5 p5))
   have H2s:Hid (_):=Nat.le_trans H4.out.1.off.size (Nat.le_refl _)
   clear hO h5 g5 x5 c5 p5 G5 H4 y5 y6
   by_cases he:E=0
   ·have e0:(E != 0)=false:=by simp[he]
    obtain⟨c,rfl,hc,hge,hlt,hC,hoff⟩:=H5.out.2.2.1 he
    have HE:Hid (_):=And.intro he (And.intro hc (And.intro hge (And.intro hlt (And.intro hC hoff))))
    clear he hc hge hlt hC hoff
    go_wp2_with fail
    go_ret
    obtain⟨he,hc,hge,hlt,hC,hoff⟩:=HE.out
    obtain⟨G5,x5,_,_⟩:=H5.out
    have hk6:K6=1:=by rw[← HM.out.2.2.2,if_pos he]
    subst hk6
    have x6:=x5.celd (A':=(1:Nat)≠6) (cp:=ac c 0) hc hlt (Off.setCell d 7 w5 (ac c 0)) (heap_setCell_same _ _ _ _ _ _ x5.dev) (fun _=>⟨rfl,hC,hoff⟩)
    refine⟨rfl,c :: U2,⟨(G5.trans (Gr.same (Off.setCell d 7 w5 (ac c 0)) (by simp[x5.kd.2]))).off,fun j hj=>?_⟩,_,x6⟩
    simp at hj
    rcases hj with rfl | hj
    ·exact .inr (Nat.le_trans H2s.out hge)
    ·exact G5.new j hj
   ·have e0:(E != 0)=true:=by simp[he]
    obtain rfl:=H5.out.2.2.2 he
    have x6:=H5.out.2.1.celn (cp:=.pointer none) (Off.setCell d 7 w5 (.pointer none)) (heap_setCell_same _ _ _ _ _ _ H5.out.2.1.dev)
    have hD:=iw d m g n mx P U2 _ _ _ _ x6
    have H6:Hid (_):=And.intro he (H5.out.1.trans (Gr.same (Off.setCell d 7 w5 (.pointer none)) (by simp[H5.out.2.1.kd.2])))
    clear he x6 H5
    go_wp2_with (go_at_call 114;refine hD.mono ?_;rintro e w7 ⟨rfl,h7⟩)
    go_ret
    obtain⟨U7,g7,x7⟩:=h7.out
    have hk6:K6=6:=by rw[← HM.out.2.2.2,if_neg H6.out.1]
    subst hk6
    exact⟨rfl,U7,H6.out.2.trans g7,x7⟩
 ·go_enter func85,ntmps85
  go_wp2_with (go_at_call 77;refine hL.mono ?_;rintro e w1 ⟨db,vb,vg,ga,rfl,h1⟩;obtain⟨_,_,_,_,_,y5,_,_,_,y9,y10,y11,y12,y13,y14,y15,y16,y17⟩:=(H.out.1.newd (Off.of_below h1.out.bel)).cells;have fz:=(H.out.1.newd (Off.of_below h1.out.bel)).fz;have f9:=fz 9;have f10:=fz 10;have f11:=fz 11;have f12:=fz 12;have f13:=fz 13;have f14:=fz 14;have f15:=fz 15;have f16:=fz 16;have f17:=fz 17;clear fz c0 c1 c2 c3 c4 hL)
  have e1:=(H.out.1.newd (Off.of_below h1.out.bel)).dev
  have o:=rA d w1 (ac db 0) (ac vb 0) (.int .i64 1) (.int .u32 0) (.int .u32 0) (.int .u32 0) (.int .i64 0) (.slice (af ga 0) P.i P.i) (.bool false)
  have e2:=kY (db':=db) (vb':=vb) (av':=.slice (af ga 0) P.i P.i) e1
  obtain⟨U2,B2,g2,x2⟩:=H.out.1.lived (k:=1) h1.out o e2
  refine (wl _ _ _ _ _ x2.mem).mono ?_
  rintro e w3 ⟨rfl,o3,m3⟩
  have x3:=x2.memd (o3.more (by simp)) m3 (A':=False) (fun h=>h.elim)
  have z5:=x3.cells.2.2.2.2.2.1
  have z6:=x3.cells.2.2.2.2.2.2.1
  have H3:Hid (_):=And.intro (g2.trans (Gr.same (o3.more (by simp)) x2.memU)) (And.intro x3 H.out.2)
  clear H h1 e1 o e2 g2 x2 o3 m3 x3 y5 y9 y10 y11 y12 y13 y14 y15 y16 y17 f9 f10 f11 f12 f13 f14 f15 f16 f17
  go_wp2_with fail
  have H4:Hid (_):=H3.out
  have y5:=z5
  have y6:=z6
  clear H3 z5 z6
  have hO:=sH d m g n mx P U2 _ _ _ _ (H4.out.2.1.newd (Off.drew [] w3)) MS (by rw[← HM.out.1];unfold sQ;rw[if_neg (by omega)];rfl) E HM.out.2.1 (by rw[HM.out.2.2.1];exact H4.out.2.2)
  go_region_with (go_at_call 76;refine hO.mono ?_;rintro e w5 ⟨p,rfl,h5⟩)
  all_goals
   obtain⟨B5,g5,x5,c5,p5⟩:=h5.out
   have G5:=H4.out.1.trans (Gr.trans (Gr.same (Off.drew [] w3) (by simp)) g5)
   have y7:=x5.cells.2.2.2.2.2.2.2.1
   have f7:=x5.fz 7
   have H5:Hid (_):=And.intro G5 (And.intro x5 (And.intro c5 p5))
   have H2s:Hid (_):=Nat.le_trans H4.out.1.off.size (Nat.le_refl _)
   clear hO h5 g5 x5 c5 p5 G5 H4 y5 y6
   by_cases he:E=0
   ·have e0:(E != 0)=false:=by simp[he]
    obtain⟨c,rfl,hc,hge,hlt,hC,hoff⟩:=H5.out.2.2.1 he
    have HE:Hid (_):=And.intro he (And.intro hc (And.intro hge (And.intro hlt (And.intro hC hoff))))
    clear he hc hge hlt hC hoff
    go_wp2_with fail
    go_ret
    obtain⟨he,hc,hge,hlt,hC,hoff⟩:=HE.out
    obtain⟨G5,x5,_,_⟩:=H5.out
    have hk6:K6=1:=by rw[← HM.out.2.2.2,if_pos he]
    subst hk6
    have x6:=x5.celd (A':=(1:Nat)≠6) (cp:=ac c 0) hc hlt (Off.setCell d 7 w5 (ac c 0)) (heap_setCell_same _ _ _ _ _ _ x5.dev) (fun _=>⟨rfl,hC,hoff⟩)
    refine⟨rfl,c :: U2,⟨(G5.trans (Gr.same (Off.setCell d 7 w5 (ac c 0)) (by simp[x5.kd.2]))).off,fun j hj=>?_⟩,_,x6⟩
    simp at hj
    rcases hj with rfl | hj
    ·exact .inr (Nat.le_trans H2s.out hge)
    ·exact G5.new j hj
   ·have e0:(E != 0)=true:=by simp[he]
    obtain rfl:=H5.out.2.2.2 he
    have x6:=H5.out.2.1.celn (cp:=.pointer none) (Off.setCell d 7 w5 (.pointer none)) (heap_setCell_same _ _ _ _ _ _ H5.out.2.1.dev)
    have hD:=iw d m g n mx P U2 _ _ _ _ x6
    have H6:Hid (_):=And.intro he (H5.out.1.trans (Gr.same (Off.setCell d 7 w5 (.pointer none)) (by simp[H5.out.2.1.kd.2])))
    clear he x6 H5
    go_wp2_with (go_at_call 114;refine hD.mono ?_;rintro e w7 ⟨rfl,h7⟩)
    go_ret
    obtain⟨U7,g7,x7⟩:=h7.out
    have hk6:K6=6:=by rw[← HM.out.2.2.2,if_neg H6.out.1]
    subst hk6
    exact⟨rfl,U7,H6.out.2.trans g7,x7⟩
def dD (ms:Ms):Sd:=⟨ms,[],0,om,1,0,0,0,0,fun _=>0,false⟩
theorem DX.made {w2 w3 w4:World} {m g n mx c:Nat} {P:Pm} {ms:Ms} {db vb vg ga b:Nat} (hP:Pok P) (hn:10≤n) (hx0:mx≠0) (hx:mx<4294967296) (hM:MR w2 m g n ms) (hC:CS w2 c m mx ms.bs false) (hoff:ms.off=false)
  (hm:m<c) (hg:g<c) (q:Off [] w2 w3) (hD:DG w3 (b+2) [b,b+1,b+2] []) (hb:w2.heap.size≤b) (hN:NL w3 w4 P db vb vg ga) :
  DX (w4.alloc (.cells (jS P m mx (ac c 0) (b+2) db vb (dD ms) (.slice (af ga 0) P.i P.i)) 147)) w4.heap.size m g n mx P [w4.heap.size,m,g,c,db,vb,vg,ga,b,b+1,b+2] (dD ms)
   ⟨c,b+2,db,vb,vg,[],[b,b+1,b+2],ac c 0,.slice (af ga 0) P.i P.i,fun k=>if k=w4.heap.size then 0 else if k=m∨k=g then 1 else if k=c then 2 else if k=db then 3 else if k=vb∨k=vg then 4 else if k=ga then 6 else 5⟩ True:=by
 obtain⟨q1,q2,q3,q4,q5,q6,q7,q8,q9,q10⟩:=hN
 have hc:=hC.lt
 have s2:=q.size
 have s3:=q4.size
 have d3:b+2<w3.heap.size:=hD.ult _ (by simp)
 have o34:Off [] w3 w4:=Off.of_below q4
 have oA:Off [] w4 (w4.alloc (.cells (jS P m mx (ac c 0) (b+2) db vb (dD ms) (.slice (af ga 0) P.i P.i)) 147)):=Off.alloc _ _ _
 have oB:=(q.trans o34).trans oA
 refine⟨aB w4 _,hM.off oB (by simp) (by simp),fun _=>⟨rfl,hC.off oB (by simp),hoff⟩,q1.off oA (by simp),q2.off oA (by simp) (by simp) (by simp),hD.off (o34.trans oA) (by simp),aO (aS q3 (Nat.zero_le _)) oA (by simp),fun i _=>(by show 0<256;omega),?_,?_,?_,?_,?_,?_,?_,?_,fun k hk=>(by simp at hk),?_,?_,hP,hn,hx0,hx⟩
 ·intro k hk
  rw[World.size_alloc]
  simp at hk
  omega
 ·exact⟨if_pos rfl,by simp⟩
 ·exact⟨by dsimp only;rw[if_neg (by omega),if_pos (.inl rfl)],by simp⟩
 ·exact⟨by dsimp only;rw[if_neg (by omega),if_pos (.inr rfl)],by simp⟩
 ·exact⟨by dsimp only;rw[if_neg (by omega),if_neg (by omega),if_pos rfl],by simp⟩
 ·exact⟨by dsimp only;rw[if_neg (by omega),if_neg (by omega),if_neg (by omega),if_pos rfl],by simp⟩
 ·exact⟨by dsimp only;rw[if_neg (by omega),if_neg (by omega),if_neg (by omega),if_neg (by omega),if_pos (.inl rfl)],by simp⟩
 ·exact⟨by dsimp only;rw[if_neg (by omega),if_neg (by omega),if_neg (by omega),if_neg (by omega),if_pos (.inr rfl)],by simp⟩
 ·intro k hk
  refine⟨?_,by simp at hk ⊢;omega⟩
  dsimp only
  simp at hk
  rw[if_neg (by omega),if_neg (by omega),if_neg (by omega),if_neg (by omega),if_neg (by omega),if_neg (by omega)]
 ·intro k hk
  cases hk
  exact⟨by dsimp only;rw[if_neg (by omega),if_neg (by omega),if_neg (by omega),if_neg (by omega),if_neg (by omega),if_pos rfl],by simp⟩
theorem vZ (m g n mx:Nat) (P:Pm) (hP:Pok P) (ms:Ms) (w:World) (hM:MR w m g n ms) (hx:mx<4294967296) (ht:ms.t<9223372036854774000) :
  Calls prog 45 #[.agg #[.int .u32 (P.c:Nat),.int .i64 (P.o:Nat),.int .i64 (P.i:Nat),.int .i64 (P.t:Nat),.int .u32 (P.n:Nat)],ac m 0,.int .u32 (mx:Nat)] w fun e w'=>∃ p,e=.returned (.tuple #[.pointer p,.int .i64 (nK mx n ms)])∧Hid (Off [m,g] w w'∧MR w' m g n (j3 mx n ms) ∧
   (nK mx n ms=0→∃ d U,p=af d 0∧DV w' d m g n mx P U (dD (j3 mx n ms))∧(∀ k,k ∈ U→k=m∨k=g∨w.heap.size≤k))∧(¬ nK mx n ms=0→p=none)):=by
 have hb:Below w.heap.size w (w.alloc (.cells #[.int .u32 (P.c:Nat),.int .i64 (P.o:Nat),.int .i64 (P.i:Nat),.int .i64 (P.t:Nat),.int .u32 (P.n:Nat)] 83)):=(Below.refl _ _).alloc (Nat.le_refl _) _
 have hs:(w.alloc (.cells #[.int .u32 (P.c:Nat),.int .i64 (P.o:Nat),.int .i64 (P.i:Nat),.int .i64 (P.t:Nat),.int .u32 (P.n:Nat)] 83)).heap.size=w.heap.size+1:=by simp
 have hx0:=aB w (.cells #[.int .u32 (P.c:Nat),.int .i64 (P.o:Nat),.int .i64 (P.i:Nat),.int .i64 (P.t:Nat),.int .u32 (P.n:Nat)] 83)
 have hC:=fD P.c P.o P.i P.t P.n (w.alloc (.cells #[.int .u32 (P.c:Nat),.int .i64 (P.o:Nat),.int .i64 (P.i:Nat),.int .i64 (P.t:Nat),.int .u32 (P.n:Nat)] 83)) 0 (if_pos hP.ok)
 obtain⟨E,hE⟩:∃ x,nK mx n ms=x:=⟨_,rfl⟩
 rw[hE]
 have hO:∀ wx,MR wx m g n ms→Calls prog 76 #[ac m 0,.int .u32 (mx:Nat)] wx fun e w'=>∃ p,e=.returned (.tuple #[.pointer p,.int .i64 E])∧Hid (Off [m,g] wx w'∧MR w' m g n (j3 mx n ms) ∧
   (E=0→∃ c,p=af c 0∧wx.heap.size≤c∧CS w' c m mx (j3 mx n ms).bs false)∧(¬ E=0→p=none)):=by
  intro wx hMx
  subst hE
  exact zY m g n mx ms wx hMx ht
 have HO:Hid (_):=hO
 have HH:Hid (_):=And.intro hb (And.intro hs (And.intro hx0 (And.intro hM (And.intro hE (And.intro hP hx)))))
 clear hO hb hs hx0 hM hE hP hx ht
 go_enter func45,ntmps45
 go_wp2_with (first | (go_at_call 39;refine hC.mono ?_;rintro e w1 ⟨rfl,b1⟩))
 obtain⟨hb,hs,hx0,hM,_⟩:=HH.out
 have bb:=hb.trans (b1.mono hb.size)
 refine (HO.out w1 (hM.off (Off.of_below (l:=[]) bb) (by simp) (by simp))).mono ?_
 rintro e w2 ⟨p,rfl,h2⟩
 have e2:w2.heap[w.heap.size]?=some (.cells #[.int .u32 (P.c:Nat),.int .i64 (P.o:Nat),.int .i64 (P.i:Nat),.int .i64 (P.t:Nat),.int .u32 (P.n:Nat)] 83 (0,0)):=by
  have l1:=hM.lt
  have l2:=hM.lg
  have l3:=b1.size
  rw[h2.out.1.block w.heap.size (by omega) (by simp;omega),b1.block _ (by omega)]
  exact hx0
 have H2:Hid (_):=And.intro bb (And.intro h2.out (And.intro HH.out (by have:=b1.size;omega:w.heap.size<w1.heap.size)))
 by_cases he:E=0
 ·have e0:(E != 0)=false:=by simp[he]
  obtain⟨c,rfl,hc,hC2⟩:=h2.out.2.2.1 he
  have HE:Hid (_):=And.intro he (And.intro hc hC2)
  have HS:w2.drew.cell? ⟨w.heap.size,0,none⟩=some (.int .u32 (P.c:Nat))∧w2.drew.cell? ⟨w.heap.size,1,none⟩=some (.int .i64 (P.o:Nat))∧w2.drew.cell? ⟨w.heap.size,2,none⟩=some (.int .i64 (P.i:Nat))∧w2.drew.cell? ⟨w.heap.size,3,none⟩=some (.int .i64 (P.t:Nat))∧w2.drew.cell? ⟨w.heap.size,4,none⟩=some (.int .u32 (P.n:Nat)):=
   ⟨ae w2 _ 0 _ _ _ e2,ae w2 _ 1 _ _ _ e2,ae w2 _ 2 _ _ _ e2,ae w2 _ 3 _ _ _ e2,ae w2 _ 4 _ _ _ e2⟩
  have hN:=oR w2.drew
  clear hC b1 hb hs hx0 hM bb h2 e2 he hc hC2 HO
  go_wp2_with fail
  go_region_held3 (fun w'=>w'.cell? ⟨w.heap.size,0,none⟩=some (.int .u32 (P.c:Nat))∧w'.cell? ⟨w.heap.size,1,none⟩=some (.int .i64 (P.o:Nat))∧w'.cell? ⟨w.heap.size,2,none⟩=some (.int .i64 (P.i:Nat))∧w'.cell? ⟨w.heap.size,3,none⟩=some (.int .i64 (P.t:Nat))∧w'.cell? ⟨w.heap.size,4,none⟩=some (.int .u32 (P.n:Nat))) (first | with_reducible assumption | exact⟨(belA _).cell hwl |>.trans HU.1,(belA _).cell hwl |>.trans HU.2.1,(belA _).cell hwl |>.trans HU.2.2.1,(belA _).cell hwl |>.trans HU.2.2.2.1,(belA _).cell hwl |>.trans HU.2.2.2.2⟩) (first
   | (go_at_call 74;refine hN.mono ?_;rintro e w3 ⟨rfl,h3⟩;have hL:=gB P H2.out.2.2.1.2.2.2.2.2.1 w3;have hl3:w.heap.size<w2.drew.heap.size:=(Nat.lt_of_lt_of_le H2.out.2.2.2 H2.out.2.1.1.size);have HT:w3.cell? ⟨w.heap.size,0,none⟩=some (.int .u32 (P.c:Nat))∧w3.cell? ⟨w.heap.size,1,none⟩=some (.int .i64 (P.o:Nat))∧w3.cell? ⟨w.heap.size,2,none⟩=some (.int .i64 (P.i:Nat))∧w3.cell? ⟨w.heap.size,3,none⟩=some (.int .i64 (P.t:Nat))∧w3.cell? ⟨w.heap.size,4,none⟩=some (.int .u32 (P.n:Nat)):=⟨(h3.out.1.cell hl3).trans HS.1,(h3.out.1.cell hl3).trans HS.2.1,(h3.out.1.cell hl3).trans HS.2.2.1,(h3.out.1.cell hl3).trans HS.2.2.2.1,(h3.out.1.cell hl3).trans HS.2.2.2.2⟩;have hl4:w.heap.size<w3.heap.size:=(Nat.lt_of_lt_of_le hl3 h3.out.1.size);clear hN)
   | (go_at_call 77;refine hL.mono ?_;rintro e w4 ⟨db,vb,vg,ga,rfl,h4⟩;have HU:w4.cell? ⟨w.heap.size,0,none⟩=some (.int .u32 (P.c:Nat))∧w4.cell? ⟨w.heap.size,1,none⟩=some (.int .i64 (P.o:Nat))∧w4.cell? ⟨w.heap.size,2,none⟩=some (.int .i64 (P.i:Nat))∧w4.cell? ⟨w.heap.size,3,none⟩=some (.int .i64 (P.t:Nat))∧w4.cell? ⟨w.heap.size,4,none⟩=some (.int .u32 (P.n:Nat)):=⟨(h4.out.bel.cell hl4).trans HT.1,(h4.out.bel.cell hl4).trans HT.2.1,(h4.out.bel.cell hl4).trans HT.2.2.1,(h4.out.bel.cell hl4).trans HT.2.2.2.1,(h4.out.bel.cell hl4).trans HT.2.2.2.2⟩;have hwl:w.heap.size<w4.heap.size:=(Nat.lt_of_lt_of_le hl4 h4.out.bel.size);have belA:∀ o,Below w4.heap.size w4 (w4.alloc o):=(fun o=>(Below.refl _ _).alloc (Nat.le_refl _) o);clear hL))
  all_goals
   go_wp2_with fail
   go_ret2
   obtain⟨bb,⟨o2,m2,_,_⟩,⟨_,hs,_,hM,hE,hP,hx⟩,hw1⟩:=H2.out
   obtain⟨he,hc,hC2⟩:=HE.out
   subst he
   obtain⟨mx0,n10,_⟩:=aaR m g n mx ms w hM hE
   have l1:=hM.lt
   have l2:=hM.lg
   have hoff:=sG hM.l0 hE
   have q3:Off [] w2.drew w3:=Off.of_below h3.out.1
   have X:=DX.made hP n10 mx0 hx (m2.off (Off.drew [] w2) (by simp) (by simp)) (hC2.off (Off.drew [] w2) (by simp)) hoff (by omega) (by omega) q3 h3.out.2.2 (Nat.le_refl _) h4.out
   have hcl:=hC2.lt
   have s3:=q3.size
   have s2:w2.drew.heap.size=w2.heap.size:=rfl
   have k1:=h4.out.h1
   have k2:=h4.out.h2
   have k3:=h4.out.h3
   have k4:=h4.out.h4
   have k6:=h4.out.h6
   have k7:=o2.size
   refine⟨_,rfl,?_,?_,fun _=>⟨w4.heap.size,_,rfl,⟨_,{ X with cel:=fun _=>X.cel trivial }⟩,?_⟩,fun h=>absurd rfl h⟩
   ·exact ((Off.of_below bb).trans o2).trans ((((Off.drew _ w2).trans (q3.more (by simp))).trans (Off.of_below h4.out.bel)).trans (Off.alloc _ _ _))
   ·exact X.mem
   ·intro k hk
    simp at hk
    omega
 ·have e0:(E != 0)=true:=by simp[he]
  obtain rfl:=h2.out.2.2.2 he
  have HE:Hid (_):=he
  clear he hC b1 hb hs hx0 hM bb h2 e2
  go_wp2_with fail
  go_ret2
  obtain⟨bb,⟨o2,m2,_,_⟩,hh,_⟩:=H2.out
  exact⟨none,rfl,(Off.of_below bb).trans o2,m2,fun h=>absurd h HE.out,fun _=>rfl⟩
def sw (P:Pm):Pm:=⟨P.c,P.i,P.o,P.t,P.n⟩
theorem ten (b:Nat) (w:World) (x0 x1 x2 x3 x4 x5 x6 x7 x8 x9:Value):Off [b] w ((((((((((w.setCell ⟨b,0,none⟩ x0).setCell ⟨b,1,none⟩ x1).setCell ⟨b,2,none⟩ x2).setCell ⟨b,3,none⟩ x3).setCell ⟨b,4,none⟩ x4).setCell ⟨b,5,none⟩ x5).setCell ⟨b,6,none⟩ x6).setCell ⟨b,7,none⟩ x7).setCell ⟨b,8,none⟩ x8).setCell ⟨b,9,none⟩ x9):=
 (((((((((Off.setCell b 0 w x0).trans (Off.setCell b 1 _ x1)).trans (Off.setCell b 2 _ x2)).trans (Off.setCell b 3 _ x3)).trans (Off.setCell b 4 _ x4)).trans (Off.setCell b 5 _ x5)).trans (Off.setCell b 6 _ x6)).trans (Off.setCell b 7 _ x7)).trans (Off.setCell b 8 _ x8)).trans (Off.setCell b 9 _ x9)
def oy:Array Value:=#[.pointer none,.pointer none,.int .i64 0,.int .u32 0,.int .u32 0,.int .u32 0,.bool false,.int .i64 0,.slice none 0 0,.bool false]
theorem iQ (P:Pm) (hP:Pok P) (w:World) :
  Calls prog 75 #[.agg #[.int .u32 (P.c:Nat),.int .i64 (P.o:Nat),.int .i64 (P.i:Nat),.int .i64 (P.t:Nat),.int .u32 (P.n:Nat)]] w fun e w'=>∃ db vb vg ga,e=.returned (.agg #[ac db 0,ac vb 0,.int .i64 1,.int .u32 0,.int .u32 0,.int .u32 0,.bool false,.int .i64 0,.slice (af ga 0) P.o P.o,.bool false])∧Hid (NL w w' (sw P) db vb vg ga):=by
 obtain⟨i0,hi,hz0,hz1,hz2⟩:=info_parts cq
 have hX:=sW w #[.int .u32 (P.c:Nat),.int .i64 (P.o:Nat),.int .i64 (P.i:Nat),.int .i64 (P.t:Nat),.int .u32 (P.n:Nat)] oy 83 139
 have hA:Below w.heap.size w ((w.alloc (.cells #[.int .u32 (P.c:Nat),.int .i64 (P.o:Nat),.int .i64 (P.i:Nat),.int .i64 (P.t:Nat),.int .u32 (P.n:Nat)] 83)).alloc (.cells oy 139)):=((Below.refl _ _).alloc (Nat.le_refl _) _).alloc (by simp) _
 have hs:((w.alloc (.cells #[.int .u32 (P.c:Nat),.int .i64 (P.o:Nat),.int .i64 (P.i:Nat),.int .i64 (P.t:Nat),.int .u32 (P.n:Nat)] 83)).alloc (.cells oy 139)).heap.size=w.heap.size+2:=by simp
 have hW:=fun wx=>tb P.t wx hP.t1 hP.t2
 have hV:=fun wx=>sZ P.i wx hP.i1 hP.i8
 have hi8:=hP.o8
 have hi1:=hP.o1
 have HW:Hid (_):=hW
 have HV:Hid (_):=hV
 have HA:Hid (_):=And.intro hA hs
 clear hA hs hW hV hP
 go_enter func75,ntmps75
 go_wp2_with fail
 refine (HW.out _).mono ?_
 rintro e w2 ⟨rfl,o2,d2⟩
 unfold oy at hX HA
 generalize hwa:(w.alloc (.cells #[.int .u32 (P.c:Nat),.int .i64 (P.o:Nat),.int .i64 (P.i:Nat),.int .i64 (P.t:Nat),.int .u32 (P.n:Nat)] 83)).alloc (.cells #[.pointer none,.pointer none,.int .i64 0,.int .u32 0,.int .u32 0,.int .u32 0,.bool false,.int .i64 0,.slice none 0 0,.bool false] 139)=wa at *
 clear hwa
 have b2:Below wa.heap.size wa w2:=⟨o2.os,o2.tape,o2.output,o2.size,fun k hk=>o2.block k hk (by simp)⟩
 have p1:w2.cell? ⟨w.heap.size,2,none⟩=some (.int .i64 (P.i:Nat)):=ae w2 _ 2 _ _ _ (hX w2 b2).1
 have K2:Hid (_):=And.intro b2 d2
 have HX:Hid (_):=hX
 clear b2 d2 o2 HW hX
 go_wp2_with fail
 refine (HV.out _).mono ?_
 rintro e w3 ⟨vb,vg,rfl,h3⟩
 have o3:=h3.out.2.2.2.2.1
 have b3:Below wa.heap.size wa w3:=K2.out.1.trans ⟨o3.os,o3.tape,o3.output,o3.size,fun k hk=>o3.block k (Nat.lt_of_lt_of_le hk K2.out.1.size) (by simp)⟩
 have p2:w3.cell? ⟨w.heap.size,1,none⟩=some (.int .i64 (P.o:Nat)):=ae w3 _ 1 _ _ _ (HX.out w3 b3).1
 have K3:Hid (_):=And.intro b3 (And.intro (K2.out.2.off o3 (by simp)) (And.intro h3.out (Nat.lt_of_lt_of_le K2.out.2.lt (Nat.le_refl _))))
 have K4:Hid (_):=K2.out.2.lt
 clear b3 o3 h3 p1 HV K2
 go_wp2_with (at_make;refine bk _ rfl (.tmp 22) (.tmp 22) 37 rfl w3.heap.size 5 i0 underlying37 hi hz0 hz1 hz2 _ _ _ _ P.o P.o rfl rfl rfl rfl (Nat.le_refl _) (by omega) (Nat.le_refl _) ?_)
 intro w4 hown4 hbel4
 have b4:Below wa.heap.size wa w4:=K3.out.1.trans (hbel4.mono K3.out.1.size)
 have e4:=(HX.out w4 b4).2
 have y0:=ae w4 (w.heap.size+1) 0 _ _ _ e4
 have y1:=ae w4 (w.heap.size+1) 1 _ _ _ e4
 have y2:=ae w4 (w.heap.size+1) 2 _ _ _ e4
 have y3:=ae w4 (w.heap.size+1) 3 _ _ _ e4
 have y4:=ae w4 (w.heap.size+1) 4 _ _ _ e4
 have y5:=ae w4 (w.heap.size+1) 5 _ _ _ e4
 have y6:=ae w4 (w.heap.size+1) 6 _ _ _ e4
 have y7:=ae w4 (w.heap.size+1) 7 _ _ _ e4
 have y8:=ae w4 (w.heap.size+1) 8 _ _ _ e4
 have y9:=ae w4 (w.heap.size+1) 9 _ _ _ e4
 have fz:=fun j=>frozen_of_row w4 (w.heap.size+1) j _ _ e4
 have f0:=fz 0
 have f1:=fz 1
 have f2:=fz 2
 have f3:=fz 3
 have f4:=fz 4
 have f5:=fz 5
 have f6:=fz 6
 have f7:=fz 7
 have f8:=fz 8
 have f9:=fz 9
 have K5:Hid (_):=And.intro b4 (And.intro hown4 hbel4)
 clear e4 b4 hown4 hbel4 fz p2 HX
 go_wp2_with fail
 refine bodyPost_ret (v:=.agg #[ac wa.heap.size 0,ac vb 0,.int .i64 1,.int .u32 0,.int .u32 0,.int .u32 0,.bool false,.int .i64 0,.slice (af w3.heap.size 0) P.o P.o,.bool false]) (by simp[results,results75,go_sem,y0,y1,y2,y3,y4,y5,y6,y7,y8,y9]) rfl ⟨wa.heap.size,vb,vg,w3.heap.size,rfl,?_⟩
 obtain⟨b4,hown4,hbel4⟩:=K5.out
 obtain⟨b3,d3,⟨v1,v2,v3,v4,o3,x3⟩,_⟩:=K3.out
 obtain⟨hA,hs⟩:=HA.out
 have hlt:=(hown4.lt _ rfl).2
 have k4:=K4.out
 have oo:Off [w.heap.size+1] w4 _:=ten (w.heap.size+1) w4 (ac wa.heap.size 0) (ac vb 0) (.int .i64 1) (.int .u32 0) (.int .u32 0) (.int .u32 0) (.bool false) (.int .i64 0) (.slice (af w3.heap.size 0) P.o P.o) (.bool false)
 have q4:=Off.of_below (l:=[]) hbel4
 have sz:=oo.size
 have s3:=b3.size
 have s4:=b4.size
 have so:w4.ownsRow w.heap.size 5 1 (.slice (af w3.heap.size 0) P.o P.o) P.o (CB (fun _=>0) P.o):=aS hown4 (by omega)
 have z6:w3.heap.size<w4.heap.size:=hlt
 have z2:wa.heap.size<vb:=by omega
 have z3:wa.heap.size<vg:=by omega
 refine⟨(d3.off q4 (by simp)).off oo (by simp;omega),((x3.off q4 (by simp) (by simp) (by simp)).off oo (by simp;omega) (by simp;omega) (by simp)),aO so oo ?_,?_,by omega,z2,z3,v3,v4,Nat.lt_of_lt_of_le z6 sz⟩
 ·intro k hk
  cases hk
  have:=b3.size
  simp;omega
 ·have bo:=oo.below (B:=w.heap.size) (w0:=w) (hA.trans (b4.mono (by omega))) (by simp) (by have:=b4.size;omega)
  exact bo
theorem HX.made {w3 w4:World} {P:Pm} {db vb vg ga b:Nat} (hP:Pok P) (hD:DG w3 (b+2) [b,b+1,b+2] []) (hN:NL w3 w4 (sw P) db vb vg ga) :
  HX (w4.alloc (.cells (jf P (b+2) db vb bV (.slice (af ga 0) P.o P.o)) 141)) w4.heap.size P [w4.heap.size,db,vb,vg,ga,b,b+1,b+2] bV
   ⟨b+2,db,vb,vg,[],[b,b+1,b+2],.slice (af ga 0) P.o P.o,fun k=>if k=w4.heap.size then 0 else if k=db then 3 else if k=vb∨k=vg then 4 else if k=ga then 6 else 5⟩:=by
 obtain⟨q1,q2,q3,q4,q5,q6,q7,q8,q9,q10⟩:=hN
 have s3:=q4.size
 have d3:b+2<w3.heap.size:=hD.ult _ (by simp)
 have o34:Off [] w3 w4:=Off.of_below q4
 have oA:Off [] w4 (w4.alloc (.cells (jf P (b+2) db vb bV (.slice (af ga 0) P.o P.o)) 141)):=Off.alloc _ _ _
 refine⟨aB w4 _,q1.off oA (by simp),q2.off oA (by simp) (by simp) (by simp),hD.off (o34.trans oA) (by simp),aO (aS q3 (Nat.zero_le _)) oA (by simp),fun i _=>(by show 0<256;omega),?_,?_,?_,?_,?_,fun k hk=>by simp at hk,?_,?_,hP⟩
 ·intro k hk
  rw[World.size_alloc]
  simp at hk
  omega
 ·exact⟨if_pos rfl,by simp⟩
 ·exact⟨by dsimp only;rw[if_neg (by omega),if_pos rfl],by simp⟩
 ·exact⟨by dsimp only;rw[if_neg (by omega),if_neg (by omega),if_pos (.inl rfl)],by simp⟩
 ·exact⟨by dsimp only;rw[if_neg (by omega),if_neg (by omega),if_pos (.inr rfl)],by simp⟩
 ·intro k hk
  refine⟨?_,by simp at hk ⊢;omega⟩
  dsimp only
  simp at hk
  rw[if_neg (by omega),if_neg (by omega),if_neg (by omega),if_neg (by omega)]
 ·intro k hk
  cases hk
  exact⟨by dsimp only;rw[if_neg (by omega),if_neg (by omega),if_neg (by omega),if_pos rfl],by simp⟩
theorem v9 (P:Pm) (hP:Pok P) (w:World) :
  Calls prog 43 #[.agg #[.int .u32 (P.c:Nat),.int .i64 (P.o:Nat),.int .i64 (P.i:Nat),.int .i64 (P.t:Nat),.int .u32 (P.n:Nat)]] w fun e w'=>∃ d,e=.returned (.tuple #[ac d 0,.int .i64 0])∧Hid (Below w.heap.size w w'∧∃ U,HV w' d P U bV∧∀ k,k ∈ U→w.heap.size≤k):=by
 have hb:Below w.heap.size w (w.alloc (.cells #[.int .u32 (P.c:Nat),.int .i64 (P.o:Nat),.int .i64 (P.i:Nat),.int .i64 (P.t:Nat),.int .u32 (P.n:Nat)] 83)):=(Below.refl _ _).alloc (Nat.le_refl _) _
 have hs:(w.alloc (.cells #[.int .u32 (P.c:Nat),.int .i64 (P.o:Nat),.int .i64 (P.i:Nat),.int .i64 (P.t:Nat),.int .u32 (P.n:Nat)] 83)).heap.size=w.heap.size+1:=by simp
 have hx0:=aB w (.cells #[.int .u32 (P.c:Nat),.int .i64 (P.o:Nat),.int .i64 (P.i:Nat),.int .i64 (P.t:Nat),.int .u32 (P.n:Nat)] 83)
 have hC:=fD P.c P.o P.i P.t P.n (w.alloc (.cells #[.int .u32 (P.c:Nat),.int .i64 (P.o:Nat),.int .i64 (P.i:Nat),.int .i64 (P.t:Nat),.int .u32 (P.n:Nat)] 83)) 0 (if_pos hP.ok)
 have HH:Hid (_):=And.intro hb (And.intro hs (And.intro hx0 hP))
 clear hb hs hx0 hP
 go_enter func43,ntmps43
 go_wp2_with (first | (go_at_call 39;refine hC.mono ?_;rintro e w2 ⟨rfl,b1⟩))
 obtain⟨hb,hs,hx0,hP⟩:=HH.out
 have l1:=b1.size
 have hw1:w.heap.size<w2.heap.size:=by omega
 have e2:=(b1.block w.heap.size (by omega)).trans hx0
 have bb:=hb.trans (b1.mono hb.size)
 have H2:Hid (_):=And.intro bb (And.intro hw1 hP)
 have HS:w2.drew.cell? ⟨w.heap.size,0,none⟩=some (.int .u32 (P.c:Nat))∧w2.drew.cell? ⟨w.heap.size,1,none⟩=some (.int .i64 (P.o:Nat))∧w2.drew.cell? ⟨w.heap.size,2,none⟩=some (.int .i64 (P.i:Nat))∧w2.drew.cell? ⟨w.heap.size,3,none⟩=some (.int .i64 (P.t:Nat))∧w2.drew.cell? ⟨w.heap.size,4,none⟩=some (.int .u32 (P.n:Nat)):=⟨ae w2 _ 0 _ _ _ e2,ae w2 _ 1 _ _ _ e2,ae w2 _ 2 _ _ _ e2,ae w2 _ 3 _ _ _ e2,ae w2 _ 4 _ _ _ e2⟩
 have hN:=oR w2.drew
 clear hC b1 hb hs hx0 hP l1 hw1 e2 bb HH
 go_region_held3 (fun w'=>w'.cell? ⟨w.heap.size,0,none⟩=some (.int .u32 (P.c:Nat))∧w'.cell? ⟨w.heap.size,1,none⟩=some (.int .i64 (P.o:Nat))∧w'.cell? ⟨w.heap.size,2,none⟩=some (.int .i64 (P.i:Nat))∧w'.cell? ⟨w.heap.size,3,none⟩=some (.int .i64 (P.t:Nat))∧w'.cell? ⟨w.heap.size,4,none⟩=some (.int .u32 (P.n:Nat))) (first | with_reducible assumption | exact⟨(belA _).cell hwl |>.trans HU.1,(belA _).cell hwl |>.trans HU.2.1,(belA _).cell hwl |>.trans HU.2.2.1,(belA _).cell hwl |>.trans HU.2.2.2.1,(belA _).cell hwl |>.trans HU.2.2.2.2⟩) (first
  | (go_at_call 74;refine hN.mono ?_;rintro e w3 ⟨rfl,h3⟩;have hL:=iQ P H2.out.2.2 w3;have hl3:w.heap.size<w2.drew.heap.size:=H2.out.2.1;have HT:w3.cell? ⟨w.heap.size,0,none⟩=some (.int .u32 (P.c:Nat))∧w3.cell? ⟨w.heap.size,1,none⟩=some (.int .i64 (P.o:Nat))∧w3.cell? ⟨w.heap.size,2,none⟩=some (.int .i64 (P.i:Nat))∧w3.cell? ⟨w.heap.size,3,none⟩=some (.int .i64 (P.t:Nat))∧w3.cell? ⟨w.heap.size,4,none⟩=some (.int .u32 (P.n:Nat)):=⟨(h3.out.1.cell hl3).trans HS.1,(h3.out.1.cell hl3).trans HS.2.1,(h3.out.1.cell hl3).trans HS.2.2.1,(h3.out.1.cell hl3).trans HS.2.2.2.1,(h3.out.1.cell hl3).trans HS.2.2.2.2⟩;have hl4:w.heap.size<w3.heap.size:=(Nat.lt_of_lt_of_le hl3 h3.out.1.size);clear hN)
  | (go_at_call 75;refine hL.mono ?_;rintro e w4 ⟨db,vb,vg,ga,rfl,h4⟩;have HU:w4.cell? ⟨w.heap.size,0,none⟩=some (.int .u32 (P.c:Nat))∧w4.cell? ⟨w.heap.size,1,none⟩=some (.int .i64 (P.o:Nat))∧w4.cell? ⟨w.heap.size,2,none⟩=some (.int .i64 (P.i:Nat))∧w4.cell? ⟨w.heap.size,3,none⟩=some (.int .i64 (P.t:Nat))∧w4.cell? ⟨w.heap.size,4,none⟩=some (.int .u32 (P.n:Nat)):=⟨(h4.out.bel.cell hl4).trans HT.1,(h4.out.bel.cell hl4).trans HT.2.1,(h4.out.bel.cell hl4).trans HT.2.2.1,(h4.out.bel.cell hl4).trans HT.2.2.2.1,(h4.out.bel.cell hl4).trans HT.2.2.2.2⟩;have hwl:w.heap.size<w4.heap.size:=(Nat.lt_of_lt_of_le hl4 h4.out.bel.size);have belA:∀ o,Below w4.heap.size w4 (w4.alloc o):=(fun o=>(Below.refl _ _).alloc (Nat.le_refl _) o);clear hL))
 all_goals
  go_wp2_with fail
  go_ret2
  obtain⟨bb,hw1,hP⟩:=H2.out
  have X:=HX.made hP h3.out.2.2 h4.out
  have s3:=h3.out.1.size
  have s2:w2.drew.heap.size=w2.heap.size:=rfl
  have k1:=h4.out.h1
  have k2:=h4.out.h2
  have k3:=h4.out.h3
  have k4:=h4.out.h4
  have k6:=h4.out.h6
  have bA:=belA (.cells (jf P (w2.drew.heap.size+2) db vb bV (.slice (af ga 0) P.o P.o)) 141)
  have b34:=h3.out.1.trans (h4.out.bel.mono h3.out.1.size)
  have b24:=(Below.drew (Below.refl w2.heap.size w2)).trans b34
  refine⟨w4.heap.size,rfl,bb.trans ((b24.trans (bA.mono b24.size)).mono bb.size),_,⟨_,X⟩,?_⟩
  intro k hk
  have:=bb.size
  simp at hk
  omega
end Go.Proofs.YtenilkloffnjlaaGreat
