/- Part 33 of the texts on which the proof rests: contracts of Go functions. -/
import Derived.Test.YtiopiheomoehbaaGreatPkF31
namespace Go.Proofs.YtiopiheomoehbaaGreat
set_option maxRecDepth 100000
open Go.RowKit
theorem opS_off {mx n:Nat} {s:Ms} (hl:0≤s.l) (h:opE mx n s=0):(opS mx n s).off=false:=by
 unfold opE at h
 unfold opS
 by_cases h1:mx=0∨n<10
 ·rw[if_pos h1]at h;omega
 ·rw[if_neg h1]at h ⊢
  by_cases h2:s.off=true
  ·rw[if_pos h2]at h;omega
  ·rw[if_neg h2]at h ⊢
   rcases sq_all n (mend s.bs) s (fun x hx=>(mend_in s.bs n (by omega) x hx).1) (by simpa using h2) hl with ⟨_,e,_⟩ | ⟨e,_⟩
   ·rw[e]
   ·omega
theorem DX.celn {w w':World} {d m g n mx:Nat} {P:Pm} {U:List Nat} {s:Sd} {B:Bk} {A:Prop} (h:DX w d m g n mx P U s B A) {cp:Value} (q:Off [d] w w') (e:w'.heap[d]?=some (.cells (DVC P m mx cp B.lb B.db B.vb s B.av) 124 (0,0))):DX w' d m g n mx P U s { B with cp:=cp } False:=by
 have hn:∀ k,B.col k≠0→k ∉ [d]:=fun k hk hm=>by simp at hm;rw[hm,h.kd.1]at hk;exact hk rfl
 refine⟨e,?_,fun h=>h.elim,?_,?_,?_,?_,h.apb,fun k hk=>Nat.lt_of_lt_of_le (h.ltU k hk) q.size,h.kd,h.km,h.kg,h.kc,h.kb,h.kv,h.kw,h.kM,h.kl,h.ka,h.pok,h.n10,h.mx0,h.mxl⟩
 ·exact h.mem.off q (hn _ (by rw[h.km.1];omega)) (hn _ (by rw[h.kg.1];omega))
 ·exact h.dog.off q (hn _ (by rw[h.kb.1];omega))
 ·exact h.val.off q (hn _ (by rw[h.kv.1];omega)) (hn _ (by rw[h.kw.1];omega)) (fun k hk hM=>by simp at hk;subst hk;have:=(h.kM _ hM).1;rw[h.kd.1]at this;omega)
 ·exact h.log.off q (fun k hk=>hn _ (by rw[(h.kl k hk).1];omega))
 ·exact own_offk h.app q (fun k hk=>hn _ (by rw[(h.ka k hk).1];omega))
theorem openAll (d m g n mx:Nat) (P:Pm) (U:List Nat) (s:Sd) (B:Bk) (A:Prop) (w:World) (h:DX w d m g n mx P U s B A) (ms:Ms) (hms:s.ms=ms) (E:Int) (hE:opE mx n ms=E) (ht:ms.t<9223372036854774000) :
  Calls Tryz.prog 61 #[.pointer (some ⟨m,0,none⟩),.int .u32 (mx:Nat)] w fun e w'=>∃ p,e=.returned (.tuple #[.pointer p,.int .i64 E])∧Hid (∃ B',Gr U w U w'∧DX w' d m g n mx P U { s with ms:=opS mx n ms } B' False ∧
   (E=0→∃ c,p=some ⟨c,0,none⟩∧c ∉ U∧w.heap.size≤c∧c<w'.heap.size∧CS w' c m mx (opS mx n ms).bs false∧(opS mx n ms).off=false)∧(¬ E=0→p=none)):=by
 subst hms
 subst hE
 refine (popen m g n mx s.ms w h.mem ht).mono ?_
 rintro e w' ⟨p,rfl,h2⟩
 obtain⟨o2,m2,c2,p2⟩:=h2.out
 refine⟨p,rfl,B,Gr.same o2 (fun k hk=>h.memU k (by simp at hk ⊢;rcases hk with hk | hk <;> simp[hk])),h.memd (o2.more (by simp)) m2 (fun h=>h.elim),fun he=>?_,p2⟩
 obtain⟨c,hp,hc,hC⟩:=c2 he
 exact⟨c,hp,fun hm=>by have:=h.ltU c hm;omega,hc,hC.lt,hC,opS_off h.mem.l0 he⟩
set_option maxHeartbeats 3200000 in
theorem dvreset_any (d m g n mx:Nat) (P:Pm) (U:List Nat) (s:Sd) (k:Int) (w:World) (h:DV w d m g n mx P U s) (hk0:0≤k) (hk:k≤9223372036854775807) (ht:s.ms.t<9223372036854774000) :
  Calls Tryz.prog 70 #[.pointer (some ⟨d,0,none⟩),.int .i64 k] w fun e w'=>e=.returned (.int .i64 (dresetE mx n s k))∧Hid (∃ U',Gr U w U' w'∧DV w' d m g n mx P U' (dresetS mx n s k)):=by
 unfold dresetE dresetS
 rw[if_neg (by omega),if_neg (by omega)]
 obtain⟨B,h⟩:=h
 obtain⟨c0,c1,c2,c3,c4,_⟩:=h.cells
 have hL:=newLife_any P h.pok w
 have H:Hid (_):=And.intro h ht
 clear h ht
 obtain⟨MS,hMS⟩:∃ x,rsM s.ms k=x:=⟨_,rfl⟩
 rw[hMS]
 obtain⟨E,hE⟩:∃ x,opE mx n MS=x:=⟨_,rfl⟩
 rw[hE]
 have hMt:MS.t=s.ms.t:=by subst hMS;unfold rsM arS;split <;> (try split) <;> rfl
 obtain⟨K6,hK6⟩:∃ x,(if E=0 then 1 else 6)=x:=⟨_,rfl⟩
 rw[hK6]
 have HM:Hid (_):=And.intro hMS (And.intro hE (And.intro hMt hK6))
 clear hMS hE hMt hK6
 by_cases hp:0<k
 ·go_enter Tryz.func70,Tryz.ntmps70
  go_wp2_with (go_at_call 62;refine hL.mono ?_;rintro e w1 ⟨db,vb,vg,ga,rfl,h1⟩;obtain⟨_,_,_,_,_,y5,_,_,_,y9,y10,y11,y12,y13,y14,y15,y16,y17⟩:=(H.out.1.newd (Off.of_below h1.out.bel)).cells;have fz:=(H.out.1.newd (Off.of_below h1.out.bel)).fz;have f9:=fz 9;have f10:=fz 10;have f11:=fz 11;have f12:=fz 12;have f13:=fz 13;have f14:=fz 14;have f15:=fz 15;have f16:=fz 16;have f17:=fz 17;clear fz c0 c1 c2 c3 c4 hL)
  have e1:=(H.out.1.newd (Off.of_below h1.out.bel)).dev
  have o:=nineAt d w1 (.pointer (some ⟨db,0,none⟩)) (.pointer (some ⟨vb,0,none⟩)) (.int .i64 1) (.int .u32 0) (.int .u32 0) (.int .u32 0) (.int .i64 0) (.slice (some ⟨ga,0,none⟩) P.i P.i) (.bool false)
  have e2:=nineHeap (db':=db) (vb':=vb) (av':=.slice (some ⟨ga,0,none⟩) P.i P.i) e1
  obtain⟨U2,B2,g2,x2⟩:=H.out.1.lived (k:=1) h1.out o e2
  refine (on_any _ _ _ _ _ x2.mem).mono ?_
  rintro e w3 ⟨rfl,o3,m3⟩
  have x3:=x2.memd (o3.more (by simp)) m3 (A':=False) (fun h=>h.elim)
  have z5:=x3.cells.2.2.2.2.2.1
  have z6:=x3.cells.2.2.2.2.2.2.1
  have H3:Hid (_):=And.intro (g2.trans (Gr.same (o3.more (by simp)) x2.memU)) (And.intro x3 H.out.2)
  clear H h1 e1 o e2 g2 x2 o3 m3 x3 y5 y9 y10 y11 y12 y13 y14 y15 y16 y17 f9 f10 f11 f12 f13 f14 f15 f16 f17
  go_wp2_with fail
  refine (arm_any _ _ _ _ (k-1) w3 H3.out.2.1.mem (by omega)).mono ?_
  rintro e w4 ⟨rfl,o4,m4⟩
  have x4:=H3.out.2.1.memd (o4.more (by simp)) m4 (A':=False) (fun h=>h.elim)
  have y5:=x4.cells.2.2.2.2.2.1
  have y6:=x4.cells.2.2.2.2.2.2.1
  have H4:Hid (_):=And.intro (H3.out.1.trans (Gr.same (o4.more (by simp)) H3.out.2.1.memU)) (And.intro x4 H3.out.2.2)
  clear H3 o4 m4 x4 z5 z6
  go_wp2_with fail
  have hO:=openAll d m g n mx P U2 _ _ _ _ (H4.out.2.1.newd (Off.drew [] w4)) MS (by rw[← HM.out.1];unfold rsM;rw[if_pos hp];rfl) E HM.out.2.1 (by rw[HM.out.2.2.1];exact H4.out.2.2)
  go_region_with (go_at_call 61;refine hO.mono ?_;rintro e w5 ⟨p,rfl,h5⟩)
  all_goals
   obtain⟨B5,g5,x5,c5,p5⟩:=h5.out
   have G5:=H4.out.1.trans (Gr.trans (Gr.same (Off.drew [] w4) (by simp)) g5)
   have y7:=x5.cells.2.2.2.2.2.2.2.1
   have f7:=x5.fz 7
   have H5:Hid (_):=And.intro G5 (And.intro x5 (And.intro c5 p5))
   have H2s:Hid (_):=Nat.le_trans H4.out.1.off.size (Nat.le_refl _)
   clear hO h5 g5 x5 c5 p5 G5 H4 y5 y6
   by_cases he:E=0
   ·have e0:(E != 0)=false:=by simp[he]
    obtain⟨c,rfl,hc,hge,hlt,hC,hoff⟩:=H5.out.2.2.1 he
    have HE:Hid (_):=And.intro he (And.intro hc (And.intro hge (And.intro hlt (And.intro hC hoff))))
    clear he hc hge hlt hC hoff
    go_wp2_with fail
    go_ret
    obtain⟨he,hc,hge,hlt,hC,hoff⟩:=HE.out
    obtain⟨G5,x5,_,_⟩:=H5.out
    have hk6:K6=1:=by rw[← HM.out.2.2.2,if_pos he]
    subst hk6
    have x6:=x5.celd (A':=(1:Nat)≠6) (cp:=.pointer (some ⟨c,0,none⟩)) hc hlt (Off.setCell d 7 w5 (.pointer (some ⟨c,0,none⟩))) (heap_setCell_same _ _ _ _ _ _ x5.dev) (fun _=>⟨rfl,hC,hoff⟩)
    refine⟨rfl,c :: U2,⟨(G5.trans (Gr.same (Off.setCell d 7 w5 (.pointer (some ⟨c,0,none⟩))) (by simp[x5.kd.2]))).off,fun j hj=>?_⟩,_,x6⟩
    simp at hj
    rcases hj with rfl | hj
    ·exact .inr (Nat.le_trans H2s.out hge)
    ·exact G5.new j hj
   ·have e0:(E != 0)=true:=by simp[he]
    obtain rfl:=H5.out.2.2.2 he
    have x6:=H5.out.2.1.celn (cp:=.pointer none) (Off.setCell d 7 w5 (.pointer none)) (heap_setCell_same _ _ _ _ _ _ H5.out.2.1.dev)
    have hD:=goDown_any d m g n mx P U2 _ _ _ _ x6
    have H6:Hid (_):=And.intro he (H5.out.1.trans (Gr.same (Off.setCell d 7 w5 (.pointer none)) (by simp[H5.out.2.1.kd.2])))
    clear he x6 H5
    go_wp2_with (go_at_call 93;refine hD.mono ?_;rintro e w7 ⟨rfl,h7⟩)
    go_ret
    obtain⟨U7,g7,x7⟩:=h7.out
    have hk6:K6=6:=by rw[← HM.out.2.2.2,if_neg H6.out.1]
    subst hk6
    exact⟨rfl,U7,H6.out.2.trans g7,x7⟩
 ·go_enter Tryz.func70,Tryz.ntmps70
  go_wp2_with (go_at_call 62;refine hL.mono ?_;rintro e w1 ⟨db,vb,vg,ga,rfl,h1⟩;obtain⟨_,_,_,_,_,y5,_,_,_,y9,y10,y11,y12,y13,y14,y15,y16,y17⟩:=(H.out.1.newd (Off.of_below h1.out.bel)).cells;have fz:=(H.out.1.newd (Off.of_below h1.out.bel)).fz;have f9:=fz 9;have f10:=fz 10;have f11:=fz 11;have f12:=fz 12;have f13:=fz 13;have f14:=fz 14;have f15:=fz 15;have f16:=fz 16;have f17:=fz 17;clear fz c0 c1 c2 c3 c4 hL)
  have e1:=(H.out.1.newd (Off.of_below h1.out.bel)).dev
  have o:=nineAt d w1 (.pointer (some ⟨db,0,none⟩)) (.pointer (some ⟨vb,0,none⟩)) (.int .i64 1) (.int .u32 0) (.int .u32 0) (.int .u32 0) (.int .i64 0) (.slice (some ⟨ga,0,none⟩) P.i P.i) (.bool false)
  have e2:=nineHeap (db':=db) (vb':=vb) (av':=.slice (some ⟨ga,0,none⟩) P.i P.i) e1
  obtain⟨U2,B2,g2,x2⟩:=H.out.1.lived (k:=1) h1.out o e2
  refine (on_any _ _ _ _ _ x2.mem).mono ?_
  rintro e w3 ⟨rfl,o3,m3⟩
  have x3:=x2.memd (o3.more (by simp)) m3 (A':=False) (fun h=>h.elim)
  have z5:=x3.cells.2.2.2.2.2.1
  have z6:=x3.cells.2.2.2.2.2.2.1
  have H3:Hid (_):=And.intro (g2.trans (Gr.same (o3.more (by simp)) x2.memU)) (And.intro x3 H.out.2)
  clear H h1 e1 o e2 g2 x2 o3 m3 x3 y5 y9 y10 y11 y12 y13 y14 y15 y16 y17 f9 f10 f11 f12 f13 f14 f15 f16 f17
  go_wp2_with fail
  have H4:Hid (_):=H3.out
  have y5:=z5
  have y6:=z6
  clear H3 z5 z6
  have hO:=openAll d m g n mx P U2 _ _ _ _ (H4.out.2.1.newd (Off.drew [] w3)) MS (by rw[← HM.out.1];unfold rsM;rw[if_neg (by omega)];rfl) E HM.out.2.1 (by rw[HM.out.2.2.1];exact H4.out.2.2)
  go_region_with (go_at_call 61;refine hO.mono ?_;rintro e w5 ⟨p,rfl,h5⟩)
  all_goals
   obtain⟨B5,g5,x5,c5,p5⟩:=h5.out
   have G5:=H4.out.1.trans (Gr.trans (Gr.same (Off.drew [] w3) (by simp)) g5)
   have y7:=x5.cells.2.2.2.2.2.2.2.1
   have f7:=x5.fz 7
   have H5:Hid (_):=And.intro G5 (And.intro x5 (And.intro c5 p5))
   have H2s:Hid (_):=Nat.le_trans H4.out.1.off.size (Nat.le_refl _)
   clear hO h5 g5 x5 c5 p5 G5 H4 y5 y6
   by_cases he:E=0
   ·have e0:(E != 0)=false:=by simp[he]
    obtain⟨c,rfl,hc,hge,hlt,hC,hoff⟩:=H5.out.2.2.1 he
    have HE:Hid (_):=And.intro he (And.intro hc (And.intro hge (And.intro hlt (And.intro hC hoff))))
    clear he hc hge hlt hC hoff
    go_wp2_with fail
    go_ret
    obtain⟨he,hc,hge,hlt,hC,hoff⟩:=HE.out
    obtain⟨G5,x5,_,_⟩:=H5.out
    have hk6:K6=1:=by rw[← HM.out.2.2.2,if_pos he]
    subst hk6
    have x6:=x5.celd (A':=(1:Nat)≠6) (cp:=.pointer (some ⟨c,0,none⟩)) hc hlt (Off.setCell d 7 w5 (.pointer (some ⟨c,0,none⟩))) (heap_setCell_same _ _ _ _ _ _ x5.dev) (fun _=>⟨rfl,hC,hoff⟩)
    refine⟨rfl,c :: U2,⟨(G5.trans (Gr.same (Off.setCell d 7 w5 (.pointer (some ⟨c,0,none⟩))) (by simp[x5.kd.2]))).off,fun j hj=>?_⟩,_,x6⟩
    simp at hj
    rcases hj with rfl | hj
    ·exact .inr (Nat.le_trans H2s.out hge)
    ·exact G5.new j hj
   ·have e0:(E != 0)=true:=by simp[he]
    obtain rfl:=H5.out.2.2.2 he
    have x6:=H5.out.2.1.celn (cp:=.pointer none) (Off.setCell d 7 w5 (.pointer none)) (heap_setCell_same _ _ _ _ _ _ H5.out.2.1.dev)
    have hD:=goDown_any d m g n mx P U2 _ _ _ _ x6
    have H6:Hid (_):=And.intro he (H5.out.1.trans (Gr.same (Off.setCell d 7 w5 (.pointer none)) (by simp[H5.out.2.1.kd.2])))
    clear he x6 H5
    go_wp2_with (go_at_call 93;refine hD.mono ?_;rintro e w7 ⟨rfl,h7⟩)
    go_ret
    obtain⟨U7,g7,x7⟩:=h7.out
    have hk6:K6=6:=by rw[← HM.out.2.2.2,if_neg H6.out.1]
    subst hk6
    exact⟨rfl,U7,H6.out.2.trans g7,x7⟩
end Go.Proofs.YtiopiheomoehbaaGreat
