/- Part 19 of the texts on which the proofs of layer 13 rest: contracts of Go functions. -/
import Derived.Test.YtffehehghpafdaaGreatPkB17
namespace Go.Proofs.YtffehehghpafdaaGreat
set_option maxRecDepth 100000
open Go.RowKit
theorem RB.celd {w w':World} {d m g n mx:Nat} {P:Pm} {U:List Nat} {s:Sd} {B:Bk2} {A A':Prop} (h:RB w d m g n mx P U s B A) {c:Nat} {cp:Value} (hc:c ∉ U) (hlt:c<w.heap.size) (q:Off [d] w w') (e:w'.heap[d]?=some (.cells (RDC P m mx cp B.lv B.vv s B.av) 60 (0,0)))
  (hx:A'→cp=.pointer (some ⟨c,0,none⟩)∧RX w c m mx (vz s.ms.bs) false∧s.ms.off=false):RB w' d m g n mx P (c :: U) s { B with c:=c,cp:=cp,col:=fun k=>if k=c then 2 else B.col k } A':=by
 have hn:∀ k,B.col k≠0→k ∉ [d]:=fun k hk hm=>by simp at hm;rw[hm,h.kd.1]at hk;exact hk rfl
 have hq:∀ k x,B.col k=x∧k ∈ U→(if k=c then 2 else B.col k)=x∧k ∈ c :: U:=fun k x hk=>⟨by rw[if_neg (fun e=>hc (by rw[← e];exact hk.2))];exact hk.1,by simp[hk.2]⟩
 refine⟨e,?_,?_,?_,?_,?_,h.apb,h.vok,h.dcl,?_,hq _ _ h.kd,hq _ _ h.km,hq _ _ h.kg,⟨if_pos rfl,by simp⟩,fun k hk=>hq _ _ (h.kM k hk),fun k hk=>hq _ _ (h.kl k hk),fun k hk=>hq _ _ (h.ka k hk),h.pok,h.n10,h.mx0,h.mxl,h.nl⟩
 ·exact h.mem.off q (hn _ (by rw[h.km.1];omega)) (hn _ (by rw[h.kg.1];omega))
 ·intro hs
  obtain⟨c1,c2,c3⟩:=hx hs
  exact⟨c1,c2.off q (by simp;intro e;exact hc (by rw[e];exact h.kd.2)),c3⟩
 ·exact h.val.off q (fun k hk hM=>hn k (by rw[(h.kM k hM).1];omega) hk)
 ·exact own_offk h.log q (fun k hk=>hn _ (by rw[(h.kl k hk).1];omega))
 ·exact own_offk h.app q (fun k hk=>hn _ (by rw[(h.ka k hk).1];omega))
 ·intro k hk
  simp at hk
  rcases hk with rfl | hk
  ·exact Nat.lt_of_lt_of_le hlt q.size
  ·exact Nat.lt_of_lt_of_le (h.ltU k hk) q.size
theorem ropenAll (d m g n mx:Nat) (P:Pm) (U:List Nat) (s:Sd) (B:Bk2) (A:Prop) (w:World) (h:RB w d m g n mx P U s B A) (ms:Ms) (hms:s.ms=ms) (E:Int) (hE:opE mx n ms=E) (ht:ms.t<9223372036854774000) :
  Calls Tryz.prog 97 #[.pointer (some ⟨m,0,none⟩),.int .u32 (mx:Nat)] w fun e w'=>∃ p,e=.returned (.tuple #[.pointer p,.int .i64 E])∧Hid (∃ B',Gr U w U w'∧RB w' d m g n mx P U { s with ms:=opS mx n ms } B' False ∧
   (E=0→∃ c,p=some ⟨c,0,none⟩∧c ∉ U∧w.heap.size≤c∧c<w'.heap.size∧RX w' c m mx (vz (opS mx n ms).bs) false∧(opS mx n ms).off=false)∧(¬ E=0→p=none)):=by
 subst hms
 subst hE
 refine (ropen m g n mx s.ms w h.mem ht).mono ?_
 rintro e w' ⟨p,rfl,h2⟩
 obtain⟨o2,m2,c2,p2⟩:=h2.out
 refine⟨p,rfl,B,Gr.same o2 (fun k hk=>h.memU k (by simp at hk ⊢;rcases hk with hk | hk <;> simp[hk])),h.memd (o2.more (by simp)) m2 (fun h=>h.elim),fun he=>?_,p2⟩
 obtain⟨c,hp,hc,hC⟩:=c2 he
 refine⟨c,hp,fun hm=>by have:=h.ltU c hm;omega,hc,hC.lt,?_,opS_off h.mem.l0 he⟩
 rw[opS_vz h.mem.l0 (fun i hi=>h.mem.byte i (by have:=h.n10;omega))]
 exact hC
theorem rreset_neg (d:Nat) (k:Int) (w:World) (hk:k<0):Calls Tryz.prog 44 #[.pointer (some ⟨d,0,none⟩),.int .i64 k] w fun e w'=>e=.returned (.int .i64 2)∧w'=w:=by
 go_enter Tryz.func44,Tryz.ntmps44
 go_wp2_with fail
 go_ret
 exact⟨rfl,rfl⟩
set_option maxHeartbeats 3200000 in
theorem rvreset_any (d m g n mx:Nat) (P:Pm) (U:List Nat) (s:Sd) (k:Int) (w:World) (h:RW w d m g n mx P U s) (hk0:0≤k) (hk:k≤9223372036854775807) (ht:s.ms.t<9223372036854774000) :
  Calls Tryz.prog 44 #[.pointer (some ⟨d,0,none⟩),.int .i64 k] w fun e w'=>e=.returned (.int .i64 (dresetE mx n s k))∧Hid (∃ U',Gr U w U' w'∧RW w' d m g n mx P U' (dresetS mx n s k)):=by
 unfold dresetE dresetS
 rw[if_neg (by omega),if_neg (by omega)]
 obtain⟨B,h⟩:=h
 have hL:=rlife_any d m g n mx P U s B _ 1 w h
 have H:Hid (_):=ht
 clear h ht
 obtain⟨MS,hMS⟩:∃ x,rsM s.ms k=x:=⟨_,rfl⟩
 rw[hMS]
 obtain⟨E,hE⟩:∃ x,opE mx n MS=x:=⟨_,rfl⟩
 rw[hE]
 have hMt:MS.t=s.ms.t:=by subst hMS;unfold rsM arS;split <;> (try split) <;> rfl
 obtain⟨K6,hK6⟩:∃ x,(if E=0 then 1 else 6)=x:=⟨_,rfl⟩
 rw[hK6]
 have HM:Hid (_):=And.intro hMS (And.intro hE (And.intro hMt hK6))
 clear hMS hE hMt hK6
 by_cases hp:0<k
 ·go_enter Tryz.func44,Tryz.ntmps44
  go_wp2_with (go_at_call 95;refine hL.mono ?_;rintro e w2 ⟨rfl,h2⟩;obtain⟨U2,B2,g2,x2⟩:=h2.out;have c5:w2.cell? ⟨d,5,none⟩=some (.pointer (some ⟨m,0,none⟩)):=cell_of_row w2 d 5 _ _ _ x2.dev;have H2:Hid (_):=And.intro g2 x2;clear hL h2 g2 x2)
  refine (ron_any _ _ _ _ _ H2.out.2.mem).mono ?_
  rintro e w3 ⟨rfl,o3,m3⟩
  have x3:=H2.out.2.memd (o3.more (by simp)) m3 (A':=False) (fun h=>h.elim)
  have z5:w3.cell? ⟨d,5,none⟩=some (.pointer (some ⟨m,0,none⟩)):=cell_of_row w3 d 5 _ _ _ x3.dev
  have z6:w3.cell? ⟨d,6,none⟩=some (.int .u32 (mx:Nat)):=cell_of_row w3 d 6 _ _ _ x3.dev
  have H3:Hid (_):=And.intro (H2.out.1.trans (Gr.same (o3.more (by simp)) H2.out.2.memU)) x3
  clear H2 o3 m3 x3 c5
  go_wp2_with fail
  refine (rarm_any _ _ _ _ (k-1) w3 H3.out.2.mem (by omega)).mono ?_
  rintro e w4 ⟨rfl,o4,m4⟩
  have x4:=H3.out.2.memd (o4.more (by simp)) m4 (A':=False) (fun h=>h.elim)
  have y5:w4.cell? ⟨d,5,none⟩=some (.pointer (some ⟨m,0,none⟩)):=cell_of_row w4 d 5 _ _ _ x4.dev
  have y6:w4.cell? ⟨d,6,none⟩=some (.int .u32 (mx:Nat)):=cell_of_row w4 d 6 _ _ _ x4.dev
  have H4:Hid (_):=And.intro (H3.out.1.trans (Gr.same (o4.more (by simp)) H3.out.2.memU)) x4
  clear H3 o4 m4 x4 z5 z6
  go_wp2_with fail
  have hO:=ropenAll d m g n mx P U2 _ _ _ _ (H4.out.2.newd (Off.drew [] w4)) MS (by rw[← HM.out.1];unfold rsM;rw[if_pos hp];rfl) E HM.out.2.1 (by rw[HM.out.2.2.1];exact H.out)
  go_region_with (go_at_call 97;refine hO.mono ?_;rintro e w5 ⟨p,rfl,h5⟩)
  all_goals
   obtain⟨B5,g5,x5,c5,p5⟩:=h5.out
   have G5:=H4.out.1.trans (Gr.trans (Gr.same (Off.drew [] w4) (by simp)) g5)
   have y7:w5.cell? ⟨d,7,none⟩=some B5.cp:=cell_of_row w5 d 7 _ _ _ x5.dev
   have f7:=x5.fz 7
   have H5:Hid (_):=And.intro G5 (And.intro x5 (And.intro c5 p5))
   have H2s:Hid (_):=Nat.le_trans H4.out.1.off.size (Nat.le_refl _)
   clear hO h5 g5 x5 c5 p5 G5 H4 y5 y6
   by_cases he:E=0
   ·have e0:(E != 0)=false:=by simp[he]
    obtain⟨c,rfl,hc,hge,hlt,hC,hoff⟩:=H5.out.2.2.1 he
    have HE:Hid (_):=And.intro he (And.intro hc (And.intro hge (And.intro hlt (And.intro hC hoff))))
    clear he hc hge hlt hC hoff
    go_wp2_with fail
    go_ret
    obtain⟨he,hc,hge,hlt,hC,hoff⟩:=HE.out
    obtain⟨G5,x5,_,_⟩:=H5.out
    have hk6:K6=1:=by rw[← HM.out.2.2.2,if_pos he]
    subst hk6
    have x6:=x5.celd (A':=(1:Nat)≠6) (cp:=.pointer (some ⟨c,0,none⟩)) hc hlt (Off.setCell d 7 w5 (.pointer (some ⟨c,0,none⟩))) (heap_setCell_same _ _ _ _ _ _ x5.dev) (fun _=>⟨rfl,hC,hoff⟩)
    refine⟨by rw[he];rfl,c :: U2,⟨(G5.trans (Gr.same (Off.setCell d 7 w5 (.pointer (some ⟨c,0,none⟩))) (by simp[x5.kd.2]))).off,fun j hj=>?_⟩,_,x6⟩
    simp at hj
    rcases hj with rfl | hj
    ·exact .inr (Nat.le_trans H2s.out hge)
    ·exact G5.new j hj
   ·have e0:(E != 0)=true:=by simp[he]
    have hD:=rlife_any d m g n mx P U2 _ _ _ 6 _ H5.out.2.1
    have H6:Hid (_):=And.intro he H5.out.1
    clear he H5
    go_wp2_with (go_at_call 95;refine hD.mono ?_;rintro e w7 ⟨rfl,h7⟩)
    go_ret
    obtain⟨U7,B7,g7,x7⟩:=h7.out
    have hk6:K6=6:=by rw[← HM.out.2.2.2,if_neg H6.out.1]
    subst hk6
    exact⟨rfl,U7,H6.out.2.trans g7,B7,{ x7 with cel:=fun hs=>absurd rfl hs }⟩
 ·go_enter Tryz.func44,Tryz.ntmps44
  go_wp2_with (go_at_call 95;refine hL.mono ?_;rintro e w2 ⟨rfl,h2⟩;obtain⟨U2,B2,g2,x2⟩:=h2.out;have c5:w2.cell? ⟨d,5,none⟩=some (.pointer (some ⟨m,0,none⟩)):=cell_of_row w2 d 5 _ _ _ x2.dev;have H2:Hid (_):=And.intro g2 x2;clear hL h2 g2 x2)
  refine (ron_any _ _ _ _ _ H2.out.2.mem).mono ?_
  rintro e w3 ⟨rfl,o3,m3⟩
  have x3:=H2.out.2.memd (o3.more (by simp)) m3 (A':=False) (fun h=>h.elim)
  have z5:w3.cell? ⟨d,5,none⟩=some (.pointer (some ⟨m,0,none⟩)):=cell_of_row w3 d 5 _ _ _ x3.dev
  have z6:w3.cell? ⟨d,6,none⟩=some (.int .u32 (mx:Nat)):=cell_of_row w3 d 6 _ _ _ x3.dev
  have H3:Hid (_):=And.intro (H2.out.1.trans (Gr.same (o3.more (by simp)) H2.out.2.memU)) x3
  clear H2 o3 m3 x3 c5
  go_wp2_with fail
  have H4:Hid (_):=H3.out
  have y5:=z5
  have y6:=z6
  clear H3 z5 z6
  have hO:=ropenAll d m g n mx P U2 _ _ _ _ (H4.out.2.newd (Off.drew [] w3)) MS (by rw[← HM.out.1];unfold rsM;rw[if_neg (by omega)];rfl) E HM.out.2.1 (by rw[HM.out.2.2.1];exact H.out)
  go_region_with (go_at_call 97;refine hO.mono ?_;rintro e w5 ⟨p,rfl,h5⟩)
  all_goals
   obtain⟨B5,g5,x5,c5,p5⟩:=h5.out
   have G5:=H4.out.1.trans (Gr.trans (Gr.same (Off.drew [] w3) (by simp)) g5)
   have y7:w5.cell? ⟨d,7,none⟩=some B5.cp:=cell_of_row w5 d 7 _ _ _ x5.dev
   have f7:=x5.fz 7
   have H5:Hid (_):=And.intro G5 (And.intro x5 (And.intro c5 p5))
   have H2s:Hid (_):=Nat.le_trans H4.out.1.off.size (Nat.le_refl _)
   clear hO h5 g5 x5 c5 p5 G5 H4 y5 y6
   by_cases he:E=0
   ·have e0:(E != 0)=false:=by simp[he]
    obtain⟨c,rfl,hc,hge,hlt,hC,hoff⟩:=H5.out.2.2.1 he
    have HE:Hid (_):=And.intro he (And.intro hc (And.intro hge (And.intro hlt (And.intro hC hoff))))
    clear he hc hge hlt hC hoff
    go_wp2_with fail
    go_ret
    obtain⟨he,hc,hge,hlt,hC,hoff⟩:=HE.out
    obtain⟨G5,x5,_,_⟩:=H5.out
    have hk6:K6=1:=by rw[← HM.out.2.2.2,if_pos he]
    subst hk6
    have x6:=x5.celd (A':=(1:Nat)≠6) (cp:=.pointer (some ⟨c,0,none⟩)) hc hlt (Off.setCell d 7 w5 (.pointer (some ⟨c,0,none⟩))) (heap_setCell_same _ _ _ _ _ _ x5.dev) (fun _=>⟨rfl,hC,hoff⟩)
    refine⟨by rw[he];rfl,c :: U2,⟨(G5.trans (Gr.same (Off.setCell d 7 w5 (.pointer (some ⟨c,0,none⟩))) (by simp[x5.kd.2]))).off,fun j hj=>?_⟩,_,x6⟩
    simp at hj
    rcases hj with rfl | hj
    ·exact .inr (Nat.le_trans H2s.out hge)
    ·exact G5.new j hj
   ·have e0:(E != 0)=true:=by simp[he]
    have hD:=rlife_any d m g n mx P U2 _ _ _ 6 _ H5.out.2.1
    have H6:Hid (_):=And.intro he H5.out.1
    clear he H5
    go_wp2_with (go_at_call 95;refine hD.mono ?_;rintro e w7 ⟨rfl,h7⟩)
    go_ret
    obtain⟨U7,B7,g7,x7⟩:=h7.out
    have hk6:K6=6:=by rw[← HM.out.2.2.2,if_neg H6.out.1]
    subst hk6
    exact⟨rfl,U7,H6.out.2.trans g7,B7,{ x7 with cel:=fun hs=>absurd rfl hs }⟩
end Go.Proofs.YtffehehghpafdaaGreat
