/- Part 18 of the texts on which the proofs of layer 13 rest: contracts of Go functions. -/
import Derived.Test.YtffehehghpafdaaGreatPkB14
import Derived.Test.YtffehehghpafdaaGreatPkB16
namespace Go.Proofs.YtffehehghpafdaaGreat
set_option maxRecDepth 100000
open Go.RowKit
theorem nx_vz {mx n:Nat} {s:Ms} (hn:10≤n) (ho:s.off=false) (hl:0≤s.l) (hmx:mx<4294967296) :
  ((nx mx n s.bs false s).e=0→(nx mx n s.bs false s).v=vz s.bs+1∧vz (nx mx n s.bs false s).s.bs=vz s.bs+1∧vz s.bs<mx)∧((nx mx n s.bs false s).e≠0→vz (nx mx n s.bs false s).s.bs=vz s.bs):=by
 unfold nx
 rw[if_neg (by simp[ho])]
 by_cases hm:mx≤vz s.bs
 ·rw[if_pos hm]
  exact⟨fun e=>(by cases e),fun _=>rfl⟩
 ·rw[if_neg hm]
  rcases sq_all n (six (tg s.bs) (vz s.bs+1)) s (fun x hx=>(six_in _ _ n (tg_lt _) hn x hx).1) ho hl with ⟨h1,h2,_⟩ | ⟨h1,h2,_,h4⟩
  ·rw[if_pos h1]
   refine⟨fun _=>⟨rfl,?_,by omega⟩,fun e=>absurd rfl e⟩
   show vz (sqS n (six (tg s.bs) (vz s.bs+1)) s).bs=_
   rw[h2]
   exact vz_next _ _ (by omega) (by omega)
  ·rw[if_neg (by omega)]
   refine⟨fun e=>(by cases e),fun _=>?_⟩
   show vz (sqS n (six (tg s.bs) (vz s.bs+1)) s).bs=_
   rw[h2]
   refine vz_cut _ _ _ ?_
   have:(six (tg s.bs) (vz s.bs+1)).length=6:=rfl
   omega
theorem opS_vz {mx n:Nat} {s:Ms} (hl:0≤s.l) (hz:Bz s.bs):vz (opS mx n s).bs=vz s.bs:=by
 unfold opS
 by_cases h1:mx=0∨n<10
 ·rw[if_pos h1]
 ·rw[if_neg h1]
  by_cases h2:s.off=true
  ·rw[if_pos h2]
  ·rw[if_neg h2]
   rcases sq_all n (mend s.bs) s (fun x hx=>(mend_in s.bs n (by omega) x hx).1) (by simpa using h2) hl with ⟨_,e,_⟩ | ⟨_,e,_⟩
   ·rw[e]
    have:=vz_mend s.bs (mend s.bs).length hz
    rwa [List.take_length]at this
   ·rw[e]
    exact vz_mend s.bs _ hz
theorem reset_vz {mx n:Nat} (s:Sd) (k:Int) (hz:Bz s.ms.bs) (hl:0≤s.ms.l):vz (dresetS mx n s k).ms.bs=vz s.ms.bs∧(dresetS mx n s k).ms.t≤s.ms.t+6∧(dresetS mx n s k).L=s.L:=by
 unfold dresetS
 by_cases hk:k<0
 ·rw[if_pos hk];exact⟨rfl,by omega,rfl⟩
 ·rw[if_neg hk]
  have hb:(rsM s.ms k).bs=s.ms.bs∧(rsM s.ms k).t=s.ms.t∧0 ≤ (rsM s.ms k).l:=by
   unfold rsM arS
   split
   ·split
    ·exact⟨rfl,rfl,hl⟩
    ·exact⟨rfl,rfl,by show 0≤k-1;omega⟩
   ·exact⟨rfl,rfl,hl⟩
  refine⟨?_,?_,rfl⟩
  ·show vz (opS mx n (rsM s.ms k)).bs=_
   rw[opS_vz hb.2.2 (by rw[hb.1];exact hz),hb.1]
  ·have:=opS_t mx n (rsM s.ms k) hb.2.2
   show (opS mx n (rsM s.ms k)).t≤_
   omega
theorem DV.facts {w:World} {d m g n mx:Nat} {P:Pm} {U:List Nat} {s:Sd} (h:DV w d m g n mx P U s):Bz s.ms.bs∧0≤s.ms.l∧10≤n∧mx≠0∧mx<4294967296∧(s.st≠6→s.ms.off=false):=by
 obtain⟨B,x⟩:=h
 exact⟨fun i hi=>x.mem.byte i (by have:=x.n10;omega),x.mem.l0,x.n10,x.mx0,x.mxl,fun hs=>(x.cel hs).2.2⟩
theorem dvarm_any (d m g n mx:Nat) (P:Pm) (U:List Nat) (s:Sd) (p:Int) (w:World) (h:DV w d m g n mx P U s) (hp:p≤9223372036854775807) :
  Calls Tryz.prog 45 #[.pointer (some ⟨m,0,none⟩),.int .i64 p] w fun e w'=>e=.returned (.int .i64 (arE p))∧Hid (∃ U',Gr U w U' w'∧DV w' d m g n mx P U' { s with ms:=arS s.ms p }):=by
 obtain⟨B,x⟩:=h
 refine (arm_any m g n s.ms p w x.mem hp).mono ?_
 rintro e w' ⟨rfl,o,m'⟩
 refine⟨rfl,U,Gr.same (o.more (m:=[m,g,B.c]) (by simp)) x.memU,B,x.memd (o.more (by simp)) m' (A':=s.st≠6) (fun hs=>?_)⟩
 obtain⟨c1,c2,c3⟩:=x.cel hs
 have hne:B.c ∉ [m]:=fun hm=>by simp at hm;have:=x.kc.1;rw[hm,x.km.1]at this;omega
 have e1:(arS s.ms p).bs=s.ms.bs:=by unfold arS;split <;> rfl
 have e2:(arS s.ms p).off=s.ms.off:=by unfold arS;split <;> rfl
 rw[e1,e2]
 exact⟨c1,c2.off o hne,c3⟩
def OutR (U:List Nat) (w w':World) (d m g n mx:Nat) (P:Pm) (s:Sd) (f:Fm) (v:Value):Prop:=
 ∃ U',Gr U w U' w'∧RW w' d m g n mx P U' s∧Fr w' w.heap.size v f∧∀ k,v.ownBlock=some k→k ∉ U'
theorem OutR.mk {U U1:List Nat} {w w1 w2:World} {d m g n mx:Nat} {P:Pm} {s:Sd} {f:Fm} {v:Value} (h:Gr U w U1 w1) (x:RW w1 d m g n mx P U1 s) (hf:Fr w2 w1.heap.size v f) (hb:Below w1.heap.size w1 w2):OutR U w w2 d m g n mx P s f v:=
 ⟨U1,h.trans (Gr.below hb),x.below hb,own_base hf h.off.size,fun k hk hm=>by have:=x.ult k hm;have:=hf.ge k hk;omega⟩
theorem OutR.none_ {U U1:List Nat} {w w1:World} {d m g n mx:Nat} {P:Pm} {s:Sd} (h:Gr U w U1 w1) (x:RW w1 d m g n mx P U1 s):OutR U w w1 d m g n mx P s fm0 (.slice none 0 0):=
 ⟨U1,h,x,own_nil _ _ _,fun k hk=>by cases hk⟩
theorem RB.memd {w w':World} {d m g n mx:Nat} {P:Pm} {U:List Nat} {s:Sd} {B:Bk2} {A A':Prop} (h:RB w d m g n mx P U s B A) (q:Off [m,g,B.c] w w') {ms:Ms} (e:RR w' m g n ms) (hc:A'→B.cp=.pointer (some ⟨B.c,0,none⟩)∧RX w' B.c m mx (vz ms.bs) false∧ms.off=false) :
  RB w' d m g n mx P U { s with ms:=ms } B A':=by
 have hn:∀ k,B.col k≠1→B.col k≠2→k ∉ [m,g,B.c]:=fun k hk h2 hm=>by
  simp at hm
  rcases hm with hm | hm | hm
  ·rw[hm]at hk;exact hk h.km.1
  ·rw[hm]at hk;exact hk h.kg.1
  ·rw[hm]at h2;exact h2 h.kc.1
 refine⟨(q.block d h.dlt (hn _ (by rw[h.kd.1];omega) (by rw[h.kd.1];omega))).trans h.dev,e,hc,?_,?_,?_,h.apb,h.vok,h.dcl,fun k hk=>Nat.lt_of_lt_of_le (h.ltU k hk) q.size,h.kd,h.km,h.kg,h.kc,h.kM,h.kl,h.ka,h.pok,h.n10,h.mx0,h.mxl,h.nl⟩
 ·exact h.val.off q (fun k hk hM=>hn k (by rw[(h.kM k hM).1];omega) (by rw[(h.kM k hM).1];omega) hk)
 ·exact own_offk h.log q (fun k hk=>hn _ (by rw[(h.kl k hk).1];omega) (by rw[(h.kl k hk).1];omega))
 ·exact own_offk h.app q (fun k hk=>hn _ (by rw[(h.ka k hk).1];omega) (by rw[(h.ka k hk).1];omega))
theorem RB.memU {w:World} {d m g n mx:Nat} {P:Pm} {U:List Nat} {s:Sd} {B:Bk2} {A:Prop} (h:RB w d m g n mx P U s B A):∀ k,k ∈ [m,g,B.c]→k ∈ U:=fun k hk=>by
 simp at hk
 rcases hk with hk | hk | hk
 ·rw[hk];exact h.km.2
 ·rw[hk];exact h.kg.2
 ·rw[hk];exact h.kc.2
theorem dodd_ss {s:Sd} (h:s.ss<4294967296):(dodd s).ss<4294967296:=by
 unfold dodd
 split
 ·split
  ·exact h
  ·show (0:Nat)<_;omega
 ·exact h
set_option maxHeartbeats 6400000 in
theorem rwish_any (d m g n mx:Nat) (P:Pm) (U:List Nat) (s:Sd) (w:World) (h:RW w d m g n mx P U s) (hs:s.st≠6) (ho:s.od<4) (hL:s.L.length<800000) (ht:s.ms.t<9223372036854774000) (hss:s.ss<4294967296) :
  Calls Tryz.prog 118 #[.pointer (some ⟨d,0,none⟩)] w fun e w'=>∃ v,e=.returned (.tuple #[v,.int .i64 (dwish P mx n s).e])∧Hid (OutR U w w' d m g n mx P (dwish P mx n s).s (dwish P mx n s).f v):=by
 obtain⟨B,h0⟩:=id h
 have c18:w.cell? ⟨d,18,none⟩=some (.int .i64 (s.st:Nat)):=cell_of_row w d 18 _ _ _ h0.dev
 have hI:=rbusy_any d s.st w c18
 have hS:=rstrange_any d m g n mx P U s w h hs ho (by omega)
 have HH:Hid (_):=And.intro h (And.intro hs (And.intro hL (And.intro ht hss)))
 clear h h0 hs hL ht hss c18
 by_cases hb:dbusy s=true
 ·rw[show decide (s.st=2∨s.st=3∨s.st=4)=true from hb]at hI
  have hst:s.st=2∨s.st=3∨s.st=4:=by unfold dbusy at hb;simpa using hb
  by_cases h4:s.od+1<4
  ·have hov:dover s=false:=by unfold dover;rw[hb];simp;omega
   have hdd:(dodd s).st=s.st:=by unfold dodd;rw[if_pos hb,if_pos h4]
   rw[hov]at hS
   rcases hst with h2 | h3
   ·have hw:dwish P mx n s=⟨dodd s,doffer P (dodd s),130⟩:=by unfold dwish;rw[if_pos (by rw[hdd];exact h2)]
    rw[hw]
    have H1:Hid (_):=And.intro hdd h2
    clear hb h4 hov hdd h2 hw ho
    go_enter Tryz.func118,Tryz.ntmps118
    go_wp2_with (first | (go_at_call 180;refine hI.mono ?_;rintro e w' ⟨rfl,hw⟩;have hw:=hw.symm;subst hw) | (go_at_call 119;refine hS.mono ?_;rintro e w2 ⟨rfl,h2⟩;obtain⟨U2,g2,B2,x2⟩:=h2.out;have c18:w2.cell? ⟨d,18,none⟩=some (.int .i64 ((dodd s).st:Nat)):=cell_of_row w2 d 18 _ _ _ x2.dev;rw[H1.out.1,H1.out.2]at c18;have H2:Hid (_):=And.intro g2 x2;clear h2 g2 x2))
    have hN:=roffer_any d m g n mx P U2 (dodd s) w2 ⟨B2,H2.out.2⟩ (dodd_ss HH.out.2.2.2.2)
    clear c18 hI hS
    go_wp2_with (go_at_call 181;refine hN.mono ?_;rintro e w5 ⟨v,rfl,h5⟩)
    go_ret2
    exact⟨v,rfl,OutR.mk H2.out.1 ⟨B2,H2.out.2⟩ h5.out.1 h5.out.2⟩
   ·have hw:dwish P mx n s=⟨dodd s,dnone P (dodd s),130⟩:=by unfold dwish;rw[if_neg (by rw[hdd];omega),if_pos (by rw[hdd];exact h3)]
    rw[hw]
    have e2:((s.st:Int) == 2)=false:=by simp;omega
    have H1:Hid (_):=hdd
    clear hb h4 hov hdd h3 hw ho
    go_enter Tryz.func118,Tryz.ntmps118
    go_wp2_with (first | (go_at_call 180;refine hI.mono ?_;rintro e w' ⟨rfl,hw⟩;have hw:=hw.symm;subst hw) | (go_at_call 119;refine hS.mono ?_;rintro e w2 ⟨rfl,h2⟩;obtain⟨U2,g2,B2,x2⟩:=h2.out;have c18:w2.cell? ⟨d,18,none⟩=some (.int .i64 ((dodd s).st:Nat)):=cell_of_row w2 d 18 _ _ _ x2.dev;rw[H1.out]at c18;have H2:Hid (_):=And.intro g2 x2;clear h2 g2 x2))
    have hN:=rnone_any d m g n mx P U2 (dodd s) w2 ⟨B2,H2.out.2⟩ (dodd_ss HH.out.2.2.2.2)
    clear c18 hI hS
    go_wp2_with (go_at_call 120;refine hN.mono ?_;rintro e w5 ⟨v,rfl,h5⟩)
    go_ret2
    exact⟨v,rfl,OutR.mk H2.out.1 ⟨B2,H2.out.2⟩ h5.out.1 h5.out.2⟩
  ·have hov:dover s=true:=by unfold dover;rw[hb];simp;omega
   have hdd:(dodd s).st=1:=by unfold dodd;rw[if_pos hb,if_neg h4];rfl
   rw[hov]at hS
   have hw:dwish P mx n s=dbegin P mx n (dodd s):=by unfold dwish;rw[if_neg (by rw[hdd];omega),if_neg (by rw[hdd];omega)]
   rw[hw]
   obtain⟨B0,y0⟩:=HH.out.1
   have F0:10≤n∧s.ms.off=false∧0≤s.ms.l∧mx<4294967296:=⟨y0.n10,(y0.cel HH.out.2.1).2.2,y0.mem.l0,y0.mxl⟩
   clear y0
   have hms:=dodd_ms s
   have hv:=nx_live (mx:=mx) (n:=n) (s:=(dodd s).ms) F0.1 (by rw[hms];exact F0.2.1) (by rw[hms];exact F0.2.2.1)
   have ht1:(dodd s).ms.t<9223372036854774000:=by rw[hms];exact HH.out.2.2.2.1
   have hL1:(dodd s).L.length<900000:=by have:=dodd_len s;have:=HH.out.2.2.1;omega
   have hup:=dodd_up HH.out.2.1
   have hvz:=nx_vz (mx:=mx) (n:=n) (s:=(dodd s).ms) F0.1 (by rw[hms];exact F0.2.1) (by rw[hms];exact F0.2.2.1) F0.2.2.2
   unfold dbegin
   obtain⟨X,hX0⟩:∃ X,nx mx n (dodd s).ms.bs false (dodd s).ms=X:=⟨_,rfl⟩
   rw[hX0]at hv hvz ⊢
   have HP:Hid (_):=And.intro hX0 (And.intro ht1 (And.intro hL1 (And.intro hup hvz)))
   clear hX0 ht1 hL1 hup hvz hms hw F0
   clear hst hb h4 hov ho hdd
   rcases hv with he | ⟨he,hc,hz,hoff⟩
   ·rw[he,if_neg (by omega),if_pos (by omega)]
    go_enter Tryz.func118,Tryz.ntmps118
    go_wp2_with (first | (go_at_call 180;refine hI.mono ?_;rintro e w' ⟨rfl,hw⟩;have hw:=hw.symm;subst hw) | (go_at_call 119;refine hS.mono ?_;rintro e w2 ⟨rfl,h2⟩;obtain⟨U2,g2,B2,x2⟩:=h2.out;have c7:w2.cell? ⟨d,7,none⟩=some B2.cp:=cell_of_row w2 d 7 _ _ _ x2.dev;rw[(x2.cel HP.out.2.2.2.1).1]at c7;have H2:Hid (_):=And.intro g2 x2;clear h2 g2 x2))
    clear hI hS
    have hX:=rnext B2.c m g n mx (dodd s).ms.bs false (dodd s).ms w2 H2.out.2.mem (H2.out.2.cel HP.out.2.2.2.1).2.1 (fun _=>rfl) (fun e=>by have:=H2.out.2.kc.1;rw[e,H2.out.2.km.1]at this;omega) (fun e=>by have:=H2.out.2.kc.1;rw[e,H2.out.2.kg.1]at this;omega) H2.out.2.n10 H2.out.2.mxl HP.out.2.1
    rw[HP.out.1,he]at hX
    go_wp2_with fail
    refine hX.mono ?_
    rintro e w3 ⟨rfl,o3,m3,k3⟩
    have g3:=H2.out.1.trans (Gr.same o3 H2.out.2.memU)
    have x3:=H2.out.2.memd o3 m3 (A':=False) (fun h=>h.elim)
    have hD:=rlife_any d m g n mx P U2 _ B2 False 6 w3 x3
    have H3:Hid (_):=g3
    clear hX o3 m3 k3 x3 g3 H2 c7
    go_wp2_with (go_at_call 95;refine hD.mono ?_;rintro e w4 ⟨rfl,h4⟩)
    go_ret2
    obtain⟨U4,B4,g4,x4⟩:=h4.out
    exact⟨_,rfl,OutR.none_ (H3.out.trans g4) ⟨B4,{ x4 with cel:=fun hs=>absurd rfl hs }⟩⟩
   ·rcases he with he | he
    ·rw[he,if_pos rfl]
     go_enter Tryz.func118,Tryz.ntmps118
     go_wp2_with (first | (go_at_call 180;refine hI.mono ?_;rintro e w' ⟨rfl,hw⟩;have hw:=hw.symm;subst hw) | (go_at_call 119;refine hS.mono ?_;rintro e w2 ⟨rfl,h2⟩;obtain⟨U2,g2,B2,x2⟩:=h2.out;have c7:w2.cell? ⟨d,7,none⟩=some B2.cp:=cell_of_row w2 d 7 _ _ _ x2.dev;rw[(x2.cel HP.out.2.2.2.1).1]at c7;have H2:Hid (_):=And.intro g2 x2;clear h2 g2 x2))
     clear hI hS
     have hX:=rnext B2.c m g n mx (dodd s).ms.bs false (dodd s).ms w2 H2.out.2.mem (H2.out.2.cel HP.out.2.2.2.1).2.1 (fun _=>rfl) (fun e=>by have:=H2.out.2.kc.1;rw[e,H2.out.2.km.1]at this;omega) (fun e=>by have:=H2.out.2.kc.1;rw[e,H2.out.2.kg.1]at this;omega) H2.out.2.n10 H2.out.2.mxl HP.out.2.1
     rw[HP.out.1,he]at hX
     go_wp2_with fail
     refine hX.mono ?_
     rintro e w3 ⟨rfl,o3,m3,k3⟩
     have g3:=H2.out.1.trans (Gr.same o3 H2.out.2.memU)
     rw[hc,hz]at k3
     have x3:=H2.out.2.memd o3 m3 (A':=(dodd s).st≠6) (fun h=>⟨(H2.out.2.cel h).1,k3,hoff⟩)
     have hT:=rvlatch_any d m g n mx P U2 { dodd s with ms:=X.s } 80 w3 ⟨B2,x3⟩ (by omega) HP.out.2.2.1
     have H3:Hid (_):=g3
     clear hX o3 m3 k3 x3 g3 H2 c7
     go_wp2_with (go_at_call 60;refine hT.mono ?_;rintro e w4 ⟨rfl,h4⟩)
     obtain⟨U4,g4,x4⟩:=h4.out
     have hV:=rvleave_any d m g n mx P U4 _ 5 w4 x4 (by rw[dlatch_st];exact HP.out.2.2.2.1)
     have H4:Hid (_):=H3.out.trans g4
     clear hT h4 g4 x4 H3
     go_wp2_with (go_at_call 183;refine hV.mono ?_;rintro e w5 ⟨rfl,h5⟩)
     obtain⟨U5,g5,x5⟩:=h5.out
     have hN:=rnone_any d m g n mx P U5 _ w5 x5 (by show (0:Nat)<_;omega)
     have H5:Hid (_):=And.intro (H4.out.trans g5) x5
     clear hV h5 g5 x5 H4
     go_wp2_with (go_at_call 120;refine hN.mono ?_;rintro e w6 ⟨v,rfl,h6⟩)
     go_ret2
     exact⟨v,rfl,OutR.mk H5.out.1 H5.out.2 h6.out.1 h6.out.2⟩
    ·rw[he,if_neg (by omega),if_neg (by omega)]
     go_enter Tryz.func118,Tryz.ntmps118
     go_wp2_with (first | (go_at_call 180;refine hI.mono ?_;rintro e w' ⟨rfl,hw⟩;have hw:=hw.symm;subst hw) | (go_at_call 119;refine hS.mono ?_;rintro e w2 ⟨rfl,h2⟩;obtain⟨U2,g2,B2,x2⟩:=h2.out;have c7:w2.cell? ⟨d,7,none⟩=some B2.cp:=cell_of_row w2 d 7 _ _ _ x2.dev;rw[(x2.cel HP.out.2.2.2.1).1]at c7;have H2:Hid (_):=And.intro g2 x2;clear h2 g2 x2))
     clear hI hS
     have hX:=rnext B2.c m g n mx (dodd s).ms.bs false (dodd s).ms w2 H2.out.2.mem (H2.out.2.cel HP.out.2.2.2.1).2.1 (fun _=>rfl) (fun e=>by have:=H2.out.2.kc.1;rw[e,H2.out.2.km.1]at this;omega) (fun e=>by have:=H2.out.2.kc.1;rw[e,H2.out.2.kg.1]at this;omega) H2.out.2.n10 H2.out.2.mxl HP.out.2.1
     rw[HP.out.1,he]at hX
     go_wp2_with fail
     refine hX.mono ?_
     rintro e w3 ⟨rfl,o3,m3,k3⟩
     have g3:=H2.out.1.trans (Gr.same o3 H2.out.2.memU)
     rw[hc,hz]at k3
     have x3:=H2.out.2.memd o3 m3 (A':=(dodd s).st≠6) (fun h=>⟨(H2.out.2.cel h).1,k3,hoff⟩)
     have hV:=rvleave_any d m g n mx P U2 { dodd s with ms:=X.s } 2 w3 ⟨B2,x3⟩ HP.out.2.2.2.1
     have H3:Hid (_):=And.intro g3 H2.out.2.mxl
     clear hX o3 m3 k3 x3 g3 H2 c7
     go_wp2_with (go_at_call 183;refine hV.mono ?_;rintro e w4 ⟨rfl,h4⟩;obtain⟨U4,g4,B4,x4⟩:=h4.out;have y19:w4.cell? ⟨d,19,none⟩=some (.int .u32 (0:Nat)):=cell_of_row w4 d 19 _ _ _ x4.dev;have f19:=x4.fz 19;have H4:Hid (_):=And.intro g4 x4;clear hV h4 g4 x4)
     have x4:=H4.out.2
     have e5:(w4.setCell ⟨d,19,none⟩ (.int .u32 (X.v:Nat))).heap[d]?=some (.cells (RDC P m mx B4.cp B4.lv B4.vv { dleave { dodd s with ms:=X.s } 2 with ss:=X.v } B4.av) 60 (0,0)):=heap_setCell_same _ _ _ _ _ _ x4.dev
     have o5:=Off.setCell d 19 w4 (.int .u32 (X.v:Nat))
     have x5:=x4.own (A':=({ dleave { dodd s with ms:=X.s } 2 with ss:=X.v }:Sd).st≠6) (s':={ dleave { dodd s with ms:=X.s } 2 with ss:=X.v }) o5 e5 rfl ⟨rfl,rfl⟩ rfl rfl x4.vok x4.dcl id
     have hN:=roffer_any d m g n mx P U4 _ _ ⟨B4,x5⟩ (by show X.v<_;have:=(HP.out.2.2.2.2.1 he);have:=H3.out.2;omega)
     have H5:Hid (_):=And.intro ((H3.out.1.trans H4.out.1).trans (Gr.same o5 (by simp[x4.kd.2]))) x5
     clear x4 H3 H4 o5 x5 e5
     go_wp2_with (go_at_call 181;refine hN.mono ?_;rintro e w6 ⟨v,rfl,h6⟩)
     go_ret2
     exact⟨v,rfl,OutR.mk H5.out.1 ⟨B4,H5.out.2⟩ h6.out.1 h6.out.2⟩
 ·have hb':dbusy s=false:=by simpa using hb
  rw[show decide (s.st=2∨s.st=3∨s.st=4)=false from hb']at hI
  have hds:dodd s=s:=by unfold dodd;rw[if_neg hb]
  have hn2:¬ (s.st=2∨s.st=3∨s.st=4):=by unfold dbusy at hb;simpa using hb
  have hw:dwish P mx n s=dbegin P mx n (dodd s):=by unfold dwish;rw[if_neg (by rw[hds];omega),if_neg (by rw[hds];omega)]
  rw[hw]
  obtain⟨B0,y0⟩:=HH.out.1
  have F0:10≤n∧s.ms.off=false∧0≤s.ms.l∧mx<4294967296:=⟨y0.n10,(y0.cel HH.out.2.1).2.2,y0.mem.l0,y0.mxl⟩
  clear y0
  have hms:=dodd_ms s
  have hv:=nx_live (mx:=mx) (n:=n) (s:=(dodd s).ms) F0.1 (by rw[hms];exact F0.2.1) (by rw[hms];exact F0.2.2.1)
  have ht1:(dodd s).ms.t<9223372036854774000:=by rw[hms];exact HH.out.2.2.2.1
  have hL1:(dodd s).L.length<900000:=by have:=dodd_len s;have:=HH.out.2.2.1;omega
  have hup:=dodd_up HH.out.2.1
  have hvz:=nx_vz (mx:=mx) (n:=n) (s:=(dodd s).ms) F0.1 (by rw[hms];exact F0.2.1) (by rw[hms];exact F0.2.2.1) F0.2.2.2
  unfold dbegin
  obtain⟨X,hX0⟩:∃ X,nx mx n (dodd s).ms.bs false (dodd s).ms=X:=⟨_,rfl⟩
  rw[hX0]at hv hvz ⊢
  have HP:Hid (_):=And.intro hX0 (And.intro ht1 (And.intro hL1 (And.intro hup hvz)))
  clear hX0 ht1 hL1 hup hvz hms hw F0
  clear hb hb' hn2 ho hS
  rcases hv with he | ⟨he,hc,hz,hoff⟩
  ·rw[he,if_neg (by omega),if_pos (by omega)]
   obtain⟨B2,y2⟩:=HH.out.1
   have x2:RB w d m g n mx P U (dodd s) B2 ((dodd s).st≠6):=by rw[hds];exact y2
   have c7:w.cell? ⟨d,7,none⟩=some B2.cp:=cell_of_row w d 7 _ _ _ x2.dev
   rw[(x2.cel HP.out.2.2.2.1).1]at c7
   have H2:Hid (_):=And.intro (Gr.refl U w) x2
   clear x2 y2
   go_enter Tryz.func118,Tryz.ntmps118
   go_wp2_with (go_at_call 180;refine hI.mono ?_;rintro e w' ⟨rfl,hw⟩;have hw:=hw.symm;subst hw)
   have hX:=rnext B2.c m g n mx (dodd s).ms.bs false (dodd s).ms w H2.out.2.mem (H2.out.2.cel HP.out.2.2.2.1).2.1 (fun _=>rfl) (fun e=>by have:=H2.out.2.kc.1;rw[e,H2.out.2.km.1]at this;omega) (fun e=>by have:=H2.out.2.kc.1;rw[e,H2.out.2.kg.1]at this;omega) H2.out.2.n10 H2.out.2.mxl HP.out.2.1
   rw[HP.out.1,he]at hX
   go_wp2_with fail
   refine hX.mono ?_
   rintro e w3 ⟨rfl,o3,m3,k3⟩
   have g3:=H2.out.1.trans (Gr.same o3 H2.out.2.memU)
   have x3:=H2.out.2.memd o3 m3 (A':=False) (fun h=>h.elim)
   have hD:=rlife_any d m g n mx P U _ B2 False 6 w3 x3
   have H3:Hid (_):=g3
   clear hX o3 m3 k3 x3 g3 H2 c7
   go_wp2_with (go_at_call 95;refine hD.mono ?_;rintro e w4 ⟨rfl,h4⟩)
   go_ret2
   obtain⟨U4,B4,g4,x4⟩:=h4.out
   exact⟨_,rfl,OutR.none_ (H3.out.trans g4) ⟨B4,{ x4 with cel:=fun hs=>absurd rfl hs }⟩⟩
  ·rcases he with he | he
   ·rw[he,if_pos rfl]
    obtain⟨B2,y2⟩:=HH.out.1
    have x2:RB w d m g n mx P U (dodd s) B2 ((dodd s).st≠6):=by rw[hds];exact y2
    have c7:w.cell? ⟨d,7,none⟩=some B2.cp:=cell_of_row w d 7 _ _ _ x2.dev
    rw[(x2.cel HP.out.2.2.2.1).1]at c7
    have H2:Hid (_):=And.intro (Gr.refl U w) x2
    clear x2 y2
    go_enter Tryz.func118,Tryz.ntmps118
    go_wp2_with (go_at_call 180;refine hI.mono ?_;rintro e w' ⟨rfl,hw⟩;have hw:=hw.symm;subst hw)
    have hX:=rnext B2.c m g n mx (dodd s).ms.bs false (dodd s).ms w H2.out.2.mem (H2.out.2.cel HP.out.2.2.2.1).2.1 (fun _=>rfl) (fun e=>by have:=H2.out.2.kc.1;rw[e,H2.out.2.km.1]at this;omega) (fun e=>by have:=H2.out.2.kc.1;rw[e,H2.out.2.kg.1]at this;omega) H2.out.2.n10 H2.out.2.mxl HP.out.2.1
    rw[HP.out.1,he]at hX
    go_wp2_with fail
    refine hX.mono ?_
    rintro e w3 ⟨rfl,o3,m3,k3⟩
    have g3:=H2.out.1.trans (Gr.same o3 H2.out.2.memU)
    rw[hc,hz]at k3
    have x3:=H2.out.2.memd o3 m3 (A':=(dodd s).st≠6) (fun h=>⟨(H2.out.2.cel h).1,k3,hoff⟩)
    have hT:=rvlatch_any d m g n mx P U { dodd s with ms:=X.s } 80 w3 ⟨B2,x3⟩ (by omega) HP.out.2.2.1
    have H3:Hid (_):=g3
    clear hX o3 m3 k3 x3 g3 H2 c7
    go_wp2_with (go_at_call 60;refine hT.mono ?_;rintro e w4 ⟨rfl,h4⟩)
    obtain⟨U4,g4,x4⟩:=h4.out
    have hV:=rvleave_any d m g n mx P U4 _ 5 w4 x4 (by rw[dlatch_st];exact HP.out.2.2.2.1)
    have H4:Hid (_):=H3.out.trans g4
    clear hT h4 g4 x4 H3
    go_wp2_with (go_at_call 183;refine hV.mono ?_;rintro e w5 ⟨rfl,h5⟩)
    obtain⟨U5,g5,x5⟩:=h5.out
    have hN:=rnone_any d m g n mx P U5 _ w5 x5 (by show (0:Nat)<_;omega)
    have H5:Hid (_):=And.intro (H4.out.trans g5) x5
    clear hV h5 g5 x5 H4
    go_wp2_with (go_at_call 120;refine hN.mono ?_;rintro e w6 ⟨v,rfl,h6⟩)
    go_ret2
    exact⟨v,rfl,OutR.mk H5.out.1 H5.out.2 h6.out.1 h6.out.2⟩
   ·rw[he,if_neg (by omega),if_neg (by omega)]
    obtain⟨B2,y2⟩:=HH.out.1
    have x2:RB w d m g n mx P U (dodd s) B2 ((dodd s).st≠6):=by rw[hds];exact y2
    have c7:w.cell? ⟨d,7,none⟩=some B2.cp:=cell_of_row w d 7 _ _ _ x2.dev
    rw[(x2.cel HP.out.2.2.2.1).1]at c7
    have H2:Hid (_):=And.intro (Gr.refl U w) x2
    clear x2 y2
    go_enter Tryz.func118,Tryz.ntmps118
    go_wp2_with (go_at_call 180;refine hI.mono ?_;rintro e w' ⟨rfl,hw⟩;have hw:=hw.symm;subst hw)
    have hX:=rnext B2.c m g n mx (dodd s).ms.bs false (dodd s).ms w H2.out.2.mem (H2.out.2.cel HP.out.2.2.2.1).2.1 (fun _=>rfl) (fun e=>by have:=H2.out.2.kc.1;rw[e,H2.out.2.km.1]at this;omega) (fun e=>by have:=H2.out.2.kc.1;rw[e,H2.out.2.kg.1]at this;omega) H2.out.2.n10 H2.out.2.mxl HP.out.2.1
    rw[HP.out.1,he]at hX
    go_wp2_with fail
    refine hX.mono ?_
    rintro e w3 ⟨rfl,o3,m3,k3⟩
    have g3:=H2.out.1.trans (Gr.same o3 H2.out.2.memU)
    rw[hc,hz]at k3
    have x3:=H2.out.2.memd o3 m3 (A':=(dodd s).st≠6) (fun h=>⟨(H2.out.2.cel h).1,k3,hoff⟩)
    have hV:=rvleave_any d m g n mx P U { dodd s with ms:=X.s } 2 w3 ⟨B2,x3⟩ HP.out.2.2.2.1
    have H3:Hid (_):=And.intro g3 H2.out.2.mxl
    clear hX o3 m3 k3 x3 g3 H2 c7
    go_wp2_with (go_at_call 183;refine hV.mono ?_;rintro e w4 ⟨rfl,h4⟩;obtain⟨U4,g4,B4,x4⟩:=h4.out;have y19:w4.cell? ⟨d,19,none⟩=some (.int .u32 (0:Nat)):=cell_of_row w4 d 19 _ _ _ x4.dev;have f19:=x4.fz 19;have H4:Hid (_):=And.intro g4 x4;clear hV h4 g4 x4)
    have x4:=H4.out.2
    have e5:(w4.setCell ⟨d,19,none⟩ (.int .u32 (X.v:Nat))).heap[d]?=some (.cells (RDC P m mx B4.cp B4.lv B4.vv { dleave { dodd s with ms:=X.s } 2 with ss:=X.v } B4.av) 60 (0,0)):=heap_setCell_same _ _ _ _ _ _ x4.dev
    have o5:=Off.setCell d 19 w4 (.int .u32 (X.v:Nat))
    have x5:=x4.own (A':=({ dleave { dodd s with ms:=X.s } 2 with ss:=X.v }:Sd).st≠6) (s':={ dleave { dodd s with ms:=X.s } 2 with ss:=X.v }) o5 e5 rfl ⟨rfl,rfl⟩ rfl rfl x4.vok x4.dcl id
    have hN:=roffer_any d m g n mx P U4 _ _ ⟨B4,x5⟩ (by show X.v<_;have:=(HP.out.2.2.2.2.1 he);have:=H3.out.2;omega)
    have H5:Hid (_):=And.intro ((H3.out.1.trans H4.out.1).trans (Gr.same o5 (by simp[x4.kd.2]))) x5
    clear x4 H3 H4 o5 x5 e5
    go_wp2_with (go_at_call 181;refine hN.mono ?_;rintro e w6 ⟨v,rfl,h6⟩)
    go_ret2
    exact⟨v,rfl,OutR.mk H5.out.1 ⟨B4,H5.out.2⟩ h6.out.1 h6.out.2⟩
theorem OutR.pre {U U1:List Nat} {w w1 w2:World} {d m g n mx:Nat} {P:Pm} {s:Sd} {f:Fm} {v:Value} (h:Gr U w U1 w1) (x:OutR U1 w1 w2 d m g n mx P s f v):OutR U w w2 d m g n mx P s f v:=by
 obtain⟨U',g2,x2,f2,k2⟩:=x
 exact⟨U',h.trans g2,x2,own_base f2 h.off.size,k2⟩
theorem OutR.next {U U1 U2:List Nat} {w w1 w2:World} {d m g n mx:Nat} {P:Pm} {s:Sd} {f:Fm} {v:Value} (g1:Gr U w U1 w1) (hf:Fr w1 w.heap.size v f) (hk:∀ k,v.ownBlock=some k→k ∉ U1) (g2:Gr U1 w1 U2 w2) (x2:RW w2 d m g n mx P U2 s):OutR U w w2 d m g n mx P s f v:=
 ⟨U2,g1.trans g2,x2,own_offk hf g2.off hk,fun k e=>g2.out (hf.lt k e) (hk k e)⟩
set_option maxHeartbeats 3200000 in
theorem rvtick_any (d m g n mx:Nat) (P:Pm) (U:List Nat) (s:Sd) (k:Int) (w:World) (h:RW w d m g n mx P U s) (hk:k≤9223372036854775807) (hL:s.L.length<800000) :
  Calls Tryz.prog 16 #[.pointer (some ⟨d,0,none⟩),.int .i64 k] w fun e w'=>e=.returned (.int .i64 (dtickE s k))∧Hid (∃ U',Gr U w U' w'∧RW w' d m g n mx P U' (dtickS P s k)):=by
 obtain⟨B,x⟩:=id h
 have c18:w.cell? ⟨d,18,none⟩=some (.int .i64 (s.st:Nat)):=cell_of_row w d 18 _ _ _ x.dev
 unfold dtickE dtickS
 by_cases h6:s.st=6
 ·rw[if_pos h6,if_pos h6]
  rw[h6]at c18
  have H:Hid (_):=h
  clear h x h6
  go_enter Tryz.func16,Tryz.ntmps16
  go_wp2_with fail
  go_ret
  exact⟨rfl,U,Gr.refl _ _,H.out⟩
 ·rw[if_neg h6,if_neg h6]
  have e6:((s.st:Int) == 6)=false:=by simp;omega
  by_cases hn:k<0
  ·rw[if_pos hn,if_pos hn]
   have H:Hid (_):=h
   clear h x h6
   go_enter Tryz.func16,Tryz.ntmps16
   go_wp2_with fail
   go_ret
   exact⟨rfl,U,Gr.refl _ _,H.out⟩
  ·rw[if_neg hn,if_neg hn]
   obtain⟨j,rfl⟩:∃ j:Nat,k=(j:Int):=⟨k.toNat,by omega⟩
   rw[show (j:Int).toNat=j from rfl]
   have qT:=rticksv_any d m g n mx P U s B _ j w x (by omega)
   have HL:Hid (_):=hL
   clear h x h6 hn hk hL
   cases ht:told P.t s.dc j
   ·rw[if_neg (by simp)]
    rw[ht]at qT
    go_enter Tryz.func16,Tryz.ntmps16
    go_wp2_with (go_at_call 59;refine qT.mono ?_;rintro e w2 ⟨rfl,h2⟩)
    go_ret
    obtain⟨g2,B2,x2⟩:=h2.out
    exact⟨rfl,U,g2,B2,x2⟩
   ·rw[if_pos rfl]
    rw[ht]at qT
    go_enter Tryz.func16,Tryz.ntmps16
    go_wp2_with (go_at_call 59;refine qT.mono ?_;rintro e w2 ⟨rfl,h2⟩)
    obtain⟨g2,B2,x2⟩:=h2.out
    have H2:Hid (_):=g2
    have hT:=rvlatch_any d m g n mx P U { s with dc:=tk P.t s.dc j } 100 w2 ⟨B2,x2⟩ (by omega) (by have:=HL.out;show s.L.length<900000;omega)
    clear qT h2 g2 x2
    go_wp2_with (go_at_call 60;refine hT.mono ?_;rintro e w3 ⟨rfl,h3⟩)
    go_ret
    obtain⟨U3,g3,x3⟩:=h3.out
    exact⟨rfl,U3,H2.out.trans g3,x3⟩
set_option maxHeartbeats 3200000 in
theorem rvack_any (d m g n mx:Nat) (P:Pm) (U:List Nat) (s:Sd) (w:World) (h:RW w d m g n mx P U s) :
  Calls Tryz.prog 42 #[.pointer (some ⟨d,0,none⟩)] w fun e w'=>e=.returned (.int .i64 (dackE s))∧Hid (∃ U',Gr U w U' w'∧RW w' d m g n mx P U' (dackS s)):=by
 obtain⟨B,x⟩:=id h
 have c18:w.cell? ⟨d,18,none⟩=some (.int .i64 (s.st:Nat)):=cell_of_row w d 18 _ _ _ x.dev
 unfold dackE dackS
 by_cases h6:s.st=6
 ·rw[if_pos h6,if_pos h6]
  rw[h6]at c18
  have H:Hid (_):=h
  clear h x h6
  go_enter Tryz.func42,Tryz.ntmps42
  go_wp2_with fail
  go_ret
  exact⟨rfl,U,Gr.refl _ _,H.out⟩
 ·rw[if_neg h6,if_neg h6]
  have e6:((s.st:Int) == 6)=false:=by simp;omega
  have qA:=rackv_any d m g n mx P U s B _ w x
  clear h x h6
  unfold vackE
  by_cases hr:vreq s.v=true
  ·rw[if_pos hr]
   rw[hr]at qA
   go_enter Tryz.func42,Tryz.ntmps42
   go_wp2_with (go_at_call 92;refine qA.mono ?_;rintro e w2 ⟨rfl,h2⟩)
   go_ret
   obtain⟨g2,B2,x2⟩:=h2.out
   exact⟨rfl,U,g2,B2,x2⟩
  ·have hr':vreq s.v=false:=by simpa using hr
   rw[if_neg hr]
   rw[hr']at qA
   go_enter Tryz.func42,Tryz.ntmps42
   go_wp2_with (go_at_call 92;refine qA.mono ?_;rintro e w2 ⟨rfl,h2⟩)
   go_ret
   obtain⟨g2,B2,x2⟩:=h2.out
   exact⟨rfl,U,g2,B2,x2⟩
end Go.Proofs.YtffehehghpafdaaGreat
