/- Part 11: contracts that the proof rests on. -/
import Derived.Test.YtfgnmadnmjdbiaaGreatPkU09
set_option maxHeartbeats 64000000
set_option maxRecDepth 100000
namespace Go.Proofs.YtfgnmadnmjdbiaaGreat
open Tryz
open Go.RowKit
theorem uC {mx n:Nat} {s:Ms} (hn:10≤n) (ho:s.off=false) (hl:0≤s.l) :
  ((nx mx n s.bs false s).e=70)∨(((nx mx n s.bs false s).e=80∨(nx mx n s.bs false s).e=0)∧(nx mx n s.bs false s).c=false∧(nx mx n s.bs false s).z=(nx mx n s.bs false s).s.bs∧(nx mx n s.bs false s).s.off=false):=by
 unfold nx
 rw[if_neg (by simp[ho])]
 by_cases hm:mx≤vz s.bs
 ·rw[if_pos hm]
  exact .inr ⟨.inl rfl,rfl,rfl,ho⟩
 ·rw[if_neg hm]
  by_cases hq:fo n (cN (tg s.bs) (vz s.bs+1)) s=0
  ·rw[if_pos hq]
   refine .inr ⟨.inr rfl,rfl,rfl,?_⟩
   rcases ft n (cN (tg s.bs) (vz s.bs+1)) s (fun x hx=>(eW _ _ n (jJ _) hn x hx).1) ho hl with ⟨_,h2,_⟩ | ⟨h1,_⟩
   ·rw[h2]
   ·omega
  ·rw[if_neg hq]
   exact .inl rfl
theorem rg (d m g n mx:Nat) (P:Pm) (U:List Nat) (s:Sd) (w:World) (h:DV w d m g n mx P U s) (hs:s.st≠6) (hL:s.L.length<900000) (ht:s.ms.t<9223372036854774000) :
  Calls prog 208 #[ac d 0] w fun e w'=>∃ v,e=.returned (.tuple #[v,.int .i64 (bi P mx n s).e])∧Hid (Out U w w' d m g n mx P (bi P mx n s).s (bi P mx n s).f v):=by
 obtain⟨B,h⟩:=h
 obtain⟨hcp,hC,ho⟩:=h.cel hs
 have c7:=h.cells.2.2.2.2.2.2.2.1
 rw[hcp]at c7
 have hX:=zh B.c m g n mx s.ms.bs false s.ms w h.mem hC (fun i hi=>h.mem.byte i (by have:=h.n10;omega)) (fun _=>rfl) (fun e=>by have:=h.kc.1;rw[e,h.km.1]at this;omega) (fun e=>by have:=h.kc.1;rw[e,h.kg.1]at this;omega) h.n10 h.mxl ht
 have hv:=uC (mx:=mx) h.n10 ho h.mem.l0
 have HE:Hid (bi P mx n s=_):=rfl
 unfold bi at HE ⊢
 generalize nx mx n s.ms.bs false s.ms=x at *
 have HH:Hid (_):=And.intro h hcp
 have HL:Hid (_):=And.intro hL hs
 clear h hC ho hcp hL ht HE
 rcases hv with he | ⟨he,hc,hz,hoff⟩
 ·rw[he,if_neg (by omega),if_pos (by omega)]
  rw[he]at hX
  go_enter func208,ntmps208
  go_wp2_with (go_at_call 217;refine hX.mono ?_;rintro e w2 ⟨rfl,o2,m2,k2⟩)
  have x2:=HH.out.1.memd o2 m2 (A':=False) (fun h=>h.elim)
  have hD:=gQ d m g n mx P U _ B False w2 x2
  have H2:Hid (_):=Gr.same o2 HH.out.1.memU
  clear hX HH HL o2 m2 k2 x2 c7
  go_wp2_with (go_at_call 98;refine hD.mono ?_;rintro e w3 ⟨rfl,h3⟩)
  go_ret2
  obtain⟨U3,g3,x3⟩:=h3.out
  exact⟨_,rfl,Out.none_ (H2.out.trans g3) x3⟩
 ·have hst:(aI { s with ms:=x.s } 80).st=s.st:=by unfold aI;split <;> rfl
  rcases he with he | he
  ·rw[he,if_pos rfl]
   rw[he]at hX
   go_enter func208,ntmps208
   go_wp2_with (go_at_call 217;refine hX.mono ?_;rintro e w2 ⟨rfl,o2,m2,k2⟩)
   rw[hc,hz]at k2
   have x2:=HH.out.1.memd o2 m2 (A':=s.st≠6) (fun _=>⟨HH.out.2,k2,hoff⟩)
   have hT:=eR d m g n mx P U { s with ms:=x.s } 80 w2 ⟨B,x2⟩ (by omega) (by decide) HL.out.1
   have H2:Hid (_):=Gr.same o2 HH.out.1.memU
   have HS:Hid (_):=And.intro HL.out.2 hst
   clear hX HH HL o2 m2 k2 x2 c7 hst
   go_wp2_with (go_at_call 212;refine hT.mono ?_;rintro e w3 ⟨rfl,h3⟩)
   obtain⟨U3,g3,x3⟩:=h3.out
   have hV:=gx d m g n mx P U3 _ 5 w3 x3 (by rw[HS.out.2];exact HS.out.1)
   have H3:Hid (_):=H2.out.trans g3
   clear hT h3 g3 x3 H2 HS
   go_wp2_with (go_at_call 216;refine hV.mono ?_;rintro e w4 ⟨rfl,h4⟩)
   obtain⟨U4,g4,x4⟩:=h4.out
   have hN:=jQ d m g n mx P U4 _ w4 x4
   have H4:Hid (_):=And.intro (H3.out.trans g4) x4
   clear hV h4 g4 x4 H3
   go_wp2_with (go_at_call 207;refine hN.mono ?_;rintro e w5 ⟨v,rfl,h5⟩)
   go_ret2
   exact⟨v,rfl,Out.mk H4.out.1 H4.out.2 h5.out.1 h5.out.2⟩
  ·rw[he,if_neg (by omega),if_neg (by omega)]
   rw[he]at hX
   go_enter func208,ntmps208
   go_wp2_with (go_at_call 217;refine hX.mono ?_;rintro e w2 ⟨rfl,o2,m2,k2⟩)
   rw[hc,hz]at k2
   have x2:=HH.out.1.memd o2 m2 (A':=s.st≠6) (fun _=>⟨HH.out.2,k2,hoff⟩)
   have hV:=gx d m g n mx P U { s with ms:=x.s } 2 w2 ⟨B,x2⟩ HL.out.2
   have H2:Hid (_):=Gr.same o2 HH.out.1.memU
   clear hX HH HL o2 m2 k2 x2 c7 hst
   go_wp2_with (go_at_call 216;refine hV.mono ?_;rintro e w4 ⟨rfl,h4⟩;obtain⟨U4,g4,B4,x4⟩:=h4.out;have y12:=x4.cells.2.2.2.2.2.2.2.2.2.2.2.2.1;have f12:=x4.fz 12;have H4:Hid (_):=And.intro g4 x4;clear hV h4 g4 x4)
   have x4:=H4.out.2
   have o5:=Off.setCell d 12 w4 (.int .u32 (x.v:Nat))
   have x5:=x4.own o5 (s':={ ck { s with ms:=x.s } 2 with ss:=x.v }) (heap_setCell_same _ _ _ _ _ _ x4.dev) rfl rfl rfl rfl rfl id
   have hN:=kF d m g n mx P U4 _ _ ⟨B4,x5⟩
   have H5:Hid (_):=And.intro ((H2.out.trans H4.out.1).trans (Gr.same o5 (by simp[x4.kd.2]))) x5
   clear x4 H2 H4 o5 x5
   go_wp2_with (go_at_call 206;refine hN.mono ?_;rintro e w5 ⟨v,rfl,h5⟩)
   go_ret2
   exact⟨v,rfl,Out.mk H5.out.1 ⟨B4,H5.out.2⟩ h5.out.1 h5.out.2⟩
theorem sX (d m g n mx:Nat) (P:Pm) (U:List Nat) (s:Sd) (a:Option Addr) (len cap:Nat) (bs:Nat→Nat) (w:World) (h:DV w d m g n mx P U s) (hr:Row8 w a len cap bs) (hs:s.st≠6) (ho:s.od<4) (hL:s.L.length<800000) (ht:s.ms.t<9223372036854774000) :
  Calls prog 186 #[ac d 0,.slice a len cap] w fun e w'=>∃ v,e=.returned (.tuple #[v,.int .i64 (if aN P len bs=true then bI P mx n s else aR P s 91).e])∧Hid (Out U w w' d m g n mx P (if aN P len bs=true then bI P mx n s else aR P s 91).s (if aN P len bs=true then bI P mx n s else aR P s 91).f v):=by
 have hS:=jx d m g n mx P U s a len cap bs w h hr
 have H:Hid (_):=And.intro h (And.intro hs (And.intro ho (And.intro hL ht)))
 clear h hr hs ho hL ht
 by_cases hg:aN P len bs=true
 ·rw[if_pos hg]
  rw[hg]at hS
  unfold bI
  by_cases h2:(bj s).st=2
  ·rw[if_pos h2]
   go_enter func186,ntmps186
   go_wp2_with (go_at_call 204;refine hS.mono ?_;rintro e w2 ⟨rfl,b2⟩)
   obtain⟨h,hs,ho,hL,ht⟩:=H.out
   have h2:=DV.below h b2
   have hC:=dX d m g n mx P U s w2 h2 hs ho (by omega)
   have H2:Hid (_):=And.intro (Gr.below (U:=U) b2) H.out
   clear hS H b2 h hs ho hL ht h2
   go_wp2_with (go_at_call 205;refine hC.mono ?_;rintro e w3 ⟨rfl,h3⟩;obtain⟨U3,g3,B3,x3⟩:=h3.out;have c11:=x3.cells.2.2.2.2.2.2.2.2.2.2.2.1;have H3:Hid (_):=And.intro (H2.out.1.trans g3) (And.intro x3 H2.out.2);clear hC h3 g3 x3 H2;rw[h2]at c11)
   have hN:=kF d m g n mx P U3 (bj s) w3 ⟨B3,H3.out.2.1⟩
   go_wp2_with (go_at_call 206;refine hN.mono ?_;rintro e w5 ⟨v,rfl,h5⟩)
   go_ret2
   exact⟨v,rfl,Out.mk H3.out.1 ⟨B3,H3.out.2.1⟩ h5.out.1 h5.out.2⟩
  ·rw[if_neg h2]
   have e2:(((bj s).st:Int) == 2)=false:=by simp;omega
   by_cases h4:(bj s).st=3∨(bj s).st=4
   ·rw[if_pos h4]
    rcases h4 with h4 | h4 <;> clear h2 e2
    all_goals
     go_enter func186,ntmps186
     go_wp2_with (go_at_call 204;refine hS.mono ?_;rintro e w2 ⟨rfl,b2⟩)
     obtain⟨h,hs,ho,hL,ht⟩:=H.out
     have h2:=DV.below h b2
     have hC:=dX d m g n mx P U s w2 h2 hs ho (by omega)
     have H2:Hid (_):=And.intro (Gr.below (U:=U) b2) H.out
     clear hS H b2 h hs ho hL ht h2
     go_wp2_with (go_at_call 205;refine hC.mono ?_;rintro e w3 ⟨rfl,h3⟩;obtain⟨U3,g3,B3,x3⟩:=h3.out;have c11:=x3.cells.2.2.2.2.2.2.2.2.2.2.2.1;have H3:Hid (_):=And.intro (H2.out.1.trans g3) (And.intro x3 H2.out.2);clear hC h3 g3 x3 H2;rw[h4]at c11)
     have hN:=jQ d m g n mx P U3 (bj s) w3 ⟨B3,H3.out.2.1⟩
     go_wp2_with (go_at_call 207;refine hN.mono ?_;rintro e w5 ⟨v,rfl,h5⟩)
     go_ret2
     exact⟨v,rfl,Out.mk H3.out.1 ⟨B3,H3.out.2.1⟩ h5.out.1 h5.out.2⟩
   ·rw[if_neg h4]
    have e3:(((bj s).st:Int) == 3)=false:=by simp;omega
    have e4:(((bj s).st:Int) == 4)=false:=by simp;omega
    clear h2 h4
    go_enter func186,ntmps186
    go_wp2_with (go_at_call 204;refine hS.mono ?_;rintro e w2 ⟨rfl,b2⟩)
    obtain⟨h,hs,ho,hL,ht⟩:=H.out
    have h2:=DV.below h b2
    have hC:=dX d m g n mx P U s w2 h2 hs ho (by omega)
    have H2:Hid (_):=And.intro (Gr.below (U:=U) b2) H.out
    clear hS H b2 h hs ho hL ht h2
    go_wp2_with (go_at_call 205;refine hC.mono ?_;rintro e w3 ⟨rfl,h3⟩;obtain⟨U3,g3,B3,x3⟩:=h3.out;have c11:=x3.cells.2.2.2.2.2.2.2.2.2.2.2.1;have H3:Hid (_):=And.intro (H2.out.1.trans g3) (And.intro x3 H2.out.2);clear hC h3 g3 x3 H2)
    have hB:=rg d m g n mx P U3 (bj s) w3 ⟨B3,H3.out.2.1⟩ (ql H3.out.2.2.2.1) (by have:=jA s;have:=H3.out.2.2.2.2.2.1;omega) (by rw[gq];exact H3.out.2.2.2.2.2.2)
    go_wp2_with (go_at_call 208;refine hB.mono ?_;rintro e w5 ⟨v,rfl,h5⟩)
    go_ret2
    exact⟨v,rfl,Out.pre H3.out.1 h5.out⟩
 ·have hg':aN P len bs=false:=by simpa using hg
  rw[if_neg hg]
  rw[hg']at hS
  go_enter func186,ntmps186
  go_wp2_with (go_at_call 204;refine hS.mono ?_;rintro e w2 ⟨rfl,b2⟩)
  obtain⟨h,hs,ho,hL,ht⟩:=H.out
  have h2:=DV.below h b2
  have hR:=dG d m g n mx P U s 91 w2 h2 hs ho (by omega)
  have H2:Hid (_):=Gr.below (U:=U) b2
  clear hS H b2 h hs ho hL ht h2
  go_wp2_with (go_at_call 191;refine hR.mono ?_;rintro e w3 ⟨v,rfl,h3⟩)
  go_ret2
  exact⟨v,rfl,Out.pre H2.out h3.out⟩
end Go.Proofs.YtfgnmadnmjdbiaaGreat
