/- Part 14 of the texts on which the proofs of layer 13 rest: contracts of Go functions. -/
import Derived.Deep.RegionHeld3
import Derived.Test.YthbogkaoidbpgaaGreatPkB01
import Derived.Test.YthbogkaoidbpgaaGreatPkB08
import Derived.Test.YthbogkaoidbpgaaGreatPkB09
import Derived.Test.YthbogkaoidbpgaaGreatPkB11
import Derived.Test.YthbogkaoidbpgaaGreatPkB12
namespace Go.Proofs.YthbogkaoidbpgaaGreat
set_option maxRecDepth 100000
open Go.RowKit
theorem wf_small (x:Int) (h0:0≤x) (h1:x≤200):(Lit.int .i64 x).wf=true:=by
 have e1:IntKind.i64.min = -9223372036854775808:=by decide
 have e2:IntKind.i64.max=9223372036854775807:=by decide
 simp[Lit.wf,e1,e2]
 omega
theorem own_far {w:World} {M e n m cap:Nat} {a:Option Addr} {xs:List Value} (h:w.ownsRow M e 1 (.slice a m cap) n xs) (x:Addr) (hx:a=some x):M≤x.block∧x.block<w.heap.size:=by
 rcases h.2 with hn | ⟨g',cap',cur',he,hg',hh,_⟩
 ·have:=hn.1;rw[hx]at this;cases this
 ·rw[hx]at he;cases he;exact⟨hg',(Array.getElem?_eq_some_iff.1 hh).1⟩
theorem take_any (d m g n mx:Nat) (P:Pm) (U:List Nat) (s:Sd) (k c ss num fl:Nat) (a:Option Addr) (len cap:Nat) (bs:Nat→Nat) (w:World) (h:DV w d m g n mx P U s) (hr:Row8 w a len cap bs) (ha:∀ x,a=some x→x.block<w.heap.size∧x.block ∉ U) (hk:1≤k∧k≤5) (hfl:fl<16) (hsn:s.st=4→s.sn+1<4294967296) (hs:s.st≠6) (ho:s.od<4) (hL:s.L.length<800000) (ht:s.ms.t<9223372036854774000) :
  Calls Tryz.prog 89 #[.pointer (some ⟨d,0,none⟩),.agg #[.int .i64 (k:Nat),.int .u32 (c:Nat),.int .u32 (ss:Nat),.int .u32 (num:Nat),.int .i64 (fl:Nat),.slice a len cap]] w fun e w'=>∃ v,e=.returned (.tuple #[v,.int .i64 (dtake P mx n s k ss num fl len bs).e])∧Hid (Out U w w' d m g n mx P (dtake P mx n s k ss num fl len bs).s (dtake P mx n s k ss num fl len bs).f v):=by
 have:k=1∨k=2∨k=3∨k=4∨k=5:=by omega
 rcases this with rfl | rfl | rfl | rfl | rfl
 ·exact take1_any d m g n mx P U s c ss num fl a len cap bs w h hr ha hfl hsn hs ho hL ht
 ·exact take2_any d m g n mx P U s c ss num fl a len cap bs w h hr ha hfl hsn hs ho hL ht
 ·exact take3_any d m g n mx P U s c ss num fl a len cap bs w h hr ha hfl hsn hs ho hL ht
 ·exact take4_any d m g n mx P U s c ss num fl a len cap bs w h hr ha hfl hsn hs ho hL ht
 ·exact take5_any d m g n mx P U s c ss num fl a len cap bs w h hr ha hfl hsn hs ho hL ht
set_option maxHeartbeats 3200000 in
theorem hear_any (d m g n mx:Nat) (P:Pm) (U:List Nat) (s:Sd) (a:Option Addr) (len cap:Nat) (bs:Nat→Nat) (w:World) (h:DV w d m g n mx P U s) (hr:Row8 w a len cap bs) (hsn:s.st=4→s.sn+1<4294967296) (hs:s.st≠6) (ho:s.od<4) (hL:s.L.length<800000) (ht:s.ms.t<9223372036854774000) :
  Calls Tryz.prog 48 #[.pointer (some ⟨d,0,none⟩),.slice a len cap] w fun e w'=>∃ v,e=.returned (.tuple #[v,.int .i64 (dhear P mx n s len bs).e])∧Hid (Out U w w' d m g n mx P (dhear P mx n s len bs).s (dhear P mx n s len bs).f v):=by
 unfold dhear
 by_cases hE:DE bs len=0
 ·have hD:=decode_ok a len cap bs w hr hE
  rw[if_neg (by omega)]
  obtain⟨_,_,_,hLW⟩:=DE_zero hE
  obtain⟨hk1,_,_,_,hf1⟩:=LW_zero hLW
  have HH:Hid (_):=And.intro h (And.intro hsn (And.intro hs (And.intro ho (And.intro hL ht))))
  have hby:∀ i,i<len→bs i<256:=hr.byte
  obtain⟨B,x⟩:=id h
  have hdl:=x.dlt
  clear h hr hsn hs ho hL ht hLW
  by_cases hK:hostK (bs 0:Int)=false
  ·rw[if_pos hK]
   have hF:=fun wx=>fromHost_any (bs 0:Int) wx
   rw[hK]at hF
   go_enter Tryz.func48,Tryz.ntmps48
   go_wp2_with (go_at_call 67;refine hD.mono ?_;rintro e w2 ⟨a2,c2,rfl,h2⟩)
   go_wp2_with (go_at_call 88;refine (hF _).mono ?_;rintro e w' ⟨rfl,hw⟩;have hw:=hw.symm;subst hw)
   go_ret2
   exact⟨_,rfl,Out.none_ ((Gr.below h2.out.2).trans (Gr.below ((Below.refl _ _).alloc (Nat.le_refl _) _))) (DV.below (DV.below HH.out.1 h2.out.2) ((Below.refl _ _).alloc (Nat.le_refl _) _))⟩
  ·rw[if_neg hK]
   have hK':hostK (bs 0:Int)=true:=by simpa using hK
   have hk5:1≤bs 0∧bs 0≤5:=by unfold hostK at hK';simp at hK';omega
   have hF:=fun wx=>fromHost_any (bs 0:Int) wx
   rw[hK']at hF
   have hT:∀ (w2:World) (a2:Option Addr) (c2:Nat),w2.ownsRow w.heap.size 5 1 (.slice a2 (len-19) c2) (len-19) (CB (fun i=>bs (15+i)) (len-19))→Below w.heap.size w w2→∀ wx,Below w2.heap.size w2 wx →
     Calls Tryz.prog 89 #[.pointer (some ⟨d,0,none⟩),.agg #[.int .i64 (bs 0:Nat),.int .u32 (w4v bs 1:Nat),.int .u32 (w4v bs 5:Nat),.int .u32 (w4v bs 9:Nat),.int .i64 (bs 13:Nat),.slice a2 (len-19) c2]] wx fun e w'=>∃ v,e=.returned (.tuple #[v,.int .i64 (dtake P mx n s (bs 0) (w4v bs 5) (w4v bs 9) (bs 13) (len-19) (fun i=>bs (15+i))).e])∧Hid (Out U w w' d m g n mx P (dtake P mx n s (bs 0) (w4v bs 5) (w4v bs 9) (bs 13) (len-19) (fun i=>bs (15+i))).s (dtake P mx n s (bs 0) (w4v bs 5) (w4v bs 9) (bs 13) (len-19) (fun i=>bs (15+i))).f v):=by
    intro w2 a2 c2 ho2 hb2 wx hbx
    obtain⟨h,hsn,hs,ho,hL,ht⟩:=HH.out
    have hr2:Row8 w2 a2 (len-19) c2 (fun i=>bs (15+i)):=own_slice8 ho2 (fun i hi=>hby _ (by omega))
    have hbb:Below w.heap.size w wx:=hb2.trans (hbx.mono hb2.size)
    refine (take_any d m g n mx P U s (bs 0) (w4v bs 1) (w4v bs 5) (w4v bs 9) (bs 13) a2 (len-19) c2 _ wx (DV.below h hbb) (hr2.below hbx) (fun x hx=>?_) hk5 (by omega) hsn hs ho hL ht).mono ?_
    ·have:=own_far ho2 x hx
     exact⟨Nat.lt_of_lt_of_le this.2 hbx.size,fun hm=>by have:=DV.ult h _ hm;omega⟩
    ·rintro e w' ⟨v,rfl,h5⟩
     exact⟨v,rfl,Out.pre (Gr.below hbb) h5.out⟩
   have HT:Hid (_):=hT
   have HX:Hid (_):=x
   clear hT x hby hk1 hf1 hk5 hE hK
   by_cases hC:w4v bs 1=P.c
   ·rw[if_neg (by omega)]
    generalize dtake P mx n s (bs 0) (w4v bs 5) (w4v bs 9) (bs 13) (len-19) (fun i=>bs (15+i))=R at *
    have hC1:((w4v bs 1:Nat):Int)=(P.c:Int):=by omega
    rw[hC1]at hD
    have HC:Hid (_):=hC
    clear hC hC1
    go_enter Tryz.func48,Tryz.ntmps48
    go_wp2_with (first | (go_at_call 67;refine hD.mono ?_;rintro e w2 ⟨a2,c2,rfl,h2⟩;have c0:=(HX.out.newd (Off.of_below h2.out.2)).cells.1;have hdl2:=(HX.out.newd (Off.of_below h2.out.2)).dlt;have hdn:¬ d=w2.heap.size:=(by omega);have hdn':¬ w2.heap.size=d:=(by omega)) | (go_at_call 88;refine (hF _).mono ?_;rintro e w' ⟨rfl,hw⟩;have hw:=hw.symm;subst hw))
    repeat (go_quiet (fail);go_wp2_with fail)
    have hQ:=HT.out w2 a2 c2 h2.out.1 h2.out.2
    rw[HC.out]at hQ
    refine (hQ _ (below_drewN ((Below.refl _ _).alloc (Nat.le_refl _) _) _)).mono ?_
    rintro e w5 ⟨v,rfl,h5⟩
    clear hD hF hQ h2 c0
    go_wp2_with fail
    go_ret2
    exact⟨v,rfl,h5⟩
   ·rw[if_pos hC]
    have hC1:(((w4v bs 1:Nat):Int) == (P.c:Int))=false:=by simp;omega
    have hC2:(((w4v bs 1:Nat):Int)=(P.c:Int))=False:=by simp;omega
    clear hC HT
    go_enter Tryz.func48,Tryz.ntmps48
    go_wp2_with (first | (go_at_call 67;refine hD.mono ?_;rintro e w2 ⟨a2,c2,rfl,h2⟩;have c0:=(HX.out.newd (Off.of_below h2.out.2)).cells.1;have hdl2:=(HX.out.newd (Off.of_below h2.out.2)).dlt;have hdn:¬ d=w2.heap.size:=(by omega);have hdn':¬ w2.heap.size=d:=(by omega)) | (go_at_call 88;refine (hF _).mono ?_;rintro e w' ⟨rfl,hw⟩;have hw:=hw.symm;subst hw))
    repeat (go_quiet (fail);go_wp2_with fail)
    go_ret2
    have bb:=below_drewN ((Below.refl w2.heap.size w2).alloc (Nat.le_refl _) (.cells #[.int .i64 (bs 0:Nat),.int .u32 (w4v bs 1:Nat),.int .u32 (w4v bs 5:Nat),.int .u32 (w4v bs 9:Nat),.int .i64 (bs 13:Nat),.slice a2 (len-19) c2] 107)) nq
    exact⟨_,rfl,Out.none_ ((Gr.below h2.out.2).trans (Gr.below bb)) (DV.below (DV.below HH.out.1 h2.out.2) bb)⟩
 ·have hD:=decode_no a len cap bs w hr hE
  rw[if_pos hE]
  have HE:Hid (_):=And.intro h hE
  have e0:(DE bs len == 0)=false:=by simpa using hE
  have e0':(DE bs len=0)=False:=by simpa using hE
  clear h hr hE hs ho hL ht hsn
  generalize DE bs len=E at *
  go_enter Tryz.func48,Tryz.ntmps48
  go_wp2_with (go_at_call 67;refine hD.mono ?_;rintro e w2 ⟨rfl,b2⟩)
  go_ret2
  exact⟨_,rfl,Out.none_ ((Gr.below b2).trans (Gr.below ((Below.refl _ _).alloc (Nat.le_refl _) _))) (DV.below (DV.below HE.out.1 b2) ((Below.refl _ _).alloc (Nat.le_refl _) _))⟩
set_option maxHeartbeats 3200000 in
theorem receive4_any (d m g n mx:Nat) (P:Pm) (U:List Nat) (s:Sd) (a:Option Addr) (len cap:Nat) (bs:Nat→Nat) (w:World) (h:DV w d m g n mx P U s) (hr:Row8 w a len cap bs) (hsn:s.st=4→s.sn+1<4294967296) (ho:s.od<4) (hL:s.L.length<800000) (ht:s.ms.t<9223372036854774000) :
  Calls Tryz.prog 13 #[.pointer (some ⟨d,0,none⟩),.slice a len cap] w fun e w'=>∃ v,e=.returned (.tuple #[v,.int .i64 (drecv P mx n s len bs).e])∧Hid (Out U w w' d m g n mx P (drecv P mx n s len bs).s (drecv P mx n s len bs).f v):=by
 obtain⟨B,x⟩:=id h
 have c11:=x.cells.2.2.2.2.2.2.2.2.2.2.2.1
 unfold drecv
 by_cases h6:s.st=6
 ·rw[if_pos h6]
  rw[h6]at c11
  have q:=silent_down d w c11
  have H:Hid (_):=h
  clear h x hr hsn ho hL ht c11
  go_enter Tryz.func13,Tryz.ntmps13
  go_wp2_with (go_at_call 40;refine q.mono ?_;rintro e w' ⟨rfl,hw⟩;have hw:=hw.symm;subst hw)
  go_ret2
  exact⟨_,rfl,Out.none_ (Gr.refl _ _) H.out⟩
 ·rw[if_neg h6]
  have q:=silent_up d s.st w c11 h6
  have hH:=hear_any d m g n mx P U s a len cap bs w h hr hsn h6 ho hL ht
  have hre:=dhear_e P mx n s len bs
  have hrl:=dhear_len P mx n s len bs
  generalize dhear P mx n s len bs=R at *
  have HL:Hid (R.s.L.length<900000):=(by show _<_;omega)
  have HE:Hid (_):=hre
  clear h x hr hsn ho hL ht c11 h6 hrl hre
  by_cases he:R.e≠0∧R.e≠70
  ·rw[if_pos he]
   have e0:(R.e != 0)=true:=by simpa using he.1
   have e7:(R.e != 70)=true:=by simpa using he.2
   have hw:(Lit.int .i64 R.e).wf=true:=wf_small R.e HE.out.1 HE.out.2
   have hN:∀ U2 w2,DV w2 d m g n mx P U2 R.s→Calls Tryz.prog 49 #[.pointer (some ⟨d,0,none⟩),.int .i64 R.e] w2 fun e w'=>e=.returned (.tuple #[])∧Hid (∃ U',Gr U2 w2 U' w'∧DV w' d m g n mx P U' (dnote R.s R.e)):=fun U2 w2 h2=>dvnote_any d m g n mx P U2 R.s R.e w2 h2 he.1 hw HL.out
   have HN:Hid (_):=hN
   clear hN hw he
   go_enter Tryz.func13,Tryz.ntmps13
   go_wp2_with (first | (go_at_call 40;refine q.mono ?_;rintro e w' ⟨rfl,hw⟩;have hw:=hw.symm;subst hw) | (go_at_call 48;refine hH.mono ?_;rintro e w2 ⟨v,rfl,h2⟩))
   obtain⟨U2,g2,x2,f2,k2⟩:=h2.out
   refine (HN.out U2 w2 x2).mono ?_
   rintro e w3 ⟨rfl,h3⟩
   obtain⟨U3,g3,x3⟩:=h3.out
   have H3:Hid (_):=Out.next g2 f2 k2 g3 x3
   clear hH q h2 g2 x2 f2 k2 h3 g3 x3 HN
   go_wp2_with fail
   go_ret2
   exact⟨v,rfl,H3⟩
  ·rw[if_neg he]
   have he':R.e=0∨R.e=70:=by omega
   clear he
   rcases he' with he | he
   all_goals
    rw[he]at hH ⊢
    go_enter Tryz.func13,Tryz.ntmps13
    go_wp2_with (first | (go_at_call 40;refine q.mono ?_;rintro e w' ⟨rfl,hw⟩;have hw:=hw.symm;subst hw) | (go_at_call 48;refine hH.mono ?_;rintro e w2 ⟨v,rfl,h2⟩))
    go_ret2
    exact⟨v,rfl,h2⟩
set_option maxHeartbeats 1600000 in
theorem dvtick_any (d m g n mx:Nat) (P:Pm) (U:List Nat) (s:Sd) (k:Int) (w:World) (h:DV w d m g n mx P U s) (hk:k≤9223372036854775807) (hL:s.L.length<800000) :
  Calls Tryz.prog 10 #[.pointer (some ⟨d,0,none⟩),.int .i64 k] w fun e w'=>e=.returned (.int .i64 (dtickE s k))∧Hid (∃ U',Gr U w U' w'∧DV w' d m g n mx P U' (dtickS P s k)):=by
 obtain⟨B,x⟩:=id h
 have c11:=x.cells.2.2.2.2.2.2.2.2.2.2.2.1
 have c9:=x.cells.2.2.2.2.2.2.2.2.2.1
 unfold dtickE dtickS
 by_cases h6:s.st=6
 ·rw[if_pos h6,if_pos h6]
  rw[h6]at c11
  have q:=silent_down d w c11
  have H:Hid (_):=h
  clear h x c9 c11 h6
  go_enter Tryz.func10,Tryz.ntmps10
  go_wp2_with (go_at_call 40;refine q.mono ?_;rintro e w' ⟨rfl,hw⟩;have hw:=hw.symm;subst hw)
  go_ret
  exact⟨rfl,U,Gr.refl _ _,H.out⟩
 ·rw[if_neg h6,if_neg h6]
  have q:=silent_up d s.st w c11 h6
  by_cases hn:k<0
  ·rw[if_pos hn,if_pos hn]
   have qT:=wticks_neg k B.db w hn
   have H:Hid (_):=h
   clear h x c11 h6
   go_enter Tryz.func10,Tryz.ntmps10
   go_wp2_with (first | (go_at_call 40;refine q.mono ?_;rintro e w' ⟨rfl,hw⟩;have hw:=hw.symm;subst hw) | (go_at_call 41;refine qT.mono ?_;rintro e w' ⟨rfl,hw⟩;have hw:=hw.symm;subst hw))
   go_ret
   exact⟨rfl,U,Gr.refl _ _,H.out⟩
  ·rw[if_neg hn,if_neg hn]
   obtain⟨j,rfl⟩:∃ j:Nat,k=(j:Int):=⟨k.toNat,by omega⟩
   rw[show (j:Int).toNat=j from rfl]
   have qT:=wticks_any P.t s.dc j B.db w x.dog (by omega)
   have HX:Hid (_):=x
   have HL:Hid (_):=hL
   clear h x c11 h6 hn hk hL
   cases ht:told P.t s.dc j
   ·rw[if_neg (by simp)]
    rw[ht]at qT
    go_enter Tryz.func10,Tryz.ntmps10
    go_wp2_with (first | (go_at_call 40;refine q.mono ?_;rintro e w' ⟨rfl,hw⟩;have hw:=hw.symm;subst hw) | (go_at_call 41;refine qT.mono ?_;rintro e w2 ⟨rfl,o2,d2⟩;have H2:Hid (_):=And.intro (Gr.same (U:=U) o2 (by simp[HX.out.kb.2])) (HX.out.dogd o2 d2);clear o2 d2))
    go_ret
    exact⟨rfl,U,H2.out.1,B,H2.out.2⟩
   ·rw[if_pos rfl]
    rw[ht]at qT
    go_enter Tryz.func10,Tryz.ntmps10
    go_wp2_with (first | (go_at_call 40;refine q.mono ?_;rintro e w' ⟨rfl,hw⟩;have hw:=hw.symm;subst hw) | (go_at_call 41;refine qT.mono ?_;rintro e w2 ⟨rfl,o2,d2⟩;have H2:Hid (_):=And.intro (Gr.same (U:=U) o2 (by simp[HX.out.kb.2])) (HX.out.dogd o2 d2);clear o2 d2))
    refine (dvlatch_any d m g n mx P U { s with dc:=tk P.t s.dc j } 100 w2 ⟨B,H2.out.2⟩ (by omega) (by decide) (by have:=HL.out;show s.L.length<900000;omega)).mono ?_
    rintro e w3 ⟨rfl,h3⟩
    clear qT q
    go_wp2_with fail
    go_ret
    obtain⟨U3,g3,x3⟩:=h3.out
    exact⟨rfl,U3,H2.out.1.trans g3,x3⟩
theorem held_call {P:Program} {md:Region.Mode} {ops:Array Oper} {Q:Exit→Act→World→Prop} {S:World→Prop} {fuel:Nat} {l:Array Bool} {a:Act} {w:World} {i:Nat} {o:Oper} (f:FuncId) (args:Array Value) (hr:Region.ready md ops l=[i]) (ho:ops[i]?=some o)
  (hw:Region.wanted o (yielded ops a.tmps)=true) (hrun:(execOp a.eval o).run P w=.ok (.enter f args) w)
  (hc:Calls P f args w fun e w''=>∃ v,e=.returned v∧(S w''∧wpAnyH P md ops Q S fuel (l.setIfInBounds i true) (a.put o.dst v) w'')):wpAnyH P md ops Q S (fuel+1) l a w:=
 wpAnyH_all hr (by simp) (fun j hj=>by
  obtain rfl:=List.mem_singleton.1 hj
  exact any_call f args ho hw hrun hc)
theorem held_skip {P:Program} {md:Region.Mode} {ops:Array Oper} {Q:Exit→Act→World→Prop} {S:World→Prop} {fuel:Nat} {l:Array Bool} {a:Act} {w:World} {i:Nat} {o:Oper} (w':World) (hr:Region.ready md ops l=[i]) (ho:ops[i]?=some o)
  (hw:Region.wanted o (yielded ops a.tmps)=true) (hrun:(execOp a.eval o).run P w=.ok .skip w') (hS:S w')
  (h:wpAnyH P md ops Q S fuel (l.setIfInBounds i true) (a.put o.dst undef) w'):wpAnyH P md ops Q S (fuel+1) l a w:=
 wpAnyH_all hr (by simp) (fun j hj=>by
  obtain rfl:=List.mem_singleton.1 hj
  unfold wpOp
  simp only[ho,hw,if_true]
  refine .inl ?_
  unfold Oper.wp
  rw[hrun]
  exact⟨hS,h⟩)
theorem held_at {P:Program} {md:Region.Mode} {ops:Array Oper} {Q:Exit→Act→World→Prop} {S:World→Prop} {fuel:Nat} {l l':Array Bool} {a a':Act} {w:World} (ha:a=a') (hl:l=l') (h:wpAnyH P md ops Q S fuel l' a' w):wpAnyH P md ops Q S fuel l a w:=by rw[ha,hl];exact h
def dEnd (s:Sd) (v:Value):Value:=.agg #[.int .i64 (s.st:Nat),.int .u32 (s.ss:Nat),.int .u32 (s.nm:Nat),.int .u32 (s.sn:Nat),.int .i64 (s.dc:Nat),.int .i64 s.v.lat,.bool (vreq s.v),.bool (von s.v),v]
def zEnd:Array Value:=#[.int .i64 0,.int .u32 0,.int .u32 0,.int .u32 0,.int .i64 0,.int .i64 0,.bool false,.bool false,.slice none 0 0]
theorem vout_byte {w:World} {b g:Nat} {M:List Nat} {n:Nat} {s:Vs} (h:VR w b g M n s):∀ i,i<n→vout s i<256:=by
 intro i hi
 unfold vout
 by_cases ho:von s=true
 ·rw[if_pos ho]
  simp only[von,Bool.and_eq_true,Bool.not_eq_true']at ho
  obtain⟨v,t,_,_,V⟩:=h.ex
  rcases V with ⟨e,_⟩ | ⟨_,_,hb⟩
  ·rw[ho.2.2]at e;cases e
  ·exact hb i hi
 ·rw[if_neg ho];show 0<256;omega
theorem nineRow {w:World} {b:Nat} {t:TypeId} (x0 x1 x2 x3 x4 x5 x6 x7 x8:Value) {y0 y1 y2 y3 y4 y5 y6 y7 y8:Value} (e:w.heap[b]?=some (.cells #[y0,y1,y2,y3,y4,y5,y6,y7,y8] t (0,0))) :
  (((((((((w.setCell ⟨b,0,none⟩ x0).setCell ⟨b,1,none⟩ x1).setCell ⟨b,2,none⟩ x2).setCell ⟨b,3,none⟩ x3).setCell ⟨b,4,none⟩ x4).setCell ⟨b,5,none⟩ x5).setCell ⟨b,6,none⟩ x6).setCell ⟨b,7,none⟩ x7).setCell ⟨b,8,none⟩ x8).heap[b]?=some (.cells #[x0,x1,x2,x3,x4,x5,x6,x7,x8] t (0,0)):=by
 have e0:(w.setCell ⟨b,0,none⟩ x0).heap[b]?=some (.cells #[x0,y1,y2,y3,y4,y5,y6,y7,y8] t (0,0)):=heap_setCell_same _ _ _ _ _ _ e
 have e1:((w.setCell ⟨b,0,none⟩ x0).setCell ⟨b,1,none⟩ x1).heap[b]?=some (.cells #[x0,x1,y2,y3,y4,y5,y6,y7,y8] t (0,0)):=heap_setCell_same _ _ _ _ _ _ e0
 have e2:(((w.setCell ⟨b,0,none⟩ x0).setCell ⟨b,1,none⟩ x1).setCell ⟨b,2,none⟩ x2).heap[b]?=some (.cells #[x0,x1,x2,y3,y4,y5,y6,y7,y8] t (0,0)):=heap_setCell_same _ _ _ _ _ _ e1
 have e3:((((w.setCell ⟨b,0,none⟩ x0).setCell ⟨b,1,none⟩ x1).setCell ⟨b,2,none⟩ x2).setCell ⟨b,3,none⟩ x3).heap[b]?=some (.cells #[x0,x1,x2,x3,y4,y5,y6,y7,y8] t (0,0)):=heap_setCell_same _ _ _ _ _ _ e2
 have e4:(((((w.setCell ⟨b,0,none⟩ x0).setCell ⟨b,1,none⟩ x1).setCell ⟨b,2,none⟩ x2).setCell ⟨b,3,none⟩ x3).setCell ⟨b,4,none⟩ x4).heap[b]?=some (.cells #[x0,x1,x2,x3,x4,y5,y6,y7,y8] t (0,0)):=heap_setCell_same _ _ _ _ _ _ e3
 have e5:((((((w.setCell ⟨b,0,none⟩ x0).setCell ⟨b,1,none⟩ x1).setCell ⟨b,2,none⟩ x2).setCell ⟨b,3,none⟩ x3).setCell ⟨b,4,none⟩ x4).setCell ⟨b,5,none⟩ x5).heap[b]?=some (.cells #[x0,x1,x2,x3,x4,x5,y6,y7,y8] t (0,0)):=heap_setCell_same _ _ _ _ _ _ e4
 have e6:(((((((w.setCell ⟨b,0,none⟩ x0).setCell ⟨b,1,none⟩ x1).setCell ⟨b,2,none⟩ x2).setCell ⟨b,3,none⟩ x3).setCell ⟨b,4,none⟩ x4).setCell ⟨b,5,none⟩ x5).setCell ⟨b,6,none⟩ x6).heap[b]?=some (.cells #[x0,x1,x2,x3,x4,x5,x6,y7,y8] t (0,0)):=heap_setCell_same _ _ _ _ _ _ e5
 have e7:((((((((w.setCell ⟨b,0,none⟩ x0).setCell ⟨b,1,none⟩ x1).setCell ⟨b,2,none⟩ x2).setCell ⟨b,3,none⟩ x3).setCell ⟨b,4,none⟩ x4).setCell ⟨b,5,none⟩ x5).setCell ⟨b,6,none⟩ x6).setCell ⟨b,7,none⟩ x7).heap[b]?=some (.cells #[x0,x1,x2,x3,x4,x5,x6,x7,y8] t (0,0)):=heap_setCell_same _ _ _ _ _ _ e6
 have e8:(((((((((w.setCell ⟨b,0,none⟩ x0).setCell ⟨b,1,none⟩ x1).setCell ⟨b,2,none⟩ x2).setCell ⟨b,3,none⟩ x3).setCell ⟨b,4,none⟩ x4).setCell ⟨b,5,none⟩ x5).setCell ⟨b,6,none⟩ x6).setCell ⟨b,7,none⟩ x7).setCell ⟨b,8,none⟩ x8).heap[b]?=some (.cells #[x0,x1,x2,x3,x4,x5,x6,x7,x8] t (0,0)):=heap_setCell_same _ _ _ _ _ _ e7
 exact e8
theorem nine_cell {w2:World} {g b o:Nat} {x:Value} (h:w2.cell? ⟨b,o,none⟩=some x) (hne:¬ b=g) (v0 v1 v2 v3 v4 v5 v6 v7 v8:Value) :
  (((((((((w2.setCell ⟨g,0,none⟩ v0).setCell ⟨g,1,none⟩ v1).setCell ⟨g,2,none⟩ v2).setCell ⟨g,3,none⟩ v3).setCell ⟨g,4,none⟩ v4).setCell ⟨g,5,none⟩ v5).setCell ⟨g,6,none⟩ v6).setCell ⟨g,7,none⟩ v7).setCell ⟨g,8,none⟩ v8).cell? ⟨b,o,none⟩=some x:=by
 have hg:g≠b:=fun e=>hne e.symm
 rw[World.cell?_setCell_far _ _ _ _ hg,World.cell?_setCell_far _ _ _ _ hg,World.cell?_setCell_far _ _ _ _ hg,World.cell?_setCell_far _ _ _ _ hg,World.cell?_setCell_far _ _ _ _ hg,World.cell?_setCell_far _ _ _ _ hg,World.cell?_setCell_far _ _ _ _ hg,World.cell?_setCell_far _ _ _ _ hg,World.cell?_setCell_far _ _ _ _ hg]
 exact h
set_option maxHeartbeats 3200000 in
set_option linter.unusedSimpArgs false in
theorem see_any (d m g n mx:Nat) (P:Pm) (U:List Nat) (s:Sd) (w:World) (h:DV w d m g n mx P U s) :
  Calls Tryz.prog 16 #[.pointer (some ⟨d,0,none⟩)] w fun e w'=>∃ v,e=.returned (dEnd s v)∧Hid (Fr w' w.heap.size v (P.o,vout s.v)∧Below w.heap.size w w'):=by
 obtain⟨B,x⟩:=h
 have hdn:¬ d=w.heap.size:=by have:=x.dlt;omega
 have b0:Below w.heap.size w (w.alloc (.cells zEnd 74)):=(Below.refl _ _).alloc (Nat.le_refl _) _
 have x0:=x.newd (Off.of_below b0)
 have c10:=x0.cells.2.2.2.2.2.2.2.2.2.2.1
 have hO:=vout_any _ _ _ _ _ _ x0.val
 have hx:=heap_alloc_new w (.cells zEnd 74)
 have hs0:w.heap.size < (w.alloc (.cells zEnd 74)).heap.size:=by simp
 have H0:Hid (_):=And.intro b0 (And.intro x0 (And.intro hx hs0))
 unfold dEnd
 unfold zEnd at *
 clear b0 x0 x hx hs0
 go_enter Tryz.func16,Tryz.ntmps16
 go_wp2_with (go_at_call 54;refine hO.mono ?_;rintro e w2 ⟨v,rfl,h2⟩)
 obtain⟨b0,x0,hx,hs0⟩:=H0.out
 have b2:=h2.out.2
 have x2:=x0.newd (Off.of_below b2)
 have e2:=(b2.block _ hs0).trans hx
 have xd:=x2.newd (Off.drew [] w2)
 have q0:=wsince_any _ _ _ _ xd.dog
 have q1:=vlat_any _ _ _ _ _ _ xd.val
 have q2:=vreq_any _ _ _ _ _ _ xd.val
 obtain⟨_,_,_,_,_,_,_,_,_,y9,y10,y11,y12,y13,y14,_⟩:=x2.cells
 have k0:=cell_of_row w2 w.heap.size 0 _ _ _ e2
 have k1:=cell_of_row w2 w.heap.size 1 _ _ _ e2
 have k2:=cell_of_row w2 w.heap.size 2 _ _ _ e2
 have k3:=cell_of_row w2 w.heap.size 3 _ _ _ e2
 have k4:=cell_of_row w2 w.heap.size 4 _ _ _ e2
 have k5:=cell_of_row w2 w.heap.size 5 _ _ _ e2
 have k6:=cell_of_row w2 w.heap.size 6 _ _ _ e2
 have k7:=cell_of_row w2 w.heap.size 7 _ _ _ e2
 have k8:=cell_of_row w2 w.heap.size 8 _ _ _ e2
 have fz:=fun j=>frozen_of_row w2 w.heap.size j _ _ e2
 have f0:=fz 0
 have f1:=fz 1
 have f2:=fz 2
 have f3:=fz 3
 have f4:=fz 4
 have f5:=fz 5
 have f6:=fz 6
 have f7:=fz 7
 have f8:=fz 8
 obtain⟨va,vc,rfl,_⟩:=own_row8 h2.out.1 (vout_byte x2.val)
 have hne:¬ d=w.heap.size:=hdn
 have H2:Hid (_):=And.intro b0 (And.intro b2 (And.intro h2.out.1 (And.intro hs0 e2)))
 clear hO h2 b0 x0 hx hs0 b2 x2 e2 xd fz H0 c10
 have HS:w2.drew.cell? ⟨d,9,none⟩=some (Value.pointer (some ⟨B.db,0,none⟩))∧w2.drew.cell? ⟨d,10,none⟩=some (Value.pointer (some ⟨B.vb,0,none⟩))∧w2.drew.cell? ⟨d,11,none⟩=some (Value.int .i64 (s.st:Nat))∧w2.drew.cell? ⟨d,12,none⟩=some (Value.int .u32 (s.ss:Nat))∧w2.drew.cell? ⟨d,13,none⟩=some (Value.int .u32 (s.nm:Nat))∧w2.drew.cell? ⟨d,14,none⟩=some (Value.int .u32 (s.sn:Nat)):=⟨y9,y10,y11,y12,y13,y14⟩
 clear y9 y10 y11 y12 y13 y14
 refine wp_region_held_drew (S:=fun w'=>w'.cell? ⟨d,9,none⟩=some (Value.pointer (some ⟨B.db,0,none⟩))∧w'.cell? ⟨d,10,none⟩=some (Value.pointer (some ⟨B.vb,0,none⟩))∧w'.cell? ⟨d,11,none⟩=some (Value.int .i64 (s.st:Nat))∧w'.cell? ⟨d,12,none⟩=some (Value.int .u32 (s.ss:Nat))∧w'.cell? ⟨d,13,none⟩=some (Value.int .u32 (s.nm:Nat))∧w'.cell? ⟨d,14,none⟩=some (Value.int .u32 (s.sn:Nat))) (by kernel_rfl) HS (fun _=>?_)
 refine held_at (a':={ tmps:=#[Value.pointer (some ⟨d,0,none⟩),undef,Value.pointer (some ⟨w.heap.size,0,none⟩),Value.slice va P.o vc,Value.bool (von s.v),Value.pointer (some ⟨d,0,none⟩),Value.bool false,undef,Value.tuple #[Value.slice va P.o vc,Value.bool (von s.v)],Value.pointer (some ⟨d,0,none⟩),Value.pointer (some ⟨d,0,none⟩),Value.pointer (some ⟨d,9,none⟩),Value.pointer (some ⟨d,10,none⟩),Value.pointer (some ⟨B.vb,0,none⟩),Value.tuple #[Value.slice va P.o vc,Value.bool (von s.v)],Value.slice va P.o vc,Value.bool (von s.v),undef,undef,undef,undef,undef,undef,undef,undef,undef,undef,undef,undef,undef,undef,undef,undef,undef,undef,undef,undef,undef,undef,undef,undef,undef,undef,undef,undef,undef,undef,undef,undef,undef,undef,undef,undef,undef,undef,undef,undef,undef],defers:=[] }) (l':=#[false,false,false,false,false,false,false,false,false,false,false,false,false,false,false,false,false,false,false,false,false,false,false,false,false,false,false,false,false,false,false,false,false,false,false,false,false,false,false,false,false,false]) (by kernel_rfl) (by kernel_rfl) ?_
 refine wpAnyH_take (i:=0) (v:=Value.pointer (some ⟨d,0,none⟩)) rfl (by kernel_rfl) (by kernel_rfl) (by kernel_rfl) (fun _ _ _ h=>h) (Or.inl ⟨by kernel_rfl,fun w hSw=>by go_simp⟩) (by assumption) ?_
 refine wpAnyH_take (i:=1) (v:=Value.pointer (some ⟨d,0,none⟩)) rfl (by kernel_rfl) (by kernel_rfl) (by kernel_rfl) (fun _ _ _ h=>h) (Or.inl ⟨by kernel_rfl,fun w hSw=>by go_simp⟩) (by assumption) ?_
 refine wpAnyH_take (i:=2) (v:=Value.pointer (some ⟨d,9,none⟩)) rfl (by kernel_rfl) (by kernel_rfl) (by kernel_rfl) (fun _ _ _ h=>h) (Or.inl ⟨by kernel_rfl,fun w hSw=>by go_simp⟩) (by assumption) ?_
 refine wpAnyH_take (i:=3) (v:=Value.pointer (some ⟨d,11,none⟩)) rfl (by kernel_rfl) (by kernel_rfl) (by kernel_rfl) (fun _ _ _ h=>h) (Or.inl ⟨by kernel_rfl,fun w hSw=>by go_simp⟩) (by assumption) ?_
 refine wpAnyH_take (i:=4) (v:=Value.int .i64 (s.st:Nat)) rfl (by kernel_rfl) (by kernel_rfl) (by kernel_rfl) (fun _ _ _ h=>h) (Or.inl ⟨by kernel_rfl,fun w hSw=>by go_simp⟩) (by assumption) ?_
 refine wpAnyH_take (i:=5) (v:=Value.pointer (some ⟨d,0,none⟩)) rfl (by kernel_rfl) (by kernel_rfl) (by kernel_rfl) (fun _ _ _ h=>h) (Or.inl ⟨by kernel_rfl,fun w hSw=>by go_simp⟩) (by assumption) ?_
 refine wpAnyH_take (i:=6) (v:=Value.pointer (some ⟨d,0,none⟩)) rfl (by kernel_rfl) (by kernel_rfl) (by kernel_rfl) (fun _ _ _ h=>h) (Or.inl ⟨by kernel_rfl,fun w hSw=>by go_simp⟩) (by assumption) ?_
 refine wpAnyH_take (i:=7) (v:=Value.pointer (some ⟨d,9,none⟩)) rfl (by kernel_rfl) (by kernel_rfl) (by kernel_rfl) (fun _ _ _ h=>h) (Or.inl ⟨by kernel_rfl,fun w hSw=>by go_simp⟩) (by assumption) ?_
 refine wpAnyH_take (i:=8) (v:=Value.pointer (some ⟨d,12,none⟩)) rfl (by kernel_rfl) (by kernel_rfl) (by kernel_rfl) (fun _ _ _ h=>h) (Or.inl ⟨by kernel_rfl,fun w hSw=>by go_simp⟩) (by assumption) ?_
 refine wpAnyH_take (i:=9) (v:=Value.int .u32 (s.ss:Nat)) rfl (by kernel_rfl) (by kernel_rfl) (by kernel_rfl) (fun _ _ _ h=>h) (Or.inl ⟨by kernel_rfl,fun w hSw=>by go_simp⟩) (by assumption) ?_
 refine wpAnyH_take (i:=10) (v:=Value.pointer (some ⟨d,0,none⟩)) rfl (by kernel_rfl) (by kernel_rfl) (by kernel_rfl) (fun _ _ _ h=>h) (Or.inl ⟨by kernel_rfl,fun w hSw=>by go_simp⟩) (by assumption) ?_
 refine wpAnyH_take (i:=11) (v:=Value.pointer (some ⟨d,0,none⟩)) rfl (by kernel_rfl) (by kernel_rfl) (by kernel_rfl) (fun _ _ _ h=>h) (Or.inl ⟨by kernel_rfl,fun w hSw=>by go_simp⟩) (by assumption) ?_
 refine wpAnyH_take (i:=12) (v:=Value.pointer (some ⟨d,9,none⟩)) rfl (by kernel_rfl) (by kernel_rfl) (by kernel_rfl) (fun _ _ _ h=>h) (Or.inl ⟨by kernel_rfl,fun w hSw=>by go_simp⟩) (by assumption) ?_
 refine wpAnyH_take (i:=13) (v:=Value.pointer (some ⟨d,13,none⟩)) rfl (by kernel_rfl) (by kernel_rfl) (by kernel_rfl) (fun _ _ _ h=>h) (Or.inl ⟨by kernel_rfl,fun w hSw=>by go_simp⟩) (by assumption) ?_
 refine wpAnyH_take (i:=14) (v:=Value.int .u32 (s.nm:Nat)) rfl (by kernel_rfl) (by kernel_rfl) (by kernel_rfl) (fun _ _ _ h=>h) (Or.inl ⟨by kernel_rfl,fun w hSw=>by go_simp⟩) (by assumption) ?_
 refine wpAnyH_take (i:=15) (v:=Value.pointer (some ⟨d,0,none⟩)) rfl (by kernel_rfl) (by kernel_rfl) (by kernel_rfl) (fun _ _ _ h=>h) (Or.inl ⟨by kernel_rfl,fun w hSw=>by go_simp⟩) (by assumption) ?_
 refine wpAnyH_take (i:=16) (v:=Value.pointer (some ⟨d,0,none⟩)) rfl (by kernel_rfl) (by kernel_rfl) (by kernel_rfl) (fun _ _ _ h=>h) (Or.inl ⟨by kernel_rfl,fun w hSw=>by go_simp⟩) (by assumption) ?_
 refine wpAnyH_take (i:=17) (v:=Value.pointer (some ⟨d,9,none⟩)) rfl (by kernel_rfl) (by kernel_rfl) (by kernel_rfl) (fun _ _ _ h=>h) (Or.inl ⟨by kernel_rfl,fun w hSw=>by go_simp⟩) (by assumption) ?_
 refine wpAnyH_take (i:=18) (v:=Value.pointer (some ⟨d,14,none⟩)) rfl (by kernel_rfl) (by kernel_rfl) (by kernel_rfl) (fun _ _ _ h=>h) (Or.inl ⟨by kernel_rfl,fun w hSw=>by go_simp⟩) (by assumption) ?_
 refine wpAnyH_take (i:=19) (v:=Value.int .u32 (s.sn:Nat)) rfl (by kernel_rfl) (by kernel_rfl) (by kernel_rfl) (fun _ _ _ h=>h) (Or.inl ⟨by kernel_rfl,fun w hSw=>by go_simp⟩) (by assumption) ?_
 refine wpAnyH_take (i:=20) (v:=Value.pointer (some ⟨d,0,none⟩)) rfl (by kernel_rfl) (by kernel_rfl) (by kernel_rfl) (fun _ _ _ h=>h) (Or.inl ⟨by kernel_rfl,fun w hSw=>by go_simp⟩) (by assumption) ?_
 refine wpAnyH_take (i:=21) (v:=Value.pointer (some ⟨d,0,none⟩)) rfl (by kernel_rfl) (by kernel_rfl) (by kernel_rfl) (fun _ _ _ h=>h) (Or.inl ⟨by kernel_rfl,fun w hSw=>by go_simp⟩) (by assumption) ?_
 refine wpAnyH_take (i:=22) (v:=Value.pointer (some ⟨d,9,none⟩)) rfl (by kernel_rfl) (by kernel_rfl) (by kernel_rfl) (fun _ _ _ h=>h) (Or.inl ⟨by kernel_rfl,fun w hSw=>by go_simp⟩) (by assumption) ?_
 refine wpAnyH_take (i:=23) (v:=Value.pointer (some ⟨d,9,none⟩)) rfl (by kernel_rfl) (by kernel_rfl) (by kernel_rfl) (fun _ _ _ h=>h) (Or.inl ⟨by kernel_rfl,fun w hSw=>by go_simp⟩) (by assumption) ?_
 refine wpAnyH_take (i:=24) (v:=Value.pointer (some ⟨B.db,0,none⟩)) rfl (by kernel_rfl) (by kernel_rfl) (by kernel_rfl) (fun _ _ _ h=>h) (Or.inl ⟨by kernel_rfl,fun w hSw=>by go_simp⟩) (by assumption) ?_
 refine wpAnyH_take (i:=26) (v:=Value.pointer (some ⟨d,0,none⟩)) rfl (by kernel_rfl) (by kernel_rfl) (by kernel_rfl) (fun _ _ _ h=>h) (Or.inl ⟨by kernel_rfl,fun w hSw=>by go_simp⟩) (by assumption) ?_
 refine wpAnyH_take (i:=27) (v:=Value.pointer (some ⟨d,0,none⟩)) rfl (by kernel_rfl) (by kernel_rfl) (by kernel_rfl) (fun _ _ _ h=>h) (Or.inl ⟨by kernel_rfl,fun w hSw=>by go_simp⟩) (by assumption) ?_
 refine wpAnyH_take (i:=28) (v:=Value.pointer (some ⟨d,9,none⟩)) rfl (by kernel_rfl) (by kernel_rfl) (by kernel_rfl) (fun _ _ _ h=>h) (Or.inl ⟨by kernel_rfl,fun w hSw=>by go_simp⟩) (by assumption) ?_
 refine wpAnyH_take (i:=29) (v:=Value.pointer (some ⟨d,10,none⟩)) rfl (by kernel_rfl) (by kernel_rfl) (by kernel_rfl) (fun _ _ _ h=>h) (Or.inl ⟨by kernel_rfl,fun w hSw=>by go_simp⟩) (by assumption) ?_
 refine wpAnyH_take (i:=30) (v:=Value.pointer (some ⟨B.vb,0,none⟩)) rfl (by kernel_rfl) (by kernel_rfl) (by kernel_rfl) (fun _ _ _ h=>h) (Or.inl ⟨by kernel_rfl,fun w hSw=>by go_simp⟩) (by assumption) ?_
 refine wpAnyH_take (i:=32) (v:=Value.pointer (some ⟨d,0,none⟩)) rfl (by kernel_rfl) (by kernel_rfl) (by kernel_rfl) (fun _ _ _ h=>h) (Or.inl ⟨by kernel_rfl,fun w hSw=>by go_simp⟩) (by assumption) ?_
 refine wpAnyH_take (i:=33) (v:=Value.pointer (some ⟨d,0,none⟩)) rfl (by kernel_rfl) (by kernel_rfl) (by kernel_rfl) (fun _ _ _ h=>h) (Or.inl ⟨by kernel_rfl,fun w hSw=>by go_simp⟩) (by assumption) ?_
 refine wpAnyH_take (i:=34) (v:=Value.pointer (some ⟨d,9,none⟩)) rfl (by kernel_rfl) (by kernel_rfl) (by kernel_rfl) (fun _ _ _ h=>h) (Or.inl ⟨by kernel_rfl,fun w hSw=>by go_simp⟩) (by assumption) ?_
 refine wpAnyH_take (i:=35) (v:=Value.pointer (some ⟨d,10,none⟩)) rfl (by kernel_rfl) (by kernel_rfl) (by kernel_rfl) (fun _ _ _ h=>h) (Or.inl ⟨by kernel_rfl,fun w hSw=>by go_simp⟩) (by assumption) ?_
 refine wpAnyH_take (i:=36) (v:=Value.pointer (some ⟨B.vb,0,none⟩)) rfl (by kernel_rfl) (by kernel_rfl) (by kernel_rfl) (fun _ _ _ h=>h) (Or.inl ⟨by kernel_rfl,fun w hSw=>by go_simp⟩) (by assumption) ?_
 refine wpAnyH_take (i:=38) (v:=Value.bool (von s.v)) rfl (by kernel_rfl) (by kernel_rfl) (by kernel_rfl) (fun _ _ _ h=>h) (Or.inl ⟨by kernel_rfl,fun w hSw=>by go_simp⟩) (by assumption) ?_
 refine wpAnyH_take (i:=39) (v:=Value.slice va P.o vc) rfl (by kernel_rfl) (by kernel_rfl) (by kernel_rfl) (fun _ _ _ h=>h) (Or.inl ⟨by kernel_rfl,fun w hSw=>by go_simp⟩) (by assumption) ?_
 refine held_at (a':={ tmps:=#[Value.pointer (some ⟨d,0,none⟩),undef,Value.pointer (some ⟨w.heap.size,0,none⟩),Value.slice va P.o vc,Value.bool (von s.v),Value.pointer (some ⟨d,0,none⟩),Value.bool false,undef,Value.tuple #[Value.slice va P.o vc,Value.bool (von s.v)],Value.pointer (some ⟨d,0,none⟩),Value.pointer (some ⟨d,0,none⟩),Value.pointer (some ⟨d,9,none⟩),Value.pointer (some ⟨d,10,none⟩),Value.pointer (some ⟨B.vb,0,none⟩),Value.tuple #[Value.slice va P.o vc,Value.bool (von s.v)],Value.slice va P.o vc,Value.bool (von s.v),Value.pointer (some ⟨d,0,none⟩),Value.pointer (some ⟨d,0,none⟩),Value.pointer (some ⟨d,9,none⟩),Value.pointer (some ⟨d,11,none⟩),Value.int .i64 (s.st:Nat),Value.pointer (some ⟨d,0,none⟩),Value.pointer (some ⟨d,0,none⟩),Value.pointer (some ⟨d,9,none⟩),Value.pointer (some ⟨d,12,none⟩),Value.int .u32 (s.ss:Nat),Value.pointer (some ⟨d,0,none⟩),Value.pointer (some ⟨d,0,none⟩),Value.pointer (some ⟨d,9,none⟩),Value.pointer (some ⟨d,13,none⟩),Value.int .u32 (s.nm:Nat),Value.pointer (some ⟨d,0,none⟩),Value.pointer (some ⟨d,0,none⟩),Value.pointer (some ⟨d,9,none⟩),Value.pointer (some ⟨d,14,none⟩),Value.int .u32 (s.sn:Nat),Value.pointer (some ⟨d,0,none⟩),Value.pointer (some ⟨d,0,none⟩),Value.pointer (some ⟨d,9,none⟩),Value.pointer (some ⟨d,9,none⟩),Value.pointer (some ⟨B.db,0,none⟩),undef,Value.pointer (some ⟨d,0,none⟩),Value.pointer (some ⟨d,0,none⟩),Value.pointer (some ⟨d,9,none⟩),Value.pointer (some ⟨d,10,none⟩),Value.pointer (some ⟨B.vb,0,none⟩),undef,Value.pointer (some ⟨d,0,none⟩),Value.pointer (some ⟨d,0,none⟩),Value.pointer (some ⟨d,9,none⟩),Value.pointer (some ⟨d,10,none⟩),Value.pointer (some ⟨B.vb,0,none⟩),undef,Value.bool (von s.v),Value.slice va P.o vc,undef],defers:=[] }) (l':=#[true,true,true,true,true,true,true,true,true,true,true,true,true,true,true,true,true,true,true,true,true,true,true,true,true,false,true,true,true,true,true,false,true,true,true,true,true,false,true,true,false,false]) (by kernel_rfl) (by kernel_rfl) ?_
 refine held_call (i:=25) 55 #[Value.pointer (some ⟨B.db,0,none⟩)] (by kernel_rfl) rfl (by kernel_rfl) (by go_simp) ?_
 refine (q0).mono ?_
 rintro e w' ⟨rfl,hw⟩
 have hw:=hw.symm
 subst hw
 refine⟨_,rfl,HS,?_⟩
 refine held_at (a':={ tmps:=#[Value.pointer (some ⟨d,0,none⟩),undef,Value.pointer (some ⟨w.heap.size,0,none⟩),Value.slice va P.o vc,Value.bool (von s.v),Value.pointer (some ⟨d,0,none⟩),Value.bool false,undef,Value.tuple #[Value.slice va P.o vc,Value.bool (von s.v)],Value.pointer (some ⟨d,0,none⟩),Value.pointer (some ⟨d,0,none⟩),Value.pointer (some ⟨d,9,none⟩),Value.pointer (some ⟨d,10,none⟩),Value.pointer (some ⟨B.vb,0,none⟩),Value.tuple #[Value.slice va P.o vc,Value.bool (von s.v)],Value.slice va P.o vc,Value.bool (von s.v),Value.pointer (some ⟨d,0,none⟩),Value.pointer (some ⟨d,0,none⟩),Value.pointer (some ⟨d,9,none⟩),Value.pointer (some ⟨d,11,none⟩),Value.int .i64 (s.st:Nat),Value.pointer (some ⟨d,0,none⟩),Value.pointer (some ⟨d,0,none⟩),Value.pointer (some ⟨d,9,none⟩),Value.pointer (some ⟨d,12,none⟩),Value.int .u32 (s.ss:Nat),Value.pointer (some ⟨d,0,none⟩),Value.pointer (some ⟨d,0,none⟩),Value.pointer (some ⟨d,9,none⟩),Value.pointer (some ⟨d,13,none⟩),Value.int .u32 (s.nm:Nat),Value.pointer (some ⟨d,0,none⟩),Value.pointer (some ⟨d,0,none⟩),Value.pointer (some ⟨d,9,none⟩),Value.pointer (some ⟨d,14,none⟩),Value.int .u32 (s.sn:Nat),Value.pointer (some ⟨d,0,none⟩),Value.pointer (some ⟨d,0,none⟩),Value.pointer (some ⟨d,9,none⟩),Value.pointer (some ⟨d,9,none⟩),Value.pointer (some ⟨B.db,0,none⟩),Value.int .i64 (s.dc:Nat),Value.pointer (some ⟨d,0,none⟩),Value.pointer (some ⟨d,0,none⟩),Value.pointer (some ⟨d,9,none⟩),Value.pointer (some ⟨d,10,none⟩),Value.pointer (some ⟨B.vb,0,none⟩),undef,Value.pointer (some ⟨d,0,none⟩),Value.pointer (some ⟨d,0,none⟩),Value.pointer (some ⟨d,9,none⟩),Value.pointer (some ⟨d,10,none⟩),Value.pointer (some ⟨B.vb,0,none⟩),undef,Value.bool (von s.v),Value.slice va P.o vc,undef],defers:=[] }) (l':=#[true,true,true,true,true,true,true,true,true,true,true,true,true,true,true,true,true,true,true,true,true,true,true,true,true,true,true,true,true,true,true,false,true,true,true,true,true,false,true,true,false,false]) (by kernel_rfl) (by kernel_rfl) ?_
 refine held_call (i:=31) 56 #[Value.pointer (some ⟨B.vb,0,none⟩)] (by kernel_rfl) rfl (by kernel_rfl) (by go_simp) ?_
 refine (q1).mono ?_
 rintro e w' ⟨rfl,hw⟩
 have hw:=hw.symm
 subst hw
 refine⟨_,rfl,HS,?_⟩
 refine held_at (a':={ tmps:=#[Value.pointer (some ⟨d,0,none⟩),undef,Value.pointer (some ⟨w.heap.size,0,none⟩),Value.slice va P.o vc,Value.bool (von s.v),Value.pointer (some ⟨d,0,none⟩),Value.bool false,undef,Value.tuple #[Value.slice va P.o vc,Value.bool (von s.v)],Value.pointer (some ⟨d,0,none⟩),Value.pointer (some ⟨d,0,none⟩),Value.pointer (some ⟨d,9,none⟩),Value.pointer (some ⟨d,10,none⟩),Value.pointer (some ⟨B.vb,0,none⟩),Value.tuple #[Value.slice va P.o vc,Value.bool (von s.v)],Value.slice va P.o vc,Value.bool (von s.v),Value.pointer (some ⟨d,0,none⟩),Value.pointer (some ⟨d,0,none⟩),Value.pointer (some ⟨d,9,none⟩),Value.pointer (some ⟨d,11,none⟩),Value.int .i64 (s.st:Nat),Value.pointer (some ⟨d,0,none⟩),Value.pointer (some ⟨d,0,none⟩),Value.pointer (some ⟨d,9,none⟩),Value.pointer (some ⟨d,12,none⟩),Value.int .u32 (s.ss:Nat),Value.pointer (some ⟨d,0,none⟩),Value.pointer (some ⟨d,0,none⟩),Value.pointer (some ⟨d,9,none⟩),Value.pointer (some ⟨d,13,none⟩),Value.int .u32 (s.nm:Nat),Value.pointer (some ⟨d,0,none⟩),Value.pointer (some ⟨d,0,none⟩),Value.pointer (some ⟨d,9,none⟩),Value.pointer (some ⟨d,14,none⟩),Value.int .u32 (s.sn:Nat),Value.pointer (some ⟨d,0,none⟩),Value.pointer (some ⟨d,0,none⟩),Value.pointer (some ⟨d,9,none⟩),Value.pointer (some ⟨d,9,none⟩),Value.pointer (some ⟨B.db,0,none⟩),Value.int .i64 (s.dc:Nat),Value.pointer (some ⟨d,0,none⟩),Value.pointer (some ⟨d,0,none⟩),Value.pointer (some ⟨d,9,none⟩),Value.pointer (some ⟨d,10,none⟩),Value.pointer (some ⟨B.vb,0,none⟩),Value.int .i64 s.v.lat,Value.pointer (some ⟨d,0,none⟩),Value.pointer (some ⟨d,0,none⟩),Value.pointer (some ⟨d,9,none⟩),Value.pointer (some ⟨d,10,none⟩),Value.pointer (some ⟨B.vb,0,none⟩),undef,Value.bool (von s.v),Value.slice va P.o vc,undef],defers:=[] }) (l':=#[true,true,true,true,true,true,true,true,true,true,true,true,true,true,true,true,true,true,true,true,true,true,true,true,true,true,true,true,true,true,true,true,true,true,true,true,true,false,true,true,false,false]) (by kernel_rfl) (by kernel_rfl) ?_
 refine held_call (i:=37) 57 #[Value.pointer (some ⟨B.vb,0,none⟩)] (by kernel_rfl) rfl (by kernel_rfl) (by go_simp) ?_
 refine (q2).mono ?_
 rintro e w' ⟨rfl,hw⟩
 have hw:=hw.symm
 subst hw
 refine⟨_,rfl,HS,?_⟩
 refine held_at (a':={ tmps:=#[Value.pointer (some ⟨d,0,none⟩),undef,Value.pointer (some ⟨w.heap.size,0,none⟩),Value.slice va P.o vc,Value.bool (von s.v),Value.pointer (some ⟨d,0,none⟩),Value.bool false,undef,Value.tuple #[Value.slice va P.o vc,Value.bool (von s.v)],Value.pointer (some ⟨d,0,none⟩),Value.pointer (some ⟨d,0,none⟩),Value.pointer (some ⟨d,9,none⟩),Value.pointer (some ⟨d,10,none⟩),Value.pointer (some ⟨B.vb,0,none⟩),Value.tuple #[Value.slice va P.o vc,Value.bool (von s.v)],Value.slice va P.o vc,Value.bool (von s.v),Value.pointer (some ⟨d,0,none⟩),Value.pointer (some ⟨d,0,none⟩),Value.pointer (some ⟨d,9,none⟩),Value.pointer (some ⟨d,11,none⟩),Value.int .i64 (s.st:Nat),Value.pointer (some ⟨d,0,none⟩),Value.pointer (some ⟨d,0,none⟩),Value.pointer (some ⟨d,9,none⟩),Value.pointer (some ⟨d,12,none⟩),Value.int .u32 (s.ss:Nat),Value.pointer (some ⟨d,0,none⟩),Value.pointer (some ⟨d,0,none⟩),Value.pointer (some ⟨d,9,none⟩),Value.pointer (some ⟨d,13,none⟩),Value.int .u32 (s.nm:Nat),Value.pointer (some ⟨d,0,none⟩),Value.pointer (some ⟨d,0,none⟩),Value.pointer (some ⟨d,9,none⟩),Value.pointer (some ⟨d,14,none⟩),Value.int .u32 (s.sn:Nat),Value.pointer (some ⟨d,0,none⟩),Value.pointer (some ⟨d,0,none⟩),Value.pointer (some ⟨d,9,none⟩),Value.pointer (some ⟨d,9,none⟩),Value.pointer (some ⟨B.db,0,none⟩),Value.int .i64 (s.dc:Nat),Value.pointer (some ⟨d,0,none⟩),Value.pointer (some ⟨d,0,none⟩),Value.pointer (some ⟨d,9,none⟩),Value.pointer (some ⟨d,10,none⟩),Value.pointer (some ⟨B.vb,0,none⟩),Value.int .i64 s.v.lat,Value.pointer (some ⟨d,0,none⟩),Value.pointer (some ⟨d,0,none⟩),Value.pointer (some ⟨d,9,none⟩),Value.pointer (some ⟨d,10,none⟩),Value.pointer (some ⟨B.vb,0,none⟩),Value.bool (vreq s.v),Value.bool (von s.v),Value.slice va P.o vc,undef],defers:=[] }) (l':=#[true,true,true,true,true,true,true,true,true,true,true,true,true,true,true,true,true,true,true,true,true,true,true,true,true,true,true,true,true,true,true,true,true,true,true,true,true,true,true,true,false,false]) (by kernel_rfl) (by kernel_rfl) ?_
 refine wpAnyH_take (i:=40) (v:=Value.agg #[Value.int .i64 (s.st:Nat),Value.int .u32 (s.ss:Nat),Value.int .u32 (s.nm:Nat),Value.int .u32 (s.sn:Nat),Value.int .i64 (s.dc:Nat),Value.int .i64 s.v.lat,Value.bool (vreq s.v),Value.bool (von s.v),Value.slice va P.o vc]) rfl (by kernel_rfl) (by kernel_rfl) (by kernel_rfl) (fun _ _ _ h=>h) (Or.inl ⟨by kernel_rfl,fun w hSw=>by go_simp⟩) (by assumption) ?_
 refine held_at (a':={ tmps:=#[Value.pointer (some ⟨d,0,none⟩),undef,Value.pointer (some ⟨w.heap.size,0,none⟩),Value.slice va P.o vc,Value.bool (von s.v),Value.pointer (some ⟨d,0,none⟩),Value.bool false,undef,Value.tuple #[Value.slice va P.o vc,Value.bool (von s.v)],Value.pointer (some ⟨d,0,none⟩),Value.pointer (some ⟨d,0,none⟩),Value.pointer (some ⟨d,9,none⟩),Value.pointer (some ⟨d,10,none⟩),Value.pointer (some ⟨B.vb,0,none⟩),Value.tuple #[Value.slice va P.o vc,Value.bool (von s.v)],Value.slice va P.o vc,Value.bool (von s.v),Value.pointer (some ⟨d,0,none⟩),Value.pointer (some ⟨d,0,none⟩),Value.pointer (some ⟨d,9,none⟩),Value.pointer (some ⟨d,11,none⟩),Value.int .i64 (s.st:Nat),Value.pointer (some ⟨d,0,none⟩),Value.pointer (some ⟨d,0,none⟩),Value.pointer (some ⟨d,9,none⟩),Value.pointer (some ⟨d,12,none⟩),Value.int .u32 (s.ss:Nat),Value.pointer (some ⟨d,0,none⟩),Value.pointer (some ⟨d,0,none⟩),Value.pointer (some ⟨d,9,none⟩),Value.pointer (some ⟨d,13,none⟩),Value.int .u32 (s.nm:Nat),Value.pointer (some ⟨d,0,none⟩),Value.pointer (some ⟨d,0,none⟩),Value.pointer (some ⟨d,9,none⟩),Value.pointer (some ⟨d,14,none⟩),Value.int .u32 (s.sn:Nat),Value.pointer (some ⟨d,0,none⟩),Value.pointer (some ⟨d,0,none⟩),Value.pointer (some ⟨d,9,none⟩),Value.pointer (some ⟨d,9,none⟩),Value.pointer (some ⟨B.db,0,none⟩),Value.int .i64 (s.dc:Nat),Value.pointer (some ⟨d,0,none⟩),Value.pointer (some ⟨d,0,none⟩),Value.pointer (some ⟨d,9,none⟩),Value.pointer (some ⟨d,10,none⟩),Value.pointer (some ⟨B.vb,0,none⟩),Value.int .i64 s.v.lat,Value.pointer (some ⟨d,0,none⟩),Value.pointer (some ⟨d,0,none⟩),Value.pointer (some ⟨d,9,none⟩),Value.pointer (some ⟨d,10,none⟩),Value.pointer (some ⟨B.vb,0,none⟩),Value.bool (vreq s.v),Value.bool (von s.v),Value.slice va P.o vc,Value.agg #[Value.int .i64 (s.st:Nat),Value.int .u32 (s.ss:Nat),Value.int .u32 (s.nm:Nat),Value.int .u32 (s.sn:Nat),Value.int .i64 (s.dc:Nat),Value.int .i64 s.v.lat,Value.bool (vreq s.v),Value.bool (von s.v),Value.slice va P.o vc]],defers:=[] }) (l':=#[true,true,true,true,true,true,true,true,true,true,true,true,true,true,true,true,true,true,true,true,true,true,true,true,true,true,true,true,true,true,true,true,true,true,true,true,true,true,true,true,true,false]) (by kernel_rfl) (by kernel_rfl) ?_
 refine held_skip (i:=41) ((((((((((w2.drew.setCell ⟨w.heap.size,0,none⟩ (Value.int .i64 (s.st:Nat))).setCell ⟨w.heap.size,1,none⟩ (Value.int .u32 (s.ss:Nat))).setCell ⟨w.heap.size,2,none⟩ (Value.int .u32 (s.nm:Nat))).setCell ⟨w.heap.size,3,none⟩ (Value.int .u32 (s.sn:Nat))).setCell ⟨w.heap.size,4,none⟩ (Value.int .i64 (s.dc:Nat))).setCell ⟨w.heap.size,5,none⟩ (Value.int .i64 s.v.lat)).setCell ⟨w.heap.size,6,none⟩ (Value.bool (vreq s.v))).setCell ⟨w.heap.size,7,none⟩ (Value.bool (von s.v))).setCell ⟨w.heap.size,8,none⟩ (Value.slice va P.o vc))) (by kernel_rfl) rfl (by kernel_rfl) (by go_simp) ⟨nine_cell HS.1 hne _ _ _ _ _ _ _ _ _,nine_cell HS.2.1 hne _ _ _ _ _ _ _ _ _,nine_cell HS.2.2.1 hne _ _ _ _ _ _ _ _ _,nine_cell HS.2.2.2.1 hne _ _ _ _ _ _ _ _ _,nine_cell HS.2.2.2.2.1 hne _ _ _ _ _ _ _ _ _,nine_cell HS.2.2.2.2.2 hne _ _ _ _ _ _ _ _ _⟩ ?_
 refine held_at (a':={ tmps:=#[Value.pointer (some ⟨d,0,none⟩),undef,Value.pointer (some ⟨w.heap.size,0,none⟩),Value.slice va P.o vc,Value.bool (von s.v),Value.pointer (some ⟨d,0,none⟩),Value.bool false,undef,Value.tuple #[Value.slice va P.o vc,Value.bool (von s.v)],Value.pointer (some ⟨d,0,none⟩),Value.pointer (some ⟨d,0,none⟩),Value.pointer (some ⟨d,9,none⟩),Value.pointer (some ⟨d,10,none⟩),Value.pointer (some ⟨B.vb,0,none⟩),Value.tuple #[Value.slice va P.o vc,Value.bool (von s.v)],Value.slice va P.o vc,Value.bool (von s.v),Value.pointer (some ⟨d,0,none⟩),Value.pointer (some ⟨d,0,none⟩),Value.pointer (some ⟨d,9,none⟩),Value.pointer (some ⟨d,11,none⟩),Value.int .i64 (s.st:Nat),Value.pointer (some ⟨d,0,none⟩),Value.pointer (some ⟨d,0,none⟩),Value.pointer (some ⟨d,9,none⟩),Value.pointer (some ⟨d,12,none⟩),Value.int .u32 (s.ss:Nat),Value.pointer (some ⟨d,0,none⟩),Value.pointer (some ⟨d,0,none⟩),Value.pointer (some ⟨d,9,none⟩),Value.pointer (some ⟨d,13,none⟩),Value.int .u32 (s.nm:Nat),Value.pointer (some ⟨d,0,none⟩),Value.pointer (some ⟨d,0,none⟩),Value.pointer (some ⟨d,9,none⟩),Value.pointer (some ⟨d,14,none⟩),Value.int .u32 (s.sn:Nat),Value.pointer (some ⟨d,0,none⟩),Value.pointer (some ⟨d,0,none⟩),Value.pointer (some ⟨d,9,none⟩),Value.pointer (some ⟨d,9,none⟩),Value.pointer (some ⟨B.db,0,none⟩),Value.int .i64 (s.dc:Nat),Value.pointer (some ⟨d,0,none⟩),Value.pointer (some ⟨d,0,none⟩),Value.pointer (some ⟨d,9,none⟩),Value.pointer (some ⟨d,10,none⟩),Value.pointer (some ⟨B.vb,0,none⟩),Value.int .i64 s.v.lat,Value.pointer (some ⟨d,0,none⟩),Value.pointer (some ⟨d,0,none⟩),Value.pointer (some ⟨d,9,none⟩),Value.pointer (some ⟨d,10,none⟩),Value.pointer (some ⟨B.vb,0,none⟩),Value.bool (vreq s.v),Value.bool (von s.v),Value.slice va P.o vc,Value.agg #[Value.int .i64 (s.st:Nat),Value.int .u32 (s.ss:Nat),Value.int .u32 (s.nm:Nat),Value.int .u32 (s.sn:Nat),Value.int .i64 (s.dc:Nat),Value.int .i64 s.v.lat,Value.bool (vreq s.v),Value.bool (von s.v),Value.slice va P.o vc]],defers:=[] }) (l':=#[true,true,true,true,true,true,true,true,true,true,true,true,true,true,true,true,true,true,true,true,true,true,true,true,true,true,true,true,true,true,true,true,true,true,true,true,true,true,true,true,true,true]) (by kernel_rfl) (by kernel_rfl) ?_
 refine wpAnyH_done (by kernel_rfl) ?_ _
 obtain⟨b0,b2,hf,hs0,e2⟩:=H2.out
 have o9:=(Off.drew [w.heap.size] w2).trans (nine w.heap.size w2.drew (.int .i64 (s.st:Nat)) (.int .u32 (s.ss:Nat)) (.int .u32 (s.nm:Nat)) (.int .u32 (s.sn:Nat)) (.int .i64 (s.dc:Nat)) (.int .i64 s.v.lat) (.bool (vreq s.v)) (.bool (von s.v)) (.slice va P.o vc))
 have e9:=nineRow (.int .i64 (s.st:Nat)) (.int .u32 (s.ss:Nat)) (.int .u32 (s.nm:Nat)) (.int .u32 (s.sn:Nat)) (.int .i64 (s.dc:Nat)) (.int .i64 s.v.lat) (.bool (vreq s.v)) (.bool (von s.v)) (.slice va P.o vc) (show w2.drew.heap[w.heap.size]?=_ from e2)
 have H9:Hid (_):=And.intro (own_base (own_offk hf o9 (fun k hk hm=>by have:=Fr.ge (f:=(P.o,vout s.v)) hf k hk;simp at hm;omega)) b0.size) (o9.below (b0.trans (b2.mono b0.size)) (by simp) (by have:=b0.size;have:=b2.size;omega))
 clear o9 b0 b2 hf hs0 e2 H2 q0 q1 q2 HS k0 k1 k2 k3 k4 k5 k6 k7 k8 f0 f1 f2 f3 f4 f5 f6 f7 f8
 generalize (((((((((w2.drew.setCell ⟨w.heap.size,0,none⟩ (Value.int .i64 (s.st:Nat))).setCell ⟨w.heap.size,1,none⟩ (Value.int .u32 (s.ss:Nat))).setCell ⟨w.heap.size,2,none⟩ (Value.int .u32 (s.nm:Nat))).setCell ⟨w.heap.size,3,none⟩ (Value.int .u32 (s.sn:Nat))).setCell ⟨w.heap.size,4,none⟩ (Value.int .i64 (s.dc:Nat))).setCell ⟨w.heap.size,5,none⟩ (Value.int .i64 s.v.lat)).setCell ⟨w.heap.size,6,none⟩ (Value.bool (vreq s.v))).setCell ⟨w.heap.size,7,none⟩ (Value.bool (von s.v))).setCell ⟨w.heap.size,8,none⟩ (Value.slice va P.o vc))=w9 at *
 have r0:=cell_of_row w9 w.heap.size 0 _ _ _ e9
 have r1:=cell_of_row w9 w.heap.size 1 _ _ _ e9
 have r2:=cell_of_row w9 w.heap.size 2 _ _ _ e9
 have r3:=cell_of_row w9 w.heap.size 3 _ _ _ e9
 have r4:=cell_of_row w9 w.heap.size 4 _ _ _ e9
 have r5:=cell_of_row w9 w.heap.size 5 _ _ _ e9
 have r6:=cell_of_row w9 w.heap.size 6 _ _ _ e9
 have r7:=cell_of_row w9 w.heap.size 7 _ _ _ e9
 have r8:=cell_of_row w9 w.heap.size 8 _ _ _ e9
 clear e9
 go_wp2_with fail
 refine bodyPost_ret (v:=.agg #[Value.int .i64 (s.st:Nat),Value.int .u32 (s.ss:Nat),Value.int .u32 (s.nm:Nat),Value.int .u32 (s.sn:Nat),Value.int .i64 (s.dc:Nat),Value.int .i64 s.v.lat,Value.bool (vreq s.v),Value.bool (von s.v),Value.slice va P.o vc]) (by simp[results,Tryz.results16,go_sem,r0,r1,r2,r3,r4,r5,r6,r7,r8]) rfl ⟨.slice va P.o vc,rfl,H9.out⟩
theorem opS_off {mx n:Nat} {s:Ms} (hl:0≤s.l) (h:opE mx n s=0):(opS mx n s).off=false:=by
 unfold opE at h
 unfold opS
 by_cases h1:mx=0∨n<10
 ·rw[if_pos h1]at h;omega
 ·rw[if_neg h1]at h ⊢
  by_cases h2:s.off=true
  ·rw[if_pos h2]at h;omega
  ·rw[if_neg h2]at h ⊢
   rcases sq_all n (mend s.bs) s (fun x hx=>(mend_in s.bs n (by omega) x hx).1) (by simpa using h2) hl with ⟨_,e,_⟩ | ⟨e,_⟩
   ·rw[e]
   ·omega
def dnew (ms:Ms):Sd:=⟨ms,[],0,vnew,1,0,0,0,0,fun _=>0,false⟩
theorem DX.made {w2 w3 w4:World} {m g n mx c:Nat} {P:Pm} {ms:Ms} {db vb vg ga b:Nat} (hP:Pok P) (hn:10≤n) (hx0:mx≠0) (hx:mx<4294967296) (hM:MR w2 m g n ms) (hC:CS w2 c m mx ms.bs false) (hoff:ms.off=false)
  (hm:m<c) (hg:g<c) (q:Off [] w2 w3) (hD:DG w3 (b+2) [b,b+1,b+2] []) (hb:w2.heap.size≤b) (hN:NL w3 w4 P db vb vg ga) :
  DX (w4.alloc (.cells (DVC P m mx (.pointer (some ⟨c,0,none⟩)) (b+2) db vb (dnew ms) (.slice (some ⟨ga,0,none⟩) P.i P.i)) 125)) w4.heap.size m g n mx P [w4.heap.size,m,g,c,db,vb,vg,ga,b,b+1,b+2] (dnew ms)
   ⟨c,b+2,db,vb,vg,[],[b,b+1,b+2],.pointer (some ⟨c,0,none⟩),.slice (some ⟨ga,0,none⟩) P.i P.i,fun k=>if k=w4.heap.size then 0 else if k=m∨k=g then 1 else if k=c then 2 else if k=db then 3 else if k=vb∨k=vg then 4 else if k=ga then 6 else 5⟩ True:=by
 obtain⟨q1,q2,q3,q4,q5,q6,q7,q8,q9,q10⟩:=hN
 have hc:=hC.lt
 have s2:=q.size
 have s3:=q4.size
 have d3:b+2<w3.heap.size:=hD.ult _ (by simp)
 have o34:Off [] w3 w4:=Off.of_below q4
 have oA:Off [] w4 (w4.alloc (.cells (DVC P m mx (.pointer (some ⟨c,0,none⟩)) (b+2) db vb (dnew ms) (.slice (some ⟨ga,0,none⟩) P.i P.i)) 125)):=Off.alloc _ _ _
 have oB:=(q.trans o34).trans oA
 refine⟨heap_alloc_new w4 _,hM.off oB (by simp) (by simp),fun _=>⟨rfl,hC.off oB (by simp),hoff⟩,q1.off oA (by simp),q2.off oA (by simp) (by simp) (by simp),hD.off (o34.trans oA) (by simp),own_offk (own_base q3 (Nat.zero_le _)) oA (by simp),fun i _=>(by show 0<256;omega),?_,?_,?_,?_,?_,?_,?_,?_,fun k hk=>(by simp at hk),?_,?_,hP,hn,hx0,hx⟩
 ·intro k hk
  rw[World.size_alloc]
  simp at hk
  omega
 ·exact⟨if_pos rfl,by simp⟩
 ·exact⟨by dsimp only;rw[if_neg (by omega),if_pos (.inl rfl)],by simp⟩
 ·exact⟨by dsimp only;rw[if_neg (by omega),if_pos (.inr rfl)],by simp⟩
 ·exact⟨by dsimp only;rw[if_neg (by omega),if_neg (by omega),if_pos rfl],by simp⟩
 ·exact⟨by dsimp only;rw[if_neg (by omega),if_neg (by omega),if_neg (by omega),if_pos rfl],by simp⟩
 ·exact⟨by dsimp only;rw[if_neg (by omega),if_neg (by omega),if_neg (by omega),if_neg (by omega),if_pos (.inl rfl)],by simp⟩
 ·exact⟨by dsimp only;rw[if_neg (by omega),if_neg (by omega),if_neg (by omega),if_neg (by omega),if_pos (.inr rfl)],by simp⟩
 ·intro k hk
  refine⟨?_,by simp at hk ⊢;omega⟩
  dsimp only
  simp at hk
  rw[if_neg (by omega),if_neg (by omega),if_neg (by omega),if_neg (by omega),if_neg (by omega),if_neg (by omega)]
 ·intro k hk
  cases hk
  exact⟨by dsimp only;rw[if_neg (by omega),if_neg (by omega),if_neg (by omega),if_neg (by omega),if_neg (by omega),if_pos rfl],by simp⟩
set_option maxHeartbeats 1600000 in
theorem newD_bad (c:Nat) (o i t:Int) (n:Nat) (p:Option Addr) (x:Int) (w:World) (hE:¬ okP c o i t n) :
  Calls Tryz.prog 20 #[.agg #[.int .u32 c,.int .i64 o,.int .i64 i,.int .i64 t,.int .u32 n],.pointer p,.int .u32 x] w fun e w'=>e=.returned (.tuple #[.pointer none,.int .i64 90])∧Below w.heap.size w w':=by
 have hb:Below w.heap.size w (w.alloc (.cells #[.int .u32 c,.int .i64 o,.int .i64 i,.int .i64 t,.int .u32 n] 42)):=(Below.refl _ _).alloc (Nat.le_refl _) _
 have hC:=check_any c o i t n (w.alloc (.cells #[.int .u32 c,.int .i64 o,.int .i64 i,.int .i64 t,.int .u32 n] 42)) 90 (if_neg hE)
 clear hE
 go_enter Tryz.func20,Tryz.ntmps20
 go_wp2_with (go_at_call 59;refine hC.mono ?_;rintro e w2 ⟨rfl,b2⟩)
 go_ret2
 exact⟨rfl,hb.trans (b2.mono hb.size)⟩
set_option maxHeartbeats 3200000 in
theorem newD_any (m g n mx:Nat) (P:Pm) (hP:Pok P) (ms:Ms) (w:World) (hM:MR w m g n ms) (hx:mx<4294967296) (ht:ms.t<9223372036854774000) :
  Calls Tryz.prog 20 #[.agg #[.int .u32 (P.c:Nat),.int .i64 (P.o:Nat),.int .i64 (P.i:Nat),.int .i64 (P.t:Nat),.int .u32 (P.n:Nat)],.pointer (some ⟨m,0,none⟩),.int .u32 (mx:Nat)] w fun e w'=>∃ p,e=.returned (.tuple #[.pointer p,.int .i64 (opE mx n ms)])∧Hid (Off [m,g] w w'∧MR w' m g n (opS mx n ms) ∧
   (opE mx n ms=0→∃ d U,p=some ⟨d,0,none⟩∧DV w' d m g n mx P U (dnew (opS mx n ms))∧(∀ k,k ∈ U→k=m∨k=g∨w.heap.size≤k))∧(¬ opE mx n ms=0→p=none)):=by
 have hb:Below w.heap.size w (w.alloc (.cells #[.int .u32 (P.c:Nat),.int .i64 (P.o:Nat),.int .i64 (P.i:Nat),.int .i64 (P.t:Nat),.int .u32 (P.n:Nat)] 42)):=(Below.refl _ _).alloc (Nat.le_refl _) _
 have hs:(w.alloc (.cells #[.int .u32 (P.c:Nat),.int .i64 (P.o:Nat),.int .i64 (P.i:Nat),.int .i64 (P.t:Nat),.int .u32 (P.n:Nat)] 42)).heap.size=w.heap.size+1:=by simp
 have hx0:=heap_alloc_new w (.cells #[.int .u32 (P.c:Nat),.int .i64 (P.o:Nat),.int .i64 (P.i:Nat),.int .i64 (P.t:Nat),.int .u32 (P.n:Nat)] 42)
 have hC:=check_any P.c P.o P.i P.t P.n (w.alloc (.cells #[.int .u32 (P.c:Nat),.int .i64 (P.o:Nat),.int .i64 (P.i:Nat),.int .i64 (P.t:Nat),.int .u32 (P.n:Nat)] 42)) 0 (if_pos hP.ok)
 obtain⟨E,hE⟩:∃ x,opE mx n ms=x:=⟨_,rfl⟩
 rw[hE]
 have hO:∀ wx,MR wx m g n ms→Calls Tryz.prog 60 #[.pointer (some ⟨m,0,none⟩),.int .u32 (mx:Nat)] wx fun e w'=>∃ p,e=.returned (.tuple #[.pointer p,.int .i64 E])∧Hid (Off [m,g] wx w'∧MR w' m g n (opS mx n ms) ∧
   (E=0→∃ c,p=some ⟨c,0,none⟩∧wx.heap.size≤c∧CS w' c m mx (opS mx n ms).bs false)∧(¬ E=0→p=none)):=by
  intro wx hMx
  subst hE
  exact popen m g n mx ms wx hMx ht
 have HO:Hid (_):=hO
 have HH:Hid (_):=And.intro hb (And.intro hs (And.intro hx0 (And.intro hM (And.intro hE (And.intro hP hx)))))
 clear hO hb hs hx0 hM hE hP hx ht
 go_enter Tryz.func20,Tryz.ntmps20
 go_wp2_with (first | (go_at_call 59;refine hC.mono ?_;rintro e w1 ⟨rfl,b1⟩))
 obtain⟨hb,hs,hx0,hM,_⟩:=HH.out
 have bb:=hb.trans (b1.mono hb.size)
 refine (HO.out w1 (hM.off (Off.of_below (l:=[]) bb) (by simp) (by simp))).mono ?_
 rintro e w2 ⟨p,rfl,h2⟩
 have e2:w2.heap[w.heap.size]?=some (.cells #[.int .u32 (P.c:Nat),.int .i64 (P.o:Nat),.int .i64 (P.i:Nat),.int .i64 (P.t:Nat),.int .u32 (P.n:Nat)] 42 (0,0)):=by
  have l1:=hM.lt
  have l2:=hM.lg
  have l3:=b1.size
  rw[h2.out.1.block w.heap.size (by omega) (by simp;omega),b1.block _ (by omega)]
  exact hx0
 have H2:Hid (_):=And.intro bb (And.intro h2.out (And.intro HH.out (by have:=b1.size;omega:w.heap.size<w1.heap.size)))
 by_cases he:E=0
 ·have e0:(E != 0)=false:=by simp[he]
  obtain⟨c,rfl,hc,hC2⟩:=h2.out.2.2.1 he
  have HE:Hid (_):=And.intro he (And.intro hc hC2)
  have HS:w2.drew.cell? ⟨w.heap.size,0,none⟩=some (.int .u32 (P.c:Nat))∧w2.drew.cell? ⟨w.heap.size,1,none⟩=some (.int .i64 (P.o:Nat))∧w2.drew.cell? ⟨w.heap.size,2,none⟩=some (.int .i64 (P.i:Nat))∧w2.drew.cell? ⟨w.heap.size,3,none⟩=some (.int .i64 (P.t:Nat))∧w2.drew.cell? ⟨w.heap.size,4,none⟩=some (.int .u32 (P.n:Nat)):=
   ⟨cell_of_row w2 _ 0 _ _ _ e2,cell_of_row w2 _ 1 _ _ _ e2,cell_of_row w2 _ 2 _ _ _ e2,cell_of_row w2 _ 3 _ _ _ e2,cell_of_row w2 _ 4 _ _ _ e2⟩
  have hN:=dnew_any w2.drew
  clear hC b1 hb hs hx0 hM bb h2 e2 he hc hC2 HO
  go_wp2_with fail
  go_region_held3 (fun w'=>w'.cell? ⟨w.heap.size,0,none⟩=some (.int .u32 (P.c:Nat))∧w'.cell? ⟨w.heap.size,1,none⟩=some (.int .i64 (P.o:Nat))∧w'.cell? ⟨w.heap.size,2,none⟩=some (.int .i64 (P.i:Nat))∧w'.cell? ⟨w.heap.size,3,none⟩=some (.int .i64 (P.t:Nat))∧w'.cell? ⟨w.heap.size,4,none⟩=some (.int .u32 (P.n:Nat))) (first | with_reducible assumption | exact⟨(belA _).cell hwl |>.trans HU.1,(belA _).cell hwl |>.trans HU.2.1,(belA _).cell hwl |>.trans HU.2.2.1,(belA _).cell hwl |>.trans HU.2.2.2.1,(belA _).cell hwl |>.trans HU.2.2.2.2⟩) (first
   | (go_at_call 61;refine hN.mono ?_;rintro e w3 ⟨rfl,h3⟩;have hL:=newLife_any P H2.out.2.2.1.2.2.2.2.2.1 w3;have hl3:w.heap.size<w2.drew.heap.size:=(Nat.lt_of_lt_of_le H2.out.2.2.2 H2.out.2.1.1.size);have HT:w3.cell? ⟨w.heap.size,0,none⟩=some (.int .u32 (P.c:Nat))∧w3.cell? ⟨w.heap.size,1,none⟩=some (.int .i64 (P.o:Nat))∧w3.cell? ⟨w.heap.size,2,none⟩=some (.int .i64 (P.i:Nat))∧w3.cell? ⟨w.heap.size,3,none⟩=some (.int .i64 (P.t:Nat))∧w3.cell? ⟨w.heap.size,4,none⟩=some (.int .u32 (P.n:Nat)):=⟨(h3.out.1.cell hl3).trans HS.1,(h3.out.1.cell hl3).trans HS.2.1,(h3.out.1.cell hl3).trans HS.2.2.1,(h3.out.1.cell hl3).trans HS.2.2.2.1,(h3.out.1.cell hl3).trans HS.2.2.2.2⟩;have hl4:w.heap.size<w3.heap.size:=(Nat.lt_of_lt_of_le hl3 h3.out.1.size);clear hN)
   | (go_at_call 62;refine hL.mono ?_;rintro e w4 ⟨db,vb,vg,ga,rfl,h4⟩;have HU:w4.cell? ⟨w.heap.size,0,none⟩=some (.int .u32 (P.c:Nat))∧w4.cell? ⟨w.heap.size,1,none⟩=some (.int .i64 (P.o:Nat))∧w4.cell? ⟨w.heap.size,2,none⟩=some (.int .i64 (P.i:Nat))∧w4.cell? ⟨w.heap.size,3,none⟩=some (.int .i64 (P.t:Nat))∧w4.cell? ⟨w.heap.size,4,none⟩=some (.int .u32 (P.n:Nat)):=⟨(h4.out.bel.cell hl4).trans HT.1,(h4.out.bel.cell hl4).trans HT.2.1,(h4.out.bel.cell hl4).trans HT.2.2.1,(h4.out.bel.cell hl4).trans HT.2.2.2.1,(h4.out.bel.cell hl4).trans HT.2.2.2.2⟩;have hwl:w.heap.size<w4.heap.size:=(Nat.lt_of_lt_of_le hl4 h4.out.bel.size);have belA:∀ o,Below w4.heap.size w4 (w4.alloc o):=(fun o=>(Below.refl _ _).alloc (Nat.le_refl _) o);clear hL))
  all_goals
   go_wp2_with fail
   go_ret2
   obtain⟨bb,⟨o2,m2,_,_⟩,⟨_,hs,_,hM,hE,hP,hx⟩,hw1⟩:=H2.out
   obtain⟨he,hc,hC2⟩:=HE.out
   subst he
   obtain⟨mx0,n10,_⟩:=opened m g n mx ms w hM hE
   have l1:=hM.lt
   have l2:=hM.lg
   have hoff:=opS_off hM.l0 hE
   have q3:Off [] w2.drew w3:=Off.of_below h3.out.1
   have X:=DX.made hP n10 mx0 hx (m2.off (Off.drew [] w2) (by simp) (by simp)) (hC2.off (Off.drew [] w2) (by simp)) hoff (by omega) (by omega) q3 h3.out.2.2 (Nat.le_refl _) h4.out
   have hcl:=hC2.lt
   have s3:=q3.size
   have s2:w2.drew.heap.size=w2.heap.size:=rfl
   have k1:=h4.out.h1
   have k2:=h4.out.h2
   have k3:=h4.out.h3
   have k4:=h4.out.h4
   have k6:=h4.out.h6
   have k7:=o2.size
   refine⟨_,rfl,?_,?_,fun _=>⟨w4.heap.size,_,rfl,⟨_,{ X with cel:=fun _=>X.cel trivial }⟩,?_⟩,fun h=>absurd rfl h⟩
   ·exact ((Off.of_below bb).trans o2).trans ((((Off.drew _ w2).trans (q3.more (by simp))).trans (Off.of_below h4.out.bel)).trans (Off.alloc _ _ _))
   ·exact X.mem
   ·intro k hk
    simp at hk
    omega
 ·have e0:(E != 0)=true:=by simp[he]
  obtain rfl:=h2.out.2.2.2 he
  have HE:Hid (_):=he
  clear he hC b1 hb hs hx0 hM bb h2 e2
  go_wp2_with fail
  go_ret2
  obtain⟨bb,⟨o2,m2,_,_⟩,hh,_⟩:=H2.out
  exact⟨none,rfl,(Off.of_below bb).trans o2,m2,fun h=>absurd h HE.out,fun _=>rfl⟩
set_option maxRecDepth 100000 in
set_option maxHeartbeats 2000000 in
theorem refLawful_1 (c s n:Nat) (f:Int) (a:Option Addr) (len cap:Nat) (w:World) :
  Calls Tryz.prog 93 #[.agg #[.int .i64 1,.int .u32 c,.int .u32 s,.int .u32 n,.int .i64 f,.slice a len cap]] w fun e w'=>e=.returned (.int .i64 (LW 1 c s n f len len))∧Below w.heap.size w w':=by
 have hH:=refHost_any 1
 have hD:=refDevice_any 1
 have hM:=refData_any 1 len
 unfold LW
 rw[show hostK 1=true from rfl]at hH ⊢
 rw[show devK 1=false from rfl]at hD ⊢
 rw[show hNum 1=false from rfl,show mFl 1=0 from rfl]
 generalize mData 1 len=D at *
 have hb:Below w.heap.size w (w.alloc (.cells #[.int .i64 1,.int .u32 c,.int .u32 s,.int .u32 n,.int .i64 f,.slice a len cap] 107)):=(Below.refl _ _).alloc (Nat.le_refl _) _
 rw[if_neg (by simp)]
 by_cases hc:(c:Int)=0
 ·rw[if_pos hc,hc]
  rw[hc]at hb
  go_enter Tryz.func93,Tryz.ntmps93
  go_wp2_with (first | (go_at_call 51;refine (hH _).mono ?_;rintro e w' ⟨rfl,rfl⟩) | (go_at_call 152;refine (hD _).mono ?_;rintro e w' ⟨rfl,rfl⟩) | (go_at_call 153;refine (hM _).mono ?_;rintro e w' ⟨rfl,rfl⟩))
  go_ret
  exact⟨rfl,hb⟩
 ·rw[if_neg hc]
  have qc:((c:Int) == 0)=false:=by simpa using hc
  cases D
  ·rw[if_pos (Or.inr rfl)]
   go_enter Tryz.func93,Tryz.ntmps93
   go_wp2_with (first | (go_at_call 51;refine (hH _).mono ?_;rintro e w' ⟨rfl,rfl⟩) | (go_at_call 152;refine (hD _).mono ?_;rintro e w' ⟨rfl,rfl⟩) | (go_at_call 153;refine (hM _).mono ?_;rintro e w' ⟨rfl,rfl⟩))
   go_ret
   exact⟨rfl,hb⟩
  ·rw[if_neg (by simp)]
   by_cases hs:(s:Int)=0
   ·rw[if_neg (by simp[mSess,hs]),hs]
    rw[hs]at hb
    by_cases hn:(n:Int)=0
    ·rw[if_neg (by simp[hn]),hn]
     rw[hn]at hb
     by_cases hf:f<0
     ·rw[if_pos (Or.inl hf)]
      have qf:decide (f<0)=true:=decide_eq_true hf
      go_enter Tryz.func93,Tryz.ntmps93
      go_wp2_with (first | (go_at_call 51;refine (hH _).mono ?_;rintro e w' ⟨rfl,rfl⟩) | (go_at_call 152;refine (hD _).mono ?_;rintro e w' ⟨rfl,rfl⟩) | (go_at_call 153;refine (hM _).mono ?_;rintro e w' ⟨rfl,rfl⟩))
      go_ret
      exact⟨rfl,hb⟩
     ·have qf:decide (f<0)=false:=decide_eq_false hf
      by_cases h15:15<f
      ·rw[if_pos (by omega)]
       have q15:decide (15<f)=true:=decide_eq_true h15
       go_enter Tryz.func93,Tryz.ntmps93
       go_wp2_with (first | (go_at_call 51;refine (hH _).mono ?_;rintro e w' ⟨rfl,rfl⟩) | (go_at_call 152;refine (hD _).mono ?_;rintro e w' ⟨rfl,rfl⟩) | (go_at_call 153;refine (hM _).mono ?_;rintro e w' ⟨rfl,rfl⟩))
       go_ret
       exact⟨rfl,hb⟩
      ·have q15:decide (15<f)=false:=decide_eq_false h15
       by_cases h0:f=0
       ·rw[if_neg (by omega)]
        subst h0
        go_enter Tryz.func93,Tryz.ntmps93
        go_wp2_with (first | (go_at_call 51;refine (hH _).mono ?_;rintro e w' ⟨rfl,rfl⟩) | (go_at_call 152;refine (hD _).mono ?_;rintro e w' ⟨rfl,rfl⟩) | (go_at_call 153;refine (hM _).mono ?_;rintro e w' ⟨rfl,rfl⟩))
        go_ret
        exact⟨rfl,hb⟩
       ·rw[if_pos (by omega)]
        have q0:(f == 0)=false:=by simpa using h0
        go_enter Tryz.func93,Tryz.ntmps93
        go_wp2_with (first | (go_at_call 51;refine (hH _).mono ?_;rintro e w' ⟨rfl,rfl⟩) | (go_at_call 152;refine (hD _).mono ?_;rintro e w' ⟨rfl,rfl⟩) | (go_at_call 153;refine (hM _).mono ?_;rintro e w' ⟨rfl,rfl⟩))
        go_ret
        exact⟨rfl,hb⟩
    ·rw[if_pos (by simpa using hn)]
     have qn:((n:Int) == 0)=false:=by simpa using hn
     have qn2:((n:Int) != 0)=true:=by simpa using hn
     go_enter Tryz.func93,Tryz.ntmps93
     go_wp2_with (first | (go_at_call 51;refine (hH _).mono ?_;rintro e w' ⟨rfl,rfl⟩) | (go_at_call 152;refine (hD _).mono ?_;rintro e w' ⟨rfl,rfl⟩) | (go_at_call 153;refine (hM _).mono ?_;rintro e w' ⟨rfl,rfl⟩))
     go_ret
     exact⟨rfl,hb⟩
   ·rw[if_pos (by simpa [mSess] using hs)]
    have qs:((s:Int) == 0)=false:=by simpa using hs
    go_enter Tryz.func93,Tryz.ntmps93
    go_wp2_with (first | (go_at_call 51;refine (hH _).mono ?_;rintro e w' ⟨rfl,rfl⟩) | (go_at_call 152;refine (hD _).mono ?_;rintro e w' ⟨rfl,rfl⟩) | (go_at_call 153;refine (hM _).mono ?_;rintro e w' ⟨rfl,rfl⟩))
    go_ret
    exact⟨rfl,hb⟩
set_option maxRecDepth 100000 in
set_option maxHeartbeats 2000000 in
theorem refLawful_22 (c s n:Nat) (f:Int) (a:Option Addr) (len cap:Nat) (w:World) :
  Calls Tryz.prog 93 #[.agg #[.int .i64 22,.int .u32 c,.int .u32 s,.int .u32 n,.int .i64 f,.slice a len cap]] w fun e w'=>e=.returned (.int .i64 (LW 22 c s n f len len))∧Below w.heap.size w w':=by
 have hH:=refHost_any 22
 have hD:=refDevice_any 22
 have hM:=refData_any 22 len
 unfold LW
 rw[show hostK 22=false from rfl]at hH ⊢
 rw[show devK 22=true from rfl]at hD ⊢
 rw[show hNum 22=false from rfl,show mFl 22=0 from rfl]
 generalize mData 22 len=D at *
 have hb:Below w.heap.size w (w.alloc (.cells #[.int .i64 22,.int .u32 c,.int .u32 s,.int .u32 n,.int .i64 f,.slice a len cap] 107)):=(Below.refl _ _).alloc (Nat.le_refl _) _
 rw[if_neg (by simp)]
 by_cases hc:(c:Int)=0
 ·rw[if_pos hc,hc]
  rw[hc]at hb
  go_enter Tryz.func93,Tryz.ntmps93
  go_wp2_with (first | (go_at_call 51;refine (hH _).mono ?_;rintro e w' ⟨rfl,rfl⟩) | (go_at_call 152;refine (hD _).mono ?_;rintro e w' ⟨rfl,rfl⟩) | (go_at_call 153;refine (hM _).mono ?_;rintro e w' ⟨rfl,rfl⟩))
  go_ret
  exact⟨rfl,hb⟩
 ·rw[if_neg hc]
  have qc:((c:Int) == 0)=false:=by simpa using hc
  cases D
  ·rw[if_pos (Or.inr rfl)]
   go_enter Tryz.func93,Tryz.ntmps93
   go_wp2_with (first | (go_at_call 51;refine (hH _).mono ?_;rintro e w' ⟨rfl,rfl⟩) | (go_at_call 152;refine (hD _).mono ?_;rintro e w' ⟨rfl,rfl⟩) | (go_at_call 153;refine (hM _).mono ?_;rintro e w' ⟨rfl,rfl⟩))
   go_ret
   exact⟨rfl,hb⟩
  ·rw[if_neg (by simp)]
   rw[if_neg (by simp[mSess])]
   by_cases hn:(n:Int)=0
   ·rw[if_neg (by simp[hn]),hn]
    rw[hn]at hb
    by_cases hf:f<0
    ·rw[if_pos (Or.inl hf)]
     have qf:decide (f<0)=true:=decide_eq_true hf
     go_enter Tryz.func93,Tryz.ntmps93
     go_wp2_with (first | (go_at_call 51;refine (hH _).mono ?_;rintro e w' ⟨rfl,rfl⟩) | (go_at_call 152;refine (hD _).mono ?_;rintro e w' ⟨rfl,rfl⟩) | (go_at_call 153;refine (hM _).mono ?_;rintro e w' ⟨rfl,rfl⟩))
     go_ret
     exact⟨rfl,hb⟩
    ·have qf:decide (f<0)=false:=decide_eq_false hf
     by_cases h15:15<f
     ·rw[if_pos (by omega)]
      have q15:decide (15<f)=true:=decide_eq_true h15
      go_enter Tryz.func93,Tryz.ntmps93
      go_wp2_with (first | (go_at_call 51;refine (hH _).mono ?_;rintro e w' ⟨rfl,rfl⟩) | (go_at_call 152;refine (hD _).mono ?_;rintro e w' ⟨rfl,rfl⟩) | (go_at_call 153;refine (hM _).mono ?_;rintro e w' ⟨rfl,rfl⟩))
      go_ret
      exact⟨rfl,hb⟩
     ·have q15:decide (15<f)=false:=decide_eq_false h15
      by_cases h0:f=0
      ·rw[if_neg (by omega)]
       subst h0
       go_enter Tryz.func93,Tryz.ntmps93
       go_wp2_with (first | (go_at_call 51;refine (hH _).mono ?_;rintro e w' ⟨rfl,rfl⟩) | (go_at_call 152;refine (hD _).mono ?_;rintro e w' ⟨rfl,rfl⟩) | (go_at_call 153;refine (hM _).mono ?_;rintro e w' ⟨rfl,rfl⟩))
       go_ret
       exact⟨rfl,hb⟩
      ·rw[if_pos (by omega)]
       have q0:(f == 0)=false:=by simpa using h0
       go_enter Tryz.func93,Tryz.ntmps93
       go_wp2_with (first | (go_at_call 51;refine (hH _).mono ?_;rintro e w' ⟨rfl,rfl⟩) | (go_at_call 152;refine (hD _).mono ?_;rintro e w' ⟨rfl,rfl⟩) | (go_at_call 153;refine (hM _).mono ?_;rintro e w' ⟨rfl,rfl⟩))
       go_ret
       exact⟨rfl,hb⟩
   ·rw[if_pos (by simpa using hn)]
    have qn:((n:Int) == 0)=false:=by simpa using hn
    have qn2:((n:Int) != 0)=true:=by simpa using hn
    go_enter Tryz.func93,Tryz.ntmps93
    go_wp2_with (first | (go_at_call 51;refine (hH _).mono ?_;rintro e w' ⟨rfl,rfl⟩) | (go_at_call 152;refine (hD _).mono ?_;rintro e w' ⟨rfl,rfl⟩) | (go_at_call 153;refine (hM _).mono ?_;rintro e w' ⟨rfl,rfl⟩))
    go_ret
    exact⟨rfl,hb⟩
set_option maxRecDepth 100000 in
set_option maxHeartbeats 2000000 in
theorem refLawful_4 (c s n:Nat) (f:Int) (a:Option Addr) (len cap:Nat) (w:World) :
  Calls Tryz.prog 93 #[.agg #[.int .i64 4,.int .u32 c,.int .u32 s,.int .u32 n,.int .i64 f,.slice a len cap]] w fun e w'=>e=.returned (.int .i64 (LW 4 c s n f len len))∧Below w.heap.size w w':=by
 have hH:=refHost_any 4
 have hD:=refDevice_any 4
 have hM:=refData_any 4 len
 unfold LW
 rw[show hostK 4=true from rfl]at hH ⊢
 rw[show devK 4=false from rfl]at hD ⊢
 rw[show hNum 4=true from rfl,show mFl 4=15 from rfl]
 have hS:mSess 4 s=decide ((s:Int)≠0):=rfl
 generalize mData 4 len=D at *
 have hb:Below w.heap.size w (w.alloc (.cells #[.int .i64 4,.int .u32 c,.int .u32 s,.int .u32 n,.int .i64 f,.slice a len cap] 107)):=(Below.refl _ _).alloc (Nat.le_refl _) _
 rw[if_neg (by simp)]
 by_cases hc:(c:Int)=0
 ·rw[if_pos hc,hc]
  rw[hc]at hb
  go_enter Tryz.func93,Tryz.ntmps93
  go_wp2_with (first | (go_at_call 51;refine (hH _).mono ?_;rintro e w' ⟨rfl,rfl⟩) | (go_at_call 152;refine (hD _).mono ?_;rintro e w' ⟨rfl,rfl⟩) | (go_at_call 153;refine (hM _).mono ?_;rintro e w' ⟨rfl,rfl⟩))
  go_ret
  exact⟨rfl,hb⟩
 ·rw[if_neg hc]
  have qc:((c:Int) == 0)=false:=by simpa using hc
  cases D
  ·rw[if_pos (Or.inr rfl)]
   go_enter Tryz.func93,Tryz.ntmps93
   go_wp2_with (first | (go_at_call 51;refine (hH _).mono ?_;rintro e w' ⟨rfl,rfl⟩) | (go_at_call 152;refine (hD _).mono ?_;rintro e w' ⟨rfl,rfl⟩) | (go_at_call 153;refine (hM _).mono ?_;rintro e w' ⟨rfl,rfl⟩))
   go_ret
   exact⟨rfl,hb⟩
  ·rw[if_neg (by simp)]
   by_cases hs:(s:Int)=0
   ·rw[if_pos (by rw[hS];simpa using hs),hs]
    rw[hs]at hb
    go_enter Tryz.func93,Tryz.ntmps93
    go_wp2_with (first | (go_at_call 51;refine (hH _).mono ?_;rintro e w' ⟨rfl,rfl⟩) | (go_at_call 152;refine (hD _).mono ?_;rintro e w' ⟨rfl,rfl⟩) | (go_at_call 153;refine (hM _).mono ?_;rintro e w' ⟨rfl,rfl⟩))
    go_ret
    exact⟨rfl,hb⟩
   ·rw[if_neg (by rw[hS];simpa using hs)]
    have qs:((s:Int) == 0)=false:=by simpa using hs
    by_cases hn:(n:Int)=0
    ·rw[if_pos (by simp[hn]),hn]
     rw[hn]at hb
     go_enter Tryz.func93,Tryz.ntmps93
     go_wp2_with (first | (go_at_call 51;refine (hH _).mono ?_;rintro e w' ⟨rfl,rfl⟩) | (go_at_call 152;refine (hD _).mono ?_;rintro e w' ⟨rfl,rfl⟩) | (go_at_call 153;refine (hM _).mono ?_;rintro e w' ⟨rfl,rfl⟩))
     go_ret
     exact⟨rfl,hb⟩
    ·rw[if_neg (by simpa using hn)]
     have qn:((n:Int) == 0)=false:=by simpa using hn
     have qn2:((n:Int) != 0)=true:=by simpa using hn
     by_cases hf:f<0
     ·rw[if_pos (Or.inl hf)]
      have qf:decide (f<0)=true:=decide_eq_true hf
      go_enter Tryz.func93,Tryz.ntmps93
      go_wp2_with (first | (go_at_call 51;refine (hH _).mono ?_;rintro e w' ⟨rfl,rfl⟩) | (go_at_call 152;refine (hD _).mono ?_;rintro e w' ⟨rfl,rfl⟩) | (go_at_call 153;refine (hM _).mono ?_;rintro e w' ⟨rfl,rfl⟩))
      go_ret
      exact⟨rfl,hb⟩
     ·have qf:decide (f<0)=false:=decide_eq_false hf
      by_cases h15:15<f
      ·rw[if_pos (by omega)]
       have q15:decide (15<f)=true:=decide_eq_true h15
       go_enter Tryz.func93,Tryz.ntmps93
       go_wp2_with (first | (go_at_call 51;refine (hH _).mono ?_;rintro e w' ⟨rfl,rfl⟩) | (go_at_call 152;refine (hD _).mono ?_;rintro e w' ⟨rfl,rfl⟩) | (go_at_call 153;refine (hM _).mono ?_;rintro e w' ⟨rfl,rfl⟩))
       go_ret
       exact⟨rfl,hb⟩
      ·have q15:decide (15<f)=false:=decide_eq_false h15
       rw[if_neg (by omega)]
       go_enter Tryz.func93,Tryz.ntmps93
       go_wp2_with (first | (go_at_call 51;refine (hH _).mono ?_;rintro e w' ⟨rfl,rfl⟩) | (go_at_call 152;refine (hD _).mono ?_;rintro e w' ⟨rfl,rfl⟩) | (go_at_call 153;refine (hM _).mono ?_;rintro e w' ⟨rfl,rfl⟩))
       go_ret
       exact⟨rfl,hb⟩
set_option maxRecDepth 100000 in
set_option maxHeartbeats 2000000 in
theorem refLawful_20 (c s n:Nat) (f:Int) (a:Option Addr) (len cap:Nat) (w:World) :
  Calls Tryz.prog 93 #[.agg #[.int .i64 20,.int .u32 c,.int .u32 s,.int .u32 n,.int .i64 f,.slice a len cap]] w fun e w'=>e=.returned (.int .i64 (LW 20 c s n f len len))∧Below w.heap.size w w':=by
 have hH:=refHost_any 20
 have hD:=refDevice_any 20
 have hM:=refData_any 20 len
 unfold LW
 rw[show hostK 20=false from rfl]at hH ⊢
 rw[show devK 20=true from rfl]at hD ⊢
 rw[show hNum 20=true from rfl,show mFl 20=15 from rfl]
 have hS:mSess 20 s=decide ((s:Int)≠0):=rfl
 generalize mData 20 len=D at *
 have hb:Below w.heap.size w (w.alloc (.cells #[.int .i64 20,.int .u32 c,.int .u32 s,.int .u32 n,.int .i64 f,.slice a len cap] 107)):=(Below.refl _ _).alloc (Nat.le_refl _) _
 rw[if_neg (by simp)]
 by_cases hc:(c:Int)=0
 ·rw[if_pos hc,hc]
  rw[hc]at hb
  go_enter Tryz.func93,Tryz.ntmps93
  go_wp2_with (first | (go_at_call 51;refine (hH _).mono ?_;rintro e w' ⟨rfl,rfl⟩) | (go_at_call 152;refine (hD _).mono ?_;rintro e w' ⟨rfl,rfl⟩) | (go_at_call 153;refine (hM _).mono ?_;rintro e w' ⟨rfl,rfl⟩))
  go_ret
  exact⟨rfl,hb⟩
 ·rw[if_neg hc]
  have qc:((c:Int) == 0)=false:=by simpa using hc
  cases D
  ·rw[if_pos (Or.inr rfl)]
   go_enter Tryz.func93,Tryz.ntmps93
   go_wp2_with (first | (go_at_call 51;refine (hH _).mono ?_;rintro e w' ⟨rfl,rfl⟩) | (go_at_call 152;refine (hD _).mono ?_;rintro e w' ⟨rfl,rfl⟩) | (go_at_call 153;refine (hM _).mono ?_;rintro e w' ⟨rfl,rfl⟩))
   go_ret
   exact⟨rfl,hb⟩
  ·rw[if_neg (by simp)]
   by_cases hs:(s:Int)=0
   ·rw[if_pos (by rw[hS];simpa using hs),hs]
    rw[hs]at hb
    go_enter Tryz.func93,Tryz.ntmps93
    go_wp2_with (first | (go_at_call 51;refine (hH _).mono ?_;rintro e w' ⟨rfl,rfl⟩) | (go_at_call 152;refine (hD _).mono ?_;rintro e w' ⟨rfl,rfl⟩) | (go_at_call 153;refine (hM _).mono ?_;rintro e w' ⟨rfl,rfl⟩))
    go_ret
    exact⟨rfl,hb⟩
   ·rw[if_neg (by rw[hS];simpa using hs)]
    have qs:((s:Int) == 0)=false:=by simpa using hs
    by_cases hn:(n:Int)=0
    ·rw[if_pos (by simp[hn]),hn]
     rw[hn]at hb
     go_enter Tryz.func93,Tryz.ntmps93
     go_wp2_with (first | (go_at_call 51;refine (hH _).mono ?_;rintro e w' ⟨rfl,rfl⟩) | (go_at_call 152;refine (hD _).mono ?_;rintro e w' ⟨rfl,rfl⟩) | (go_at_call 153;refine (hM _).mono ?_;rintro e w' ⟨rfl,rfl⟩))
     go_ret
     exact⟨rfl,hb⟩
    ·rw[if_neg (by simpa using hn)]
     have qn:((n:Int) == 0)=false:=by simpa using hn
     have qn2:((n:Int) != 0)=true:=by simpa using hn
     by_cases hf:f<0
     ·rw[if_pos (Or.inl hf)]
      have qf:decide (f<0)=true:=decide_eq_true hf
      go_enter Tryz.func93,Tryz.ntmps93
      go_wp2_with (first | (go_at_call 51;refine (hH _).mono ?_;rintro e w' ⟨rfl,rfl⟩) | (go_at_call 152;refine (hD _).mono ?_;rintro e w' ⟨rfl,rfl⟩) | (go_at_call 153;refine (hM _).mono ?_;rintro e w' ⟨rfl,rfl⟩))
      go_ret
      exact⟨rfl,hb⟩
     ·have qf:decide (f<0)=false:=decide_eq_false hf
      by_cases h15:15<f
      ·rw[if_pos (by omega)]
       have q15:decide (15<f)=true:=decide_eq_true h15
       go_enter Tryz.func93,Tryz.ntmps93
       go_wp2_with (first | (go_at_call 51;refine (hH _).mono ?_;rintro e w' ⟨rfl,rfl⟩) | (go_at_call 152;refine (hD _).mono ?_;rintro e w' ⟨rfl,rfl⟩) | (go_at_call 153;refine (hM _).mono ?_;rintro e w' ⟨rfl,rfl⟩))
       go_ret
       exact⟨rfl,hb⟩
      ·have q15:decide (15<f)=false:=decide_eq_false h15
       rw[if_neg (by omega)]
       go_enter Tryz.func93,Tryz.ntmps93
       go_wp2_with (first | (go_at_call 51;refine (hH _).mono ?_;rintro e w' ⟨rfl,rfl⟩) | (go_at_call 152;refine (hD _).mono ?_;rintro e w' ⟨rfl,rfl⟩) | (go_at_call 153;refine (hM _).mono ?_;rintro e w' ⟨rfl,rfl⟩))
       go_ret
       exact⟨rfl,hb⟩
set_option maxRecDepth 100000 in
set_option maxHeartbeats 2000000 in
theorem refLawful_5 (c s n:Nat) (f:Int) (a:Option Addr) (len cap:Nat) (w:World) :
  Calls Tryz.prog 93 #[.agg #[.int .i64 5,.int .u32 c,.int .u32 s,.int .u32 n,.int .i64 f,.slice a len cap]] w fun e w'=>e=.returned (.int .i64 (LW 5 c s n f len len))∧Below w.heap.size w w':=by
 have hH:=refHost_any 5
 have hD:=refDevice_any 5
 have hM:=refData_any 5 len
 unfold LW
 rw[show hostK 5=true from rfl]at hH ⊢
 rw[show devK 5=false from rfl]at hD ⊢
 rw[show hNum 5=true from rfl,show mFl 5=0 from rfl]
 have hS:mSess 5 s=decide ((s:Int)≠0):=rfl
 generalize mData 5 len=D at *
 have hb:Below w.heap.size w (w.alloc (.cells #[.int .i64 5,.int .u32 c,.int .u32 s,.int .u32 n,.int .i64 f,.slice a len cap] 107)):=(Below.refl _ _).alloc (Nat.le_refl _) _
 rw[if_neg (by simp)]
 by_cases hc:(c:Int)=0
 ·rw[if_pos hc,hc]
  rw[hc]at hb
  go_enter Tryz.func93,Tryz.ntmps93
  go_wp2_with (first | (go_at_call 51;refine (hH _).mono ?_;rintro e w' ⟨rfl,rfl⟩) | (go_at_call 152;refine (hD _).mono ?_;rintro e w' ⟨rfl,rfl⟩) | (go_at_call 153;refine (hM _).mono ?_;rintro e w' ⟨rfl,rfl⟩))
  go_ret
  exact⟨rfl,hb⟩
 ·rw[if_neg hc]
  have qc:((c:Int) == 0)=false:=by simpa using hc
  cases D
  ·rw[if_pos (Or.inr rfl)]
   go_enter Tryz.func93,Tryz.ntmps93
   go_wp2_with (first | (go_at_call 51;refine (hH _).mono ?_;rintro e w' ⟨rfl,rfl⟩) | (go_at_call 152;refine (hD _).mono ?_;rintro e w' ⟨rfl,rfl⟩) | (go_at_call 153;refine (hM _).mono ?_;rintro e w' ⟨rfl,rfl⟩))
   go_ret
   exact⟨rfl,hb⟩
  ·rw[if_neg (by simp)]
   by_cases hs:(s:Int)=0
   ·rw[if_pos (by rw[hS];simpa using hs),hs]
    rw[hs]at hb
    go_enter Tryz.func93,Tryz.ntmps93
    go_wp2_with (first | (go_at_call 51;refine (hH _).mono ?_;rintro e w' ⟨rfl,rfl⟩) | (go_at_call 152;refine (hD _).mono ?_;rintro e w' ⟨rfl,rfl⟩) | (go_at_call 153;refine (hM _).mono ?_;rintro e w' ⟨rfl,rfl⟩))
    go_ret
    exact⟨rfl,hb⟩
   ·rw[if_neg (by rw[hS];simpa using hs)]
    have qs:((s:Int) == 0)=false:=by simpa using hs
    by_cases hn:(n:Int)=0
    ·rw[if_pos (by simp[hn]),hn]
     rw[hn]at hb
     go_enter Tryz.func93,Tryz.ntmps93
     go_wp2_with (first | (go_at_call 51;refine (hH _).mono ?_;rintro e w' ⟨rfl,rfl⟩) | (go_at_call 152;refine (hD _).mono ?_;rintro e w' ⟨rfl,rfl⟩) | (go_at_call 153;refine (hM _).mono ?_;rintro e w' ⟨rfl,rfl⟩))
     go_ret
     exact⟨rfl,hb⟩
    ·rw[if_neg (by simpa using hn)]
     have qn:((n:Int) == 0)=false:=by simpa using hn
     have qn2:((n:Int) != 0)=true:=by simpa using hn
     by_cases hf:f<0
     ·rw[if_pos (Or.inl hf)]
      have qf:decide (f<0)=true:=decide_eq_true hf
      go_enter Tryz.func93,Tryz.ntmps93
      go_wp2_with (first | (go_at_call 51;refine (hH _).mono ?_;rintro e w' ⟨rfl,rfl⟩) | (go_at_call 152;refine (hD _).mono ?_;rintro e w' ⟨rfl,rfl⟩) | (go_at_call 153;refine (hM _).mono ?_;rintro e w' ⟨rfl,rfl⟩))
      go_ret
      exact⟨rfl,hb⟩
     ·have qf:decide (f<0)=false:=decide_eq_false hf
      by_cases h15:15<f
      ·rw[if_pos (by omega)]
       have q15:decide (15<f)=true:=decide_eq_true h15
       go_enter Tryz.func93,Tryz.ntmps93
       go_wp2_with (first | (go_at_call 51;refine (hH _).mono ?_;rintro e w' ⟨rfl,rfl⟩) | (go_at_call 152;refine (hD _).mono ?_;rintro e w' ⟨rfl,rfl⟩) | (go_at_call 153;refine (hM _).mono ?_;rintro e w' ⟨rfl,rfl⟩))
       go_ret
       exact⟨rfl,hb⟩
      ·have q15:decide (15<f)=false:=decide_eq_false h15
       by_cases h0:f=0
       ·rw[if_neg (by omega)]
        subst h0
        go_enter Tryz.func93,Tryz.ntmps93
        go_wp2_with (first | (go_at_call 51;refine (hH _).mono ?_;rintro e w' ⟨rfl,rfl⟩) | (go_at_call 152;refine (hD _).mono ?_;rintro e w' ⟨rfl,rfl⟩) | (go_at_call 153;refine (hM _).mono ?_;rintro e w' ⟨rfl,rfl⟩))
        go_ret
        exact⟨rfl,hb⟩
       ·rw[if_pos (by omega)]
        have q0:(f == 0)=false:=by simpa using h0
        go_enter Tryz.func93,Tryz.ntmps93
        go_wp2_with (first | (go_at_call 51;refine (hH _).mono ?_;rintro e w' ⟨rfl,rfl⟩) | (go_at_call 152;refine (hD _).mono ?_;rintro e w' ⟨rfl,rfl⟩) | (go_at_call 153;refine (hM _).mono ?_;rintro e w' ⟨rfl,rfl⟩))
        go_ret
        exact⟨rfl,hb⟩
set_option maxRecDepth 100000 in
set_option maxHeartbeats 2000000 in
theorem refLawful_21 (c s n:Nat) (f:Int) (a:Option Addr) (len cap:Nat) (w:World) :
  Calls Tryz.prog 93 #[.agg #[.int .i64 21,.int .u32 c,.int .u32 s,.int .u32 n,.int .i64 f,.slice a len cap]] w fun e w'=>e=.returned (.int .i64 (LW 21 c s n f len len))∧Below w.heap.size w w':=by
 have hH:=refHost_any 21
 have hD:=refDevice_any 21
 have hM:=refData_any 21 len
 unfold LW
 rw[show hostK 21=false from rfl]at hH ⊢
 rw[show devK 21=true from rfl]at hD ⊢
 rw[show hNum 21=true from rfl,show mFl 21=0 from rfl]
 have hS:mSess 21 s=decide ((s:Int)≠0):=rfl
 generalize mData 21 len=D at *
 have hb:Below w.heap.size w (w.alloc (.cells #[.int .i64 21,.int .u32 c,.int .u32 s,.int .u32 n,.int .i64 f,.slice a len cap] 107)):=(Below.refl _ _).alloc (Nat.le_refl _) _
 rw[if_neg (by simp)]
 by_cases hc:(c:Int)=0
 ·rw[if_pos hc,hc]
  rw[hc]at hb
  go_enter Tryz.func93,Tryz.ntmps93
  go_wp2_with (first | (go_at_call 51;refine (hH _).mono ?_;rintro e w' ⟨rfl,rfl⟩) | (go_at_call 152;refine (hD _).mono ?_;rintro e w' ⟨rfl,rfl⟩) | (go_at_call 153;refine (hM _).mono ?_;rintro e w' ⟨rfl,rfl⟩))
  go_ret
  exact⟨rfl,hb⟩
 ·rw[if_neg hc]
  have qc:((c:Int) == 0)=false:=by simpa using hc
  cases D
  ·rw[if_pos (Or.inr rfl)]
   go_enter Tryz.func93,Tryz.ntmps93
   go_wp2_with (first | (go_at_call 51;refine (hH _).mono ?_;rintro e w' ⟨rfl,rfl⟩) | (go_at_call 152;refine (hD _).mono ?_;rintro e w' ⟨rfl,rfl⟩) | (go_at_call 153;refine (hM _).mono ?_;rintro e w' ⟨rfl,rfl⟩))
   go_ret
   exact⟨rfl,hb⟩
  ·rw[if_neg (by simp)]
   by_cases hs:(s:Int)=0
   ·rw[if_pos (by rw[hS];simpa using hs),hs]
    rw[hs]at hb
    go_enter Tryz.func93,Tryz.ntmps93
    go_wp2_with (first | (go_at_call 51;refine (hH _).mono ?_;rintro e w' ⟨rfl,rfl⟩) | (go_at_call 152;refine (hD _).mono ?_;rintro e w' ⟨rfl,rfl⟩) | (go_at_call 153;refine (hM _).mono ?_;rintro e w' ⟨rfl,rfl⟩))
    go_ret
    exact⟨rfl,hb⟩
   ·rw[if_neg (by rw[hS];simpa using hs)]
    have qs:((s:Int) == 0)=false:=by simpa using hs
    by_cases hn:(n:Int)=0
    ·rw[if_pos (by simp[hn]),hn]
     rw[hn]at hb
     go_enter Tryz.func93,Tryz.ntmps93
     go_wp2_with (first | (go_at_call 51;refine (hH _).mono ?_;rintro e w' ⟨rfl,rfl⟩) | (go_at_call 152;refine (hD _).mono ?_;rintro e w' ⟨rfl,rfl⟩) | (go_at_call 153;refine (hM _).mono ?_;rintro e w' ⟨rfl,rfl⟩))
     go_ret
     exact⟨rfl,hb⟩
    ·rw[if_neg (by simpa using hn)]
     have qn:((n:Int) == 0)=false:=by simpa using hn
     have qn2:((n:Int) != 0)=true:=by simpa using hn
     by_cases hf:f<0
     ·rw[if_pos (Or.inl hf)]
      have qf:decide (f<0)=true:=decide_eq_true hf
      go_enter Tryz.func93,Tryz.ntmps93
      go_wp2_with (first | (go_at_call 51;refine (hH _).mono ?_;rintro e w' ⟨rfl,rfl⟩) | (go_at_call 152;refine (hD _).mono ?_;rintro e w' ⟨rfl,rfl⟩) | (go_at_call 153;refine (hM _).mono ?_;rintro e w' ⟨rfl,rfl⟩))
      go_ret
      exact⟨rfl,hb⟩
     ·have qf:decide (f<0)=false:=decide_eq_false hf
      by_cases h15:15<f
      ·rw[if_pos (by omega)]
       have q15:decide (15<f)=true:=decide_eq_true h15
       go_enter Tryz.func93,Tryz.ntmps93
       go_wp2_with (first | (go_at_call 51;refine (hH _).mono ?_;rintro e w' ⟨rfl,rfl⟩) | (go_at_call 152;refine (hD _).mono ?_;rintro e w' ⟨rfl,rfl⟩) | (go_at_call 153;refine (hM _).mono ?_;rintro e w' ⟨rfl,rfl⟩))
       go_ret
       exact⟨rfl,hb⟩
      ·have q15:decide (15<f)=false:=decide_eq_false h15
       by_cases h0:f=0
       ·rw[if_neg (by omega)]
        subst h0
        go_enter Tryz.func93,Tryz.ntmps93
        go_wp2_with (first | (go_at_call 51;refine (hH _).mono ?_;rintro e w' ⟨rfl,rfl⟩) | (go_at_call 152;refine (hD _).mono ?_;rintro e w' ⟨rfl,rfl⟩) | (go_at_call 153;refine (hM _).mono ?_;rintro e w' ⟨rfl,rfl⟩))
        go_ret
        exact⟨rfl,hb⟩
       ·rw[if_pos (by omega)]
        have q0:(f == 0)=false:=by simpa using h0
        go_enter Tryz.func93,Tryz.ntmps93
        go_wp2_with (first | (go_at_call 51;refine (hH _).mono ?_;rintro e w' ⟨rfl,rfl⟩) | (go_at_call 152;refine (hD _).mono ?_;rintro e w' ⟨rfl,rfl⟩) | (go_at_call 153;refine (hM _).mono ?_;rintro e w' ⟨rfl,rfl⟩))
        go_ret
        exact⟨rfl,hb⟩
set_option maxRecDepth 100000 in
set_option maxHeartbeats 2000000 in
theorem refLawful_other (k:Int) (h1:k≠1) (h22:k≠22) (h4:k≠4) (h20:k≠20) (h5:k≠5) (h21:k≠21) (c s n:Nat) (f:Int) (a:Option Addr) (len cap:Nat) (w:World) :
  Calls Tryz.prog 93 #[.agg #[.int .i64 k,.int .u32 c,.int .u32 s,.int .u32 n,.int .i64 f,.slice a len cap]] w fun e w'=>e=.returned (.int .i64 (LW k c s n f len len))∧Below w.heap.size w w':=by
 have hH:=refHost_any k
 have hD:=refDevice_any k
 have hM:=refData_any k len
 have hc0:¬ cont k=2:=by
  intro e
  unfold cont at e
  by_cases g1:k=1∨k=2∨k=17
  ·rw[if_pos g1]at e;omega
  ·rw[if_neg g1,if_neg (by omega)]at e;omega
 have hN:hNum k=false:=decide_eq_false (by omega)
 have hF:mFl k=0:=if_neg hc0
 have q1:(k == 1)=false:=by simpa using h1
 have q22:(k == 22)=false:=by simpa using h22
 have p1:(k != 1)=true:=by simpa using h1
 have p22:(k != 22)=true:=by simpa using h22
 have q4:(k == 4)=false:=by simpa using h4
 have q20:(k == 20)=false:=by simpa using h20
 have q5:(k == 5)=false:=by simpa using h5
 have q21:(k == 21)=false:=by simpa using h21
 have hS:mSess k s=decide ((s:Int)≠0):=by unfold mSess;rw[if_neg h1,if_neg h22]
 unfold LW
 rw[hS,hF,hN]
 clear hF hN hc0 h1 h22 h4 h20 h5 h21
 generalize hostK k=A at *
 generalize devK k=B at *
 generalize mData k len=D at *
 generalize mSess k s=S at *
 have hb:Below w.heap.size w (w.alloc (.cells #[.int .i64 k,.int .u32 c,.int .u32 s,.int .u32 n,.int .i64 f,.slice a len cap] 107)):=(Below.refl _ _).alloc (Nat.le_refl _) _
 by_cases h0:A=false∧B=false
 ·obtain⟨rfl,rfl⟩:=h0
  rw[if_pos ⟨rfl,rfl⟩]
  clear hS
  go_enter Tryz.func93,Tryz.ntmps93
  go_wp2_with (first | (go_at_call 51;refine (hH _).mono ?_;rintro e w' ⟨rfl,rfl⟩) | (go_at_call 152;refine (hD _).mono ?_;rintro e w' ⟨rfl,rfl⟩) | (go_at_call 153;refine (hM _).mono ?_;rintro e w' ⟨rfl,rfl⟩))
  go_ret
  exact⟨rfl,hb⟩
 ·rw[if_neg h0]
  have h1:A=true∨(A=false∧B=true):=by
   cases A
   ·cases B
    ·exact absurd ⟨rfl,rfl⟩ h0
    ·exact Or.inr ⟨rfl,rfl⟩
   ·exact Or.inl rfl
  clear h0
  by_cases hc:(c:Int)=0
  ·rw[if_pos hc,hc]
   rw[hc]at hb
   clear hS
   rcases h1 with rfl | ⟨rfl,rfl⟩
   all_goals
    go_enter Tryz.func93,Tryz.ntmps93
    go_wp2_with (first | (go_at_call 51;refine (hH _).mono ?_;rintro e w' ⟨rfl,rfl⟩) | (go_at_call 152;refine (hD _).mono ?_;rintro e w' ⟨rfl,rfl⟩) | (go_at_call 153;refine (hM _).mono ?_;rintro e w' ⟨rfl,rfl⟩))
    go_ret
    exact⟨rfl,hb⟩
  ·rw[if_neg hc]
   have qc:((c:Int) == 0)=false:=by simpa using hc
   cases D
   ·rw[if_pos (Or.inr rfl)]
    clear hS
    rcases h1 with rfl | ⟨rfl,rfl⟩
    all_goals
     go_enter Tryz.func93,Tryz.ntmps93
     go_wp2_with (first | (go_at_call 51;refine (hH _).mono ?_;rintro e w' ⟨rfl,rfl⟩) | (go_at_call 152;refine (hD _).mono ?_;rintro e w' ⟨rfl,rfl⟩) | (go_at_call 153;refine (hM _).mono ?_;rintro e w' ⟨rfl,rfl⟩))
     go_ret
     exact⟨rfl,hb⟩
   ·rw[if_neg (by simp)]
    by_cases hs:(s:Int)=0
    ·rw[if_pos (by simp[hs]),hs]
     rw[hs]at hb
     rcases h1 with rfl | ⟨rfl,rfl⟩
     all_goals
      go_enter Tryz.func93,Tryz.ntmps93
      go_wp2_with (first | (go_at_call 51;refine (hH _).mono ?_;rintro e w' ⟨rfl,rfl⟩) | (go_at_call 152;refine (hD _).mono ?_;rintro e w' ⟨rfl,rfl⟩) | (go_at_call 153;refine (hM _).mono ?_;rintro e w' ⟨rfl,rfl⟩))
      go_ret
      exact⟨rfl,hb⟩
    ·rw[if_neg (by simpa using hs)]
     have qs:((s:Int) == 0)=false:=by simpa using hs
     by_cases hn:(n:Int)=0
     ·rw[if_neg (by simp[hn]),hn]
      rw[hn]at hb
      by_cases hf:f<0
      ·rw[if_pos (Or.inl hf)]
       have qf:decide (f<0)=true:=decide_eq_true hf
       rcases h1 with rfl | ⟨rfl,rfl⟩
       all_goals
        go_enter Tryz.func93,Tryz.ntmps93
        go_wp2_with (first | (go_at_call 51;refine (hH _).mono ?_;rintro e w' ⟨rfl,rfl⟩) | (go_at_call 152;refine (hD _).mono ?_;rintro e w' ⟨rfl,rfl⟩) | (go_at_call 153;refine (hM _).mono ?_;rintro e w' ⟨rfl,rfl⟩))
        go_ret
        exact⟨rfl,hb⟩
      ·have qf:decide (f<0)=false:=decide_eq_false hf
       by_cases h15:15<f
       ·rw[if_pos (by omega)]
        have q15:decide (15<f)=true:=decide_eq_true h15
        rcases h1 with rfl | ⟨rfl,rfl⟩
        all_goals
         go_enter Tryz.func93,Tryz.ntmps93
         go_wp2_with (first | (go_at_call 51;refine (hH _).mono ?_;rintro e w' ⟨rfl,rfl⟩) | (go_at_call 152;refine (hD _).mono ?_;rintro e w' ⟨rfl,rfl⟩) | (go_at_call 153;refine (hM _).mono ?_;rintro e w' ⟨rfl,rfl⟩))
         go_ret
         exact⟨rfl,hb⟩
       ·have q15:decide (15<f)=false:=decide_eq_false h15
        by_cases h0:f=0
        ·rw[if_neg (by omega)]
         subst h0
         rcases h1 with rfl | ⟨rfl,rfl⟩
         all_goals
          go_enter Tryz.func93,Tryz.ntmps93
          go_wp2_with (first | (go_at_call 51;refine (hH _).mono ?_;rintro e w' ⟨rfl,rfl⟩) | (go_at_call 152;refine (hD _).mono ?_;rintro e w' ⟨rfl,rfl⟩) | (go_at_call 153;refine (hM _).mono ?_;rintro e w' ⟨rfl,rfl⟩))
          go_ret
          exact⟨rfl,hb⟩
        ·rw[if_pos (by omega)]
         have q0:(f == 0)=false:=by simpa using h0
         rcases h1 with rfl | ⟨rfl,rfl⟩
         all_goals
          go_enter Tryz.func93,Tryz.ntmps93
          go_wp2_with (first | (go_at_call 51;refine (hH _).mono ?_;rintro e w' ⟨rfl,rfl⟩) | (go_at_call 152;refine (hD _).mono ?_;rintro e w' ⟨rfl,rfl⟩) | (go_at_call 153;refine (hM _).mono ?_;rintro e w' ⟨rfl,rfl⟩))
          go_ret
          exact⟨rfl,hb⟩
     ·rw[if_pos (by simpa using hn)]
      have qn:((n:Int) == 0)=false:=by simpa using hn
      have qn2:((n:Int) != 0)=true:=by simpa using hn
      rcases h1 with rfl | ⟨rfl,rfl⟩
      all_goals
       go_enter Tryz.func93,Tryz.ntmps93
       go_wp2_with (first | (go_at_call 51;refine (hH _).mono ?_;rintro e w' ⟨rfl,rfl⟩) | (go_at_call 152;refine (hD _).mono ?_;rintro e w' ⟨rfl,rfl⟩) | (go_at_call 153;refine (hM _).mono ?_;rintro e w' ⟨rfl,rfl⟩))
       go_ret
       exact⟨rfl,hb⟩
theorem refLawful_any (k:Int) (c s n:Nat) (f:Int) (a:Option Addr) (len cap:Nat) (w:World) :
  Calls Tryz.prog 93 #[.agg #[.int .i64 k,.int .u32 c,.int .u32 s,.int .u32 n,.int .i64 f,.slice a len cap]] w fun e w'=>e=.returned (.int .i64 (LW k c s n f len len))∧Below w.heap.size w w':=by
 by_cases h1:k=1
 ·subst h1;exact refLawful_1 c s n f a len cap w
 by_cases h22:k=22
 ·subst h22;exact refLawful_22 c s n f a len cap w
 by_cases h4:k=4
 ·subst h4;exact refLawful_4 c s n f a len cap w
 by_cases h20:k=20
 ·subst h20;exact refLawful_20 c s n f a len cap w
 by_cases h5:k=5
 ·subst h5;exact refLawful_5 c s n f a len cap w
 by_cases h21:k=21
 ·subst h21;exact refLawful_21 c s n f a len cap w
 exact refLawful_other k h1 h22 h4 h20 h5 h21 c s n f a len cap w
theorem fr_build2 (K c s n F len:Nat) (bs:Nat→Nat) (i:Nat) (_:i<15+len) :
  (if i<15 then (if i<13 then (if i<9 then (if i<5 then (if i=0 then K else PM.w4 c (i-1)) else PM.w4 s (i-5)) else PM.w4 n (i-9)) else (if i-13=0 then F else len)) else bs (i-15))=fr K c s n F len bs i:=by
 unfold fr
 by_cases h0:i=0
 ·simp (disch:=omega) only [if_pos]
 ·by_cases h1:i<5
  ·simp (disch:=omega) only [if_pos,if_neg]
  ·by_cases h2:i<9
   ·simp (disch:=omega) only [if_pos,if_neg]
   ·by_cases h3:i<13
    ·simp (disch:=omega) only [if_pos,if_neg]
    ·by_cases h4:i=13
     ·simp (disch:=omega) only [if_pos,if_neg]
     ·by_cases h5:i=14
      ·simp (disch:=omega) only [if_pos,if_neg]
      ·simp (disch:=omega) only [if_pos,if_neg]
theorem row2 (w:World) (x y:Nat) (hx:x<256) (hy:y<256):Row8 (w.alloc (.cells #[.int .u8 (x:Int),.int .u8 (y:Int)] 5)) (some ⟨w.heap.size,0,none⟩) 2 2 (fun i=>if i=0 then x else y):=by
 refine row8_new w _ _ _ 2 (fun i _=>?_) (fun i hi=>?_)
 ·by_cases h:i=0
  ·rw[if_pos h];exact hx
  ·rw[if_neg h];exact hy
 ·rcases (show i=0∨i=1 by omega) with rfl | rfl <;> rfl
set_option maxRecDepth 100000 in
set_option maxHeartbeats 1000000 in
theorem refEncode_bad (k:Int) (c s n:Nat) (f:Int) (a:Option Addr) (len cap:Nat) (w:World) (hE:LW k c s n f len len≠0) :
  Calls Tryz.prog 81 #[.agg #[.int .i64 k,.int .u32 c,.int .u32 s,.int .u32 n,.int .i64 f,.slice a len cap]] w fun e w'=>e=.returned (.tuple #[.slice none 0 0,.int .i64 (LW k c s n f len len)])∧Below w.heap.size w w':=by
 have hb:Below w.heap.size w (w.alloc (.cells #[.int .i64 k,.int .u32 c,.int .u32 s,.int .u32 n,.int .i64 f,.slice a len cap] 107)):=(Below.refl _ _).alloc (Nat.le_refl _) _
 have hF:=refLawful_any k c s n f a len cap (w.alloc (.cells #[.int .i64 k,.int .u32 c,.int .u32 s,.int .u32 n,.int .i64 f,.slice a len cap] 107))
 generalize LW k c s n f len len=E at *
 have q:(E == 0)=false:=by simpa using hE
 go_enter Tryz.func81,Tryz.ntmps81
 go_wp2_with fail
 refine hF.mono ?_
 rintro e w1 ⟨rfl,hb1⟩
 have hb2:=below_all hb hb.size hb1
 clear hb hF hb1
 go_wp2_with fail
 go_ret2
 exact⟨rfl,hb2⟩
set_option maxRecDepth 100000 in
set_option maxHeartbeats 2000000 in
theorem refEncode_good (K c s n F:Nat) (a:Option Addr) (len cap:Nat) (bs:Nat→Nat) (w:World) (hr:Row8 w a len cap bs) (hc:c<4294967296) (hs:s<4294967296) (hn:n<4294967296) (hE:LW K c s n F len len=0) :
  Calls Tryz.prog 81 #[.agg #[.int .i64 K,.int .u32 c,.int .u32 s,.int .u32 n,.int .i64 F,.slice a len cap]] w fun e w'=>∃ v,e=.returned (.tuple #[v,.int .i64 0]) ∧
   Hid (w'.ownsRow w.heap.size 5 1 v (15+len+4) (CB (PM.sl (fr K c s n F len bs) (15+len)) (15+len+4))∧Below w.heap.size w w'):=by
 obtain⟨i0,hi,hz0,hz1,hz2⟩:=info_parts info_u8
 obtain⟨hkk,_,_,hll,hff⟩:=LW_zero hE
 have hA:Below w.heap.size w (w.alloc (.cells #[.int .i64 K,.int .u32 c,.int .u32 s,.int .u32 n,.int .i64 F,.slice a len cap] 107)):=(Below.refl _ _).alloc (Nat.le_refl _) _
 have hL:=refLawful_any K c s n F a len cap (w.alloc (.cells #[.int .i64 K,.int .u32 c,.int .u32 s,.int .u32 n,.int .i64 F,.slice a len cap] 107))
 rw[hE]at hL
 have hX:=box_new w K c s n F (.slice a len cap)
 have hAs:w.heap.size < (w.alloc (.cells #[.int .i64 K,.int .u32 c,.int .u32 s,.int .u32 n,.int .i64 F,.slice a len cap] 107)).heap.size:=by simp
 have hrA:=hr.below hA
 clear hE hr
 go_enter Tryz.func81,Tryz.ntmps81
 go_wp2_with fail
 refine hL.mono ?_
 rintro e w1 ⟨rfl,hb1⟩
 generalize w.alloc (.cells #[.int .i64 K,.int .u32 c,.int .u32 s,.int .u32 n,.int .i64 F,.slice a len cap] 107)=wa at *
 have hs1:=hb1.size
 have hb2:=hb1.alloc hs1 (.cells #[.int .u8 (K:Int)] 5)
 have O2:(w1.alloc (.cells #[.int .u8 (K:Int)] 5)).ownsRow wa.heap.size 5 1 (.slice (some ⟨w1.heap.size,0,none⟩) 1 1) 1 (CB (fun _=>K) 1):=⟨rfl,.inr ⟨w1.heap.size,1,_,rfl,hs1,heap_alloc_new w1 _,Nat.le_refl _,by unfold maxLen;omega,rfl,rfl⟩⟩
 have hKm:(K:Int) % 256=(K:Int):=by omega
 have hFm:(F:Int) % 256=(F:Int):=by omega
 have hlm:(len:Int) % 256=(len:Int):=by omega
 have x0:=(hX w1 hb1).c0
 have x1:=(hX _ hb2).c1
 clear hL
 go_wp2_with fail
 generalize w1.alloc (.cells #[.int .u8 (K:Int)] 5)=w2 at *
 refine (refWord_any c _ hc).mono ?_
 rintro e u3 ⟨rfl,rfl⟩
 have R3:=row4 w2 c hc
 have P3:=O2.alloc (.cells #[.int .u8 ((c:Int) / 16777216),.int .u8 ((c:Int) / 65536 % 256),.int .u8 ((c:Int) / 256 % 256),.int .u8 ((c:Int) % 256)] 5)
 have hs3:wa.heap.size≤w2.heap.size:=hb2.size
 have B3:=hb2.alloc hs3 (.cells #[.int .u8 ((c:Int) / 16777216),.int .u8 ((c:Int) / 65536 % 256),.int .u8 ((c:Int) / 256 % 256),.int .u8 ((c:Int) % 256)] 5)
 have ht3:=B3.size
 clear O2 hb2
 go_wp2_with (at_builtin;refine wpList_append_row8 rfl (.tmp 15) (.tmp 18) 50 rfl wa.heap.size 5 i0 (.int .u8 0) Tryz.underlying50 hi hz0 hz1 hz2 rfl _ 1 _ rfl P3 _ 4 4 (PM.w4 c) rfl R3 (by unfold maxLen;omega) (by omega) ht3 ?_)
 intro v3 w3 O3 G3
 have C3:Below wa.heap.size wa w3:=B3.grown G3 ht3 (fun j hj=>(P3.lt j hj).1)
 rw[CB_append]at O3
 clear R3 P3 B3 G3
 have x2:=(hX w3 C3).c2
 go_wp2_with fail
 refine (refWord_any s _ hs).mono ?_
 rintro e u4 ⟨rfl,rfl⟩
 have R4:=row4 (w3) s hs
 have P4:=O3.alloc (.cells #[.int .u8 ((s:Int) / 16777216),.int .u8 ((s:Int) / 65536 % 256),.int .u8 ((s:Int) / 256 % 256),.int .u8 ((s:Int) % 256)] 5)
 have hs4:wa.heap.size ≤ (w3).heap.size:=C3.size
 have B4:=C3.alloc hs4 (.cells #[.int .u8 ((s:Int) / 16777216),.int .u8 ((s:Int) / 65536 % 256),.int .u8 ((s:Int) / 256 % 256),.int .u8 ((s:Int) % 256)] 5)
 have ht4:=B4.size
 clear O3 C3
 go_wp2_with (at_builtin;refine wpList_append_row8 rfl (.tmp 20) (.tmp 23) 50 rfl wa.heap.size 5 i0 (.int .u8 0) Tryz.underlying50 hi hz0 hz1 hz2 rfl _ 5 _ rfl P4 _ 4 4 (PM.w4 s) rfl R4 (by unfold maxLen;omega) (by omega) ht4 ?_)
 intro v4 w4 O4 G4
 have C4:Below wa.heap.size wa w4:=B4.grown G4 ht4 (fun j hj=>(P4.lt j hj).1)
 rw[CB_append]at O4
 clear R4 P4 B4 G4
 have x3:=(hX w4 C4).c3
 go_wp2_with fail
 refine (refWord_any n _ hn).mono ?_
 rintro e u5 ⟨rfl,rfl⟩
 have R5:=row4 (w4) n hn
 have P5:=O4.alloc (.cells #[.int .u8 ((n:Int) / 16777216),.int .u8 ((n:Int) / 65536 % 256),.int .u8 ((n:Int) / 256 % 256),.int .u8 ((n:Int) % 256)] 5)
 have hs5:wa.heap.size ≤ (w4).heap.size:=C4.size
 have B5:=C4.alloc hs5 (.cells #[.int .u8 ((n:Int) / 16777216),.int .u8 ((n:Int) / 65536 % 256),.int .u8 ((n:Int) / 256 % 256),.int .u8 ((n:Int) % 256)] 5)
 have ht5:=B5.size
 clear O4 C4
 go_wp2_with (at_builtin;refine wpList_append_row8 rfl (.tmp 25) (.tmp 28) 50 rfl wa.heap.size 5 i0 (.int .u8 0) Tryz.underlying50 hi hz0 hz1 hz2 rfl _ 9 _ rfl P5 _ 4 4 (PM.w4 n) rfl R5 (by unfold maxLen;omega) (by omega) ht5 ?_)
 intro v5 w5 O5 G5
 have C5:Below wa.heap.size wa w5:=B5.grown G5 ht5 (fun j hj=>(P5.lt j hj).1)
 rw[CB_append]at O5
 clear R5 P5 B5 G5
 have x4:=(hX w5 C5).c4
 have x5:=(hX w5 C5).c5
 have R6:=row2 w5 F len (by omega) (by omega)
 have P6:=O5.alloc (.cells #[.int .u8 (F:Int),.int .u8 (len:Int)] 5)
 have hs6:=C5.size
 have B6:=C5.alloc hs6 (.cells #[.int .u8 (F:Int),.int .u8 (len:Int)] 5)
 have ht6:=B6.size
 clear O5 C5
 go_wp2_with (at_builtin;refine wpList_append_row8 rfl (.tmp 30) (.tmp 38) 50 rfl wa.heap.size 5 i0 (.int .u8 0) Tryz.underlying50 hi hz0 hz1 hz2 rfl _ 13 _ rfl P6 _ 2 2 (fun i=>if i=0 then F else len) rfl R6 (by unfold maxLen;omega) (by omega) ht6 ?_)
 intro v6 w6 O6 G6
 have C6:Below wa.heap.size wa w6:=B6.grown G6 ht6 (fun j hj=>(P6.lt j hj).1)
 rw[CB_append]at O6
 clear R6 P6 B6 G6
 have x6:=(hX w6 C6).c5
 have R7:=hrA.below C6
 have ht7:=C6.size
 go_wp2_with (at_builtin;refine wpList_append_row8 rfl (.tmp 40) (.tmp 42) 50 rfl wa.heap.size 5 i0 (.int .u8 0) Tryz.underlying50 hi hz0 hz1 hz2 rfl _ 15 _ rfl O6 a len cap bs rfl R7 (by unfold maxLen;omega) (by omega) ht7 ?_)
 intro v7 w7 O7 G7
 have C7:Below wa.heap.size wa w7:=C6.grown G7 ht7 (fun j hj=>(O6.lt j hj).1)
 rw[CB_append,CB_congr _ (fr K c s n F len bs) _ (fun j hj=>fr_build2 K c s n F len bs j (by omega))]at O7
 have hby:∀ i,i<15+len→fr K c s n F len bs i<256:=fr_lt (by omega) (by omega) (by omega) hrA.byte
 obtain⟨a8,c8,rfl,R8⟩:=own_row8 O7 hby
 have hS:=refSeal_row a8 (15+len) c8 _ w7 R8 (by omega)
 have hs8:=C7.size
 have hBB:Below w.heap.size w w7:=hA.trans (C7.mono (Nat.le_of_lt hAs))
 clear O6 C6 R7 G7 O7 R8 hX x0 x1 x2 x3 x4 x5 x6 hrA
 go_wp2_with fail
 refine hS.mono ?_
 rintro e w9 ⟨v,rfl,own9,bel9⟩
 clear hS
 go_wp2_with fail
 go_ret2
 exact⟨v,rfl,own_base own9 (by omega),below_all hBB (by omega) bel9⟩
set_option maxHeartbeats 1000000 in
theorem refWordOf_any (b off len cap x0 x1 x2 x3:Nat) (w:World) (hlen:(3:Int) < (len:Int)) (h0:x0<256) (h1:x1<256) (h2:x2<256) (h3:x3<256)
  (c0:w.cell? ⟨b,off,none⟩=some (.int .u8 x0)) (c1:w.cell? ⟨b,off+1,none⟩=some (.int .u8 x1)) (c2:w.cell? ⟨b,off+2,none⟩=some (.int .u8 x2)) (c3:w.cell? ⟨b,off+3,none⟩=some (.int .u8 x3)) :
  Calls Tryz.prog 92 #[.slice (some ⟨b,off,none⟩) len cap] w fun e w'=>e=.returned (.int .u32 ((x0*16777216+x1*65536+x2*256+x3:Nat):Int))∧∃ m,w'=w.drewN m:=by
 have hn:=word_num x0 x1 x2 x3 h0 h1 h2 h3
 have l0:(0:Int) < (len:Int):=by omega
 have l1:(1:Int) < (len:Int):=by omega
 have l2:(2:Int) < (len:Int):=by omega
 generalize x0*16777216+x1*65536+x2*256+x3=y at *
 go_enter Tryz.func92,Tryz.ntmps92
 go_wp2_with fail
 go_quiet (fail)
 go_wp2
 go_ret
 exact⟨rfl,_,rfl⟩
theorem refWordOf_row (b off len cap i L C:Nat) (bs:Nat→Nat) (w:World) (hr:Row8 w (some ⟨b,off,none⟩) len cap bs) (h:i+4≤len) (hL:4≤L) :
  Calls Tryz.prog 92 #[.slice (some ⟨b,off+i,none⟩) L C] w fun e w'=>e=.returned (.int .u32 (w4v bs i:Nat))∧∃ m,w'=w.drewN m:=by
 have s:=hr.src _ rfl
 have q:=hr.byte
 have t0:=s i (by omega);have t1:=s (i+1) (by omega);have t2:=s (i+2) (by omega);have t3:=s (i+3) (by omega)
 rw[Go.WideShapes.add_plain]at t0 t1 t2 t3
 exact refWordOf_any b (off+i) L C _ _ _ _ w (by omega) (q i (by omega)) (q (i+1) (by omega)) (q (i+2) (by omega)) (q (i+3) (by omega)) t0 t1 t2 t3
set_option maxRecDepth 100000 in
set_option maxHeartbeats 1000000 in
theorem refDec_short (a:Option Addr) (len cap:Nat) (w:World) (h:len<19) :
  Calls Tryz.prog 50 #[.slice a len cap] w fun e w'=>e=.returned (.tuple #[.agg #[.int .i64 0,.int .u32 0,.int .u32 0,.int .u32 0,.int .i64 0,.slice none 0 0],.int .i64 40])∧Below w.heap.size w w':=by
 have hA:Below w.heap.size w (w.alloc (.cells #[.int .i64 0,.int .u32 0,.int .u32 0,.int .u32 0,.int .i64 0,.slice none 0 0] 107)):=(Below.refl _ _).alloc (Nat.le_refl _) _
 have q:decide ((len:Int)<19)=true:=by simp;omega
 go_enter Tryz.func50,Tryz.ntmps50
 go_wp2_with fail
 refine bodyPost_ret (v:=.tuple #[.agg #[.int .i64 0,.int .u32 0,.int .u32 0,.int .u32 0,.int .i64 0,.slice none 0 0],.int .i64 40]) (by simp[results,Tryz.results50,go_sem]) rfl ⟨rfl,hA⟩
set_option maxRecDepth 100000 in
set_option maxHeartbeats 1000000 in
theorem refDec_big (a:Option Addr) (len cap:Nat) (w:World) (h:27<len) :
  Calls Tryz.prog 50 #[.slice a len cap] w fun e w'=>e=.returned (.tuple #[.agg #[.int .i64 0,.int .u32 0,.int .u32 0,.int .u32 0,.int .i64 0,.slice none 0 0],.int .i64 41])∧Below w.heap.size w w':=by
 have hA:Below w.heap.size w (w.alloc (.cells #[.int .i64 0,.int .u32 0,.int .u32 0,.int .u32 0,.int .i64 0,.slice none 0 0] 107)):=(Below.refl _ _).alloc (Nat.le_refl _) _
 have q:decide ((len:Int)<19)=false:=by simp;omega
 have q2:decide ((27:Int) < (len:Int))=true:=by simp;omega
 go_enter Tryz.func50,Tryz.ntmps50
 go_wp2_with fail
 refine bodyPost_ret (v:=.tuple #[.agg #[.int .i64 0,.int .u32 0,.int .u32 0,.int .u32 0,.int .i64 0,.slice none 0 0],.int .i64 41]) (by simp[results,Tryz.results50,go_sem]) rfl ⟨rfl,hA⟩
set_option maxRecDepth 100000 in
set_option maxHeartbeats 1000000 in
theorem refDec_check (a:Option Addr) (len cap:Nat) (bs:Nat→Nat) (w:World) (hr:Row8 w a len cap bs) (h1:19≤len) (h2:len≤27) (hv:¬ vld bs len) :
  Calls Tryz.prog 50 #[.slice a len cap] w fun e w'=>e=.returned (.tuple #[.agg #[.int .i64 0,.int .u32 0,.int .u32 0,.int .u32 0,.int .i64 0,.slice none 0 0],.int .i64 42])∧Below w.heap.size w w':=by
 have hA:Below w.heap.size w (w.alloc (.cells #[.int .i64 0,.int .u32 0,.int .u32 0,.int .u32 0,.int .i64 0,.slice none 0 0] 107)):=(Below.refl _ _).alloc (Nat.le_refl _) _
 have hV:=refValid_row a len cap bs (w.alloc (.cells #[.int .i64 0,.int .u32 0,.int .u32 0,.int .u32 0,.int .i64 0,.slice none 0 0] 107)) (hr.below hA) (by omega)
 have hd:decide (4≤len∧PM.R PM.g 32 (PM.V (PM.fb bs) (8*len))=0)=false:=decide_eq_false (fun e=>hv e.2)
 rw[hd]at hV
 clear hd
 have q:decide ((len:Int)<19)=false:=by simp;omega
 have q2:decide ((27:Int) < (len:Int))=false:=by simp;omega
 have hY:=box_zero w
 have hYf:=fun i wx hb=>unit_frozen w #[.int .i64 0,.int .u32 0,.int .u32 0,.int .u32 0,.int .i64 0,.slice none 0 0] i wx hb
 clear hv hr
 go_enter Tryz.func50,Tryz.ntmps50
 go_wp2_with fail
 generalize w.alloc (.cells #[.int .i64 0,.int .u32 0,.int .u32 0,.int .u32 0,.int .i64 0,.slice none 0 0] 107)=wa at *
 refine hV.mono ?_
 rintro e w1 ⟨rfl,hb1⟩
 have yf:=fun i=>hYf i w1 hb1
 obtain⟨y0,y1,y2,y3,y4,y5⟩:=hY w1 hb1
 have HB:Hid (_):=below_all hA hA.size hb1
 clear hV hY hYf hA hb1
 go_wp2_with fail
 refine bodyPost_ret (v:=.tuple #[.agg #[.int .i64 0,.int .u32 0,.int .u32 0,.int .u32 0,.int .i64 0,.slice none 0 0],.int .i64 42]) (by simp[results,Tryz.results50,go_sem,y0,y1,y2,y3,y4,y5]) rfl ⟨rfl,six_below HB.out (Nat.le_refl _) _ _ _ _ _ _⟩
theorem below_allocR {w0 w:World} (h:Below w0.heap.size w0 w) (o:Obj):Below w0.heap.size w0 (w.alloc o):=h.alloc h.size o
theorem six_box {w2:World} {g:Nat} {k0:Int} {c0 s0 n0:Nat} {f0:Int} {v0:Value} (h:Box w2 g k0 c0 s0 n0 f0 v0) (k:Int) (c s n:Nat) (f:Int) (v:Value) :
  Box ((((((w2.setCell ⟨g,0,none⟩ (.int .i64 k)).setCell ⟨g,1,none⟩ (.int .u32 c)).setCell ⟨g,2,none⟩ (.int .u32 s)).setCell ⟨g,3,none⟩ (.int .u32 n)).setCell ⟨g,4,none⟩ (.int .i64 f)).setCell ⟨g,5,none⟩ v) g k c s n f v:=by
 obtain⟨h0,h1,h2,h3,h4,h5⟩:=h
 have ne:∀ i j:Nat,i≠j→(⟨g,i,none⟩:Addr) ≠ ⟨g,j,none⟩:=fun i j hij e=>hij (congrArg Addr.off e)
 refine⟨?_,?_,?_,?_,?_,?_⟩
 ·rw[World.cell?_setCell_other _ _ _ _ (ne 5 0 (by omega)),World.cell?_setCell_other _ _ _ _ (ne 4 0 (by omega)),World.cell?_setCell_other _ _ _ _ (ne 3 0 (by omega)),World.cell?_setCell_other _ _ _ _ (ne 2 0 (by omega)),World.cell?_setCell_other _ _ _ _ (ne 1 0 (by omega))];exact World.cell?_setCell_same _ _ _ h0
 ·rw[World.cell?_setCell_other _ _ _ _ (ne 5 1 (by omega)),World.cell?_setCell_other _ _ _ _ (ne 4 1 (by omega)),World.cell?_setCell_other _ _ _ _ (ne 3 1 (by omega)),World.cell?_setCell_other _ _ _ _ (ne 2 1 (by omega))];exact World.cell?_setCell_same _ _ _ ((World.cell?_setCell_other _ _ _ _ (ne 0 1 (by omega))).trans h1)
 ·rw[World.cell?_setCell_other _ _ _ _ (ne 5 2 (by omega)),World.cell?_setCell_other _ _ _ _ (ne 4 2 (by omega)),World.cell?_setCell_other _ _ _ _ (ne 3 2 (by omega))];exact World.cell?_setCell_same _ _ _ (((World.cell?_setCell_other _ _ _ _ (ne 1 2 (by omega))).trans (World.cell?_setCell_other _ _ _ _ (ne 0 2 (by omega)))).trans h2)
 ·rw[World.cell?_setCell_other _ _ _ _ (ne 5 3 (by omega)),World.cell?_setCell_other _ _ _ _ (ne 4 3 (by omega))]
  refine World.cell?_setCell_same _ _ _ (u:=.int .u32 n0) ?_
  rw[World.cell?_setCell_other _ _ _ _ (ne 2 3 (by omega)),World.cell?_setCell_other _ _ _ _ (ne 1 3 (by omega)),World.cell?_setCell_other _ _ _ _ (ne 0 3 (by omega))];exact h3
 ·rw[World.cell?_setCell_other _ _ _ _ (ne 5 4 (by omega))]
  refine World.cell?_setCell_same _ _ _ (u:=.int .i64 f0) ?_
  rw[World.cell?_setCell_other _ _ _ _ (ne 3 4 (by omega)),World.cell?_setCell_other _ _ _ _ (ne 2 4 (by omega)),World.cell?_setCell_other _ _ _ _ (ne 1 4 (by omega)),World.cell?_setCell_other _ _ _ _ (ne 0 4 (by omega))];exact h4
 ·refine World.cell?_setCell_same _ _ _ (u:=v0) ?_
  rw[World.cell?_setCell_other _ _ _ _ (ne 4 5 (by omega)),World.cell?_setCell_other _ _ _ _ (ne 3 5 (by omega)),World.cell?_setCell_other _ _ _ _ (ne 2 5 (by omega)),World.cell?_setCell_other _ _ _ _ (ne 1 5 (by omega)),World.cell?_setCell_other _ _ _ _ (ne 0 5 (by omega))];exact h5
theorem box_five {w2:World} {g:Nat} {k:Int} {c s n:Nat} {f:Int} {v:Value} (h:Box w2 g k c s n f v) (v':Value):Box (w2.setCell ⟨g,5,none⟩ v') g k c s n f v':=by
 obtain⟨h0,h1,h2,h3,h4,h5⟩:=h
 have ne:∀ i j:Nat,i≠j→(⟨g,i,none⟩:Addr) ≠ ⟨g,j,none⟩:=fun i j hij e=>hij (congrArg Addr.off e)
 exact⟨(World.cell?_setCell_other _ _ _ _ (ne 5 0 (by omega))).trans h0,(World.cell?_setCell_other _ _ _ _ (ne 5 1 (by omega))).trans h1,(World.cell?_setCell_other _ _ _ _ (ne 5 2 (by omega))).trans h2,(World.cell?_setCell_other _ _ _ _ (ne 5 3 (by omega))).trans h3,(World.cell?_setCell_other _ _ _ _ (ne 5 4 (by omega))).trans h4,World.cell?_setCell_same _ _ _ h5⟩
theorem Box.below {wa wx:World} {g:Nat} {k:Int} {c s n:Nat} {f:Int} {v:Value} (h:Box wa g k c s n f v) (hg:g<wa.heap.size) (hb:Below wa.heap.size wa wx):Box wx g k c s n f v:=by
 have h':∀ i,wx.cell? ⟨g,i,none⟩=wa.cell? ⟨g,i,none⟩:=fun i=>hb.cell (p:=⟨g,i,none⟩) hg
 exact⟨(h' 0).trans h.c0,(h' 1).trans h.c1,(h' 2).trans h.c2,(h' 3).trans h.c3,(h' 4).trans h.c4,(h' 5).trans h.c5⟩
set_option maxRecDepth 100000 in
set_option maxHeartbeats 2000000 in
theorem refDec_law (b off len cap:Nat) (bs:Nat→Nat) (w:World) (hr:Row8 w (some ⟨b,off,none⟩) len cap bs) (h1:19≤len) (h2:len≤27) (hv:vld bs len) (E:Int) (hE:LW (bs 0) (w4v bs 1) (w4v bs 5) (w4v bs 9) (bs 13) ((len-19:Nat):Int) (bs 14)=E) :
  Calls Tryz.prog 50 #[.slice (some ⟨b,off,none⟩) len cap] w fun e w'=>
   (E≠0→e=.returned (.tuple #[.agg #[.int .i64 0,.int .u32 0,.int .u32 0,.int .u32 0,.int .i64 0,.slice none 0 0],.int .i64 E])∧Below w.heap.size w w') ∧
   (E=0→∃ a' c',e=.returned (.tuple #[.agg #[.int .i64 (bs 0:Nat),.int .u32 (w4v bs 1:Nat),.int .u32 (w4v bs 5:Nat),.int .u32 (w4v bs 9:Nat),.int .i64 (bs 13:Nat),.slice a' (len-19) c'],.int .i64 0]) ∧
     Hid (w'.ownsRow w.heap.size 5 1 (.slice a' (len-19) c') (len-19) (CB (fun i=>bs (15+i)) (len-19))∧Below w.heap.size w w')):=by
 obtain⟨i0,hi,hz0,hz1,hz2⟩:=info_parts info_u8
 have hcap:=hr.le
 have hbl:b<w.heap.size:=by
  obtain⟨b',off',e,hb',_⟩:=hr.plain (by omega)
  cases e
  exact hb'
 have hA:Below w.heap.size w (w.alloc (.cells #[.int .i64 0,.int .u32 0,.int .u32 0,.int .u32 0,.int .i64 0,.slice none 0 0] 107)):=(Below.refl _ _).alloc (Nat.le_refl _) _
 have hAs:w.heap.size < (w.alloc (.cells #[.int .i64 0,.int .u32 0,.int .u32 0,.int .u32 0,.int .i64 0,.slice none 0 0] 107)).heap.size:=by simp
 have hY:=box_zero w
 have hYf:=fun i wx hb=>unit_frozen w #[.int .i64 0,.int .u32 0,.int .u32 0,.int .u32 0,.int .i64 0,.slice none 0 0] i wx hb
 have hrA:=hr.below hA
 have hV:=refValid_row _ len cap bs (w.alloc (.cells #[.int .i64 0,.int .u32 0,.int .u32 0,.int .u32 0,.int .i64 0,.slice none 0 0] 107)) hrA (by omega)
 have hd:decide (4≤len∧PM.R PM.g 32 (PM.V (PM.fb bs) (8*len))=0)=true:=decide_eq_true ⟨by omega,hv⟩
 rw[hd]at hV
 clear hd
 have q:decide ((len:Int)<19)=false:=by simp;omega
 have q2:decide ((27:Int) < (len:Int))=false:=by simp;omega
 have h14:(bs 14)<256:=hr.byte 14 (by omega)
 have hw14:IntKind.i64.wrap (bs 14:Int)=(bs 14:Int):=by rw[IntKind.wrap_i64];omega
 have i14:(14:Int) < (len:Int):=by omega
 clear hv hr
 obtain⟨n,hn⟩:∃ n,n=len-19:=⟨_,rfl⟩
 rw[← hn]at hE ⊢
 have HNN:Hid (n=len-19):=hn
 clear hn
 go_enter Tryz.func50,Tryz.ntmps50
 go_wp2_with fail
 generalize w.alloc (.cells #[.int .i64 0,.int .u32 0,.int .u32 0,.int .u32 0,.int .i64 0,.slice none 0 0] 107)=wa at *
 refine hV.mono ?_
 rintro e w1 ⟨rfl,hb1⟩
 clear hV
 have hs1:=hb1.size
 have hne:¬ b=w1.heap.size:=by omega
 have hr1:=hrA.below hb1
 have hR:∀ wx,Below w1.heap.size w1 wx→Row8 wx (some ⟨b,off,none⟩) len cap bs:=fun wx hb=>hr1.below hb
 have hW1:=fun wx hb=>refWordOf_row b off len cap 1 4 (cap-1) bs wx (hR wx hb) (by omega) (by omega)
 have hW5:=fun wx hb=>refWordOf_row b off len cap 5 4 (cap-5) bs wx (hR wx hb) (by omega) (by omega)
 have hW9:=fun wx hb=>refWordOf_row b off len cap 9 4 (cap-9) bs wx (hR wx hb) (by omega) (by omega)
 have hc:∀ wx,Below w1.heap.size w1 wx→wx.cell? ⟨b,off,none⟩=some (.int .u8 (bs 0:Nat))∧wx.cell? ⟨b,off+13,none⟩=some (.int .u8 (bs 13:Nat)):=fun wx hb=>by
  have s:=(hR wx hb).src _ rfl
  have t0:=s 0 (by omega);have t1:=s 13 (by omega)
  rw[Go.WideShapes.add_plain]at t0 t1
  exact⟨t0,t1⟩
 have hZ:∀ m wx,Below ((w1.drewN m).alloc (.cells #[.int .i64 0,.int .u32 0,.int .u32 0,.int .u32 0,.int .i64 0,.slice none 0 0] 107)).heap.size ((w1.drewN m).alloc (.cells #[.int .i64 0,.int .u32 0,.int .u32 0,.int .u32 0,.int .i64 0,.slice none 0 0] 107)) wx→Box wx w1.heap.size 0 0 0 0 0 (.slice none 0 0):=fun m wx hb=>box_zero (w1.drewN m) wx hb
 have hZf:∀ m i wx,Below ((w1.drewN m).alloc (.cells #[.int .i64 0,.int .u32 0,.int .u32 0,.int .u32 0,.int .i64 0,.slice none 0 0] 107)).heap.size ((w1.drewN m).alloc (.cells #[.int .i64 0,.int .u32 0,.int .u32 0,.int .u32 0,.int .i64 0,.slice none 0 0] 107)) wx→wx.frozen? ⟨w1.heap.size,i,none⟩=false:=fun m i wx hb=>unit_frozen (w1.drewN m) _ i wx hb
 have hZ0:Box (w1.drew.alloc (.cells #[.int .i64 0,.int .u32 0,.int .u32 0,.int .u32 0,.int .i64 0,.slice none 0 0] 107)) w1.heap.size 0 0 0 0 0 (.slice none 0 0):=hZ 1 _ (Below.refl _ _)
 have hZ0f:∀ i,(w1.drew.alloc (.cells #[.int .i64 0,.int .u32 0,.int .u32 0,.int .u32 0,.int .i64 0,.slice none 0 0] 107)).frozen? ⟨w1.heap.size,i,none⟩=false:=fun i=>hZf 1 i _ (Below.refl _ _)
 have z0:=fun m=>(hZ m _ (Below.refl _ _)).c0
 have z1:=fun m=>(hZ m _ (Below.refl _ _)).c1
 have z2:=fun m=>(hZ m _ (Below.refl _ _)).c2
 have z3:=fun m=>(hZ m _ (Below.refl _ _)).c3
 have z4:=fun m=>(hZ m _ (Below.refl _ _)).c4
 have z5:=fun m=>(hZ m _ (Below.refl _ _)).c5
 have zf:=fun m i=>hZf m i _ (Below.refl _ _)
 obtain⟨y0,y1,y2,y3,y4,y5⟩:=hZ0
 obtain⟨k0,k13⟩:=hc w1 (Below.refl _ _)
 have hw0:IntKind.i64.wrap (bs 0:Int)=(bs 0:Int):=by have:=hr1.byte 0 (by omega);rw[IntKind.wrap_i64];omega
 have hw13:IntKind.i64.wrap (bs 13:Int)=(bs 13:Int):=by have:=hr1.byte 13 (by omega);rw[IntKind.wrap_i64];omega
 have n1:¬ cap=1:=by omega
 have n5:¬ cap=5:=by omega
 have n9:¬ cap=9:=by omega
 have n15:¬ cap=15:=by omega
 have l0:(0:Int) < (len:Int):=by omega
 have j0:0<len:=by omega
 have l13:(13:Int) < (len:Int):=by omega
 have c5:(5:Int) ≤ (cap:Int):=by omega
 have c9:(9:Int) ≤ (cap:Int):=by omega
 have c13:(13:Int) ≤ (cap:Int):=by omega
 go_upto_region 7 with fail
 go_cut [4] (fun v wx=>v=.pointer (some ⟨w1.heap.size,0,none⟩)∧Hid (Box wx w1.heap.size (bs 0:Nat) (w4v bs 1) (w4v bs 5) (w4v bs 9) (bs 13:Nat) (.slice none 0 0)∧Below w1.heap.size w1 wx∧w1.heap.size<wx.heap.size∧∀ i,wx.frozen? ⟨w1.heap.size,i,none⟩=false))
 case first=>
  go_region_held3 (fun w'=>w'.cell? ⟨b,off,none⟩=some (.int .u8 (bs 0:Int))∧w'.cell? ⟨b,off+13,none⟩=some (.int .u8 (bs 13:Int))) (first | (with_reducible refine⟨six_cell ?_ hne _ _ _ _ _ _,six_cell ?_ hne _ _ _ _ _ _⟩ <;> first | exact (hc _ (by repeat (first | with_reducible assumption | with_reducible refine below_drewN ?_ _ | with_reducible refine Below.drew ?_ | with_reducible refine below_allocR ?_ _ | with_reducible exact Below.refl _ _))).1 | exact (hc _ (by repeat (first | with_reducible assumption | with_reducible refine below_drewN ?_ _ | with_reducible refine Below.drew ?_ | with_reducible refine below_allocR ?_ _ | with_reducible exact Below.refl _ _))).2) | exact hc _ (by repeat (first | with_reducible assumption | with_reducible refine below_drewN ?_ _ | with_reducible refine Below.drew ?_ | with_reducible refine below_allocR ?_ _ | with_reducible exact Below.refl _ _))) (first
  | (refine step_draw rfl (.tmp 23) 92 rfl #[.slice (some ⟨b,off+1,none⟩) 4 (cap-1)] _ (hW1 _ (by repeat (first | with_reducible assumption | with_reducible refine below_drewN ?_ _ | with_reducible refine Below.drew ?_ | with_reducible refine below_allocR ?_ _ | with_reducible exact Below.refl _ _))) (by kernel_rfl) ?_;intro m)
  | (refine step_draw rfl (.tmp 26) 92 rfl #[.slice (some ⟨b,off+5,none⟩) 4 (cap-5)] _ (hW5 _ (by repeat (first | with_reducible assumption | with_reducible refine below_drewN ?_ _ | with_reducible refine Below.drew ?_ | with_reducible refine below_allocR ?_ _ | with_reducible exact Below.refl _ _))) (by kernel_rfl) ?_;intro m)
  | (refine step_draw rfl (.tmp 29) 92 rfl #[.slice (some ⟨b,off+9,none⟩) 4 (cap-9)] _ (hW9 _ (by repeat (first | with_reducible assumption | with_reducible refine below_drewN ?_ _ | with_reducible refine Below.drew ?_ | with_reducible refine below_allocR ?_ _ | with_reducible exact Below.refl _ _))) (by kernel_rfl) ?_;intro m))
  all_goals
   go_wp2_with fail
   go_meet
   refine⟨rfl,six_box (k0:=0) (c0:=0) (s0:=0) (n0:=0) (f0:=0) (v0:=.slice none 0 0) ?_ _ _ _ _ _ _,six_below ?_ (Nat.le_refl _) _ _ _ _ _ _,?_,?_⟩
   ·first | exact hZ _ _ (below_drewN (Below.refl _ _) _) | exact hZ _ _ (Below.refl _ _) | exact hZ 1 _ (below_drewN (Below.refl _ _) _) | exact hZ 1 _ (Below.refl _ _)
   ·repeat (first | with_reducible assumption | with_reducible refine below_drewN ?_ _ | with_reducible refine Below.drew ?_ | with_reducible refine below_allocR ?_ _ | with_reducible exact Below.refl _ _)
   ·simp
   ·intro i
    simp only[World.frozen?_setCell]
    first | exact hZf _ i _ (below_drewN (Below.refl _ _) _) | exact hZf _ i _ (Below.refl _ _) | exact hZf 1 i _ (below_drewN (Below.refl _ _) _) | exact hZf 1 i _ (Below.refl _ _)
 case rest=>
  obtain⟨rfl,H2⟩:=hcut
  obtain⟨w2,rfl⟩:∃ x,x=wc:=⟨_,rfl⟩
  obtain⟨X2,hb2,hs2,hf2⟩:=H2.out
  have hr2:=hR w2 hb2
  have hb2w:Below wa.heap.size wa w2:=below_all hb1 hs1 hb2
  have h2s:=hb2w.size
  clear H2 hb2 hW1 hW5 hW9 hc hZ hZf hZ0f z0 z1 z2 z3 z4 z5 zf y0 y1 y2 y3 y4 y5 k0 k13 hw0 hw13 n1 n5 n9 l0 j0 l13 c5 c9 c13 hR hr1 hrA
  generalize w1.heap.size=g at *
  clear hb1
  obtain⟨qq,hq⟩:∃ q,q=len-4:=⟨_,rfl⟩
  have hn:n=len-19:=HNN.out
  have hqI:(len:Int)-4=(qq:Int):=by omega
  have iq:(15:Int) ≤ (qq:Int):=by omega
  have iq2:(qq:Int) ≤ (cap:Int):=by omega
  have iq0:(0:Int) ≤ (qq:Int):=by omega
  have hqn:qq-15=n:=by omega
  have R2:=((hr2.from_ 15 (by omega)).upto n (by omega))
  have hn27:n≤27:=by omega
  have HL:Hid (_):=And.intro hq hn
  have O0:(w2.alloc (.cells #[] 5)).ownsRow w2.heap.size 5 1 (.slice (some ⟨w2.heap.size,0,none⟩) 0 0) 0 (CB bs 0):=World.ownsRow_made w2 #[] 0 (Nat.le_refl _) (Nat.zero_le _) rfl
  have hC:Below w2.heap.size w2 (w2.alloc (.cells #[] 5)):=(Below.refl _ _).alloc (Nat.le_refl _) _
  have hsC:=hC.size
  have R0:=R2.below hC
  have hby:∀ i,i<n→bs (15+i)<256:=R2.byte
  clear hq hn
  go_wp2_with (at_builtin;refine wpList_append_row8 rfl (.tmp 36) (.tmp 41) 50 rfl w2.heap.size 5 i0 (.int .u8 0) Tryz.underlying50 hi hz0 hz1 hz2 rfl _ 0 _ rfl O0 _ n _ _ rfl R0 (by unfold maxLen;omega) (by omega) hsC ?_)
  intro v3 w3 own3 G3
  have hb3:Below w2.heap.size w2 w3:=hC.grown G3 hsC (fun j hj=>(O0.lt j hj).1)
  rw[show CB bs 0=[] from rfl,List.nil_append]at own3
  obtain⟨a3,c3,rfl,R3⟩:=own_row8 own3 hby
  have X3:=X2.below hs2 hb3
  have hf3:∀ i,w3.frozen? ⟨g,i,none⟩=false:=fun i=>by rw[hb3.frozen (p:=⟨g,i,none⟩) hs2];exact hf2 i
  have k14:=(hr2.below hb3).src _ rfl 14 (by omega)
  rw[Go.WideShapes.add_plain]at k14
  have hb3a:Below wa.heap.size wa w3:=below_all hb2w h2s hb3
  have hb4:Below wa.heap.size wa (w3.setCell ⟨g,5,none⟩ (.slice a3 n c3)):=hb3a.setCell (p:=⟨g,5,none⟩) hs1 _
  have X4:=box_five X3 (.slice a3 n c3)
  have own4:=ownsRow_setCell_below own3 (a:=⟨g,5,none⟩) hs2 (.slice a3 n c3)
  have hr4:=(hr2.below hb3)
  have k14':(w3.setCell ⟨g,5,none⟩ (.slice a3 n c3)).cell? ⟨b,off+14,none⟩=some (.int .u8 (bs 14:Nat)):=by rw[World.cell?_setCell_far _ _ _ _ (fun e=>hne e.symm)];exact k14
  have hL:=refLawful_any (bs 0:Nat) (w4v bs 1) (w4v bs 5) (w4v bs 9) (bs 13:Nat) a3 n c3 (w3.setCell ⟨g,5,none⟩ (.slice a3 n c3))
  rw[LW_said]at hE
  generalize LW (bs 0:Nat) (w4v bs 1:Nat) (w4v bs 5:Nat) (w4v bs 9:Nat) (bs 13:Nat) (n:Nat) (n:Nat)=E0 at *
  have hs3:w2.heap.size≤w3.heap.size:=hb3.size
  have hg4:g < (w3.setCell ⟨g,5,none⟩ (.slice a3 n c3)).heap.size:=by simp;omega
  have hb4s:b < (w3.setCell ⟨g,5,none⟩ (.slice a3 n c3)).heap.size:=by simp;omega
  have hs4:=hb4.size
  obtain⟨x0,x1,x2,x3,x4,x5⟩:=X3
  clear own3 R3 G3 O0 hC hsC R0 R2 hr2 hr4 k14 hb3 hb3a X2 hf2
  go_wp2_with fail
  generalize w3.setCell ⟨g,5,none⟩ (.slice a3 n c3)=w4 at *
  refine hL.mono ?_
  rintro e w5 ⟨rfl,hb5'⟩
  have hb5:=below_all hb4 hs4 hb5'
  have hs5:=hb5.size
  have X5:=X4.below hg4 hb5'
  have k14:w5.cell? ⟨b,off+14,none⟩=some (.int .u8 (bs 14:Nat)):=(hb5'.cell (p:=⟨b,off+14,none⟩) hb4s).trans k14'
  have own5:=own_below own4 hb5'
  have hg5:g<w5.heap.size:=Nat.lt_of_lt_of_le hg4 hb5'.size
  obtain⟨z0,z1,z2,z3,z4,z5⟩:=X5
  clear hL x0 x1 x2 x3 x4 x5 hf3 k14' own4 hb4 hb5' hg4 hb4s hs4
  go_upto_region 10 with fail
  obtain⟨D,hD⟩:∃ D,D=decide (E0≠43∧E0≠44∧(bs 14:Int) ≠ (n:Int)):=⟨_,rfl⟩
  go_cut [61] (fun v wx=>v=.bool D∧Hid (Below w5.heap.size w5 wx))
  case first=>
   by_cases e43:E0=43
   ·have hD':D=false:=by rw[hD];simp[e43]
    subst e43
    go_quiet (fail)
    go_wp2_with fail
    go_meet
    exact⟨by rw[hD'],by first | exact (Below.refl _ _).drew | exact below_drewN (Below.refl _ _) _ | exact Below.refl _ _⟩
   ·have q43:(E0 == 43)=false:=by simpa using e43
    have r43:(E0 != 43)=true:=by simpa using e43
    by_cases e44:E0=44
    ·have hD':D=false:=by rw[hD];simp[e44]
     subst e44
     go_quiet (fail)
     go_wp2_with fail
     go_meet
     exact⟨by rw[hD'],by first | exact (Below.refl _ _).drew | exact below_drewN (Below.refl _ _) _ | exact Below.refl _ _⟩
    ·have q44:(E0 == 44)=false:=by simpa using e44
     have r44:(E0 != 44)=true:=by simpa using e44
     by_cases e14:(bs 14:Int)=(n:Int)
     ·have q14:((bs 14:Int) == (n:Int))=true:=by simpa using e14
      have r14:((bs 14:Int) != (n:Int))=false:=by simpa using e14
      have hD':D=false:=by rw[hD];simp[e14]
      clear e14
      go_quiet (fail)
      go_wp2_with fail
      go_meet
      exact⟨by rw[hD'],by first | exact (Below.refl _ _).drew | exact below_drewN (Below.refl _ _) _ | exact Below.refl _ _⟩
     ·have q14:((bs 14:Int) == (n:Int))=false:=by simpa using e14
      have r14:((bs 14:Int) != (n:Int))=true:=by simpa using e14
      have hD':D=true:=by rw[hD];simp[e43,e44,e14]
      clear e14
      go_quiet (fail)
      go_wp2_with fail
      go_meet
      exact⟨by rw[hD'],by first | exact (Below.refl _ _).drew | exact below_drewN (Below.refl _ _) _ | exact Below.refl _ _⟩
  case rest=>
   obtain⟨rfl,H6⟩:=hcut
   obtain⟨w6,rfl⟩:∃ x,x=wc:=⟨_,rfl⟩
   have hb6:=below_all hb5 hs5 H6.out
   have yf:=fun i=>hYf i w6 hb6
   obtain⟨y0,y1,y2,y3,y4,y5⟩:=hY w6 hb6
   have X5:Box w5 g (bs 0:Nat) (w4v bs 1) (w4v bs 5) (w4v bs 9) (bs 13:Nat) (.slice a3 n c3):=⟨z0,z1,z2,z3,z4,z5⟩
   obtain⟨u0,u1,u2,u3,u4,u5⟩:=X5.below hg5 H6.out
   have own6:=own_below own5 H6.out
   have hgw:¬ w.heap.size=g:=by omega
   have hgw':¬ g=w.heap.size:=by omega
   have HH:Hid (_):=And.intro hA (And.intro hAs (And.intro hb6 (And.intro own6 h2s)))
   clear hY hYf z0 z1 z2 z3 z4 z5 X5 own5 own6 hb5 hb6 hs5 H6 k14 hg5 hA hAs
   by_cases hc:E0≠43∧E0≠44∧(bs 14:Int) ≠ (n:Int)
   ·have hDt:D=true:=by rw[hD];simp[hc]
    rw[if_pos hc]at hE
    subst hDt
    subst hE
    clear hD hc
    go_wp2_with fail
    refine bodyPost_ret (v:=.tuple #[.agg #[.int .i64 0,.int .u32 0,.int .u32 0,.int .u32 0,.int .i64 0,.slice none 0 0],.int .i64 45]) (by simp[results,Tryz.results50,go_sem,y0,y1,y2,y3,y4,y5]) rfl ⟨fun _=>⟨rfl,?_⟩,fun h=>absurd h (by decide)⟩
    exact six_below (HH.out.1.trans (HH.out.2.2.1.mono (Nat.le_of_lt HH.out.2.1))) (Nat.le_refl _) _ _ _ _ _ _
   ·have hDf:D=false:=by rw[hD];simpa using hc
    rw[if_neg hc]at hE
    subst hDf
    subst hE
    clear hD hc
    by_cases hE0:E0=0
    ·subst hE0
     go_wp2_with fail
     refine bodyPost_ret (v:=.tuple #[.agg #[.int .i64 (bs 0:Nat),.int .u32 (w4v bs 1:Nat),.int .u32 (w4v bs 5:Nat),.int .u32 (w4v bs 9:Nat),.int .i64 (bs 13:Nat),.slice a3 n c3],.int .i64 0]) (by simp[results,Tryz.results50,go_sem,y0,y1,y2,y3,y4,y5]) rfl ⟨a3,c3,rfl,?_,?_⟩
     ·exact own_base (six_own HH.out.2.2.2.1 (Nat.lt_of_lt_of_le HH.out.2.1 HH.out.2.2.2.2) _ _ _ _ _ _) (Nat.le_trans (Nat.le_of_lt HH.out.2.1) HH.out.2.2.2.2)
     ·exact six_below (HH.out.1.trans (HH.out.2.2.1.mono (Nat.le_of_lt HH.out.2.1))) (Nat.le_refl _) _ _ _ _ _ _
    ·have qE:(E0 == 0)=false:=by simpa using hE0
     go_wp2_with fail
     refine bodyPost_ret (v:=.tuple #[.agg #[.int .i64 0,.int .u32 0,.int .u32 0,.int .u32 0,.int .i64 0,.slice none 0 0],.int .i64 E0]) (by simp[results,Tryz.results50,go_sem,y0,y1,y2,y3,y4,y5]) rfl ⟨fun _=>⟨rfl,?_⟩,fun h=>absurd h hE0⟩
     exact six_below (HH.out.1.trans (HH.out.2.2.1.mono (Nat.le_of_lt HH.out.2.1))) (Nat.le_refl _) _ _ _ _ _ _
theorem refDec_ok (a:Option Addr) (len cap:Nat) (bs:Nat→Nat) (w:World) (hr:Row8 w a len cap bs) (h:DE bs len=0) :
  Calls Tryz.prog 50 #[.slice a len cap] w fun e w'=>∃ a' c',e=.returned (.tuple #[.agg #[.int .i64 (bs 0:Nat),.int .u32 (w4v bs 1:Nat),.int .u32 (w4v bs 5:Nat),.int .u32 (w4v bs 9:Nat),.int .i64 (bs 13:Nat),.slice a' (len-19) c'],.int .i64 0]) ∧
    Hid (w'.ownsRow w.heap.size 5 1 (.slice a' (len-19) c') (len-19) (CB (fun i=>bs (15+i)) (len-19))∧Below w.heap.size w w'):=by
 obtain⟨h1,h2,h3,h4⟩:=DE_zero h
 obtain⟨b,off,rfl,_,_⟩:=hr.plain (by omega)
 exact (refDec_law b off len cap bs w hr h1 h2 h3 0 h4).mono fun e w' h=>h.2 rfl
theorem refDec_no (a:Option Addr) (len cap:Nat) (bs:Nat→Nat) (w:World) (hr:Row8 w a len cap bs) (h:DE bs len≠0) :
  Calls Tryz.prog 50 #[.slice a len cap] w fun e w'=>e=.returned (.tuple #[.agg #[.int .i64 0,.int .u32 0,.int .u32 0,.int .u32 0,.int .i64 0,.slice none 0 0],.int .i64 (DE bs len)])∧Below w.heap.size w w':=by
 by_cases h1:len<19
 ·rw[show DE bs len=40 from if_pos h1]
  exact refDec_short a len cap w h1
 ·by_cases h2:27<len
  ·rw[show DE bs len=41 by unfold DE;rw[if_neg h1,if_pos h2]]
   exact refDec_big a len cap w h2
  ·by_cases h3:vld bs len
   ·have hD:DE bs len=LW (bs 0) (w4v bs 1) (w4v bs 5) (w4v bs 9) (bs 13) ((len-19:Nat):Int) (bs 14):=by unfold DE;rw[if_neg h1,if_neg h2,if_neg (fun e=>e h3)]
    obtain⟨b,off,rfl,_,_⟩:=hr.plain (by omega)
    exact (refDec_law b off len cap bs w hr (by omega) (by omega) h3 _ hD.symm).mono fun e w' q=>q.1 h
   ·rw[DE_check (by omega) (by omega) h3]
    exact refDec_check a len cap bs w hr (by omega) (by omega) h3
def encI (k c s n:Nat) (f:Int) (len:Nat) (bs:Nat→Nat):Fm:=if LW k c s n f len len=0 then (15+len+4,PM.sl (fr k c s n f.toNat len bs) (15+len)) else fm0
set_option maxHeartbeats 1600000 in
theorem frame_any (k c s n:Nat) (f:Int) (a:Option Addr) (len cap:Nat) (bs:Nat→Nat) (w:World) (hr:Row8 w a len cap bs) (hc:c<4294967296) (hs:s<4294967296) (hn:n<4294967296) :
  Calls Tryz.prog 37 #[.agg #[.int .i64 (k:Nat),.int .u32 (c:Nat),.int .u32 (s:Nat),.int .u32 (n:Nat),.int .i64 f,.slice a len cap]] w fun e w'=>∃ v,e=.returned v∧Hid (Fr w' w.heap.size v (encI k c s n f len bs)∧Below w.heap.size w w'):=by
 have b0:Below w.heap.size w (w.alloc (.cells #[.int .i64 (k:Nat),.int .u32 (c:Nat),.int .u32 (s:Nat),.int .u32 (n:Nat),.int .i64 f,.slice a len cap] 107)):=(Below.refl _ _).alloc (Nat.le_refl _) _
 have fin:Calls Tryz.prog 81 #[.agg #[.int .i64 (k:Nat),.int .u32 (c:Nat),.int .u32 (s:Nat),.int .u32 (n:Nat),.int .i64 f,.slice a len cap]] (w.alloc (.cells #[.int .i64 (k:Nat),.int .u32 (c:Nat),.int .u32 (s:Nat),.int .u32 (n:Nat),.int .i64 f,.slice a len cap] 107)) fun e w'=>∃ v E,e=.returned (.tuple #[v,.int .i64 E])∧Hid (Fr w' w.heap.size v (encI k c s n f len bs)∧Below w.heap.size w w'):=by
  unfold encI
  by_cases hE:LW k c s n f len len=0
  ·rw[if_pos hE]
   have hf:=(LW_zero hE).2.2.2.2
   obtain⟨F,rfl⟩:∃ F:Nat,f=(F:Int):=⟨f.toNat,by omega⟩
   refine (refEncode_good k c s n F a len cap bs _ (hr.below b0) hc hs hn hE).mono ?_
   rintro e w' ⟨v,rfl,h4⟩
   exact⟨v,0,rfl,own_base h4.out.1 b0.size,b0.trans (h4.out.2.mono b0.size)⟩
  ·rw[if_neg hE]
   refine (refEncode_bad k c s n f a len cap _ hE).mono ?_
   rintro e w' ⟨rfl,h4⟩
   exact⟨_,_,rfl,own_nil _ _ _,b0.trans (h4.mono b0.size)⟩
 clear hr hc hs hn b0
 go_enter Tryz.func37,Tryz.ntmps37
 go_wp2_with fail
 refine fin.mono ?_
 rintro e w4 ⟨v,E,rfl,h4⟩
 clear fin
 go_wp2_with fail
 go_ret
 exact⟨v,rfl,h4⟩
def P0:Pm:=⟨7,2,1,10,9⟩
theorem small_any (w:World):Calls Tryz.prog 18 #[] w fun e w'=>e=.returned (.agg #[.int .u32 (P0.c:Nat),.int .i64 (P0.o:Nat),.int .i64 (P0.i:Nat),.int .i64 (P0.t:Nat),.int .u32 (P0.n:Nat)])∧Below w.heap.size w w':=by
 go_enter Tryz.func18,Tryz.ntmps18
 go_wp2_with fail
 refine bodyPost_ret (v:=.agg #[.int .u32 (P0.c:Nat),.int .i64 (P0.o:Nat),.int .i64 (P0.i:Nat),.int .i64 (P0.t:Nat),.int .u32 (P0.n:Nat)]) (by simp[results,Tryz.results18,go_sem,P0]) rfl ⟨rfl,?_⟩
 exact (Below.refl _ _).alloc (Nat.le_refl _) _
def wishF (P:Pm):Fm:=(23,PM.sl (fr 1 P.c 0 0 0 4 (dsg P)) 19)
theorem LW_wish {c:Nat} (h:c≠0):LW 1 c 0 0 0 4 4=0:=by
 unfold LW
 rw[if_neg (by decide),if_neg (by omega),if_neg (by decide),if_neg (by decide),if_neg (by decide),if_neg (by decide)]
theorem wish_enc (P:Pm) (h:Pok P):encF 1 P.c 0 0 0 4 (dsg P)=wishF P:=by
 exact if_pos (LW_wish h.c0)
theorem BA_congr (f g:Nat→Nat) (n:Nat) (h:∀ i,i<n→f i=g i):BA f n=BA g n:=by
 unfold BA
 congr 1
 apply List.map_congr_left
 intro i hi
 rw[h i (List.mem_range.1 hi)]
theorem hear_wish (P:Pm) (h:Pok P) (mx n:Nat) (s:Sd):dhear P mx n s (wishF P).1 (wishF P).2=dwish P mx n s:=by
 obtain⟨e1,e2,e3,e4,e5,e6,e7⟩:=DE_back 1 P.c 0 0 0 4 (dsg P) h.c (by omega) (by omega) (by omega) (LW_wish h.c0)
 have hd:DE (wishF P).2 (wishF P).1=0:=e1
 have h0:(wishF P).2 0=1:=e2
 have h1:w4v (wishF P).2 1=P.c:=e3
 unfold dhear
 rw[if_neg (by omega),if_neg (by rw[h0];decide),if_neg (by omega),h0]
 unfold dtake
 rw[if_pos rfl,if_pos]
 unfold dsigned
 exact decide_eq_true (BA_congr _ _ 4 (fun i hi=>e7 i hi))
def M0:Ms:=S0 fun _=>0
theorem open0 (mx:Nat) (h:mx≠0):opE mx 16 M0=0∧opS mx 16 M0=M0:=by
 have hm:mend M0.bs=[]:=by decide
 constructor
 ·unfold opE
  rw[if_neg (by omega),if_neg (by decide),hm]
  rfl
 ·unfold opS
  rw[if_neg (by omega),if_neg (by decide),hm]
  rfl
theorem next0 (mx:Nat) (h:mx≠0):(nx mx 16 M0.bs false M0).e=0∧(nx mx 16 M0.bs false M0).v=1:=by
 have hv:vz M0.bs=0:=by decide
 have ht:tg M0.bs=0:=by decide
 unfold nx
 rw[if_neg (by decide),hv,if_neg (by omega),ht]
 rcases sq_all 16 (six 0 (0+1)) M0 (fun x hx=>(six_in _ _ 16 (by omega) (by omega) x hx).1) rfl (Int.le_refl _) with ⟨e,_⟩ | ⟨_,_,e,_⟩
 ·rw[if_pos e];exact⟨rfl,rfl⟩
 ·cases e
theorem first_wish (P:Pm) (h:Pok P) (mx:Nat) (hm:mx≠0) :
  (drecv P mx 16 (dnew M0) (wishF P).1 (wishF P).2).e=0∧(drecv P mx 16 (dnew M0) (wishF P).1 (wishF P).2).s.st=2∧(drecv P mx 16 (dnew M0) (wishF P).1 (wishF P).2).f=encF 17 P.c 1 0 0 4 (dsg P):=by
 obtain⟨n1,n2⟩:=next0 mx hm
 have hw:dwish P mx 16 (dnew M0)=dbegin P mx 16 (dnew M0):=rfl
 have hb:dbegin P mx 16 (dnew M0)=⟨{ dleave { dnew M0 with ms:=(nx mx 16 M0.bs false M0).s } 2 with ss:=(nx mx 16 M0.bs false M0).v },doffer P { dleave { dnew M0 with ms:=(nx mx 16 M0.bs false M0).s } 2 with ss:=(nx mx 16 M0.bs false M0).v },0⟩:=by
  unfold dbegin
  have e1:(nx mx 16 (dnew M0).ms.bs false (dnew M0).ms).e=0:=n1
  rw[if_neg (by rw[e1];decide),if_neg (by rw[e1];decide)]
  rfl
 unfold drecv
 rw[if_neg (by show (1:Nat)≠6;omega),hear_wish P h,hw,hb,if_neg (by rintro ⟨e,_⟩;exact e rfl)]
 refine⟨rfl,rfl,?_⟩
 show encF 17 P.c (nx mx 16 M0.bs false M0).v 0 0 4 (dsg P)=_
 rw[n2]
theorem LW_offer {c s:Nat} (h:c≠0) (hs:s≠0):LW 17 c s 0 0 4 4=0:=by
 unfold LW
 rw[if_neg (by decide),if_neg (by omega),if_neg (by decide),if_neg (by unfold mSess;rw[if_neg (by omega),if_neg (by omega)];simp;omega),if_neg (by decide),if_neg (by decide)]
theorem Fr.row {w:World} {M:Nat} {v:Value} {f:Fm} (h:Fr w M v f) (hb:∀ i,i<f.1→f.2 i<256):∃ a cap,v=.slice a f.1 cap∧Row8 w a f.1 cap f.2:=own_row8 h hb
theorem encF_byte (k c s n f len:Nat) (bs:Nat→Nat) (hb:∀ i,i<len→bs i<256):∀ i,i < (encF k c s n f len bs).1→(encF k c s n f len bs).2 i<256:=by
 unfold encF
 by_cases h:LW k c s n f len len=0
 ·rw[if_pos h]
  have hz:=LW_zero h
  intro i _
  have hfr:=fr_lt (K:=k) (c:=c) (s:=s) (n:=n) (F:=f) (len:=len) (bs:=bs) (by omega) (by omega) (by omega) hb
  show PM.sl _ _ i<256
  unfold PM.sl PM.ct
  split
  ·rename_i h2;exact hfr i h2
  ·exact PM.w4_lt _ _
 ·rw[if_neg h];intro i hi;exact absurd hi (Nat.not_lt_zero i)
theorem dsg_byte (P:Pm):∀ i,i<4→dsg P i<256:=fun i _=>PM.w4_lt _ i
theorem newD_ok (m g n mx:Nat) (P:Pm) (hP:Pok P) (ms:Ms) (w:World) (hM:MR w m g n ms) (hx:mx<4294967296) (ht:ms.t<9223372036854774000) (h0:opE mx n ms=0) :
  Calls Tryz.prog 20 #[.agg #[.int .u32 (P.c:Nat),.int .i64 (P.o:Nat),.int .i64 (P.i:Nat),.int .i64 (P.t:Nat),.int .u32 (P.n:Nat)],.pointer (some ⟨m,0,none⟩),.int .u32 (mx:Nat)] w fun e w'=>∃ d,e=.returned (.tuple #[.pointer (some ⟨d,0,none⟩),.int .i64 0])∧Hid (∃ U,Off [m,g] w w'∧DV w' d m g n mx P U (dnew (opS mx n ms))∧∀ k,k ∈ U→k=m∨k=g∨w.heap.size≤k):=by
 refine (newD_any m g n mx P hP ms w hM hx ht).mono ?_
 rintro e w' ⟨p,rfl,h⟩
 obtain⟨o,_,hd,_⟩:=h.out
 obtain⟨d,U,rfl,D,hU⟩:=hd h0
 rw[h0]
 exact⟨d,rfl,U,o,D,hU⟩
theorem seeS_any (d m g n mx:Nat) (P:Pm) (U:List Nat) (s:Sd) (w:World) (h:DV w d m g n mx P U s) :
  Calls Tryz.prog 16 #[.pointer (some ⟨d,0,none⟩)] w fun e w'=>∃ a cap,e=.returned (.agg #[.int .i64 (s.st:Nat),.int .u32 (s.ss:Nat),.int .u32 (s.nm:Nat),.int .u32 (s.sn:Nat),.int .i64 (s.dc:Nat),.int .i64 s.v.lat,.bool (vreq s.v),.bool (von s.v),.slice a P.o cap])∧Hid (Fr w' w.heap.size (.slice a P.o cap) (P.o,vout s.v)∧Row8 w' a P.o cap (vout s.v)∧Below w.heap.size w w'):=by
 obtain⟨B,x⟩:=id h
 refine (see_any d m g n mx P U s w h).mono ?_
 rintro e w' ⟨v,rfl,h2⟩
 obtain⟨a,cap,hv,r⟩:=h2.out.1.row (vout_byte x.val)
 subst hv
 exact⟨a,cap,rfl,h2.out.1,r,h2.out.2⟩
end Go.Proofs.YthbogkaoidbpgaaGreat
