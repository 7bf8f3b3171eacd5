/- Part 40 of the texts on which the proofs of layer 13 rest: contracts of Go functions. -/
import Derived.Test.YtffehehghpafdaaGreatPkB31
import Derived.Test.YtffehehghpafdaaGreatPkB32
import Derived.Test.YtffehehghpafdaaGreatPkB33
import Derived.Test.YtffehehghpafdaaGreatPkB37
import Derived.Test.YtffehehghpafdaaGreatPkB38
namespace Go.Proofs.YtffehehghpafdaaGreat
set_option maxRecDepth 100000
open Go.RowKit
theorem runit_any (d m g n mx:Nat) (P:Pm) (U:List Nat) (s:Sd) (k c ss num fl:Nat) (a:Option Addr) (len cap:Nat) (bs:Nat→Nat) (w:World) (h:RW w d m g n mx P U s) (hr:Row8 w a len cap bs) (ha:∀ x,a=some x→x.block<w.heap.size∧x.block ∉ U) (hk:1≤k∧k≤5) (hsn:s.st=4→s.sn+1<4294967296) (hs:s.st≠6) (ho:s.od<4) (hL:s.L.length<800000) (ht:s.ms.t<9223372036854774000) (hss:s.ss<4294967296) :
  Calls Tryz.prog 68 #[.pointer (some ⟨d,0,none⟩),.agg #[.int .i64 (k:Nat),.int .u32 (c:Nat),.int .u32 (ss:Nat),.int .u32 (num:Nat),.int .i64 (fl:Nat),.slice a len cap]] w fun e w'=>∃ v,e=.returned (.tuple #[v,.int .i64 (dtake P mx n s k ss num fl len bs).e])∧Hid (OutR U w w' d m g n mx P (dtake P mx n s k ss num fl len bs).s (dtake P mx n s k ss num fl len bs).f v):=by
 have:k=1∨k=2∨k=3∨k=4∨k=5:=by omega
 rcases this with rfl | rfl | rfl | rfl | rfl
 ·exact runit1_any d m g n mx P U s c ss num fl a len cap bs w h hr ha hsn hs ho hL ht hss
 ·exact runit2_any d m g n mx P U s c ss num fl a len cap bs w h hr ha hsn hs ho hL ht hss
 ·exact runit3_any d m g n mx P U s c ss num fl a len cap bs w h hr ha hsn hs ho hL ht hss
 ·exact runit4_any d m g n mx P U s c ss num fl a len cap bs w h hr ha hsn hs ho hL ht hss
 ·exact runit5_any d m g n mx P U s c ss num fl a len cap bs w h hr ha hsn hs ho hL ht hss
set_option maxHeartbeats 6400000 in
theorem rreceive_any (d m g n mx:Nat) (P:Pm) (U:List Nat) (s:Sd) (a:Option Addr) (len cap:Nat) (bs:Nat→Nat) (w:World) (h:RW w d m g n mx P U s) (hr:Row8 w a len cap bs) (hsn:s.st=4→s.sn+1<4294967296) (ho:s.od<4) (hL:s.L.length<800000) (ht:s.ms.t<9223372036854774000) (hss:s.ss<4294967296) :
  Calls Tryz.prog 19 #[.pointer (some ⟨d,0,none⟩),.slice a len cap] w fun e w'=>∃ v,e=.returned (.tuple #[v,.int .i64 (drecv P mx n s len bs).e])∧Hid (OutR U w w' d m g n mx P (drecv P mx n s len bs).s (drecv P mx n s len bs).f v):=by
 obtain⟨B,x⟩:=id h
 have c18:w.cell? ⟨d,18,none⟩=some (.int .i64 (s.st:Nat)):=cell_of_row w d 18 _ _ _ x.dev
 unfold drecv
 by_cases h6:s.st=6
 ·rw[if_pos h6]
  rw[h6]at c18
  have H:Hid (_):=h
  clear h x hr hsn ho hL ht hss
  go_enter Tryz.func19,Tryz.ntmps19
  go_wp2_with fail
  go_ret2
  exact⟨_,rfl,OutR.none_ (Gr.refl _ _) H.out⟩
 ·rw[if_neg h6]
  have e6:((s.st:Int) == 6)=false:=by simp;omega
  have hdl:=x.dlt
  have hN:∀ (E:Int) wx,Below w.heap.size w wx→Calls Tryz.prog 69 #[.pointer (some ⟨d,8,none⟩),.int .i64 E,.int .u32 (s.ss:Nat),.int .u32 (s.nm:Nat)] wx fun e w'=>∃ r,e=.returned (.int .i64 r)∧Hid (OutR U w w' d m g n mx P (dnote s E) fm0 (.slice none 0 0)):=by
   intro E wx hb
   refine (rnotev_any d m g n mx P U s B _ E wx (x.newd (Off.of_below hb)) (by omega)).mono ?_
   rintro e w' ⟨rfl,h5⟩
   obtain⟨U5,B5,g5,x5⟩:=h5.out
   exact⟨_,rfl,OutR.none_ ((Gr.below hb).trans g5) ⟨B5,x5⟩⟩
  by_cases hE:DE bs len=0
  ·have hD:=refDec_ok a len cap bs w hr hE
   obtain⟨_,_,_,hLW⟩:=DE_zero hE
   obtain⟨hk1,_,_,_,hf1⟩:=LW_zero hLW
   have HH:Hid (_):=And.intro h (And.intro hsn (And.intro h6 (And.intro ho (And.intro hL (And.intro ht hss)))))
   have hby:∀ i,i<len→bs i<256:=hr.byte
   clear h hr hsn ho hL ht hLW hss
   by_cases hK:hostK (bs 0:Int)=false
   ·have hh:dhear P mx n s len bs=⟨s,fm0,43⟩:=by unfold dhear;rw[if_neg (by omega),if_pos hK]
    rw[hh,if_pos ⟨by show (43:Int)≠0;omega,by show (43:Int)≠70;omega⟩]
    clear hh
    have hF:=fun wx=>refHost_any (bs 0:Int) wx
    rw[hK]at hF
    have HX:Hid (_):=x
    clear x hE h6 hk1 hf1 hK hby
    go_enter Tryz.func19,Tryz.ntmps19
    go_wp2_with (first | (go_at_call 66;refine hD.mono ?_;rintro e w2 ⟨a2,c2,rfl,h2⟩;have x2:=HX.out.newd (Off.of_below h2.out.2);have c19:w2.cell? ⟨d,19,none⟩=some (.int .u32 (s.ss:Nat)):=cell_of_row w2 d 19 _ _ _ x2.dev;have c20:w2.cell? ⟨d,20,none⟩=some (.int .u32 (s.nm:Nat)):=cell_of_row w2 d 20 _ _ _ x2.dev;have hdl2:=x2.dlt;have hdn:¬ d=w2.heap.size:=(by omega);have hdn':¬ w2.heap.size=d:=(by omega);have HB:Hid (_):=h2.out.2.trans (((Below.refl w2.heap.size w2).alloc (Nat.le_refl _) (.cells #[.int .i64 (bs 0:Nat),.int .u32 (w4v bs 1:Nat),.int .u32 (w4v bs 5:Nat),.int .u32 (w4v bs 9:Nat),.int .i64 (bs 13:Nat),.slice a2 (len-19) c2] 114)).mono h2.out.2.size);clear h2 x2) | (go_at_call 67;refine (hF _).mono ?_;rintro e w' ⟨rfl,hw⟩;have hw:=hw.symm;subst hw))
    repeat (go_quiet (fail);go_wp2_with fail)
    go_region_with (go_at_call 69;refine (hN 43 _ (by repeat (first | exact HB.out | refine below_drewN ?_ _ | refine Below.drew ?_))).mono ?_;rintro e w5 ⟨r,rfl,h5⟩)
    all_goals
     go_wp2_with fail
     go_ret2
     exact⟨_,rfl,h5⟩
   ·have hK':hostK (bs 0:Int)=true:=by simpa using hK
    have hk5:1≤bs 0∧bs 0≤5:=by unfold hostK at hK';simp at hK';omega
    have hF:=fun wx=>refHost_any (bs 0:Int) wx
    rw[hK']at hF
    by_cases hC:w4v bs 1=P.c
    ·have hh:dhear P mx n s len bs=dtake P mx n s (bs 0) (w4v bs 5) (w4v bs 9) (bs 13) (len-19) (fun i=>bs (15+i)):=by unfold dhear;rw[if_neg (by omega),if_neg hK,if_neg (by omega)]
     rw[hh]
     clear hh
     have hT:∀ (w2:World) (a2:Option Addr) (c2:Nat),w2.ownsRow w.heap.size 5 1 (.slice a2 (len-19) c2) (len-19) (CB (fun i=>bs (15+i)) (len-19))→Below w.heap.size w w2→∀ wx,Below w2.heap.size w2 wx →
       Calls Tryz.prog 68 #[.pointer (some ⟨d,0,none⟩),.agg #[.int .i64 (bs 0:Nat),.int .u32 (P.c:Nat),.int .u32 (w4v bs 5:Nat),.int .u32 (w4v bs 9:Nat),.int .i64 (bs 13:Nat),.slice a2 (len-19) c2]] wx fun e w'=>∃ v,e=.returned (.tuple #[v,.int .i64 (dtake P mx n s (bs 0) (w4v bs 5) (w4v bs 9) (bs 13) (len-19) (fun i=>bs (15+i))).e])∧Hid (OutR U w w' d m g n mx P (dtake P mx n s (bs 0) (w4v bs 5) (w4v bs 9) (bs 13) (len-19) (fun i=>bs (15+i))).s (dtake P mx n s (bs 0) (w4v bs 5) (w4v bs 9) (bs 13) (len-19) (fun i=>bs (15+i))).f v):=by
      intro w2 a2 c2 ho2 hb2 wx hbx
      obtain⟨h,hsn,hs,ho,hL,ht,hss⟩:=HH.out
      have hr2:Row8 w2 a2 (len-19) c2 (fun i=>bs (15+i)):=own_slice8 ho2 (fun i hi=>hby _ (by omega))
      have hbb:Below w.heap.size w wx:=hb2.trans (hbx.mono hb2.size)
      refine (runit_any d m g n mx P U s (bs 0) P.c (w4v bs 5) (w4v bs 9) (bs 13) a2 (len-19) c2 _ wx (RW.below h hbb) (hr2.below hbx) (fun x hx=>?_) hk5 hsn hs ho hL ht hss).mono ?_
      ·have:=own_far ho2 x hx
       exact⟨Nat.lt_of_lt_of_le this.2 hbx.size,fun hm=>by have:=RW.ult h _ hm;omega⟩
      ·rintro e w' ⟨v,rfl,h5⟩
       exact⟨v,rfl,OutR.pre (Gr.below hbb) h5.out⟩
     have hre:=dtake_e P mx n s (bs 0) (w4v bs 5) (w4v bs 9) (bs 13) (len-19) (fun i=>bs (15+i))
     have hrl:=dtake_len P mx n s (bs 0) (w4v bs 5) (w4v bs 9) (bs 13) (len-19) (fun i=>bs (15+i))
     generalize dtake P mx n s (bs 0) (w4v bs 5) (w4v bs 9) (bs 13) (len-19) (fun i=>bs (15+i))=R at *
     have HL:Hid (R.s.L.length<900000):=(by show _<_;have:=HH.out.2.2.2.2.1;omega)
     have HT:Hid (_):=hT
     have HX:Hid (_):=x
     have hC1:((w4v bs 1:Nat):Int)=(P.c:Int):=by omega
     rw[hC1]at hD
     clear hT x hby hk1 hf1 hk5 hE hK hC hC1 hN h6 hre hrl
     by_cases he:R.e≠0∧R.e≠70
     ·rw[if_pos he]
      have e0:(R.e != 0)=true:=by simpa using he.1
      have e7:(R.e != 70)=true:=by simpa using he.2
      clear he
      go_enter Tryz.func19,Tryz.ntmps19
      go_wp2_with (first | (go_at_call 66;refine hD.mono ?_;rintro e w2 ⟨a2,c2,rfl,h2⟩;have x2:=HX.out.newd (Off.of_below h2.out.2);have c0:w2.cell? ⟨d,0,none⟩=some (.int .u32 (P.c:Nat)):=cell_of_row w2 d 0 _ _ _ x2.dev;have hdl2:=x2.dlt;have hdn:¬ d=w2.heap.size:=(by omega);have hdn':¬ w2.heap.size=d:=(by omega);clear x2) | (go_at_call 67;refine (hF _).mono ?_;rintro e w' ⟨rfl,hw⟩;have hw:=hw.symm;subst hw))
      repeat (go_quiet (fail);go_wp2_with fail)
      refine (HT.out w2 a2 c2 h2.out.1 h2.out.2 _ (below_drewN ((Below.refl _ _).alloc (Nat.le_refl _) _) _)).mono ?_
      rintro e w5 ⟨v,rfl,h5⟩
      obtain⟨U5,g5,⟨B5,x5⟩,f5,k5⟩:=h5.out
      have c19:w5.cell? ⟨d,19,none⟩=some (.int .u32 (R.s.ss:Nat)):=cell_of_row w5 d 19 _ _ _ x5.dev
      have c20:w5.cell? ⟨d,20,none⟩=some (.int .u32 (R.s.nm:Nat)):=cell_of_row w5 d 20 _ _ _ x5.dev
      have hM:=rnotev_any d m g n mx P U5 R.s B5 _ R.e w5.drew (x5.newd (Off.drew [] w5)) HL.out
      have H5:Hid (_):=And.intro g5 (And.intro f5 k5)
      clear hD hF h2 c0 h5 g5 x5 f5 k5 hdl2 hdn hdn'
      go_wp2_with fail
      go_region_with (go_at_call 69;refine hM.mono ?_;rintro e w6 ⟨rfl,h6⟩)
      all_goals
       go_wp2_with fail
       go_ret2
       obtain⟨U6,B6,g6,x6⟩:=h6.out
       exact⟨v,rfl,OutR.next H5.out.1 H5.out.2.1 H5.out.2.2 (Gr.trans (Gr.same (Off.drew [] w5) (by simp)) g6) ⟨B6,x6⟩⟩
     ·rw[if_neg he]
      have he':R.e=0∨R.e=70:=by omega
      clear he
      rcases he' with he | he
      all_goals
       rw[he]at HT ⊢
       go_enter Tryz.func19,Tryz.ntmps19
       go_wp2_with (first | (go_at_call 66;refine hD.mono ?_;rintro e w2 ⟨a2,c2,rfl,h2⟩;have x2:=HX.out.newd (Off.of_below h2.out.2);have c0:w2.cell? ⟨d,0,none⟩=some (.int .u32 (P.c:Nat)):=cell_of_row w2 d 0 _ _ _ x2.dev;have hdl2:=x2.dlt;have hdn:¬ d=w2.heap.size:=(by omega);have hdn':¬ w2.heap.size=d:=(by omega);clear x2) | (go_at_call 67;refine (hF _).mono ?_;rintro e w' ⟨rfl,hw⟩;have hw:=hw.symm;subst hw))
       repeat (go_quiet (fail);go_wp2_with fail)
       refine (HT.out w2 a2 c2 h2.out.1 h2.out.2 _ (below_drewN ((Below.refl _ _).alloc (Nat.le_refl _) _) _)).mono ?_
       rintro e w5 ⟨v,rfl,h5⟩
       clear hD hF h2 c0 hdl2 hdn hdn'
       go_wp2_with fail
       go_ret2
       exact⟨v,rfl,h5⟩
    ·have hh:dhear P mx n s len bs=⟨s,fm0,44⟩:=by unfold dhear;rw[if_neg (by omega),if_neg hK,if_pos hC]
     rw[hh,if_pos ⟨by show (44:Int)≠0;omega,by show (44:Int)≠70;omega⟩]
     clear hh
     have hC1:(((w4v bs 1:Nat):Int) != (P.c:Int))=true:=by simp;omega
     have HX:Hid (_):=x
     clear x hE h6 hk1 hf1 hK hby hC
     go_enter Tryz.func19,Tryz.ntmps19
     go_wp2_with (first | (go_at_call 66;refine hD.mono ?_;rintro e w2 ⟨a2,c2,rfl,h2⟩;have x2:=HX.out.newd (Off.of_below h2.out.2);have c0:w2.cell? ⟨d,0,none⟩=some (.int .u32 (P.c:Nat)):=cell_of_row w2 d 0 _ _ _ x2.dev;have c19:w2.cell? ⟨d,19,none⟩=some (.int .u32 (s.ss:Nat)):=cell_of_row w2 d 19 _ _ _ x2.dev;have c20:w2.cell? ⟨d,20,none⟩=some (.int .u32 (s.nm:Nat)):=cell_of_row w2 d 20 _ _ _ x2.dev;have hdl2:=x2.dlt;have hdn:¬ d=w2.heap.size:=(by omega);have hdn':¬ w2.heap.size=d:=(by omega);have HB:Hid (_):=h2.out.2.trans (((Below.refl w2.heap.size w2).alloc (Nat.le_refl _) (.cells #[.int .i64 (bs 0:Nat),.int .u32 (w4v bs 1:Nat),.int .u32 (w4v bs 5:Nat),.int .u32 (w4v bs 9:Nat),.int .i64 (bs 13:Nat),.slice a2 (len-19) c2] 114)).mono h2.out.2.size);clear h2 x2) | (go_at_call 67;refine (hF _).mono ?_;rintro e w' ⟨rfl,hw⟩;have hw:=hw.symm;subst hw))
     repeat (go_quiet (fail);go_wp2_with fail)
     go_region_with (go_at_call 69;refine (hN 44 _ (by repeat (first | exact HB.out | refine below_drewN ?_ _ | refine Below.drew ?_))).mono ?_;rintro e w5 ⟨r,rfl,h5⟩)
     all_goals
      go_wp2_with fail
      go_ret2
      exact⟨_,rfl,h5⟩
  ·have hD:=refDec_no a len cap bs w hr hE
   have hrg:=DE_rng bs len
   have hh:dhear P mx n s len bs=⟨s,fm0,DE bs len⟩:=by unfold dhear;rw[if_pos hE]
   rw[hh,if_pos ⟨hE,by show DE bs len≠70;omega⟩]
   clear hh
   have e0:(DE bs len == 0)=false:=by simpa using hE
   have e0':(DE bs len=0)=False:=by simpa using hE
   have e1:(DE bs len != 0)=true:=by simpa using hE
   have e7:(DE bs len != 70)=true:=by simp;omega
   generalize DE bs len=E at *
   have HX:Hid (_):=x
   clear h x hr hE hsn ho hL ht hss h6 hrg
   go_enter Tryz.func19,Tryz.ntmps19
   go_wp2_with (go_at_call 66;refine hD.mono ?_;rintro e w2 ⟨rfl,b2⟩;have x2:=HX.out.newd (Off.of_below b2);have c19:w2.cell? ⟨d,19,none⟩=some (.int .u32 (s.ss:Nat)):=cell_of_row w2 d 19 _ _ _ x2.dev;have c20:w2.cell? ⟨d,20,none⟩=some (.int .u32 (s.nm:Nat)):=cell_of_row w2 d 20 _ _ _ x2.dev;have hdl2:=x2.dlt;have hdn:¬ d=w2.heap.size:=(by omega);have hdn':¬ w2.heap.size=d:=(by omega);have HB:Hid (_):=b2.trans (((Below.refl w2.heap.size w2).alloc (Nat.le_refl _) (.cells #[.int .i64 0,.int .u32 0,.int .u32 0,.int .u32 0,.int .i64 0,.slice none 0 0] 114)).mono b2.size);clear b2 x2)
   repeat (go_quiet (fail);go_wp2_with fail)
   go_region_with (go_at_call 69;refine (hN E _ (by repeat (first | exact HB.out | refine below_drewN ?_ _ | refine Below.drew ?_))).mono ?_;rintro e w5 ⟨r,rfl,h5⟩)
   all_goals
    go_wp2_with fail
    go_ret2
    exact⟨_,rfl,h5⟩
end Go.Proofs.YtffehehghpafdaaGreat
