/- Part 34 of the texts on which the proofs of layer 13 rest: contracts of Go functions. -/
import Derived.Maps.RangeWalk
import Derived.Test.YthbogkaoidbpgaaGreatPkB13
import Derived.Test.YthbogkaoidbpgaaGreatPkB15
import Derived.Test.YthbogkaoidbpgaaGreatPkB17
import Derived.Test.YthbogkaoidbpgaaGreatPkB23
import Derived.Test.YthbogkaoidbpgaaGreatPkB24
import Derived.Test.YthbogkaoidbpgaaGreatPkB25
import Derived.Test.YthbogkaoidbpgaaGreatPkB26
import Derived.Test.YthbogkaoidbpgaaGreatPkB27
import Derived.Test.YthbogkaoidbpgaaGreatPkB31
import Derived.Test.YthbogkaoidbpgaaGreatPkB32
namespace Go.Proofs.YthbogkaoidbpgaaGreat
set_option maxRecDepth 100000
open Go.RowKit
theorem runit_any (d m g n mx:Nat) (P:Pm) (U:List Nat) (s:Sd) (k c ss num fl:Nat) (a:Option Addr) (len cap:Nat) (bs:Nat→Nat) (w:World) (h:RW w d m g n mx P U s) (hr:Row8 w a len cap bs) (ha:∀ x,a=some x→x.block<w.heap.size∧x.block ∉ U) (hk:1≤k∧k≤5) (hsn:s.st=4→s.sn+1<4294967296) (hs:s.st≠6) (ho:s.od<4) (hL:s.L.length<800000) (ht:s.ms.t<9223372036854774000) (hss:s.ss<4294967296) :
  Calls Tryz.prog 52 #[.pointer (some ⟨d,0,none⟩),.agg #[.int .i64 (k:Nat),.int .u32 (c:Nat),.int .u32 (ss:Nat),.int .u32 (num:Nat),.int .i64 (fl:Nat),.slice a len cap]] w fun e w'=>∃ v,e=.returned (.tuple #[v,.int .i64 (dtake P mx n s k ss num fl len bs).e])∧Hid (OutR U w w' d m g n mx P (dtake P mx n s k ss num fl len bs).s (dtake P mx n s k ss num fl len bs).f v):=by
 have:k=1∨k=2∨k=3∨k=4∨k=5:=by omega
 rcases this with rfl | rfl | rfl | rfl | rfl
 ·exact runit1_any d m g n mx P U s c ss num fl a len cap bs w h hr ha hsn hs ho hL ht hss
 ·exact runit2_any d m g n mx P U s c ss num fl a len cap bs w h hr ha hsn hs ho hL ht hss
 ·exact runit3_any d m g n mx P U s c ss num fl a len cap bs w h hr ha hsn hs ho hL ht hss
 ·exact runit4_any d m g n mx P U s c ss num fl a len cap bs w h hr ha hsn hs ho hL ht hss
 ·exact runit5_any d m g n mx P U s c ss num fl a len cap bs w h hr ha hsn hs ho hL ht hss
set_option maxHeartbeats 6400000 in
theorem rreceive_any (d m g n mx:Nat) (P:Pm) (U:List Nat) (s:Sd) (a:Option Addr) (len cap:Nat) (bs:Nat→Nat) (w:World) (h:RW w d m g n mx P U s) (hr:Row8 w a len cap bs) (hsn:s.st=4→s.sn+1<4294967296) (ho:s.od<4) (hL:s.L.length<800000) (ht:s.ms.t<9223372036854774000) (hss:s.ss<4294967296) :
  Calls Tryz.prog 14 #[.pointer (some ⟨d,0,none⟩),.slice a len cap] w fun e w'=>∃ v,e=.returned (.tuple #[v,.int .i64 (drecv P mx n s len bs).e])∧Hid (OutR U w w' d m g n mx P (drecv P mx n s len bs).s (drecv P mx n s len bs).f v):=by
 obtain⟨B,x⟩:=id h
 have c18:w.cell? ⟨d,18,none⟩=some (.int .i64 (s.st:Nat)):=cell_of_row w d 18 _ _ _ x.dev
 unfold drecv
 by_cases h6:s.st=6
 ·rw[if_pos h6]
  rw[h6]at c18
  have H:Hid (_):=h
  clear h x hr hsn ho hL ht hss
  go_enter Tryz.func14,Tryz.ntmps14
  go_wp2_with fail
  go_ret2
  exact⟨_,rfl,OutR.none_ (Gr.refl _ _) H.out⟩
 ·rw[if_neg h6]
  have e6:((s.st:Int) == 6)=false:=by simp;omega
  have hdl:=x.dlt
  have hN:∀ (E:Int) wx,Below w.heap.size w wx→Calls Tryz.prog 53 #[.pointer (some ⟨d,8,none⟩),.int .i64 E,.int .u32 (s.ss:Nat),.int .u32 (s.nm:Nat)] wx fun e w'=>∃ r,e=.returned (.int .i64 r)∧Hid (OutR U w w' d m g n mx P (dnote s E) fm0 (.slice none 0 0)):=by
   intro E wx hb
   refine (rnotev_any d m g n mx P U s B _ E wx (x.newd (Off.of_below hb)) (by omega)).mono ?_
   rintro e w' ⟨rfl,h5⟩
   obtain⟨U5,B5,g5,x5⟩:=h5.out
   exact⟨_,rfl,OutR.none_ ((Gr.below hb).trans g5) ⟨B5,x5⟩⟩
  by_cases hE:DE bs len=0
  ·have hD:=refDec_ok a len cap bs w hr hE
   obtain⟨_,_,_,hLW⟩:=DE_zero hE
   obtain⟨hk1,_,_,_,hf1⟩:=LW_zero hLW
   have HH:Hid (_):=And.intro h (And.intro hsn (And.intro h6 (And.intro ho (And.intro hL (And.intro ht hss)))))
   have hby:∀ i,i<len→bs i<256:=hr.byte
   clear h hr hsn ho hL ht hLW hss
   by_cases hK:hostK (bs 0:Int)=false
   ·have hh:dhear P mx n s len bs=⟨s,fm0,43⟩:=by unfold dhear;rw[if_neg (by omega),if_pos hK]
    rw[hh,if_pos ⟨by show (43:Int)≠0;omega,by show (43:Int)≠70;omega⟩]
    clear hh
    have hF:=fun wx=>refHost_any (bs 0:Int) wx
    rw[hK]at hF
    have HX:Hid (_):=x
    clear x hE h6 hk1 hf1 hK hby
    go_enter Tryz.func14,Tryz.ntmps14
    go_wp2_with (first | (go_at_call 50;refine hD.mono ?_;rintro e w2 ⟨a2,c2,rfl,h2⟩;have x2:=HX.out.newd (Off.of_below h2.out.2);have c19:w2.cell? ⟨d,19,none⟩=some (.int .u32 (s.ss:Nat)):=cell_of_row w2 d 19 _ _ _ x2.dev;have c20:w2.cell? ⟨d,20,none⟩=some (.int .u32 (s.nm:Nat)):=cell_of_row w2 d 20 _ _ _ x2.dev;have hdl2:=x2.dlt;have hdn:¬ d=w2.heap.size:=(by omega);have hdn':¬ w2.heap.size=d:=(by omega);have HB:Hid (_):=h2.out.2.trans (((Below.refl w2.heap.size w2).alloc (Nat.le_refl _) (.cells #[.int .i64 (bs 0:Nat),.int .u32 (w4v bs 1:Nat),.int .u32 (w4v bs 5:Nat),.int .u32 (w4v bs 9:Nat),.int .i64 (bs 13:Nat),.slice a2 (len-19) c2] 107)).mono h2.out.2.size);clear h2 x2) | (go_at_call 51;refine (hF _).mono ?_;rintro e w' ⟨rfl,hw⟩;have hw:=hw.symm;subst hw))
    repeat (go_quiet (fail);go_wp2_with fail)
    go_region_with (go_at_call 53;refine (hN 43 _ (by repeat (first | exact HB.out | refine below_drewN ?_ _ | refine Below.drew ?_))).mono ?_;rintro e w5 ⟨r,rfl,h5⟩)
    all_goals
     go_wp2_with fail
     go_ret2
     exact⟨_,rfl,h5⟩
   ·have hK':hostK (bs 0:Int)=true:=by simpa using hK
    have hk5:1≤bs 0∧bs 0≤5:=by unfold hostK at hK';simp at hK';omega
    have hF:=fun wx=>refHost_any (bs 0:Int) wx
    rw[hK']at hF
    by_cases hC:w4v bs 1=P.c
    ·have hh:dhear P mx n s len bs=dtake P mx n s (bs 0) (w4v bs 5) (w4v bs 9) (bs 13) (len-19) (fun i=>bs (15+i)):=by unfold dhear;rw[if_neg (by omega),if_neg hK,if_neg (by omega)]
     rw[hh]
     clear hh
     have hT:∀ (w2:World) (a2:Option Addr) (c2:Nat),w2.ownsRow w.heap.size 5 1 (.slice a2 (len-19) c2) (len-19) (CB (fun i=>bs (15+i)) (len-19))→Below w.heap.size w w2→∀ wx,Below w2.heap.size w2 wx →
       Calls Tryz.prog 52 #[.pointer (some ⟨d,0,none⟩),.agg #[.int .i64 (bs 0:Nat),.int .u32 (P.c:Nat),.int .u32 (w4v bs 5:Nat),.int .u32 (w4v bs 9:Nat),.int .i64 (bs 13:Nat),.slice a2 (len-19) c2]] wx fun e w'=>∃ v,e=.returned (.tuple #[v,.int .i64 (dtake P mx n s (bs 0) (w4v bs 5) (w4v bs 9) (bs 13) (len-19) (fun i=>bs (15+i))).e])∧Hid (OutR U w w' d m g n mx P (dtake P mx n s (bs 0) (w4v bs 5) (w4v bs 9) (bs 13) (len-19) (fun i=>bs (15+i))).s (dtake P mx n s (bs 0) (w4v bs 5) (w4v bs 9) (bs 13) (len-19) (fun i=>bs (15+i))).f v):=by
      intro w2 a2 c2 ho2 hb2 wx hbx
      obtain⟨h,hsn,hs,ho,hL,ht,hss⟩:=HH.out
      have hr2:Row8 w2 a2 (len-19) c2 (fun i=>bs (15+i)):=own_slice8 ho2 (fun i hi=>hby _ (by omega))
      have hbb:Below w.heap.size w wx:=hb2.trans (hbx.mono hb2.size)
      refine (runit_any d m g n mx P U s (bs 0) P.c (w4v bs 5) (w4v bs 9) (bs 13) a2 (len-19) c2 _ wx (RW.below h hbb) (hr2.below hbx) (fun x hx=>?_) hk5 hsn hs ho hL ht hss).mono ?_
      ·have:=own_far ho2 x hx
       exact⟨Nat.lt_of_lt_of_le this.2 hbx.size,fun hm=>by have:=RW.ult h _ hm;omega⟩
      ·rintro e w' ⟨v,rfl,h5⟩
       exact⟨v,rfl,OutR.pre (Gr.below hbb) h5.out⟩
     have hre:=dtake_e P mx n s (bs 0) (w4v bs 5) (w4v bs 9) (bs 13) (len-19) (fun i=>bs (15+i))
     have hrl:=dtake_len P mx n s (bs 0) (w4v bs 5) (w4v bs 9) (bs 13) (len-19) (fun i=>bs (15+i))
     generalize dtake P mx n s (bs 0) (w4v bs 5) (w4v bs 9) (bs 13) (len-19) (fun i=>bs (15+i))=R at *
     have HL:Hid (R.s.L.length<900000):=(by show _<_;have:=HH.out.2.2.2.2.1;omega)
     have HT:Hid (_):=hT
     have HX:Hid (_):=x
     have hC1:((w4v bs 1:Nat):Int)=(P.c:Int):=by omega
     rw[hC1]at hD
     clear hT x hby hk1 hf1 hk5 hE hK hC hC1 hN h6 hre hrl
     by_cases he:R.e≠0∧R.e≠70
     ·rw[if_pos he]
      have e0:(R.e != 0)=true:=by simpa using he.1
      have e7:(R.e != 70)=true:=by simpa using he.2
      clear he
      go_enter Tryz.func14,Tryz.ntmps14
      go_wp2_with (first | (go_at_call 50;refine hD.mono ?_;rintro e w2 ⟨a2,c2,rfl,h2⟩;have x2:=HX.out.newd (Off.of_below h2.out.2);have c0:w2.cell? ⟨d,0,none⟩=some (.int .u32 (P.c:Nat)):=cell_of_row w2 d 0 _ _ _ x2.dev;have hdl2:=x2.dlt;have hdn:¬ d=w2.heap.size:=(by omega);have hdn':¬ w2.heap.size=d:=(by omega);clear x2) | (go_at_call 51;refine (hF _).mono ?_;rintro e w' ⟨rfl,hw⟩;have hw:=hw.symm;subst hw))
      repeat (go_quiet (fail);go_wp2_with fail)
      refine (HT.out w2 a2 c2 h2.out.1 h2.out.2 _ (below_drewN ((Below.refl _ _).alloc (Nat.le_refl _) _) _)).mono ?_
      rintro e w5 ⟨v,rfl,h5⟩
      obtain⟨U5,g5,⟨B5,x5⟩,f5,k5⟩:=h5.out
      have c19:w5.cell? ⟨d,19,none⟩=some (.int .u32 (R.s.ss:Nat)):=cell_of_row w5 d 19 _ _ _ x5.dev
      have c20:w5.cell? ⟨d,20,none⟩=some (.int .u32 (R.s.nm:Nat)):=cell_of_row w5 d 20 _ _ _ x5.dev
      have hM:=rnotev_any d m g n mx P U5 R.s B5 _ R.e w5.drew (x5.newd (Off.drew [] w5)) HL.out
      have H5:Hid (_):=And.intro g5 (And.intro f5 k5)
      clear hD hF h2 c0 h5 g5 x5 f5 k5 hdl2 hdn hdn'
      go_wp2_with fail
      go_region_with (go_at_call 53;refine hM.mono ?_;rintro e w6 ⟨rfl,h6⟩)
      all_goals
       go_wp2_with fail
       go_ret2
       obtain⟨U6,B6,g6,x6⟩:=h6.out
       exact⟨v,rfl,OutR.next H5.out.1 H5.out.2.1 H5.out.2.2 (Gr.trans (Gr.same (Off.drew [] w5) (by simp)) g6) ⟨B6,x6⟩⟩
     ·rw[if_neg he]
      have he':R.e=0∨R.e=70:=by omega
      clear he
      rcases he' with he | he
      all_goals
       rw[he]at HT ⊢
       go_enter Tryz.func14,Tryz.ntmps14
       go_wp2_with (first | (go_at_call 50;refine hD.mono ?_;rintro e w2 ⟨a2,c2,rfl,h2⟩;have x2:=HX.out.newd (Off.of_below h2.out.2);have c0:w2.cell? ⟨d,0,none⟩=some (.int .u32 (P.c:Nat)):=cell_of_row w2 d 0 _ _ _ x2.dev;have hdl2:=x2.dlt;have hdn:¬ d=w2.heap.size:=(by omega);have hdn':¬ w2.heap.size=d:=(by omega);clear x2) | (go_at_call 51;refine (hF _).mono ?_;rintro e w' ⟨rfl,hw⟩;have hw:=hw.symm;subst hw))
       repeat (go_quiet (fail);go_wp2_with fail)
       refine (HT.out w2 a2 c2 h2.out.1 h2.out.2 _ (below_drewN ((Below.refl _ _).alloc (Nat.le_refl _) _) _)).mono ?_
       rintro e w5 ⟨v,rfl,h5⟩
       clear hD hF h2 c0 hdl2 hdn hdn'
       go_wp2_with fail
       go_ret2
       exact⟨v,rfl,h5⟩
    ·have hh:dhear P mx n s len bs=⟨s,fm0,44⟩:=by unfold dhear;rw[if_neg (by omega),if_neg hK,if_pos hC]
     rw[hh,if_pos ⟨by show (44:Int)≠0;omega,by show (44:Int)≠70;omega⟩]
     clear hh
     have hC1:(((w4v bs 1:Nat):Int) != (P.c:Int))=true:=by simp;omega
     have HX:Hid (_):=x
     clear x hE h6 hk1 hf1 hK hby hC
     go_enter Tryz.func14,Tryz.ntmps14
     go_wp2_with (first | (go_at_call 50;refine hD.mono ?_;rintro e w2 ⟨a2,c2,rfl,h2⟩;have x2:=HX.out.newd (Off.of_below h2.out.2);have c0:w2.cell? ⟨d,0,none⟩=some (.int .u32 (P.c:Nat)):=cell_of_row w2 d 0 _ _ _ x2.dev;have c19:w2.cell? ⟨d,19,none⟩=some (.int .u32 (s.ss:Nat)):=cell_of_row w2 d 19 _ _ _ x2.dev;have c20:w2.cell? ⟨d,20,none⟩=some (.int .u32 (s.nm:Nat)):=cell_of_row w2 d 20 _ _ _ x2.dev;have hdl2:=x2.dlt;have hdn:¬ d=w2.heap.size:=(by omega);have hdn':¬ w2.heap.size=d:=(by omega);have HB:Hid (_):=h2.out.2.trans (((Below.refl w2.heap.size w2).alloc (Nat.le_refl _) (.cells #[.int .i64 (bs 0:Nat),.int .u32 (w4v bs 1:Nat),.int .u32 (w4v bs 5:Nat),.int .u32 (w4v bs 9:Nat),.int .i64 (bs 13:Nat),.slice a2 (len-19) c2] 107)).mono h2.out.2.size);clear h2 x2) | (go_at_call 51;refine (hF _).mono ?_;rintro e w' ⟨rfl,hw⟩;have hw:=hw.symm;subst hw))
     repeat (go_quiet (fail);go_wp2_with fail)
     go_region_with (go_at_call 53;refine (hN 44 _ (by repeat (first | exact HB.out | refine below_drewN ?_ _ | refine Below.drew ?_))).mono ?_;rintro e w5 ⟨r,rfl,h5⟩)
     all_goals
      go_wp2_with fail
      go_ret2
      exact⟨_,rfl,h5⟩
  ·have hD:=refDec_no a len cap bs w hr hE
   have hrg:=DE_rng bs len
   have hh:dhear P mx n s len bs=⟨s,fm0,DE bs len⟩:=by unfold dhear;rw[if_pos hE]
   rw[hh,if_pos ⟨hE,by show DE bs len≠70;omega⟩]
   clear hh
   have e0:(DE bs len == 0)=false:=by simpa using hE
   have e0':(DE bs len=0)=False:=by simpa using hE
   have e1:(DE bs len != 0)=true:=by simpa using hE
   have e7:(DE bs len != 70)=true:=by simp;omega
   generalize DE bs len=E at *
   have HX:Hid (_):=x
   clear h x hr hE hsn ho hL ht hss h6 hrg
   go_enter Tryz.func14,Tryz.ntmps14
   go_wp2_with (go_at_call 50;refine hD.mono ?_;rintro e w2 ⟨rfl,b2⟩;have x2:=HX.out.newd (Off.of_below b2);have c19:w2.cell? ⟨d,19,none⟩=some (.int .u32 (s.ss:Nat)):=cell_of_row w2 d 19 _ _ _ x2.dev;have c20:w2.cell? ⟨d,20,none⟩=some (.int .u32 (s.nm:Nat)):=cell_of_row w2 d 20 _ _ _ x2.dev;have hdl2:=x2.dlt;have hdn:¬ d=w2.heap.size:=(by omega);have hdn':¬ w2.heap.size=d:=(by omega);have HB:Hid (_):=b2.trans (((Below.refl w2.heap.size w2).alloc (Nat.le_refl _) (.cells #[.int .i64 0,.int .u32 0,.int .u32 0,.int .u32 0,.int .i64 0,.slice none 0 0] 107)).mono b2.size);clear b2 x2)
   repeat (go_quiet (fail);go_wp2_with fail)
   go_region_with (go_at_call 53;refine (hN E _ (by repeat (first | exact HB.out | refine below_drewN ?_ _ | refine Below.drew ?_))).mono ?_;rintro e w5 ⟨r,rfl,h5⟩)
   all_goals
    go_wp2_with fail
    go_ret2
    exact⟨_,rfl,h5⟩
open Go.RowKit Go.Maps Go.Sort Go.Shelf
section
variable {w w':World} {b lost:Nat} {v1 v2:Value} {ds ns:List Nat}
end
end Go.Proofs.YthbogkaoidbpgaaGreat
namespace Go.Proofs.YthbogkaoidbpgaaGreat
set_option maxRecDepth 100000
open Go.RowKit
theorem dsay_byte (P:Pm) (s:Sd) (k num fl len:Nat) (bs:Nat→Nat) (hb:∀ i,i<len→bs i<256):∀ i,i < (dsay P s k num fl len bs).1→(dsay P s k num fl len bs).2 i<256:=encF_byte _ _ _ _ _ _ _ hb
theorem no_byte {bs:Nat→Nat}:∀ i,i<0→bs i<256:=fun i hi=>absurd hi (Nat.not_lt_zero i)
theorem fm0_byte:∀ i,i<fm0.1→fm0.2 i<256:=fun i hi=>absurd hi (Nat.not_lt_zero i)
theorem dbegin_byte (P:Pm) (mx n:Nat) (s:Sd):∀ i,i < (dbegin P mx n s).f.1→(dbegin P mx n s).f.2 i<256:=by
 unfold dbegin
 split
 ·exact dsay_byte _ _ _ _ _ _ _ no_byte
 ·split
  ·exact fm0_byte
  ·exact dsay_byte _ _ _ _ _ _ _ (dsg_byte P)
theorem dwish_byte (P:Pm) (mx n:Nat) (s:Sd):∀ i,i < (dwish P mx n s).f.1→(dwish P mx n s).f.2 i<256:=by
 unfold dwish
 split
 ·exact dsay_byte _ _ _ _ _ _ _ (dsg_byte P)
 ·split
  ·exact dsay_byte _ _ _ _ _ _ _ no_byte
  ·exact dbegin_byte P mx n _
theorem drefuse_byte (P:Pm) (s:Sd) (e:Int):∀ i,i < (drefuse P s e).f.1→(drefuse P s e).f.2 i<256:=dsay_byte _ _ _ _ _ _ _ no_byte
theorem dtake_byte (P:Pm) (mx n:Nat) (s:Sd) (hap:∀ i,i<P.i→s.ap i<256) (k ss num fl len:Nat) (bs:Nat→Nat):∀ i,i < (dtake P mx n s k ss num fl len bs).f.1→(dtake P mx n s k ss num fl len bs).f.2 i<256:=by
 unfold dtake
 split
 ·split
  ·exact dwish_byte P mx n s
  ·exact drefuse_byte P s _
 ·split
  ·split
   ·exact dsay_byte _ _ _ _ _ _ _ no_byte
   ·exact drefuse_byte P s _
  ·split
   ·exact dsay_byte _ _ _ _ _ _ _ no_byte
   ·split
    ·exact dsay_byte _ _ _ _ _ _ _ hap
    ·split
     ·exact dsay_byte _ _ _ _ _ _ _ no_byte
     ·exact drefuse_byte P s _
theorem drecv_byte (P:Pm) (mx n:Nat) (s:Sd) (hap:∀ i,i<P.i→s.ap i<256) (len:Nat) (bs:Nat→Nat):∀ i,i < (drecv P mx n s len bs).f.1→(drecv P mx n s len bs).f.2 i<256:=by
 have hh:∀ i,i < (dhear P mx n s len bs).f.1→(dhear P mx n s len bs).f.2 i<256:=by
  unfold dhear
  split
  ·exact fm0_byte
  ·split
   ·exact fm0_byte
   ·split
    ·exact fm0_byte
    ·exact dtake_byte P mx n s hap _ _ _ _ _ _
 unfold drecv
 split
 ·exact fm0_byte
 ·split
  ·exact hh
  ·exact hh
open Go.RowKit Go.Maps
theorem rdQ_shape {v:Value} {y:DataW Unit × List MemPlace} (h:rdQ v=some y):∃ o,v=ptq o:=by
 unfold rdQ at h
 split at h
 ·rename_i cs
  split at h
  ·rename_i e
   have e2:cs=#[.pointer none,.pointer none]:=Array.toList_inj.1 e
   exact⟨none,by rw[e2];rfl⟩
  ·rename_i d k e
   have e2:cs=#[.pointer (some ⟨d,0,none⟩),.pointer (some ⟨k,0,none⟩)]:=Array.toList_inj.1 e
   exact⟨some (d,k),by rw[e2];rfl⟩
  ·cases h
 ·cases h
theorem fnd_get {L:List Prt} (h:L.Pairwise (fun p q=>p.c≠q.c∧p.k≠q.k)) (j:Nat) (hj:j<L.length):fnd L (L[j]).c=some (L[j]):=by
 induction L generalizing j with
 | nil=>simp at hj
 | cons q L ih=>
  cases j with
  | zero=>simp[fnd]
  | succ j=>
   simp only[List.length_cons]at hj
   have hj':j<L.length:=by omega
   have e:(q :: L)[j+1]=L[j]:=rfl
   rw[e]
   unfold fnd
   rw[if_neg ((List.pairwise_cons.1 h).1 _ (List.getElem_mem hj')).1]
   exact ih (List.pairwise_cons.1 h).2 j hj'
theorem ranges_off {w w':World} {k:TypeId} {R:Value→Option (DataW Unit × List MemPlace)} {b r n cnt:Nat} {D:DataW Unit} {left:Lit→Bool} {l:List Nat} (h:w.ranges Tryz.prog k R b r n D left cnt) (o:Off l w w') (hb:b ∉ l) (hr:r ∉ l):w'.ranges Tryz.prog k R b r n D left cnt:=by
 obtain⟨es,clock,since,seen,c0,h1,h2,h3,h4,h5,rest⟩:=h
 exact⟨es,clock,since,seen,c0,(o.block b (Array.getElem?_eq_some_iff.1 h1).1 hb).trans h1,h2,h3,h4,(o.block r (Array.getElem?_eq_some_iff.1 h5).1 hr).trans h5,rest⟩
def rgT (b:Nat) (L:List Prt) (lost l mb nn:Nat) (D:DataW Unit) (r:Nat) (left:Lit→Bool) (cnt:Nat):Thing:=
 ⟨r :: MXU L b l mb,fun w=>MX w b L lost l mb nn D∧w.ranges Tryz.prog 40 rdQ mb r nn D left cnt,fun _ _ _ h o hl=>⟨h.1.off o (fun k hk=>hl k (by simp[hk])),ranges_off h.2 o (hl mb (by simp[MXU])) (hl r (by simp))⟩⟩
theorem Off.grown {w w':World} {r:Nat} (h:w.grownBy w' (some r)):Off [r] w w':=⟨h.os,h.tape,h.output,h.size,fun k hk hb=>h.block k hk (fun e=>hb (by simp only[Option.some.injEq]at e;simp[e]))⟩
theorem Off.grown0 {w w':World} (h:w.grownBy w' none):Off [] w w':=⟨h.os,h.tape,h.output,h.size,fun k hk hb=>h.block k hk (by simp)⟩
def tkD (x:Dr) (n:Int):Dr:={ x with s:=dtickS x.P x.s n }
structure Tkg (w0 w:World) (t:Nat→Thing) (L:List Prt) (x:Nat→Dr) (f:Nat→Nat) (n:Int) (b lost l mb nn:Nat) (D:DataW Unit) (r:Nat) (left:Lit→Bool) (cnt:Nat):Prop where
 ex:∃ t',Al w0 w (putT t' 0 (rgT b L lost l mb nn D r left cnt))∧(∀ i,(∀ j,j<L.length→i≠f j)→t' i=t i)∧∀ j (hj:j<L.length),∃ U,t' (f j)=dvT (if left (.int .u32 ((L[j]).c:Nat)) then x j else tkD (x j) n) U
theorem Tkg.rng {w0 w:World} {t:Nat→Thing} {L:List Prt} {x:Nat→Dr} {f:Nat→Nat} {n:Int} {b lost l mb nn:Nat} {D:DataW Unit} {r:Nat} {left:Lit→Bool} {cnt:Nat} (h:Tkg w0 w t L x f n b lost l mb nn D r left cnt):w.ranges Tryz.prog 40 rdQ mb r nn D left cnt:=by
 obtain⟨t',hA,_⟩:=h.ex
 exact (hA.get (putT_same t' 0 _)).2
set_option maxHeartbeats 2000000 in
theorem mtick_any (w0 w:World) (t:Nat→Thing) (b:Nat) (L:List Prt) (lost:Nat) (V:List Nat) (n:Int) (hn:0≤n) (hn':n≤9223372036854775807) (h:Al w0 w t) (e0:t 0=mxT b L lost V) (x:Nat→Dr) (f:Nat→Nat) (hf0:∀ j,j<L.length→f j≠0) (hfi:∀ i j,i<L.length→j<L.length→f i=f j→i=j) (hd:∀ j (hj:j<L.length),(∃ U,t (f j)=dvT (x j) U)∧(x j).d=(L[j]).d∧(x j).s.L.length<800000) :
  Calls Tryz.prog 9 #[.pointer (some ⟨b,0,none⟩),.int .i64 n] w fun e w'=>e=.returned (.int .i64 0)∧Hid (∃ t',Al w0 w' t'∧t' 0=mxT b L lost V∧(∀ i,i≠0→(∀ j,j<L.length→i≠f j)→t' i=t i)∧∀ j,j<L.length→∃ U,t' (f j)=dvT (tkD (x j) n) U):=by
 obtain⟨l,mb,nn,D,hM,hV⟩:=h.mx e0
 have hq:=mnone_any b mb w hM.c0
 have hown:=hM.map
 have c0:=hM.c0
 have hS:∀ w1,w1.ranges Tryz.prog 40 rdQ mb w.heap.size nn D (has D) (Maps.size D)→w.grownBy w1 none→w1.heap.size=w.heap.size+1→Tkg w0 w1 t L x f n b lost l mb nn D w.heap.size (has D) (Maps.size D):=by
  intro w1 hr hg hs
  have o:=Off.grown0 hg
  refine⟨t,h.turn 0 _ (o.more (by simp)) ⟨hM.off o (by simp),hr⟩ (fun k hk=>?_) (fun k hk j hj hm=>?_),fun i _=>rfl,fun j hj=>?_⟩
  ·have hk':k=w.heap.size∨k ∈ V:=by rw[hV];simpa [rgT] using hk
   have hsz:=h.size
   rcases hk' with rfl | hk'
   ·omega
   ·have:=h.lt 0 k (by rw[e0];exact hk')
    omega
  ·have hk':k=w.heap.size∨k ∈ V:=by rw[hV];simpa [rgT] using hk
   rcases hk' with rfl | hk'
   ·have:=(h.lt j _ hm).2;omega
   ·exact h.dis 0 j (Ne.symm hj) k (by rw[e0];exact hk') hm
  ·rw[hM.has_ _ (hM.met _ (List.getElem_mem hj)).2.2,fnd_get hM.one j hj]
   simpa using (hd j hj).1
 have hR:∀ (left:Lit→Bool) (cnt:Nat) (wr w2:World) (z:Int) (o:Option (Nat × Nat)) (y:DataW Unit × List MemPlace) (cnt2:Nat),Tkg w0 wr t L x f n b lost l mb nn D w.heap.size left cnt→(Lit.int .u32 z).wf=true→left (.int .u32 z)=true→rdQ (ptq o)=some y→(∀ zd,D.atKey (.int .u32 z) zd=y.1)→w2.ranges Tryz.prog 40 rdQ mb w.heap.size nn D (fun q=>left q && !q.sameKey (.int .u32 z)) cnt2→wr.grownBy w2 (some w.heap.size) →
   ∃ j U,∃ hj:j<L.length,z=((L[j]).c:Nat)∧o=some ((L[j]).d,(L[j]).k)∧DV w2 (x j).d (x j).m (x j).g (x j).n (x j).mx (x j).P U (x j).s∧(x j).d=(L[j]).d∧(x j).s.L.length<800000∧∀ w3 U',Gr U w2 U' w3→DV w3 (x j).d (x j).m (x j).g (x j).n (x j).mx (x j).P U' (dtickS (x j).P (x j).s n)→Tkg w0 w3 t L x f n b lost l mb nn D w.heap.size (fun q=>left q && !q.sameKey (.int .u32 z)) cnt2:=by
  intro left cnt wr w2 z o y cnt2 hT hz hl hy hat hr hg
  obtain⟨t',hA,hu,hx⟩:=hT.ex
  obtain⟨p,hp,hzp⟩:=hM.key z (has_true_of_atKey hat)
  obtain⟨j,hj,rfl⟩:=List.getElem_of_mem hp
  subst hzp
  have hc:=(hM.met _ (List.getElem_mem hj)).2.2
  have ho:o=some ((L[j]).d,(L[j]).k):=by
   have e1:=hat (datq none)
   rw[hM.at_ _ hc]at e1
   unfold fndq at e1
   rw[fnd_get hM.one j hj]at e1
   rw[rdQ_ptq]at hy
   cases hy
   exact (datq_inj e1).symm
  obtain⟨U,hU⟩:=hx j hj
  rw[if_pos hl]at hU
  have og:=Off.grown hg
  have hA2:Al w0 w2 (putT (putT t' 0 (rgT b L lost l mb nn D w.heap.size left cnt)) 0 (rgT b L lost l mb nn D w.heap.size (fun q=>left q && !q.sameKey (.int .u32 ((L[j]).c:Nat))) cnt2)):=by
   have hg0:=hA.get (putT_same t' 0 _)
   have hrn:w.heap.size ∉ MXU L b l mb:=fun hm=>by have:=hM.lt _ hm;omega
   refine hA.turn 0 _ (og.more ?_) ⟨hg0.1.off og ?_,hr⟩ (fun k hk=>?_) (fun k hk i hi hm=>?_)
   ·intro k hk;rw[putT_same];simp at hk;subst hk;simp[rgT]
   ·intro k hk hm;simp at hm;subst hm;exact hrn hk
   ·have:=hA.lt 0 k (by rw[putT_same];exact hk)
    exact⟨this.1,Nat.lt_of_lt_of_le this.2 og.size⟩
   ·exact hA.dis 0 i (Ne.symm hi) k (by rw[putT_same];exact hk) hm
  have ej:putT (putT t' 0 (rgT b L lost l mb nn D w.heap.size left cnt)) 0 (rgT b L lost l mb nn D w.heap.size (fun q=>left q && !q.sameKey (.int .u32 ((L[j]).c:Nat))) cnt2) (f j)=dvT (x j) U:=by
   rw[putT_ne _ _ (hf0 j hj),putT_ne _ _ (hf0 j hj),hU]
  refine⟨j,U,hj,rfl,ho,hA2.dv ej,(hd j hj).2.1,(hd j hj).2.2,fun w3 U' g D3=>?_⟩
  have hA3:=hA2.stepD ej g D3
  refine⟨putT t' (f j) (dvT (tkD (x j) n) U'),hA3.same (fun i=>?_),fun i hi=>?_,fun i hi=>?_⟩
  ·unfold putT
   by_cases h1:i=0
   ·subst h1
    rw[if_pos rfl,if_neg (Ne.symm (hf0 j hj)),if_pos rfl]
   ·rw[if_neg h1]
    by_cases h2:i=f j
    ·rw[if_pos h2,if_pos h2];rfl
    ·rw[if_neg h2,if_neg h2,if_neg h1,if_neg h1]
  ·rw[putT_ne _ _ (hi j hj)]
   exact hu i hi
  ·by_cases hij:i=j
   ·subst hij
    refine⟨U',?_⟩
    rw[putT_same,if_neg]
    simp[Lit.sameKey]
   ·obtain⟨U2,hU2⟩:=hx i hi
    refine⟨U2,?_⟩
    rw[putT_ne _ _ (fun e=>hij (hfi i j hi hj e)),hU2]
    have hne:(L[i]).c ≠ (L[j]).c:=by
     intro e
     have e1:=fnd_get hM.one i hi
     rw[e,fnd_get hM.one j hj]at e1
     rcases Nat.lt_or_ge i j with hlt | hge
     ·exact (List.pairwise_iff_getElem.1 hM.one i j hi hj hlt).1 e
     ·exact (List.pairwise_iff_getElem.1 hM.one j i hj hi (by omega)).1 e.symm
    have hk:Lit.sameKey (.int .u32 ((L[i]).c:Nat)) (.int .u32 ((L[j]).c:Nat))=false:=sameKey_ne (by simp;omega)
    simp only[hk,Bool.not_false,Bool.and_true]
 have hE:∀ (left:Lit→Bool) (cnt:Nat) (wr:World),Tkg w0 wr t L x f n b lost l mb nn D w.heap.size left cnt→(∀ kl,left kl=false)→∃ t',Al w0 wr t'∧t' 0=mxT b L lost V∧(∀ i,i≠0→(∀ j,j<L.length→i≠f j)→t' i=t i)∧∀ j,j<L.length→∃ U,t' (f j)=dvT (tkD (x j) n) U:=by
  intro left cnt wr hT hl
  obtain⟨t',hA,hu,hx⟩:=hT.ex
  have hg0:=hA.get (putT_same t' 0 _)
  refine⟨putT (putT t' 0 (rgT b L lost l mb nn D w.heap.size left cnt)) 0 (mxT b L lost V),hA.turn 0 _ (Off.refl _ _) ⟨l,mb,nn,D,hg0.1,hV⟩ (fun k hk=>?_) (fun k hk i hi hm=>?_),putT_same _ _ _,fun i h0 hi=>?_,fun j hj=>?_⟩
  ·exact hA.lt 0 k (by rw[putT_same];simp[rgT];exact .inr (hV ▸ hk))
  ·exact hA.dis 0 i (Ne.symm hi) k (by rw[putT_same];simp[rgT];exact .inr (hV ▸ hk)) hm
  ·rw[putT_ne _ _ h0,putT_ne _ _ h0]
   exact hu i hi
  ·obtain⟨U,hU⟩:=hx j hj
   rw[if_neg (by rw[hl];simp)]at hU
   exact⟨U,by rw[putT_ne _ _ (hf0 j hj),putT_ne _ _ (hf0 j hj),hU]⟩
 have H:Hid (_):=And.intro hR hE
 have HS:Hid (_):=hS
 clear hR hE hM hd hf0 hfi h e0 hV hS
 go_enter Tryz.func9,Tryz.ntmps9
 go_wp2_with (first
  | (go_at_call 39;refine hq.mono ?_;rintro e w' ⟨rfl,hw⟩;have hw:=hw.symm;subst hw)
  | (at_range;refine wpList_range_own _ rfl _ 110 rfl 40 115 key_u32 Tryz.underlying110 _ mb nn _ rfl hown ?_;intro w1 hr1 hg1 hs1)
  | go_in)
 have hT1:=HS.out w1 hr1 hg1 hs1
 clear HS hr1 hg1 hs1 hq hown
 go_frame
 go_loopw [6] (fun _ wr=>∃ left cnt,Tkg w0 wr t L x f n b lost l mb nn D w.heap.size left cnt) (fun _ wr=>wr.rangeLeft mb w.heap.size)
 case atStart=>exact⟨_,_,hT1⟩
 case round=>
  obtain⟨left,cnt,hT⟩:=hrel
  have hr:=hT.rng
  have HT:Hid (_):=hT
  clear hT hT1
  go_wp2_with (first
   | (at_next;refine wpList_next_ranges _ rfl _ rfl 40 key_u32 rdQ (fun z:Int=>Value.int .u32 z) ptq (fun key kl hk=>by obtain⟨x,hx,_⟩:=Maps.keyOf_int_inv Tryz.underlying40 hk;exact⟨x,hx⟩) (fun v y hv=>rdQ_shape hv) mb w.heap.size nn _ _ _ rfl hr ?_ ?_)
   | go_in)
  ·intro hc0 hl0
   go_wp2_with fail
   go_ret
   exact⟨rfl,H.out.2 left cnt wr HT.out hl0⟩
  ·intro z o kl yd yp w2 cnt2 hkey hlk hv hat hr2 hlt hg2 hs2 hen
   obtain⟨z',ez,rfl,hz⟩:=Maps.keyOf_int_inv Tryz.underlying40 hkey
   obtain rfl:z=z':=by simpa using ez
   obtain⟨j,U,hj,hzc,rfl,D2,hd,hLl,hK⟩:=H.out.1 left cnt wr w2 z o (yd,yp) cnt2 HT.out hz hlk hv hat hr2 hg2
   have bA:Below w2.heap.size w2 (w2.alloc (.cells #[.pointer (some ⟨(L[j]).d,0,none⟩),.pointer (some ⟨(L[j]).k,0,none⟩)] 115)):=(Below.refl _ _).alloc (Nat.le_refl _) _
   have hTk:=dvtick_any _ _ _ _ _ _ _ _ n _ (D2.below bA) hn' hLl
   rw[hd]at hTk
   have HK:Hid (_):=And.intro hK (And.intro bA (And.intro hd hr))
   change (Instr.entry (.pointer (some ⟨w.heap.size,0,none⟩))).run Tryz.prog w2=.ok (.tuple #[.int .u32 z,.agg #[.pointer (some ⟨(L[j]).d,0,none⟩),.pointer (some ⟨(L[j]).k,0,none⟩)]]) w2 at hen
   generalize (L[j]).d=dd at *
   generalize (L[j]).k=kk at *
   clear hK bA D2 hr hr2 hg2 hs2 hat hv hlk hkey
   go_wp2_with (go_at_call 10;refine hTk.mono ?_;rintro e w3 ⟨rfl,h3⟩)
   obtain⟨hK,bA,hd,hr⟩:=HK.out
   obtain⟨U',g,D3⟩:=h3.out
   rw[← hd]at D3
   have hT3:=hK w3 U' (Gr.trans (Gr.below bA) g) D3
   go_roundw
   case rel=>exact⟨_,cnt2,hT3⟩
   case measure=>rw[hT3.rng.left_eq,hr.left_eq];exact hlt
open Go.RowKit Go.Maps Go.Sort Go.Shelf
def setN (E:List Ent) (j:Nat) (s:Sd):List Ent:=E.mapIdx fun i e=>if i=j then { e with s:=s,n:=e.n+1 } else e
theorem setN_len (E:List Ent) (j:Nat) (s:Sd):(setN E j s).length=E.length:=by simp[setN]
theorem setN_get (E:List Ent) (j:Nat) (s:Sd) (i:Nat) (hi:i < (setN E j s).length):(setN E j s)[i]=if i=j then { E[i]'(by simpa [setN] using hi) with s:=s,n:=(E[i]'(by simpa [setN] using hi)).n+1 } else E[i]'(by simpa [setN] using hi):=by
 simp[setN]
theorem setN_map {α:Type} (E:List Ent) (j:Nat) (s:Sd) (f:Ent→α) (hf:∀ e s n,f { e with s:=s,n:=n }=f e):(setN E j s).map f=E.map f:=by
 apply List.ext_getElem
 ·simp[setN]
 ·intro i h1 h2
  rw[List.getElem_map,List.getElem_map,setN_get]
  split
  ·exact hf _ _ _
  ·rfl
def One (E:List Ent):Prop:=∀ i j (hi:i<E.length) (hj:j<E.length),(E[i]).L.P.c=(E[j]).L.P.c→i=j
theorem Mxx.uniq {w:World} {b lost:Nat} {E:List Ent} {V:List Nat} (h:Mxx w b (prts E) lost V):One E:=by
 obtain⟨l,mb,nn,D,h,_⟩:=h
 intro i j hi hj e
 have hi':i < (prts E).length:=by rw[prts_len];exact hi
 have hj':j < (prts E).length:=by rw[prts_len];exact hj
 have hp:=List.pairwise_iff_getElem.1 h.one
 rcases Nat.lt_trichotomy i j with h1 | h1 | h1
 ·have:=(hp i j hi' hj' h1).1
  rw[prts_get,prts_get]at this
  exact absurd e this
 ·exact h1
 ·have:=(hp j i hj' hi' h1).1
  rw[prts_get,prts_get]at this
  exact absurd e.symm this
theorem bump_get (L:List Prt) (c i:Nat) (h:i < (bump L c).length):(bump L c)[i]=if (L[i]'(by simpa [bump] using h)).c=c then { L[i]'(by simpa [bump] using h) with n:=(L[i]'(by simpa [bump] using h)).n+1 } else L[i]'(by simpa [bump] using h):=by
 simp[bump]
theorem prts_setN {E:List Ent} (h:One E) {j:Nat} {en:Ent} (he:E[j]?=some en) (s:Sd):prts (setN E j s)=bump (prts E) en.L.P.c:=by
 obtain⟨hj,rfl⟩:=List.getElem?_eq_some_iff.1 he
 apply List.ext_getElem
 ·simp[prts,setN,bump]
 ·intro i h1 h2
  have hi:i<E.length:=by simpa [prts,setN] using h1
  have h3:i < (prts E).length:=by rw[prts_len];exact hi
  rw[prts_get,bump_get,prts_get]
  by_cases e:i=j
  ·subst e
   simp[setN]
  ·have hne:¬ (E[i]).L.P.c=(E[j]).L.P.c:=fun k=>e (h i j hi hj k)
   simp[setN,e,hne]
section
variable {w0 w:World} {b r lost:Nat} {E:List Ent} {t:Nat→Thing} {V:List Nat} {a:Option Addr} {len cap:Nat} {bs:Nat→Nat}
theorem recvP_lost (A:Al w0 w t) (e0:t 0=mxT b (prts E) lost V) (hr:Row8 w a len cap bs) (hE:pfE (prts E) bs len≠0) (hl:lost<1000000) :
  Calls Tryz.prog 12 #[.pointer (some ⟨b,0,none⟩),.slice a len cap] w fun e w'=>e=.returned (.tuple #[.int .u32 0,.slice none 0 0,.int .i64 (pfE (prts E) bs len)])∧Hid (∃ t',Al w0 w' t'∧t' 0=mxT b (prts E) (lost+1) V∧∀ i,i≠0→t' i=t i):=by
 refine (mrecv_lost b (prts E) lost V a len cap bs w (A.mx e0) hr hE hl).mono ?_
 rintro e w' ⟨rfl,h⟩
 refine⟨rfl,_,A.put0 e0 h.out.1 h.out.2 (fun k hk=>.inl hk),putT_same _ _ _,fun i hi=>putT_ne _ _ hi⟩
theorem recvP_found (A:Al w0 w t) (e0:t 0=mxT b (prts E) lost V) {j:Nat} {en:Ent} (he:E[j]?=some en) {U:List Nat} (ed:t (10+2*j)=dvT (en.L.dr en.s) U) (hr:Row8 w a len cap bs) (hra:∀ x,a=some x→x.block ∉ V) (hD:DE bs len=0) (hc:w4v bs 1=en.L.P.c) (hv:Iv en.L.P en.s) (hL:en.s.L.length<800000) (ht:en.s.ms.t<9223372036854774000) (hn:en.n<1000000) :
  Calls Tryz.prog 12 #[.pointer (some ⟨b,0,none⟩),.slice a len cap] w fun e w'=>∃ ax cx,e=.returned (.tuple #[.int .u32 (en.L.P.c:Nat),.slice ax (drecv en.L.P en.L.mx en.L.n en.s len bs).f.1 cx,.int .i64 (drecv en.L.P en.L.mx en.L.n en.s len bs).e])∧Hid (∃ t' U',Al w0 w' t'∧t' 0=mxT b (bump (prts E) en.L.P.c) lost V∧t' (10+2*j)=dvT (en.L.dr (drecv en.L.P en.L.mx en.L.n en.s len bs).s) U'∧t' 5=r8T ax (drecv en.L.P en.L.mx en.L.n en.s len bs).f.1 cx (drecv en.L.P en.L.mx en.L.n en.s len bs).f.2∧∀ i,i≠0→i≠10+2*j→i≠5→t' i=t i):=by
 have hu:=(A.mx e0).uniq
 obtain⟨hj,hje⟩:=List.getElem?_eq_some_iff.1 he
 have hj':j < (prts E).length:=by rw[prts_len];exact hj
 have hp:(prts E)[j]=⟨en.L.P.c,en.L.d,en.k,en.n⟩:=by rw[prts_get];simp[hje]
 have hf:fnd (prts E) (w4v bs 1)=some ⟨en.L.P.c,en.L.d,en.k,en.n⟩:=by
  obtain⟨l,mb,nn,D,h,_⟩:=A.mx e0
  have:=fnd_get h.one j hj'
  rw[hp]at this
  rw[hc]
  exact this
 have hDV:=A.dv ed
 obtain⟨B,y⟩:=id hDV
 have hQ:=mrecv_any b (prts E) lost V ⟨en.L.P.c,en.L.d,en.k,en.n⟩ en.L.m en.L.g en.L.n en.L.mx en.L.P U en.s a len cap bs w (A.mx e0) hDV (A.apart (i:=10+2*j) (j:=0) (by omega) ed e0) hr hD hf rfl hn (hv.sent y.pok) hv.od hL ht hra
 refine hQ.mono ?_
 rintro e w' ⟨v,rfl,h⟩
 obtain⟨w1,o1,D1,⟨U',G,D2,F,kF⟩,m2,m1⟩:=h.out
 have hby:=drecv_byte en.L.P en.L.mx en.L.n en.s y.apb len bs
 obtain⟨ax,cx,rfl,rx⟩:=F.row hby
 have A1:=A.put0 e0 o1 m1 (fun k hk=>.inl hk)
 have A2:=A1.stepD (i:=10+2*j) (x:=en.L.dr en.s) (by rw[putT_ne _ _ (by omega)];exact ed) G D2
 have A3:=A2.turn 5 (r8T ax (drecv en.L.P en.L.mx en.L.n en.s len bs).f.1 cx (drecv en.L.P en.L.mx en.L.n en.s len bs).f.2) (Off.refl _ _) rx (fun k hk=>?_) (fun k hk i hi hm=>?_)
 ·refine⟨ax,cx,rfl,_,U',A3,?_,?_,putT_same _ _ _,fun i h1 h2 h3=>?_⟩
  ·rw[putT_ne _ _ (by omega),putT_ne _ _ (by omega),putT_same]
  ·rw[putT_ne _ _ (by omega),putT_same];rfl
  ·rw[putT_ne _ _ h3,putT_ne _ _ h2,putT_ne _ _ h1]
 ·simp[r8T]at hk
  obtain⟨z,hz,rfl⟩:=hk
  have h1:=own_far F z hz
  have:=A1.size
  omega
 ·simp[r8T]at hk
  obtain⟨z,hz,rfl⟩:=hk
  have h1:=own_far F z hz
  by_cases ej:i=10+2*j
  ·subst ej
   rw[putT_same]at hm
   exact kF z.block (by rw[hz];rfl) hm
  ·rw[putT_ne _ _ ej]at hm
   have:=(A1.lt i _ hm).2
   omega
end
end Go.Proofs.YthbogkaoidbpgaaGreat
namespace Go.Proofs.YthbogkaoidbpgaaGreat
set_option maxRecDepth 100000
open Go.RowKit
open Go.RowKit Go.Maps Go.Sort Go.Shelf
def plJ (pl:Int) (n:Nat):Nat:=(pl % 18446744073709551616).toNat % n
theorem plJ_lt (pl:Int) (n:Nat) (h:0<n):plJ pl n<n:=Nat.mod_lt _ h
theorem plJ_facts (pl:Int) (n:Nat) (h:0<n) (h8:n≤8):∃ P:Nat,IntKind.u64.wrap pl=(P:Int)∧(P:Int).tmod (n:Int)=(plJ pl n:Nat)∧IntKind.u64.wrap (n:Int)=(n:Int)∧IntKind.i64.wrap (plJ pl n:Nat)=(plJ pl n:Nat)∧(P:Int) % (n:Int)=(plJ pl n:Nat):=by
 have hlt:=plJ_lt pl n h
 refine⟨(pl % 18446744073709551616).toNat,?_,?_,?_,?_,?_⟩
 ·rw[IntKind.wrap_u64];omega
 ·exact (Int.ofNat_tmod _ _).symm
 ·rw[IntKind.wrap_u64];omega
 ·rw[IntKind.wrap_i64];omega
 ·exact (Int.natCast_emod _ _).symm
end Go.Proofs.YthbogkaoidbpgaaGreat
