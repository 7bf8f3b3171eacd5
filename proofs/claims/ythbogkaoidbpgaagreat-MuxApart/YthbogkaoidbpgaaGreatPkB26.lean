/- Part 27 of the texts on which the proofs of layer 13 rest: contracts of Go functions. -/
import Derived.Test.YthbogkaoidbpgaaGreatPkB14
namespace Go.Proofs.YthbogkaoidbpgaaGreat
set_option maxRecDepth 100000
open Go.RowKit
set_option maxHeartbeats 6400000 in
theorem runit2_any (d m g n mx:Nat) (P:Pm) (U:List Nat) (s:Sd) (c ss num fl:Nat) (a:Option Addr) (len cap:Nat) (bs:Nat→Nat) (w:World) (h:RW w d m g n mx P U s) (hr:Row8 w a len cap bs) (ha:∀ x,a=some x→x.block<w.heap.size∧x.block ∉ U) (hsn:s.st=4→s.sn+1<4294967296) (hs:s.st≠6) (ho:s.od<4) (hL:s.L.length<800000) (_ht:s.ms.t<9223372036854774000) (hss:s.ss<4294967296) :
  Calls Tryz.prog 52 #[.pointer (some ⟨d,0,none⟩),.agg #[.int .i64 2,.int .u32 (c:Nat),.int .u32 (ss:Nat),.int .u32 (num:Nat),.int .i64 (fl:Nat),.slice a len cap]] w fun e w'=>∃ v,e=.returned (.tuple #[v,.int .i64 (dtake P mx n s 2 ss num fl len bs).e])∧Hid (OutR U w w' d m g n mx P (dtake P mx n s 2 ss num fl len bs).s (dtake P mx n s 2 ss num fl len bs).f v):=by
 have b0:Below w.heap.size w (w.alloc (.cells #[.int .i64 2,.int .u32 (c:Nat),.int .u32 (ss:Nat),.int .u32 (num:Nat),.int .i64 (fl:Nat),.slice a len cap] 107)):=(Below.refl _ _).alloc (Nat.le_refl _) _
 have hE:s.st=2→∀ wx,Below w.heap.size w wx→Calls Tryz.prog 97 #[.pointer (some ⟨d,0,none⟩)] (wx.setCell ⟨d,18,none⟩ (.int .i64 3)) fun e w'=>e=.returned (.tuple #[])∧Hid (∃ U',Gr U w U' w'∧RW w' d m g n mx P U' (dechoS s)):=by
  intro h2 wx hb
  obtain⟨B,x⟩:=RW.below h hb
  have o1:=Off.setCell d 18 wx (.int .i64 3)
  have x1:=x.own (A':=({ s with st:=3 }:Sd).st≠6) (s':={ s with st:=3 }) o1 (heap_setCell_same _ _ _ _ _ _ x.dev) rfl ⟨rfl,rfl⟩ rfl rfl x.vok x.dcl (fun _=>hs)
  refine (rvon_any d m g n mx P U _ _ ⟨B,x1⟩).mono ?_
  rintro e w' ⟨rfl,h5⟩
  obtain⟨U5,g5,x5⟩:=h5.out
  rw[show dechoS s=don { s with st:=3 } from if_pos h2]
  exact⟨rfl,U5,((Gr.below hb).trans (Gr.same o1 (by simp[x.kd.2]))).trans g5,x5⟩
 have hA:∀ wx,Below w.heap.size w wx→Calls Tryz.prog 98 #[.pointer (some ⟨d,0,none⟩),.int .i64 (18:Nat),.int .u32 (0:Nat),.int .i64 (0:Nat),.slice none 0 0] wx fun e w'=>∃ v,e=.returned v∧Hid (OutR U w w' d m g n mx P s (dsay P s 18 0 0 0 (fun _=>0)) v):=by
  intro wx hb
  refine (ranswer_any d m g n mx P U s 18 0 0 none 0 0 (fun _=>0) wx (RW.below h hb) (row_nilX _ _) hss (by omega)).mono ?_
  rintro e w' ⟨v,rfl,h5⟩
  exact⟨v,rfl,OutR.mk (Gr.below hb) (RW.below h hb) h5.out.1 h5.out.2⟩
 have hR:∀ wx,Below w.heap.size w wx→Calls Tryz.prog 95 #[.pointer (some ⟨d,0,none⟩)] wx fun e w'=>e=.returned (.bool (dover s))∧Hid (∃ U',Gr U w U' w'∧RW w' d m g n mx P U' (dodd s)):=by
  intro wx hb
  refine (rstrange_any d m g n mx P U s wx (RW.below h hb) hs ho (by omega)).mono ?_
  rintro e w' ⟨rfl,h5⟩
  obtain⟨U5,g5,x5⟩:=h5.out
  exact⟨rfl,U5,(Gr.below hb).trans g5,x5⟩
 have HO:Hid (_):=dodd_ss hss
 obtain⟨B,x⟩:=id h
 have hdl:=x.dlt
 have hdn:¬ d=w.heap.size:=by omega
 have hdn':¬ w.heap.size=d:=fun e=>hdn e.symm
 have hS:=rsign_good P.c P.o P.i P.t P.n (w.alloc (.cells #[.int .i64 2,.int .u32 (c:Nat),.int .u32 (ss:Nat),.int .u32 (num:Nat),.int .i64 (fl:Nat),.slice a len cap] 107)).drew x.pok.c x.pok.n x.pok.ok
 have q1:=conv_any a len cap bs _ (hr.below b0.drew)
 obtain⟨X,hX⟩:∃ X,BA bs len=X:=⟨_,rfl⟩
 obtain⟨Y,hY⟩:∃ Y,BA (dsg P) 4=Y:=⟨_,rfl⟩
 have hsg:dsigned P len bs=decide (X=Y):=by unfold dsigned;rw[hX,hY]
 rw[hX]at q1
 have HXX:Hid (_):=hX
 have hbx:(w.alloc (.cells #[.int .i64 2,.int .u32 (c:Nat),.int .u32 (ss:Nat),.int .u32 (num:Nat),.int .i64 (fl:Nat),.slice a len cap] 107)).drew.heap[w.heap.size]?=some (.cells #[.int .i64 2,.int .u32 (c:Nat),.int .u32 (ss:Nat),.int .u32 (num:Nat),.int .i64 (fl:Nat),.slice a len cap] 107 (0,0)):=heap_alloc_new w _
 have hlt:w.heap.size < (w.alloc (.cells #[.int .i64 2,.int .u32 (c:Nat),.int .u32 (ss:Nat),.int .u32 (num:Nat),.int .i64 (fl:Nat),.slice a len cap] 107)).drew.heap.size:=by show _ < (w.alloc _).heap.size;rw[World.size_alloc];omega
 have c0:w.cell? ⟨d,0,none⟩=some (.int .u32 (P.c:Nat)):=cell_of_row w d 0 _ _ _ x.dev
 have c1:w.cell? ⟨d,1,none⟩=some (.int .i64 (P.o:Nat)):=cell_of_row w d 1 _ _ _ x.dev
 have c2:w.cell? ⟨d,2,none⟩=some (.int .i64 (P.i:Nat)):=cell_of_row w d 2 _ _ _ x.dev
 have c3:w.cell? ⟨d,3,none⟩=some (.int .i64 (P.t:Nat)):=cell_of_row w d 3 _ _ _ x.dev
 have c4:w.cell? ⟨d,4,none⟩=some (.int .u32 (P.n:Nat)):=cell_of_row w d 4 _ _ _ x.dev
 have HX:Hid (_):=And.intro x (And.intro b0.drew (And.intro hr (And.intro hY (And.intro hbx hlt))))
 have HS:Hid (_):=And.intro hsn (And.intro hs (And.intro hL (And.intro ha hss)))
 obtain⟨sg,hg⟩:∃ b,dsigned P len bs=b:=⟨_,rfl⟩
 have HG:Hid (decide (X=Y)=sg):=hsg.symm.trans hg
 clear h hr hs ho hL hss hsn x b0 hX hY hsg hbx hlt ha
 go_enter Tryz.func52,Tryz.ntmps52
 go_upto_region 1 with fail
 go_cut [6] (fun x6 wx=>x6=.bool sg∧Hid (Below w.heap.size w wx∧wx.heap[w.heap.size]?=some (.cells #[.int .i64 2,.int .u32 (c:Nat),.int .u32 (ss:Nat),.int .u32 (num:Nat),.int .i64 (fl:Nat),.slice a len cap] 107 (0,0))))
 case first=>
  clear hE hA hR
  go_region_with (go_at_call 36;refine hS.mono ?_;rintro e w8 ⟨g8,rfl,H8⟩;have k8:=conv_any (some ⟨g8,0,none⟩) 4 4 _ _ H8.out.1;have k9:=conv_any a len cap bs _ ((HX.out.2.2.1.below HX.out.2.1).below H8.out.2);rw[show BA (PM.w4 (PM.K (pe P.c P.o P.i P.t P.n) 14)) 4=Y from HX.out.2.2.2.1]at k8;rw[HXX.out]at k9;have k5:w8.cell? ⟨w.heap.size,5,none⟩=some (.slice a len cap):=(World.cell?_of_block (H8.out.2.block w.heap.size HX.out.2.2.2.2.2)).trans (cell_of_row _ _ 5 _ _ _ HX.out.2.2.2.2.1);have H9:Hid (_):=H8.out.2;clear H8)
  all_goals
   go_wp2_with fail
   go_meet
   exact⟨by rw[← HG.out,bytes_beq],HX.out.2.1.trans (H9.out.mono HX.out.2.1.size),(H9.out.block w.heap.size HX.out.2.2.2.2.2).trans HX.out.2.2.2.2.1⟩
 case rest=>
  obtain⟨rfl,H⟩:=hcut
  clear hS q1 c0 c1 c2 c3 c4
  have x:=HX.out.1.newd (Off.of_below H.out.1)
  have hb:=H.out.1
  have c1:wc.cell? ⟨d,1,none⟩=some (.int .i64 (P.o:Nat)):=cell_of_row wc d 1 _ _ _ x.dev
  have c4:wc.cell? ⟨d,4,none⟩=some (.int .u32 (P.n:Nat)):=cell_of_row wc d 4 _ _ _ x.dev
  have c18:wc.cell? ⟨d,18,none⟩=some (.int .i64 (s.st:Nat)):=cell_of_row wc d 18 _ _ _ x.dev
  have c19:wc.cell? ⟨d,19,none⟩=some (.int .u32 (s.ss:Nat)):=cell_of_row wc d 19 _ _ _ x.dev
  have c20:wc.cell? ⟨d,20,none⟩=some (.int .u32 (s.nm:Nat)):=cell_of_row wc d 20 _ _ _ x.dev
  have u0:wc.cell? ⟨w.heap.size,0,none⟩=some (.int .i64 2):=cell_of_row wc _ 0 _ _ _ H.out.2
  have u2:wc.cell? ⟨w.heap.size,2,none⟩=some (.int .u32 (ss:Nat)):=cell_of_row wc _ 2 _ _ _ H.out.2
  have u3:wc.cell? ⟨w.heap.size,3,none⟩=some (.int .u32 (num:Nat)):=cell_of_row wc _ 3 _ _ _ H.out.2
  have u4:wc.cell? ⟨w.heap.size,4,none⟩=some (.int .i64 (fl:Nat)):=cell_of_row wc _ 4 _ _ _ H.out.2
  have u5:wc.cell? ⟨w.heap.size,5,none⟩=some (.slice a len cap):=cell_of_row wc _ 5 _ _ _ H.out.2
  have z18:=x.fz 18
  have z20:=x.fz 20
  have HB:Hid (_):=And.intro hb (And.intro x H.out.2)
  clear hb x H
  by_cases hown:ss=s.ss
  ·subst hown
   by_cases h4:s.st=4
   ·rw[h4]at c18
    by_cases hn:s.nm<num
    ·have hn1:(s.nm:Int) < (num:Int):=by omega
     have HD:Hid (dtake P mx n s 2 s.ss num fl len bs=drefuse P s 130):=by
      show _=_
      unfold dtake
      rw[if_neg (by omega),if_neg (by omega),if_neg (by omega),if_neg (by omega),if_neg (by omega)]
     go_wp2_with fail
     repeat (go_quiet (fail);go_wp2_with fail)
     refine (hR _ (by repeat (first | exact HB.out.1 | refine below_drewN ?_ _ | refine Below.drew ?_))).mono ?_
     rintro e w5 ⟨rfl,h5⟩
     obtain⟨U5,g5,x5⟩:=h5.out
     have hN:=rnone_any d m g n mx P U5 (dodd s) w5 x5 HO.out
     have H5:Hid (_):=And.intro g5 x5
     clear hR h5 g5 x5
     go_wp2_with (go_at_call 96;refine hN.mono ?_;rintro e w6 ⟨v,rfl,h6⟩)
     go_ret2
     rw[HD.out]
     exact⟨v,rfl,OutR.mk H5.out.1 H5.out.2 h6.out.1 h6.out.2⟩
    ·have hn1:¬ (s.nm:Int) < (num:Int):=by omega
     have HD:Hid (dtake P mx n s 2 s.ss num fl len bs=drefuse P s 130):=by
      show _=_
      unfold dtake
      rw[if_neg (by omega),if_neg (by omega),if_neg (by omega),if_neg (by omega),if_neg (by omega)]
     go_wp2_with fail
     repeat (go_quiet (fail);go_wp2_with fail)
     refine (hR _ (by repeat (first | exact HB.out.1 | refine below_drewN ?_ _ | refine Below.drew ?_))).mono ?_
     rintro e w5 ⟨rfl,h5⟩
     obtain⟨U5,g5,x5⟩:=h5.out
     have hN:=rnone_any d m g n mx P U5 (dodd s) w5 x5 HO.out
     have H5:Hid (_):=And.intro g5 x5
     clear hR h5 g5 x5
     go_wp2_with (go_at_call 96;refine hN.mono ?_;rintro e w6 ⟨v,rfl,h6⟩)
     go_ret2
     rw[HD.out]
     exact⟨v,rfl,OutR.mk H5.out.1 H5.out.2 h6.out.1 h6.out.2⟩
   ·have e4:((s.st:Int) == 4)=false:=by simp;omega
    have e4':((s.st:Int)=4)=False:=by simp;omega
    by_cases h2:s.st=2
    ·cases sg
     ·rw[h2]at c18 e4 e4'
      have HD:Hid (dtake P mx n s 2 s.ss num fl len bs=drefuse P s 91):=by
       show _=_
       unfold dtake
       rw[if_neg (by omega),if_pos (by omega),if_neg (by rw[hg];simp)]
      go_wp2_with fail
      repeat (go_quiet (fail);go_wp2_with fail)
      refine (hR _ (by repeat (first | exact HB.out.1 | refine below_drewN ?_ _ | refine Below.drew ?_))).mono ?_
      rintro e w5 ⟨rfl,h5⟩
      obtain⟨U5,g5,x5⟩:=h5.out
      have hN:=rnone_any d m g n mx P U5 (dodd s) w5 x5 HO.out
      have H5:Hid (_):=And.intro g5 x5
      clear hR h5 g5 x5
      go_wp2_with (go_at_call 96;refine hN.mono ?_;rintro e w6 ⟨v,rfl,h6⟩)
      go_ret2
      rw[HD.out]
      exact⟨v,rfl,OutR.mk H5.out.1 H5.out.2 h6.out.1 h6.out.2⟩
     ·have HD:Hid (dtake P mx n s 2 s.ss num fl len bs=(⟨dechoS s,dsay P (dechoS s) 18 0 0 0 (fun _=>0),0⟩:Rs)):=by
       show _=_
       unfold dtake
       rw[if_neg (by omega),if_pos (by omega),if_pos hg]
      replace hE:=hE h2
      rw[h2]at c18 e4 e4'
      clear hR hA
      go_wp2_with fail
      repeat (go_quiet (fail);go_wp2_with fail)
      refine (hE _ (by repeat (first | exact HB.out.1 | refine below_drewN ?_ _ | refine Below.drew ?_))).mono ?_
      rintro e w5 ⟨rfl,h5⟩
      obtain⟨U5,g5,x5⟩:=h5.out
      clear hE
      have hY:=ranswer_any d m g n mx P U5 (dechoS s) 18 0 0 none 0 0 (fun _=>0) w5 x5 (row_nilX _ _) (by show (if s.st=2 then don { s with st:=3 } else s).ss<4294967296;rw[if_pos h2];exact HS.out.2.2.2.2) (by omega)
      have H5:Hid (_):=And.intro g5 x5
      clear h5 g5 x5
      go_wp2_with (go_at_call 98;refine hY.mono ?_;rintro e w6 ⟨v,rfl,h6⟩)
      go_ret2
      rw[HD.out]
      exact⟨v,rfl,OutR.mk H5.out.1 H5.out.2 h6.out.1 h6.out.2⟩
    ·by_cases h3:s.st=3
     ·have e2:((s.st:Int) == 2)=false:=by simp;omega
      have e2':((s.st:Int)=2)=False:=by simp;omega
      cases sg
      ·rw[h3]at c18 e4 e4' e2 e2'
       have HD:Hid (dtake P mx n s 2 s.ss num fl len bs=drefuse P s 91):=by
        show _=_
        unfold dtake
        rw[if_neg (by omega),if_pos (by omega),if_neg (by rw[hg];simp)]
       go_wp2_with fail
       repeat (go_quiet (fail);go_wp2_with fail)
       refine (hR _ (by repeat (first | exact HB.out.1 | refine below_drewN ?_ _ | refine Below.drew ?_))).mono ?_
       rintro e w5 ⟨rfl,h5⟩
       obtain⟨U5,g5,x5⟩:=h5.out
       have hN:=rnone_any d m g n mx P U5 (dodd s) w5 x5 HO.out
       have H5:Hid (_):=And.intro g5 x5
       clear hR h5 g5 x5
       go_wp2_with (go_at_call 96;refine hN.mono ?_;rintro e w6 ⟨v,rfl,h6⟩)
       go_ret2
       rw[HD.out]
       exact⟨v,rfl,OutR.mk H5.out.1 H5.out.2 h6.out.1 h6.out.2⟩
      ·have HD:Hid (dtake P mx n s 2 s.ss num fl len bs=(⟨s,dsay P s 18 0 0 0 (fun _=>0),0⟩:Rs)):=by
        show _=_
        unfold dtake
        rw[if_neg (by omega),if_pos (by omega),if_pos hg,show dechoS s=s from if_neg h2]
       rw[h3]at c18 e4 e4' e2 e2'
       clear hR hE
       go_wp2_with fail
       repeat (go_quiet (fail);go_wp2_with fail)
       refine (hA _ (by repeat (first | exact HB.out.1 | refine below_drewN ?_ _ | refine Below.drew ?_))).mono ?_
       rintro e w6 ⟨v,rfl,h6⟩
       clear hA
       go_wp2_with fail
       go_ret2
       rw[HD.out]
       exact⟨v,rfl,h6⟩
     ·have e2:((s.st:Int) == 2)=false:=by simp;omega
      have e2':((s.st:Int)=2)=False:=by simp;omega
      have e3:((s.st:Int) == 3)=false:=by simp;omega
      have e3':((s.st:Int)=3)=False:=by simp;omega
      have HD:Hid (dtake P mx n s 2 s.ss num fl len bs=drefuse P s 130):=by
       show _=_
       unfold dtake
       rw[if_neg (by omega),if_neg (by omega),if_neg (by omega),if_neg (by omega),if_neg (by omega)]
      go_wp2_with fail
      repeat (go_quiet (fail);go_wp2_with fail)
      refine (hR _ (by repeat (first | exact HB.out.1 | refine below_drewN ?_ _ | refine Below.drew ?_))).mono ?_
      rintro e w5 ⟨rfl,h5⟩
      obtain⟨U5,g5,x5⟩:=h5.out
      have hN:=rnone_any d m g n mx P U5 (dodd s) w5 x5 HO.out
      have H5:Hid (_):=And.intro g5 x5
      clear hR h5 g5 x5
      go_wp2_with (go_at_call 96;refine hN.mono ?_;rintro e w6 ⟨v,rfl,h6⟩)
      go_ret2
      rw[HD.out]
      exact⟨v,rfl,OutR.mk H5.out.1 H5.out.2 h6.out.1 h6.out.2⟩
  ·have e1:((ss:Int) == (s.ss:Int))=false:=by simp;omega
   have e1':((ss:Int)=(s.ss:Int))=False:=by simp;omega
   have HD:Hid (dtake P mx n s 2 ss num fl len bs=drefuse P s 130):=by
    show _=_
    unfold dtake
    rw[if_neg (by omega),if_neg (by omega),if_neg (by omega),if_neg (by omega),if_neg (by omega)]
   go_wp2_with fail
   repeat (go_quiet (fail);go_wp2_with fail)
   refine (hR _ (by repeat (first | exact HB.out.1 | refine below_drewN ?_ _ | refine Below.drew ?_))).mono ?_
   rintro e w5 ⟨rfl,h5⟩
   obtain⟨U5,g5,x5⟩:=h5.out
   have hN:=rnone_any d m g n mx P U5 (dodd s) w5 x5 HO.out
   have H5:Hid (_):=And.intro g5 x5
   clear hR h5 g5 x5
   go_wp2_with (go_at_call 96;refine hN.mono ?_;rintro e w6 ⟨v,rfl,h6⟩)
   go_ret2
   rw[HD.out]
   exact⟨v,rfl,OutR.mk H5.out.1 H5.out.2 h6.out.1 h6.out.2⟩
end Go.Proofs.YthbogkaoidbpgaaGreat
