/- Part 28 of the texts on which the proof rests: contracts of Go functions. -/
import Derived.Test.YtiopiheomoehbaaGreatPkF26
namespace Go.Proofs.YtiopiheomoehbaaGreat
set_option maxRecDepth 100000
open Go.RowKit
set_option maxHeartbeats 3200000 in
theorem hmiss_any (d:Nat) (P:Pm) (U:List Nat) (s:Sh) (w:World) (h:HV w d P U s) (ho:s.ms<4) (hL:s.L.length<900000) :
  Calls Tryz.prog 82 #[.pointer (some ⟨d,0,none⟩)] w fun e w'=>e=.returned (.tuple #[])∧Hid (∃ U',Gr U w U' w'∧HV w' d P U' (hmiss s)):=by
 obtain⟨B,h⟩:=h
 have c8:=h.c8
 have c12:=h.c12
 have c13:=h.c13
 have z13:=h.fz 13
 unfold hmiss
 by_cases h1:s.st=1
 ·rw[if_pos (.inl h1)]
  rw[h1]at c8
  have H:Hid (_):=h
  clear h h1 c12 c13 z13
  go_enter Tryz.func82,Tryz.ntmps82
  go_wp2_with fail
  refine bodyPost_ret (results_none rfl _ _ _) rfl ?_
  exact⟨rfl,U,Gr.refl _ _,B,H.out⟩
 ·have n1:((s.st:Int) == 1)=false:=by simp;omega
  have n1':((s.st:Int)=1)=False:=by simp;omega
  by_cases hw:s.wt=false
  ·rw[if_pos (.inr hw)]
   rw[hw]at c12
   have H:Hid (_):=h
   clear h h1 c13 z13
   go_enter Tryz.func82,Tryz.ntmps82
   go_wp2_with fail
   refine bodyPost_ret (results_none rfl _ _ _) rfl ?_
   exact⟨rfl,U,Gr.refl _ _,B,H.out⟩
  ·rw[if_neg (by simp[h1,hw])]
   have hw':s.wt=true:=by simpa using hw
   rw[hw']at c12
   obtain⟨m1,hm1⟩:∃ k,s.ms+1=k:=⟨_,rfl⟩
   rw[hm1]
   have o1:=Off.setCell d 13 w (.int .i64 (m1:Int))
   have x1:=h.own o1 (s':={ s with ms:=m1 }) (heap_setCell_same _ _ _ _ _ _ h.dev) rfl rfl rfl rfl
   have g1:Gr U w U (w.setCell ⟨d,13,none⟩ (.int .i64 (m1:Int))):=Gr.same o1 (by simp[h.kd.2])
   have i1:(s.ms:Int)+1=(m1:Int):=by omega
   have i2:IntKind.i64.wrap ((s.ms:Int)+1)=(m1:Int):=by rw[IntKind.wrap_i64];omega
   clear hm1
   by_cases h4:m1<4
   ·rw[if_pos h4]
    have h4':(m1:Int)<4:=by omega
    have H:Hid (_):=And.intro g1 x1
    clear h h1 o1 x1 g1 hL h4 hw hw'
    go_enter Tryz.func82,Tryz.ntmps82
    go_wp2_with fail
    refine bodyPost_ret (results_none rfl _ _ _) rfl ?_
    exact⟨rfl,U,H.out.1,B,H.out.2⟩
   ·rw[if_neg h4]
    have h4':¬ (m1:Int)<4:=by omega
    by_cases hr:s.st=4
    ·rw[if_pos hr]
     have hT:=hlatch_any d P U { s with ms:=m1 } 131 _ ⟨B,x1⟩ (by omega) (by decide) hL
     rw[hr]at c8
     have H:Hid (_):=g1
     clear h h1 o1 x1 g1 hL h4 hw hw' hr n1 n1'
     go_enter Tryz.func82,Tryz.ntmps82
     go_wp2_with (go_at_call 105;refine hT.mono ?_;rintro e w2 ⟨rfl,h2⟩)
     obtain⟨U2,g2,x2⟩:=h2.out
     have hV:=hgive_any d P U2 _ w2 x2
     have H2:Hid (_):=H.out.trans g2
     clear hT h2 g2 x2 c8 c12 c13 z13 H
     go_wp2_with (go_at_call 106;refine hV.mono ?_;rintro e w3 ⟨rfl,h3⟩)
     go_end0
     obtain⟨U3,g3,x3⟩:=h3.out
     exact⟨rfl,U3,H2.out.trans g3,x3⟩
    ·rw[if_neg hr]
     have hr':(((s.st:Nat):Int) == 4)=false:=by simp;omega
     have hV:=hgive_any d P U { s with ms:=m1 } _ ⟨B,x1⟩
     have H:Hid (_):=g1
     clear h h1 o1 x1 g1 hL h4 hr hw hw'
     go_enter Tryz.func82,Tryz.ntmps82
     go_wp2_with (go_at_call 106;refine hV.mono ?_;rintro e w3 ⟨rfl,h3⟩)
     go_end0
     obtain⟨U3,g3,x3⟩:=h3.out
     exact⟨rfl,U3,H.out.trans g3,x3⟩
def OutH (U:List Nat) (w w':World) (d:Nat) (P:Pm) (s:Sh) (f:Fm) (v:Value):Prop:=
 ∃ U',Gr U w U' w'∧HV w' d P U' s∧Fr w' w.heap.size v f∧∀ k,v.ownBlock=some k→k ∉ U'
theorem hmiss_L (s:Sh):(hmiss s).L.length≤s.L.length+1:=by
 unfold hmiss
 split
 ·omega
 ·split
  ·show s.L.length≤_;omega
  ·show (if s.st=4 then hlatch { s with ms:=s.ms+1 } 131 else { s with ms:=s.ms+1 }).L.length≤_
   split
   ·unfold hlatch hnote
    split <;> simp
   ·show s.L.length≤_;omega
theorem hmiss_st (s:Sh) (h:1≤s.st∧s.st≤4):1 ≤ (hmiss s).st∧(hmiss s).st≤4∧((hmiss s).st=4→s.st=4∧(hmiss s).sn=s.sn):=by
 unfold hmiss
 split
 ·exact⟨h.1,h.2,fun e=>⟨e,rfl⟩⟩
 ·split
  ·exact⟨h.1,h.2,fun e=>⟨e,rfl⟩⟩
  ·exact⟨by show 1≤1;omega,by show 1≤4;omega,fun e=>by have e:(1:Nat)=4:=e;omega⟩
set_option maxHeartbeats 6400000 in
theorem hsend_any (d:Nat) (P:Pm) (U:List Nat) (s:Sh) (w:World) (h:HV w d P U s) (ho:s.ms<4) (h5:1≤s.st∧s.st≤5) (hsn:s.st=4→s.sn+1<4294967296) (hL:s.L.length<700000) :
  Calls Tryz.prog 65 #[.pointer (some ⟨d,0,none⟩)] w fun e w'=>∃ v,e=.returned (.tuple #[v,.int .i64 (hsendE s)])∧Hid (OutH U w w' d P (hsendS P s) (hsendF P s) v):=by
 obtain⟨B,x⟩:=id h
 have c8:=x.c8
 unfold hsendE hsendS hsendF
 by_cases hd:s.st=5
 ·rw[if_pos hd,if_pos hd,if_pos hd]
  rw[hd]at c8
  have H:Hid (_):=h
  clear h x ho h5 hsn hL hd
  go_enter Tryz.func65,Tryz.ntmps65
  go_wp2_with fail
  go_ret2
  exact⟨_,rfl,U,Gr.refl _ _,H.out,own_nil _ _ _,fun k hk=>by cases hk⟩
 ·rw[if_neg hd,if_neg hd,if_neg hd]
  have n5:((s.st:Int) == 5)=false:=by simp;omega
  have hM:=hmiss_any d P U s w h ho (by omega)
  have hq:=hmiss_st s ⟨h5.1,by omega⟩
  have hl:=hmiss_L s
  have hN:∀ w2 U2,HV w2 d P U2 (hmiss s)→Calls Tryz.prog 83 #[.pointer (some ⟨d,0,none⟩)] w2 fun e w'=>∃ k ss num fl a len cap bs,e=.returned (.agg #[.int .i64 ((k:Nat):Int),.int .u32 0,.int .u32 ((ss:Nat):Int),.int .u32 ((num:Nat):Int),.int .i64 ((fl:Nat):Int),.slice a len cap])∧Hid (Un U2 w2 w' d P (hnext P (hmiss s)).1 (hnext P (hmiss s)).2 k ss num fl a len cap bs):=by
   intro w2 U2 v2
   refine hnext_any d P U2 (hmiss s) w2 v2 (fun e=>?_) ⟨hq.1,by omega⟩ (by omega)
   rcases e with e | e
   ·rw[(hq.2.2 e).2];exact hsn (hq.2.2 e).1
   ·omega
  generalize hnext P (hmiss s)=R at *
  have HN:Hid (_):=hN
  clear h x ho h5 hsn hL hd hq hl hN
  go_enter Tryz.func65,Tryz.ntmps65
  go_wp2_with fail
  refine hM.mono ?_
  rintro e w2 ⟨rfl,h2⟩
  obtain⟨U2,g2,v2⟩:=h2.out
  have hN:=HN.out w2 U2 v2
  have H2:Hid (_):=g2
  clear hM h2 g2 v2 HN c8 n5
  go_wp2_with fail
  refine hN.mono ?_
  rintro e w3 ⟨k,ss,num,fl,a,len,cap,bs,rfl,h3⟩
  obtain⟨⟨U3,g3,⟨B3,x3⟩,far⟩,fm,row⟩:=h3.out
  have hb4:∀ ob,Below w3.heap.size w3 (w3.alloc ob):=fun ob=>(Below.refl _ _).alloc (Nat.le_refl _) _
  have hU3:w3.heap.size ∉ U3:=fun hm=>by have:=x3.ltU _ hm;omega
  have hdn:¬ d=w3.heap.size:=fun e=>hU3 (by rw[← e];exact x3.kd.2)
  have hdn':¬ w3.heap.size=d:=fun e=>hdn e.symm
  have c0:∀ ob,(w3.alloc ob).cell? ⟨d,0,none⟩=some (.int .u32 (P.c:Nat)):=fun ob=>(x3.newd (Off.of_below (hb4 ob))).c0
  have c12:∀ ob,(w3.alloc ob).cell? ⟨d,12,none⟩=some (.bool R.1.wt):=fun ob=>(x3.newd (Off.of_below (hb4 ob))).c12
  have z12:∀ ob,(w3.alloc ob).frozen? ⟨d,12,none⟩=false:=fun ob=>(x3.newd (Off.of_below (hb4 ob))).fz 12
  have hX:∀ ob,HX ((w3.alloc ob).setCell ⟨d,12,none⟩ (.bool true)) d P U3 { R.1 with wt:=true } B3∧Gr U3 w3 U3 ((w3.alloc ob).setCell ⟨d,12,none⟩ (.bool true))∧Row8 ((w3.alloc ob).setCell ⟨d,12,none⟩ (.bool true)) a len cap bs:=by
   intro ob
   have x5:=x3.newd (Off.of_below (hb4 ob))
   have o6:=Off.setCell d 12 (w3.alloc ob) (.bool true)
   exact⟨x5.own o6 (s':={ R.1 with wt:=true }) (heap_setCell_same _ _ _ _ _ _ x5.dev) rfl rfl rfl rfl,(Gr.below (hb4 ob)).trans (Gr.same o6 (by simp[x3.kd.2])),(row.below (hb4 ob)).off o6 (fun y hy=>by simpa using (far y hy).1)⟩
  have hE:∀ wx,Row8 wx a len cap bs→Calls Tryz.prog 84 #[.agg #[.int .i64 (k:Nat),.int .u32 (P.c:Nat),.int .u32 (ss:Nat),.int .u32 (num:Nat),.int .i64 (fl:Nat),.slice a len cap]] wx fun e w'=>∃ v E,e=.returned (.tuple #[v,.int .i64 E])∧Hid (Fr w' wx.heap.size v R.2∧Below wx.heap.size wx w'):=by
   intro wx hr
   rw[fm]
   unfold encF
   by_cases hE:LW k P.c ss num fl len len=0
   ·rw[if_pos hE]
    refine (encode_good k P.c ss num fl a len cap bs wx hr hE).mono ?_
    rintro e w' ⟨v,rfl,h4⟩
    exact⟨v,0,rfl,h4.out⟩
   ·rw[if_neg hE]
    refine (encode_bad k P.c ss num fl a len cap wx hE).mono ?_
    rintro e w' ⟨rfl,h4⟩
    exact⟨_,_,rfl,own_nil _ _ _,h4⟩
  have hEX:=fun ob=>hE _ (hX ob).2.2
  have H3:Hid (_):=And.intro (H2.out.trans g3) hX
  clear hN h3 g3 x3 far fm row hb4 hU3 hX H2 hE
  go_wp2_with fail
  refine (hEX _).mono ?_
  rintro e w5 ⟨v,E,rfl,h5⟩
  have H5:Hid (OutH U w w5 d P { R.1 with wt:=true } R.2 v):=by
   obtain⟨g3,hX⟩:=H3.out
   obtain⟨x4,g4,_⟩:=hX (.cells #[.int .i64 (k:Nat),.int .u32 (P.c:Nat),.int .u32 (ss:Nat),.int .u32 (num:Nat),.int .i64 (fl:Nat),.slice a len cap] 191)
   obtain⟨f5,b5⟩:=h5.out
   have gg:=g3.trans g4
   exact⟨U3,gg.trans (Gr.below b5),⟨B3,x4.newd (Off.of_below b5)⟩,own_base f5 gg.off.size,fun j hj hm=>by have:=x4.ltU j hm;have:=Fr.ge f5 j hj;omega⟩
  clear hEX c0 c12 z12 H3 h5
  go_wp2_with fail
  go_ret2
  exact⟨v,rfl,H5⟩
end Go.Proofs.YtiopiheomoehbaaGreat
