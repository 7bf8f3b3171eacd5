/- Part 29 of the texts on which the proofs of layer 13 rest: contracts of Go functions. -/
import Derived.Test.YthbogkaoidbpgaaGreatPkB14
namespace Go.Proofs.YthbogkaoidbpgaaGreat
set_option maxRecDepth 100000
open Go.RowKit
theorem sn_facts {sn sn1:Nat} (h:sn+1=sn1) (hl:sn+1<4294967296):IntKind.u32.wrap ((sn:Int)+1)=(sn1:Int)∧((sn:Int)+1) % 4294967296=(sn1:Int)∧sn1<4294967296:=by
 subst h
 refine⟨by rw[IntKind.wrap_u32];omega,by omega,hl⟩
set_option maxHeartbeats 6400000 in
theorem runit4t_any (d m g n mx:Nat) (P:Pm) (U:List Nat) (s:Sd) (c ss num fl:Nat) (a:Option Addr) (len cap:Nat) (bs:Nat→Nat) (w:World) (h:RW w d m g n mx P U s) (hr:Row8 w a len cap bs) (ha:∀ x,a=some x→x.block<w.heap.size∧x.block ∉ U) (hsn:s.st=4→s.sn+1<4294967296) (hs:s.st≠6) (_ho:s.od<4) (hL:s.L.length<800000) (_ht:s.ms.t<9223372036854774000) (hss:s.ss<4294967296) (hown:ss=s.ss) (h4:s.st=4) (hn:s.nm<num) (hc:num<P.n) (hl:len=P.o) (h8:8≤fl) :
  Calls Tryz.prog 52 #[.pointer (some ⟨d,0,none⟩),.agg #[.int .i64 4,.int .u32 (c:Nat),.int .u32 (ss:Nat),.int .u32 (num:Nat),.int .i64 (fl:Nat),.slice a len cap]] w fun e w'=>∃ v,e=.returned (.tuple #[v,.int .i64 (dtake P mx n s 4 ss num fl len bs).e])∧Hid (OutR U w w' d m g n mx P (dtake P mx n s 4 ss num fl len bs).s (dtake P mx n s 4 ss num fl len bs).f v):=by
 have b0:Below w.heap.size w (w.alloc (.cells #[.int .i64 4,.int .u32 (c:Nat),.int .u32 (ss:Nat),.int .u32 (num:Nat),.int .i64 (fl:Nat),.slice a len cap] 107)):=(Below.refl _ _).alloc (Nat.le_refl _) _
 have hD:∀ wx,Below w.heap.size w wx→wx.heap[w.heap.size]?=some (.cells #[.int .i64 4,.int .u32 (c:Nat),.int .u32 (ss:Nat),.int .u32 (num:Nat),.int .i64 (fl:Nat),.slice a len cap] 107 (0,0))→Calls Tryz.prog 97 #[.pointer (some ⟨d,0,none⟩)] (wx.setCell ⟨d,20,none⟩ (.int .u32 (num:Nat))) fun e w'=>e=.returned (.tuple #[])∧Hid (∃ U',Gr U w U' w'∧RW w' d m g n mx P U' (don { s with nm:=num })∧Row8 w' a len cap bs∧(∀ x,a=some x→x.block<w'.heap.size∧x.block ∉ U')∧w'.heap[w.heap.size]?=some (.cells #[.int .i64 4,.int .u32 (c:Nat),.int .u32 (ss:Nat),.int .u32 (num:Nat),.int .i64 (fl:Nat),.slice a len cap] 107 (0,0))∧(w.heap.size<w'.heap.size∧w.heap.size ∉ U')):=by
  intro wx hb hbox
  obtain⟨B,x⟩:=RW.below h hb
  have o1:=Off.setCell d 20 wx (.int .u32 (num:Nat))
  have x1:=x.own (A':=s.st≠6) (s':={ s with nm:=num }) o1 (heap_setCell_same _ _ _ _ _ _ x.dev) rfl ⟨rfl,rfl⟩ rfl rfl x.vok x.dcl id
  have g1:=Gr.same (U:=U) o1 (by simp[x.kd.2])
  have hU:=fun k hk=>RW.ult h k hk
  have hlx:w.heap.size<wx.heap.size:=(Array.getElem?_eq_some_iff.1 hbox).1
  refine (rvon_any d m g n mx P U _ _ ⟨B,x1⟩).mono ?_
  rintro e w' ⟨rfl,h5⟩
  obtain⟨U5,g5,x5⟩:=h5.out
  have G:=g1.trans g5
  have far:=G.far (k:=w.heap.size) ⟨hlx,fun hm=>by have:=hU _ hm;omega⟩
  exact⟨rfl,U5,(Gr.below hb).trans G,x5,(hr.below hb).off G.off (fun x hx=>(ha x hx).2),fun x hx=>(G.far ⟨by have:=(ha x hx).1;omega,(ha x hx).2⟩).1,far.2.trans hbox,far.1⟩
 obtain⟨B,x⟩:=id h
 have hdl:=x.dlt
 have hdn:¬ d=w.heap.size:=by omega
 have hdn':¬ w.heap.size=d:=fun e=>hdn e.symm
 have hS:=rsign_good P.c P.o P.i P.t P.n (w.alloc (.cells #[.int .i64 4,.int .u32 (c:Nat),.int .u32 (ss:Nat),.int .u32 (num:Nat),.int .i64 (fl:Nat),.slice a len cap] 107)).drew x.pok.c x.pok.n x.pok.ok
 have q1:=conv_any a len cap bs _ (hr.below b0.drew)
 obtain⟨X,hX⟩:∃ X,BA bs len=X:=⟨_,rfl⟩
 obtain⟨Y,hY⟩:∃ Y,BA (dsg P) 4=Y:=⟨_,rfl⟩
 have hsg:dsigned P len bs=decide (X=Y):=by unfold dsigned;rw[hX,hY]
 rw[hX]at q1
 have HXX:Hid (_):=hX
 have hbx:(w.alloc (.cells #[.int .i64 4,.int .u32 (c:Nat),.int .u32 (ss:Nat),.int .u32 (num:Nat),.int .i64 (fl:Nat),.slice a len cap] 107)).drew.heap[w.heap.size]?=some (.cells #[.int .i64 4,.int .u32 (c:Nat),.int .u32 (ss:Nat),.int .u32 (num:Nat),.int .i64 (fl:Nat),.slice a len cap] 107 (0,0)):=heap_alloc_new w _
 have hlt:w.heap.size < (w.alloc (.cells #[.int .i64 4,.int .u32 (c:Nat),.int .u32 (ss:Nat),.int .u32 (num:Nat),.int .i64 (fl:Nat),.slice a len cap] 107)).drew.heap.size:=by show _ < (w.alloc _).heap.size;rw[World.size_alloc];omega
 have c0:w.cell? ⟨d,0,none⟩=some (.int .u32 (P.c:Nat)):=cell_of_row w d 0 _ _ _ x.dev
 have c1:w.cell? ⟨d,1,none⟩=some (.int .i64 (P.o:Nat)):=cell_of_row w d 1 _ _ _ x.dev
 have c2:w.cell? ⟨d,2,none⟩=some (.int .i64 (P.i:Nat)):=cell_of_row w d 2 _ _ _ x.dev
 have c3:w.cell? ⟨d,3,none⟩=some (.int .i64 (P.t:Nat)):=cell_of_row w d 3 _ _ _ x.dev
 have c4:w.cell? ⟨d,4,none⟩=some (.int .u32 (P.n:Nat)):=cell_of_row w d 4 _ _ _ x.dev
 have HX:Hid (_):=And.intro x (And.intro b0.drew (And.intro hr (And.intro hY (And.intro hbx hlt))))
 have HS:Hid (_):=And.intro hsn (And.intro hs (And.intro hL (And.intro ha hss)))
 obtain⟨sg,hg⟩:∃ b,dsigned P len bs=b:=⟨_,rfl⟩
 have HG:Hid (decide (X=Y)=sg):=hsg.symm.trans hg
 clear h hr hs hL hss hsn x b0 hX hY hsg hbx hlt ha
 have HA:Hid (_):=And.intro hown (And.intro h4 (And.intro hn (And.intro hc (And.intro hl h8))))
 clear hown h4 hn hc hl h8
 go_enter Tryz.func52,Tryz.ntmps52
 go_upto_region 1 with fail
 go_cut [6] (fun x6 wx=>x6=.bool sg∧Hid (Below w.heap.size w wx∧wx.heap[w.heap.size]?=some (.cells #[.int .i64 4,.int .u32 (c:Nat),.int .u32 (ss:Nat),.int .u32 (num:Nat),.int .i64 (fl:Nat),.slice a len cap] 107 (0,0))))
 case first=>
  clear hD
  go_region_with (go_at_call 36;refine hS.mono ?_;rintro e w8 ⟨g8,rfl,H8⟩;have k8:=conv_any (some ⟨g8,0,none⟩) 4 4 _ _ H8.out.1;have k9:=conv_any a len cap bs _ ((HX.out.2.2.1.below HX.out.2.1).below H8.out.2);rw[show BA (PM.w4 (PM.K (pe P.c P.o P.i P.t P.n) 14)) 4=Y from HX.out.2.2.2.1]at k8;rw[HXX.out]at k9;have k5:w8.cell? ⟨w.heap.size,5,none⟩=some (.slice a len cap):=(World.cell?_of_block (H8.out.2.block w.heap.size HX.out.2.2.2.2.2)).trans (cell_of_row _ _ 5 _ _ _ HX.out.2.2.2.2.1);have H9:Hid (_):=H8.out.2;clear H8)
  all_goals
   go_wp2_with fail
   go_meet
   exact⟨by rw[← HG.out,bytes_beq],HX.out.2.1.trans (H9.out.mono HX.out.2.1.size),(H9.out.block w.heap.size HX.out.2.2.2.2.2).trans HX.out.2.2.2.2.1⟩
 case rest=>
  obtain⟨rfl,H⟩:=hcut
  clear hS q1 c0 c1 c2 c3 c4
  have x:=HX.out.1.newd (Off.of_below H.out.1)
  have hb:=H.out.1
  have c1:wc.cell? ⟨d,1,none⟩=some (.int .i64 (P.o:Nat)):=cell_of_row wc d 1 _ _ _ x.dev
  have c4:wc.cell? ⟨d,4,none⟩=some (.int .u32 (P.n:Nat)):=cell_of_row wc d 4 _ _ _ x.dev
  have c18:wc.cell? ⟨d,18,none⟩=some (.int .i64 (s.st:Nat)):=cell_of_row wc d 18 _ _ _ x.dev
  have c19:wc.cell? ⟨d,19,none⟩=some (.int .u32 (s.ss:Nat)):=cell_of_row wc d 19 _ _ _ x.dev
  have c20:wc.cell? ⟨d,20,none⟩=some (.int .u32 (s.nm:Nat)):=cell_of_row wc d 20 _ _ _ x.dev
  have u0:wc.cell? ⟨w.heap.size,0,none⟩=some (.int .i64 4):=cell_of_row wc _ 0 _ _ _ H.out.2
  have u2:wc.cell? ⟨w.heap.size,2,none⟩=some (.int .u32 (ss:Nat)):=cell_of_row wc _ 2 _ _ _ H.out.2
  have u3:wc.cell? ⟨w.heap.size,3,none⟩=some (.int .u32 (num:Nat)):=cell_of_row wc _ 3 _ _ _ H.out.2
  have u4:wc.cell? ⟨w.heap.size,4,none⟩=some (.int .i64 (fl:Nat)):=cell_of_row wc _ 4 _ _ _ H.out.2
  have u5:wc.cell? ⟨w.heap.size,5,none⟩=some (.slice a len cap):=cell_of_row wc _ 5 _ _ _ H.out.2
  have z18:=x.fz 18
  have z20:=x.fz 20
  have HB:Hid (_):=And.intro hb (And.intro x H.out.2)
  clear hb x H
  obtain⟨hown,h4,hn,hc,hl,h8⟩:=HA.out
  subst hown
  rw[h4]at c18
  have hn1:(s.nm:Int) < (num:Int):=by omega
  have hc1:(num:Int) < (P.n:Int):=by omega
  have HD:Hid (dtake P mx n s 4 s.ss num fl len bs=(⟨ddataS s num fl bs,dsay P (ddataS s num fl bs) 20 (s.sn+1) (dflags (ddataS s num fl bs)) P.i s.ap,0⟩:Rs)):=by
   show _=_
   unfold dtake
   rw[if_neg (by omega),if_neg (by omega),if_neg (by omega),if_pos (by omega)]
  have h4s:s.st=4:=h4
  subst hl
  have h8i:((8:Int) ≤ (fl:Int))=True:=by simp;omega
  have h8j:decide ((8:Int) ≤ (fl:Int))=true:=decide_eq_true (by omega)
  have HD8:Hid ((true:Bool)=decide (8≤fl)):=(decide_eq_true h8).symm
  clear h8
  go_wp2_with fail
  repeat (go_quiet (fail);go_wp2_with fail)
  refine (hD _ (by repeat (first | exact HB.out.1 | refine below_drewN ?_ _ | refine Below.drew ?_)) (by exact HB.out.2.2)).mono ?_
  rintro e w2 ⟨rfl,h2⟩
  obtain⟨U2,g2,⟨B2,x2⟩,r2,ra2,e2,far2⟩:=h2.out
  obtain⟨S2,hS2⟩:∃ S,don { s with nm:=num }=S:=⟨_,rfl⟩
  rw[hS2]at x2
  have E2:Hid (_):=hS2
  clear hS2
  have q4:w2.cell? ⟨w.heap.size,4,none⟩=some (.int .i64 (fl:Nat)):=cell_of_row w2 _ 4 _ _ _ e2
  have x2d:=x2.newd (Off.drew [] w2)
  have hH:=rholdv_any d m g n mx P U2 _ B2 _ true _ x2d
  have H2:Hid (_):=And.intro g2 (And.intro far2 (And.intro e2 (And.intro r2 ra2)))
  clear hD h2 g2 x2 r2 ra2 e2 far2 x2d
  go_wp2_with fail
  have HS1:w2.drew.cell? ⟨w.heap.size,4,none⟩=some (.int .i64 (fl:Nat)):=q4
  clear q4
  go_region_held3 (fun w'=>w'.cell? ⟨w.heap.size,4,none⟩=some (.int .i64 (fl:Nat))) (assumption) (first | (go_at_call 100;refine hH.mono ?_;rintro e w3 ⟨rfl,h3⟩;have HT1:w3.cell? ⟨w.heap.size,4,none⟩=some (.int .i64 (fl:Nat)):=(World.cell?_of_block (h3.out.1.off.block w.heap.size H2.out.2.1.1 H2.out.2.1.2)).trans HS1))
  all_goals
   obtain⟨g2,far2,e2,r2,ra2⟩:=H2.out
   obtain⟨g3',B3,x3⟩:=h3.out
   obtain⟨S3,hS3⟩:∃ S,({ S2 with v:=vhold S2.v true }:Sd)=S:=⟨_,rfl⟩
   rw[hS3]at x3
   have E3:Hid (_):=hS3
   clear hS3
   have g3:Gr U2 w2 U2 w3:=Gr.trans (Gr.same (Off.drew [] w2) (by simp)) g3'
   have far3:=g3.far far2
   have e3:=far3.2.trans e2
   have q5:w3.cell? ⟨w.heap.size,5,none⟩=some (.slice a P.o cap):=cell_of_row w3 _ 5 _ _ _ e3
   have r3:Row8 w3 a P.o cap bs:=r2.off g3.off (fun x hx=>(ra2 x hx).2)
   have x3d:=x3.newd (Off.drew [] w3)
   have hT:=rtakev_any d m g n mx P U2 _ B3 _ a cap bs w3.drew x3d (r3.below (Below.drew (Below.refl _ _))) (fun x hx e=>(ra2 x hx).2 (by rw[e];exact x3.kd.2))
   have H3:Hid (_):=g2.trans g3
   have HS2:w3.drew.cell? ⟨w.heap.size,5,none⟩=some (.slice a P.o cap):=q5
   have HF3:Hid (_):=far3.1
   clear hH H2 h3 g2 far2 e2 r2 ra2 g3' x3 g3 far3 e3 r3 x3d q5 HS1 HT1
   go_wp2_with fail
   go_region_held3 (fun w'=>w'.cell? ⟨w.heap.size,5,none⟩=some (.slice a P.o cap)) (assumption) (first | (go_at_call 101;refine hT.mono ?_;rintro e w4 ⟨rfl,h4⟩;have HT2:w4.cell? ⟨w.heap.size,5,none⟩=some (.slice a P.o cap):=(by obtain⟨U4,B4,g4',x4⟩:=h4.out;exact (World.cell?_of_block (g4'.off.block w.heap.size HF3.out.1 HF3.out.2)).trans HS2)))
   all_goals
    obtain⟨U4,B4,g4',x4⟩:=h4.out
    obtain⟨S4,hS4⟩:∃ S,({ S3 with v:=vtake S3.v bs }:Sd)=S:=⟨_,rfl⟩
    rw[hS4]at x4
    have hn4:S4.sn=s.sn∧S4.st=s.st∧S2.st=s.st:=by rw[← hS4,← E3.out,← E2.out];exact⟨rfl,rfl,rfl⟩
    have g4:Gr U w U4 w4:=H3.out.trans (Gr.trans (Gr.same (Off.drew [] w3) (by simp)) g4')
    obtain⟨sn1,hs1⟩:∃ k,s.sn+1=k:=⟨_,rfl⟩
    have y21:w4.cell? ⟨d,21,none⟩=some (.int .u32 (s.sn:Nat)):=by
     have:w4.cell? ⟨d,21,none⟩=some (.int .u32 (S4.sn:Nat)):=cell_of_row w4 d 21 _ _ _ x4.dev
     rwa [hn4.1]at this
    have f21:=x4.fz 21
    have o5:=Off.setCell d 21 w4 (.int .u32 (sn1:Nat))
    have hst:({ S4 with sn:=sn1 }:Sd)=ddataS s num fl bs:=by rw[← hS4,← E3.out,← E2.out,← hs1];unfold ddataS;rw[HD8.out]
    have x5:=x4.own (A':=({ S4 with sn:=sn1 }:Sd).st≠6) (s':={ S4 with sn:=sn1 }) o5 (heap_setCell_same _ _ _ _ _ _ x4.dev) rfl ⟨rfl,rfl⟩ rfl rfl x4.vok x4.dcl (fun h=>by have h:S4.st≠6:=h;rw[hn4.2.2,← hn4.2.1];exact h)
    rw[hst]at x5
    have g5:=g4.trans (Gr.same o5 (by simp[x4.kd.2]))
    have hsl:=HS.out.1 h4s
    obtain⟨hw,hm,hl1⟩:=sn_facts hs1 hsl
    have H5:Hid (_):=And.intro g5 (And.intro x5 (And.intro hs1 hl1))
    clear hT H3 h4 g4' x4 g4 o5 x5 g5 HS2 HT2 HF3 hs1 hst hsl hl1 hS4 hn4
    go_wp2_with fail
    obtain⟨g5,x5,hs1,hl1⟩:=H5.out
    obtain⟨a5,cap5,hav,r5⟩:=own_row8 x5.app x5.apb
    have z21:(w4.setCell ⟨d,21,none⟩ (.int .u32 (sn1:Nat))).cell? ⟨d,21,none⟩=some (.int .u32 (sn1:Nat)):=by
     have:(w4.setCell ⟨d,21,none⟩ (.int .u32 (sn1:Nat))).cell? ⟨d,21,none⟩=some (.int .u32 ((ddataS s num fl bs).sn:Nat)):=cell_of_row _ d 21 _ _ _ x5.dev
     rw[show (ddataS s num fl bs).sn=sn1 from hs1]at this
     exact this
    have z23:(w4.setCell ⟨d,21,none⟩ (.int .u32 (sn1:Nat))).cell? ⟨d,23,none⟩=some B4.av:=cell_of_row _ d 23 _ _ _ x5.dev
    have z24:(w4.setCell ⟨d,21,none⟩ (.int .u32 (sn1:Nat))).cell? ⟨d,24,none⟩=some (.bool s.hd):=cell_of_row _ d 24 _ _ _ x5.dev
    rw[hav]at z23
    have xd:=x5.newd (Off.drew [] _)
    have hF:=rflags_any d m g n mx P U4 (ddataS s num fl bs) B4 _ _ xd
    rw[show (ddataS s num fl bs).hd=s.hd from rfl]at hF
    have H6:Hid (_):=And.intro g5 (And.intro xd (And.intro (r5.below (Below.drew (Below.refl _ _))) (And.intro hs1 (And.intro hav hl1))))
    generalize w4.setCell ⟨d,21,none⟩ (.int .u32 (sn1:Nat))=w5 at *
    clear g5 x5 hs1 r5 xd H5 y21 f21 hw hm hav hl1
    have HC:w5.drew.cell? ⟨d,21,none⟩=some (.int .u32 (sn1:Nat))∧w5.drew.cell? ⟨d,23,none⟩=some (.slice a5 P.i cap5)∧w5.drew.cell? ⟨d,24,none⟩=some (.bool s.hd):=⟨z21,z23,z24⟩
    clear z21 z23 z24
    go_region_held3 (fun w'=>w'.cell? ⟨d,21,none⟩=some (.int .u32 (sn1:Nat))∧w'.cell? ⟨d,23,none⟩=some (.slice a5 P.i cap5)∧w'.cell? ⟨d,24,none⟩=some (.bool s.hd)) (assumption) (first
     | (go_at_call 102;refine hF.mono ?_;rintro e w6 ⟨rfl,b6⟩;have x6:=H6.out.2.1.newd (Off.of_below b6);have hY:=ranswer_any d m g n mx P U4 (ddataS s num fl bs) 20 sn1 (dflags (ddataS s num fl bs)) a5 P.i cap5 s.ap w6 ⟨B4,x6⟩ (H6.out.2.2.1.below b6) HS.out.2.2.2.2 H6.out.2.2.2.2.2;have H7:Hid (_):=And.intro b6 x6;have HT:w6.cell? ⟨d,21,none⟩=some (.int .u32 (sn1:Nat))∧w6.cell? ⟨d,23,none⟩=some (.slice a5 P.i cap5)∧w6.cell? ⟨d,24,none⟩=some (.bool s.hd):=⟨(b6.cell H6.out.2.1.dlt).trans HC.1,(b6.cell H6.out.2.1.dlt).trans HC.2.1,(b6.cell H6.out.2.1.dlt).trans HC.2.2⟩;clear hF b6 x6)
     | (go_at_call 98;refine hY.mono ?_;rintro e w7 ⟨v,rfl,h7⟩;have HV:w7.cell? ⟨d,21,none⟩=some (.int .u32 (sn1:Nat))∧w7.cell? ⟨d,23,none⟩=some (.slice a5 P.i cap5)∧w7.cell? ⟨d,24,none⟩=some (.bool s.hd):=⟨(h7.out.2.cell H7.out.2.dlt).trans HT.1,(h7.out.2.cell H7.out.2.dlt).trans HT.2.1,(h7.out.2.cell H7.out.2.dlt).trans HT.2.2⟩;clear hY))
    all_goals
     go_wp2_with fail
     go_ret2
     obtain⟨g5,x5,_,hs1,_⟩:=H6.out
     have:=OutR.mk (g5.trans (Gr.trans (Gr.same (Off.drew [] w5) (by simp)) (Gr.below H7.out.1))) ⟨B4,H7.out.2⟩ h7.out.1 h7.out.2
     rw[← hs1]at this
     rw[HD.out]
     exact⟨v,rfl,this⟩
end Go.Proofs.YthbogkaoidbpgaaGreat
