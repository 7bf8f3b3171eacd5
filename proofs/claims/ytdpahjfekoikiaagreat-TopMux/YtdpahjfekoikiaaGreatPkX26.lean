/- Part 27: contracts that the proof rests on. -/
import Derived.Test.YtdpahjfekoikiaaGreatPkX23
set_option maxHeartbeats 64000000
set_option maxRecDepth 100000
namespace Go.Proofs.YtdpahjfekoikiaaGreat
open Tryz
open Go.RowKit
theorem lU (d m g n mx:Nat) (P:Pm) (U:List Nat) (s:Sd) (N fl:Int) (odd:Bool) (a:Option Addr) (len cap:Nat) (bs:Nat→Nat) (p:Int) (x:Nat) (w:World) (h:RW w d m g n mx P U s) (hr:Row8 w a len cap bs) (ha:∀ y,a=some y→0<len→y.block<w.heap.size) (hss:s.ss<4294967296) :
  Calls prog 21 #[aa d 0,.agg #[.int .i64 1,.int .i64 N,.int .i64 fl,.bool odd,.slice a len cap,.int .i64 p,.int .u32 (x:Nat)]] w fun e w'=>∃ v,e=.returned (.tuple #[v,.bool true])∧Hid (Below w.heap.size w w'∧∃ f,Fr w' w.heap.size v f∧(∀ i,i<f.1→f.2 i<256)∧f.1≤140737488351232∧Fo P s 1 N fl odd len bs x f):=by
 obtain⟨B,y⟩:=h
 have hP:=y.pok
 have b0:Below w.heap.size w (w.alloc (.cells #[.int .i64 1,.int .i64 N,.int .i64 fl,.bool odd,.slice a len cap,.int .i64 p,.int .u32 (x:Nat)] 65)):=(Below.refl _ _).alloc (Nat.le_refl _) _
 have hbx:(w.alloc (.cells #[.int .i64 1,.int .i64 N,.int .i64 fl,.bool odd,.slice a len cap,.int .i64 p,.int .u32 (x:Nat)] 65)).heap[w.heap.size]?=some (.cells #[.int .i64 1,.int .i64 N,.int .i64 fl,.bool odd,.slice a len cap,.int .i64 p,.int .u32 (x:Nat)] 65 (0,0)):=aB w _
 have hlt:w.heap.size < (w.alloc (.cells #[.int .i64 1,.int .i64 N,.int .i64 fl,.bool odd,.slice a len cap,.int .i64 p,.int .u32 (x:Nat)] 65)).heap.size:=by rw[World.size_alloc];omega
 have hS:=cP P hP (w.alloc (.cells #[.int .i64 1,.int .i64 N,.int .i64 fl,.bool odd,.slice a len cap,.int .i64 p,.int .u32 (x:Nat)] 65))
 have hdl:=y.dlt
 have hdn:¬ d=w.heap.size:=by omega
 have hdn':¬ w.heap.size=d:=fun e=>hdn e.symm
 have c0:w.cell? ⟨d,0,none⟩=some (.int .u32 (P.c:Nat)):=ab w d 0 _ _ _ y.dev
 have c1:w.cell? ⟨d,1,none⟩=some (.int .i64 (P.o:Nat)):=ab w d 1 _ _ _ y.dev
 have c2:w.cell? ⟨d,2,none⟩=some (.int .i64 (P.i:Nat)):=ab w d 2 _ _ _ y.dev
 have c3:w.cell? ⟨d,3,none⟩=some (.int .i64 (P.t:Nat)):=ab w d 3 _ _ _ y.dev
 have c4:w.cell? ⟨d,4,none⟩=some (.int .u32 (P.n:Nat)):=ab w d 4 _ _ _ y.dev
 have HY:Hid (_):=And.intro y (And.intro b0 (And.intro hbx (And.intro hlt (And.intro hr (And.intro ha hP)))))
 have HSS:Hid (_):=hss
 clear y b0 hbx hlt hr ha hP hss
 go_enter func21,ntmps21
 go_upto_region 2 with (go_at_call 51;refine hS.mono ?_;rintro e w2 ⟨gs,rfl,h2⟩;have bb:=HY.out.2.1.trans (h2.out.2.2.mono HY.out.2.1.size);have y2:=HY.out.1.newd (Off.of_below bb);have d0:w2.cell? ⟨d,0,none⟩=some (.int .u32 (P.c:Nat)):=ab w2 d 0 _ _ _ y2.dev;have d19:w2.cell? ⟨d,19,none⟩=some (.int .u32 (s.ss:Nat)):=ab w2 d 19 _ _ _ y2.dev;have e2:=(h2.out.2.2.block w.heap.size HY.out.2.2.2.1).trans HY.out.2.2.1;have hdl2:=y2.dlt;have hdn2:¬ d=w2.heap.size:=(by omega);have hdn2':¬ w2.heap.size=d:=(by omega);have HB:Hid (_):=And.intro bb (And.intro y2 (And.intro e2 (And.intro h2.out.1 h2.out.2.1)));clear hS bb y2 e2 h2 c0 c1 c2 c3 c4)
 go_cut [7] (fun x7 wx=>∃ b,x7=aa b 0∧Hid (Below w2.heap.size w2 wx∧w2.heap.size≤b∧wx.heap[b]?=some (.cells #[.int .i64 0,.int .u32 (P.c:Nat),.int .u32 (s.ss:Nat),.int .u32 0,.int .i64 0,.slice none 0 0] 103 (0,0))))
 case first=>
  go_region_with (fail)
  all_goals
   go_wp2_with fail
   go_meet
   exact⟨w2.heap.size,rfl,by repeat (first | exact Below.refl _ _ | refine Below.drew ?_ | refine Below.alloc ?_ (Nat.le_refl _) _),Nat.le_refl _,aB _ _⟩
 case rest=>
  obtain⟨b,rfl,H⟩:=hcut
  obtain⟨wd,rfl⟩:∃ x,x=wc:=⟨_,rfl⟩
  have bbd:=HB.out.1.trans (H.out.1.mono HB.out.1.size)
  have yd:=HY.out.1.newd (Off.of_below bbd)
  have lbx:w.heap.size<w2.heap.size:=(Array.getElem?_eq_some_iff.1 HB.out.2.2.1).1
  have lgs:gs<w2.heap.size:=(Array.getElem?_eq_some_iff.1 HB.out.2.2.2.1).1
  have ged:w.heap.size+1≤gs:=by have:=HB.out.2.2.2.2;rwa [World.size_alloc]at this
  have ed:=(H.out.1.block w.heap.size lbx).trans HB.out.2.2.1
  have gd:=(H.out.1.block gs lgs).trans HB.out.2.2.2.1
  have hbd:b<wd.heap.size:=(Array.getElem?_eq_some_iff.1 H.out.2.2).1
  have hgd:gs<wd.heap.size:=Nat.lt_of_lt_of_le lgs H.out.1.size
  have o3:wd.cell? ⟨w.heap.size,3,none⟩=some (.bool odd):=ab wd _ 3 _ _ _ ed
  have u2:wd.cell? ⟨b,2,none⟩=some (.int .u32 (s.ss:Nat)):=ab wd _ 2 _ _ _ H.out.2.2
  have q0:wd.cell? ⟨gs,0,none⟩=some (.int .u8 (bZ P 0:Nat)):=ab wd _ 0 _ _ _ gd
  have zu2:=frozen_of_row wd b 2 _ _ H.out.2.2
  have zq0:=frozen_of_row wd gs 0 _ _ gd
  have hb2:=H.out.2.1
  have n1:¬ b=gs:=by omega
  have n1':¬ gs=b:=by omega
  have n2:¬ b=w.heap.size:=by omega
  have n2':¬ w.heap.size=b:=by omega
  have n3:¬ gs=w.heap.size:=by omega
  have n3':¬ w.heap.size=gs:=by omega
  have n4:¬ b=d:=by omega
  have n4':¬ d=b:=by omega
  have n5:¬ gs=d:=by omega
  have n5':¬ d=gs:=by omega
  have HW:Hid (_):=And.intro bbd (And.intro yd (And.intro ed (And.intro gd (And.intro H.out.2.2 (And.intro hbd (And.intro hgd (And.intro ged (by omega:w.heap.size<b))))))))
  obtain⟨so,hso,hw1,hw2⟩:=dx s.ss
  obtain⟨x0,hx0,hw3⟩:=dA P
  have HE:Hid (_):=And.intro hso hx0
  clear bbd yd ed gd H hbd hgd hb2 lbx lgs ged hso hx0 d0 d19 hdn2 hdn2' hdl2 hdn hdn' hdl
  go_upto_if 27 with fail
  go_cut [28] (fun _ wx=>Hid (Off [b,gs] wd wx∧wx.heap[b]?=some (.cells #[.int .i64 0,.int .u32 (P.c:Nat),.int .u32 (bI s odd:Nat),.int .u32 0,.int .i64 0,.slice none 0 0] 103 (0,0))∧Row8 wx (ac gs 0) 4 4 (cB P odd)))
  case first=>
   cases odd
   ·go_wp2_with fail
    go_meet
    exact⟨Off.refl _ _,by rw[cr];exact HW.out.2.2.2.2.1,bn (aG P false) (ai P 0) (ai P 1) (ai P 2) (ai P 3) (ab wd _ 0 _ _ _ HW.out.2.2.2.1) (ab wd _ 1 _ _ _ HW.out.2.2.2.1) (ab wd _ 2 _ _ _ HW.out.2.2.2.1) (ab wd _ 3 _ _ _ HW.out.2.2.2.1)⟩
   ·go_wp2_with fail
    go_meet
    obtain⟨bbd,yd,ed,gd,ud,hbd,hgd,_,_⟩:=HW.out
    have eb1:(wd.setCell ⟨b,2,none⟩ (.int .u32 (so:Nat))).heap[b]?=some (.cells #[.int .i64 0,.int .u32 (P.c:Nat),.int .u32 (so:Nat),.int .u32 0,.int .i64 0,.slice none 0 0] 103 (0,0)):=heap_setCell_same _ _ _ _ _ _ ud
    have eg1:(wd.setCell ⟨b,2,none⟩ (.int .u32 (so:Nat))).heap[gs]?=_:=((Off.setCell b 2 wd _).block gs hgd (by simp;exact n1')).trans gd
    have eg2:((wd.setCell ⟨b,2,none⟩ (.int .u32 (so:Nat))).setCell ⟨gs,0,none⟩ (.int .u8 (x0:Nat))).heap[gs]?=some (.cells #[.int .u8 (x0:Nat),.int .u8 (bZ P 1:Nat),.int .u8 (bZ P 2:Nat),.int .u8 (bZ P 3:Nat)] 5 (0,0)):=heap_setCell_same _ _ _ _ _ _ eg1
    have eb2:((wd.setCell ⟨b,2,none⟩ (.int .u32 (so:Nat))).setCell ⟨gs,0,none⟩ (.int .u8 (x0:Nat))).heap[b]?=_:=((Off.setCell gs 0 _ _).block b (Nat.lt_of_lt_of_le hbd (Off.setCell b 2 wd _).size) (by simp;exact n1)).trans eb1
    refine⟨(Off.refl _ _ |>.set (by simp)).set (by simp),?_,bn (aG P true) (cN P HE.out.2) (ay P 1 (by omega)) (ay P 2 (by omega)) (ay P 3 (by omega)) (ab _ _ 0 _ _ _ eg2) (ab _ _ 1 _ _ _ eg2) (ab _ _ 2 _ _ _ eg2) (ab _ _ 3 _ _ _ eg2)⟩
    rw[show bI s true=so from (if_pos rfl).trans HE.out.1]
    exact eb2
  case rest=>
   obtain⟨bbd,yd,ed,gd,ud,hbd,hgd,ged,hb2⟩:=HW.out
   have O:=hcut.out.1
   have ec:=(O.block w.heap.size (Array.getElem?_eq_some_iff.1 ed).1 (by simp;exact⟨n2',n3'⟩)).trans ed
   have bbc:Below w.heap.size w wc:=O.below bbd (by simp;omega) bbd.size
   have yc:=HY.out.1.newd (Off.of_below bbc)
   have e4:wc.cell? ⟨d,4,none⟩=some (.int .u32 (P.n:Nat)):=ab wc d 4 _ _ _ yc.dev
   have e19:wc.cell? ⟨d,19,none⟩=some (.int .u32 (s.ss:Nat)):=ab wc d 19 _ _ _ yc.dev
   have e20:wc.cell? ⟨d,20,none⟩=some (.int .u32 (s.nm:Nat)):=ab wc d 20 _ _ _ yc.dev
   have o0:wc.cell? ⟨w.heap.size,0,none⟩=some (.int .i64 1):=ab wc _ 0 _ _ _ ec
   have o1:wc.cell? ⟨w.heap.size,1,none⟩=some (.int .i64 N):=ab wc _ 1 _ _ _ ec
   have o2:wc.cell? ⟨w.heap.size,2,none⟩=some (.int .i64 fl):=ab wc _ 2 _ _ _ ec
   have o3:wc.cell? ⟨w.heap.size,3,none⟩=some (.bool odd):=ab wc _ 3 _ _ _ ec
   have o4:wc.cell? ⟨w.heap.size,4,none⟩=some (.slice a len cap):=ab wc _ 4 _ _ _ ec
   have u0:wc.cell? ⟨b,0,none⟩=some (.int .i64 0):=ab wc _ 0 _ _ _ hcut.out.2.1
   have u1:wc.cell? ⟨b,1,none⟩=some (.int .u32 (P.c:Nat)):=ab wc _ 1 _ _ _ hcut.out.2.1
   have u2:wc.cell? ⟨b,2,none⟩=some (.int .u32 (bI s odd:Nat)):=ab wc _ 2 _ _ _ hcut.out.2.1
   have u3:wc.cell? ⟨b,3,none⟩=some (.int .u32 0):=ab wc _ 3 _ _ _ hcut.out.2.1
   have u4:wc.cell? ⟨b,4,none⟩=some (.int .i64 0):=ab wc _ 4 _ _ _ hcut.out.2.1
   have u5:wc.cell? ⟨b,5,none⟩=some (.slice none 0 0):=ab wc _ 5 _ _ _ hcut.out.2.1
   have fzb:=fun j=>frozen_of_row wc b j _ _ hcut.out.2.1
   have z0:=fzb 0
   have z2:=fzb 2
   have z3:=fzb 3
   have z4:=fzb 4
   have z5:=fzb 5
   have hr:=HY.out.2.2.2.2.1.below bbc
   have ha:=HY.out.2.2.2.2.2.1
   have lwc:w.heap.size<wc.heap.size:=(Array.getElem?_eq_some_iff.1 ec).1
   have n6:¬ w.heap.size=wc.heap.size:=by omega
   have hF:∀ (k c ss nn:Nat) (f:Int) (a':Option Addr) (len' cap':Nat) (bs':Nat→Nat) (wx:World),Off [b] wc wx→Row8 wx a' len' cap' bs'→c<4294967296→ss<4294967296→nn<4294967296→Calls prog 52 #[.agg #[.int .i64 (k:Nat),.int .u32 (c:Nat),.int .u32 (ss:Nat),.int .u32 (nn:Nat),.int .i64 f,.slice a' len' cap']] wx fun e w'=>∃ v,e=.returned v∧Hid (w'.heap[w.heap.size]?=some (.cells #[.int .i64 1,.int .i64 N,.int .i64 fl,.bool odd,.slice a len cap,.int .i64 p,.int .u32 (x:Nat)] 65 (0,0))∧Below w.heap.size w w'∧Fr w' w.heap.size v (ch k c ss nn f len' bs')):=by
    intro k c ss nn f a' len' cap' bs' wx ox rx hc hs hn
    refine (cL k c ss nn f a' len' cap' bs' wx rx hc hs hn).mono ?_
    rintro e w' ⟨v,rfl,h5⟩
    have bx:Below w.heap.size w wx:=ox.below bbc (by simp;omega) bbc.size
    have sx:=ox.size
    exact⟨v,rfl,(h5.out.2.block w.heap.size (by omega)).trans ((ox.block w.heap.size lwc (by simp;exact n2')).trans ec),bx.trans (h5.out.2.mono bx.size),ak h5.out.1 bx.size⟩
   have hRS:∀ wx,Off [b] wc wx→Row8 wx (ac gs 0) 4 4 (cB P odd):=fun wx ox=>hcut.out.2.2.off ox (fun y hy=>by cases hy;simp;exact n1')
   have hRD:∀ wx,Off [b] wc wx→Row8 wx a len cap bs:=fun wx ox=>hr.off0 ox (fun y hy h0=>by have:=ha y hy h0;simp;omega)
   have HF:Hid (_):=And.intro hF (And.intro hRS (And.intro hRD (And.intro HY.out.2.2.2.2.2.2 (And.intro HSS.out (And.intro hr.byte (And.intro (dZ HSS.out odd) bbc))))))
   have HLW:Hid (_):=lwc
   clear hF hRS hRD hr ha O ec bbc yc hcut bbd yd ed gd ud hbd hgd ged hb2 fzb HW HY HB lwc HSS HE q0 zq0 zu2
   go_wp2_with fail
   refine (HF.out.1 1 P.c 0 0 0 (ac gs 0) 4 4 (cB P odd) _ (by repeat (first | exact Off.refl _ _ | refine Off.set ?_ (by simp) | refine Off.trans ?_ (Off.drew _ _))) (HF.out.2.1 _ (by repeat (first | exact Off.refl _ _ | refine Off.set ?_ (by simp) | refine Off.trans ?_ (Off.drew _ _)))) HF.out.2.2.2.1.c (by omega) (by omega)).mono ?_
   rintro e w5 ⟨v,rfl,h5⟩
   have r0:w5.cell? ⟨w.heap.size,0,none⟩=some (.int .i64 1):=ab w5 _ 0 _ _ _ h5.out.1
   have H5:Hid (_):=h5.out
   clear h5
   go_wp2_with fail
   go_ret2
   exact⟨v,rfl,H5.out.2.1,_,H5.out.2.2,b9 _ _ _ _ _ _ _ (aG P odd),Nat.le_trans (cV _ _ _ _ _ _ _) (by omega),⟨fun _=>rfl,fun e=>by omega,fun e=>by omega,fun e=>by omega,fun e=>by omega,fun e=>by omega,fun e=>by omega,fun e=>by omega,fun e=>by omega⟩⟩
theorem lV (d m g n mx:Nat) (P:Pm) (U:List Nat) (s:Sd) (N fl:Int) (odd:Bool) (a:Option Addr) (len cap:Nat) (bs:Nat→Nat) (p:Int) (x:Nat) (w:World) (h:RW w d m g n mx P U s) (hr:Row8 w a len cap bs) (ha:∀ y,a=some y→0<len→y.block<w.heap.size) (hss:s.ss<4294967296) :
  Calls prog 21 #[aa d 0,.agg #[.int .i64 2,.int .i64 N,.int .i64 fl,.bool odd,.slice a len cap,.int .i64 p,.int .u32 (x:Nat)]] w fun e w'=>∃ v,e=.returned (.tuple #[v,.bool true])∧Hid (Below w.heap.size w w'∧∃ f,Fr w' w.heap.size v f∧(∀ i,i<f.1→f.2 i<256)∧f.1≤140737488351232∧Fo P s 2 N fl odd len bs x f):=by
 obtain⟨B,y⟩:=h
 have hP:=y.pok
 have b0:Below w.heap.size w (w.alloc (.cells #[.int .i64 2,.int .i64 N,.int .i64 fl,.bool odd,.slice a len cap,.int .i64 p,.int .u32 (x:Nat)] 65)):=(Below.refl _ _).alloc (Nat.le_refl _) _
 have hbx:(w.alloc (.cells #[.int .i64 2,.int .i64 N,.int .i64 fl,.bool odd,.slice a len cap,.int .i64 p,.int .u32 (x:Nat)] 65)).heap[w.heap.size]?=some (.cells #[.int .i64 2,.int .i64 N,.int .i64 fl,.bool odd,.slice a len cap,.int .i64 p,.int .u32 (x:Nat)] 65 (0,0)):=aB w _
 have hlt:w.heap.size < (w.alloc (.cells #[.int .i64 2,.int .i64 N,.int .i64 fl,.bool odd,.slice a len cap,.int .i64 p,.int .u32 (x:Nat)] 65)).heap.size:=by rw[World.size_alloc];omega
 have hS:=cP P hP (w.alloc (.cells #[.int .i64 2,.int .i64 N,.int .i64 fl,.bool odd,.slice a len cap,.int .i64 p,.int .u32 (x:Nat)] 65))
 have hdl:=y.dlt
 have hdn:¬ d=w.heap.size:=by omega
 have hdn':¬ w.heap.size=d:=fun e=>hdn e.symm
 have c0:w.cell? ⟨d,0,none⟩=some (.int .u32 (P.c:Nat)):=ab w d 0 _ _ _ y.dev
 have c1:w.cell? ⟨d,1,none⟩=some (.int .i64 (P.o:Nat)):=ab w d 1 _ _ _ y.dev
 have c2:w.cell? ⟨d,2,none⟩=some (.int .i64 (P.i:Nat)):=ab w d 2 _ _ _ y.dev
 have c3:w.cell? ⟨d,3,none⟩=some (.int .i64 (P.t:Nat)):=ab w d 3 _ _ _ y.dev
 have c4:w.cell? ⟨d,4,none⟩=some (.int .u32 (P.n:Nat)):=ab w d 4 _ _ _ y.dev
 have HY:Hid (_):=And.intro y (And.intro b0 (And.intro hbx (And.intro hlt (And.intro hr (And.intro ha hP)))))
 have HSS:Hid (_):=hss
 clear y b0 hbx hlt hr ha hP hss
 go_enter func21,ntmps21
 go_upto_region 2 with (go_at_call 51;refine hS.mono ?_;rintro e w2 ⟨gs,rfl,h2⟩;have bb:=HY.out.2.1.trans (h2.out.2.2.mono HY.out.2.1.size);have y2:=HY.out.1.newd (Off.of_below bb);have d0:w2.cell? ⟨d,0,none⟩=some (.int .u32 (P.c:Nat)):=ab w2 d 0 _ _ _ y2.dev;have d19:w2.cell? ⟨d,19,none⟩=some (.int .u32 (s.ss:Nat)):=ab w2 d 19 _ _ _ y2.dev;have e2:=(h2.out.2.2.block w.heap.size HY.out.2.2.2.1).trans HY.out.2.2.1;have hdl2:=y2.dlt;have hdn2:¬ d=w2.heap.size:=(by omega);have hdn2':¬ w2.heap.size=d:=(by omega);have HB:Hid (_):=And.intro bb (And.intro y2 (And.intro e2 (And.intro h2.out.1 h2.out.2.1)));clear hS bb y2 e2 h2 c0 c1 c2 c3 c4)
 go_cut [7] (fun x7 wx=>∃ b,x7=aa b 0∧Hid (Below w2.heap.size w2 wx∧w2.heap.size≤b∧wx.heap[b]?=some (.cells #[.int .i64 0,.int .u32 (P.c:Nat),.int .u32 (s.ss:Nat),.int .u32 0,.int .i64 0,.slice none 0 0] 103 (0,0))))
 case first=>
  go_region_with (fail)
  all_goals
   go_wp2_with fail
   go_meet
   exact⟨w2.heap.size,rfl,by repeat (first | exact Below.refl _ _ | refine Below.drew ?_ | refine Below.alloc ?_ (Nat.le_refl _) _),Nat.le_refl _,aB _ _⟩
 case rest=>
  obtain⟨b,rfl,H⟩:=hcut
  obtain⟨wd,rfl⟩:∃ x,x=wc:=⟨_,rfl⟩
  have bbd:=HB.out.1.trans (H.out.1.mono HB.out.1.size)
  have yd:=HY.out.1.newd (Off.of_below bbd)
  have lbx:w.heap.size<w2.heap.size:=(Array.getElem?_eq_some_iff.1 HB.out.2.2.1).1
  have lgs:gs<w2.heap.size:=(Array.getElem?_eq_some_iff.1 HB.out.2.2.2.1).1
  have ged:w.heap.size+1≤gs:=by have:=HB.out.2.2.2.2;rwa [World.size_alloc]at this
  have ed:=(H.out.1.block w.heap.size lbx).trans HB.out.2.2.1
  have gd:=(H.out.1.block gs lgs).trans HB.out.2.2.2.1
  have hbd:b<wd.heap.size:=(Array.getElem?_eq_some_iff.1 H.out.2.2).1
  have hgd:gs<wd.heap.size:=Nat.lt_of_lt_of_le lgs H.out.1.size
  have o3:wd.cell? ⟨w.heap.size,3,none⟩=some (.bool odd):=ab wd _ 3 _ _ _ ed
  have u2:wd.cell? ⟨b,2,none⟩=some (.int .u32 (s.ss:Nat)):=ab wd _ 2 _ _ _ H.out.2.2
  have q0:wd.cell? ⟨gs,0,none⟩=some (.int .u8 (bZ P 0:Nat)):=ab wd _ 0 _ _ _ gd
  have zu2:=frozen_of_row wd b 2 _ _ H.out.2.2
  have zq0:=frozen_of_row wd gs 0 _ _ gd
  have hb2:=H.out.2.1
  have n1:¬ b=gs:=by omega
  have n1':¬ gs=b:=by omega
  have n2:¬ b=w.heap.size:=by omega
  have n2':¬ w.heap.size=b:=by omega
  have n3:¬ gs=w.heap.size:=by omega
  have n3':¬ w.heap.size=gs:=by omega
  have n4:¬ b=d:=by omega
  have n4':¬ d=b:=by omega
  have n5:¬ gs=d:=by omega
  have n5':¬ d=gs:=by omega
  have HW:Hid (_):=And.intro bbd (And.intro yd (And.intro ed (And.intro gd (And.intro H.out.2.2 (And.intro hbd (And.intro hgd (And.intro ged (by omega:w.heap.size<b))))))))
  obtain⟨so,hso,hw1,hw2⟩:=dx s.ss
  obtain⟨x0,hx0,hw3⟩:=dA P
  have HE:Hid (_):=And.intro hso hx0
  clear bbd yd ed gd H hbd hgd hb2 lbx lgs ged hso hx0 d0 d19 hdn2 hdn2' hdl2 hdn hdn' hdl
  go_upto_if 27 with fail
  go_cut [28] (fun _ wx=>Hid (Off [b,gs] wd wx∧wx.heap[b]?=some (.cells #[.int .i64 0,.int .u32 (P.c:Nat),.int .u32 (bI s odd:Nat),.int .u32 0,.int .i64 0,.slice none 0 0] 103 (0,0))∧Row8 wx (ac gs 0) 4 4 (cB P odd)))
  case first=>
   cases odd
   ·go_wp2_with fail
    go_meet
    exact⟨Off.refl _ _,by rw[cr];exact HW.out.2.2.2.2.1,bn (aG P false) (ai P 0) (ai P 1) (ai P 2) (ai P 3) (ab wd _ 0 _ _ _ HW.out.2.2.2.1) (ab wd _ 1 _ _ _ HW.out.2.2.2.1) (ab wd _ 2 _ _ _ HW.out.2.2.2.1) (ab wd _ 3 _ _ _ HW.out.2.2.2.1)⟩
   ·go_wp2_with fail
    go_meet
    obtain⟨bbd,yd,ed,gd,ud,hbd,hgd,_,_⟩:=HW.out
    have eb1:(wd.setCell ⟨b,2,none⟩ (.int .u32 (so:Nat))).heap[b]?=some (.cells #[.int .i64 0,.int .u32 (P.c:Nat),.int .u32 (so:Nat),.int .u32 0,.int .i64 0,.slice none 0 0] 103 (0,0)):=heap_setCell_same _ _ _ _ _ _ ud
    have eg1:(wd.setCell ⟨b,2,none⟩ (.int .u32 (so:Nat))).heap[gs]?=_:=((Off.setCell b 2 wd _).block gs hgd (by simp;exact n1')).trans gd
    have eg2:((wd.setCell ⟨b,2,none⟩ (.int .u32 (so:Nat))).setCell ⟨gs,0,none⟩ (.int .u8 (x0:Nat))).heap[gs]?=some (.cells #[.int .u8 (x0:Nat),.int .u8 (bZ P 1:Nat),.int .u8 (bZ P 2:Nat),.int .u8 (bZ P 3:Nat)] 5 (0,0)):=heap_setCell_same _ _ _ _ _ _ eg1
    have eb2:((wd.setCell ⟨b,2,none⟩ (.int .u32 (so:Nat))).setCell ⟨gs,0,none⟩ (.int .u8 (x0:Nat))).heap[b]?=_:=((Off.setCell gs 0 _ _).block b (Nat.lt_of_lt_of_le hbd (Off.setCell b 2 wd _).size) (by simp;exact n1)).trans eb1
    refine⟨(Off.refl _ _ |>.set (by simp)).set (by simp),?_,bn (aG P true) (cN P HE.out.2) (ay P 1 (by omega)) (ay P 2 (by omega)) (ay P 3 (by omega)) (ab _ _ 0 _ _ _ eg2) (ab _ _ 1 _ _ _ eg2) (ab _ _ 2 _ _ _ eg2) (ab _ _ 3 _ _ _ eg2)⟩
    rw[show bI s true=so from (if_pos rfl).trans HE.out.1]
    exact eb2
  case rest=>
   obtain⟨bbd,yd,ed,gd,ud,hbd,hgd,ged,hb2⟩:=HW.out
   have O:=hcut.out.1
   have ec:=(O.block w.heap.size (Array.getElem?_eq_some_iff.1 ed).1 (by simp;exact⟨n2',n3'⟩)).trans ed
   have bbc:Below w.heap.size w wc:=O.below bbd (by simp;omega) bbd.size
   have yc:=HY.out.1.newd (Off.of_below bbc)
   have e4:wc.cell? ⟨d,4,none⟩=some (.int .u32 (P.n:Nat)):=ab wc d 4 _ _ _ yc.dev
   have e19:wc.cell? ⟨d,19,none⟩=some (.int .u32 (s.ss:Nat)):=ab wc d 19 _ _ _ yc.dev
   have e20:wc.cell? ⟨d,20,none⟩=some (.int .u32 (s.nm:Nat)):=ab wc d 20 _ _ _ yc.dev
   have o0:wc.cell? ⟨w.heap.size,0,none⟩=some (.int .i64 2):=ab wc _ 0 _ _ _ ec
   have o1:wc.cell? ⟨w.heap.size,1,none⟩=some (.int .i64 N):=ab wc _ 1 _ _ _ ec
   have o2:wc.cell? ⟨w.heap.size,2,none⟩=some (.int .i64 fl):=ab wc _ 2 _ _ _ ec
   have o3:wc.cell? ⟨w.heap.size,3,none⟩=some (.bool odd):=ab wc _ 3 _ _ _ ec
   have o4:wc.cell? ⟨w.heap.size,4,none⟩=some (.slice a len cap):=ab wc _ 4 _ _ _ ec
   have u0:wc.cell? ⟨b,0,none⟩=some (.int .i64 0):=ab wc _ 0 _ _ _ hcut.out.2.1
   have u1:wc.cell? ⟨b,1,none⟩=some (.int .u32 (P.c:Nat)):=ab wc _ 1 _ _ _ hcut.out.2.1
   have u2:wc.cell? ⟨b,2,none⟩=some (.int .u32 (bI s odd:Nat)):=ab wc _ 2 _ _ _ hcut.out.2.1
   have u3:wc.cell? ⟨b,3,none⟩=some (.int .u32 0):=ab wc _ 3 _ _ _ hcut.out.2.1
   have u4:wc.cell? ⟨b,4,none⟩=some (.int .i64 0):=ab wc _ 4 _ _ _ hcut.out.2.1
   have u5:wc.cell? ⟨b,5,none⟩=some (.slice none 0 0):=ab wc _ 5 _ _ _ hcut.out.2.1
   have fzb:=fun j=>frozen_of_row wc b j _ _ hcut.out.2.1
   have z0:=fzb 0
   have z2:=fzb 2
   have z3:=fzb 3
   have z4:=fzb 4
   have z5:=fzb 5
   have hr:=HY.out.2.2.2.2.1.below bbc
   have ha:=HY.out.2.2.2.2.2.1
   have lwc:w.heap.size<wc.heap.size:=(Array.getElem?_eq_some_iff.1 ec).1
   have n6:¬ w.heap.size=wc.heap.size:=by omega
   have hF:∀ (k c ss nn:Nat) (f:Int) (a':Option Addr) (len' cap':Nat) (bs':Nat→Nat) (wx:World),Off [b] wc wx→Row8 wx a' len' cap' bs'→c<4294967296→ss<4294967296→nn<4294967296→Calls prog 52 #[.agg #[.int .i64 (k:Nat),.int .u32 (c:Nat),.int .u32 (ss:Nat),.int .u32 (nn:Nat),.int .i64 f,.slice a' len' cap']] wx fun e w'=>∃ v,e=.returned v∧Hid (w'.heap[w.heap.size]?=some (.cells #[.int .i64 2,.int .i64 N,.int .i64 fl,.bool odd,.slice a len cap,.int .i64 p,.int .u32 (x:Nat)] 65 (0,0))∧Below w.heap.size w w'∧Fr w' w.heap.size v (ch k c ss nn f len' bs')):=by
    intro k c ss nn f a' len' cap' bs' wx ox rx hc hs hn
    refine (cL k c ss nn f a' len' cap' bs' wx rx hc hs hn).mono ?_
    rintro e w' ⟨v,rfl,h5⟩
    have bx:Below w.heap.size w wx:=ox.below bbc (by simp;omega) bbc.size
    have sx:=ox.size
    exact⟨v,rfl,(h5.out.2.block w.heap.size (by omega)).trans ((ox.block w.heap.size lwc (by simp;exact n2')).trans ec),bx.trans (h5.out.2.mono bx.size),ak h5.out.1 bx.size⟩
   have hRS:∀ wx,Off [b] wc wx→Row8 wx (ac gs 0) 4 4 (cB P odd):=fun wx ox=>hcut.out.2.2.off ox (fun y hy=>by cases hy;simp;exact n1')
   have hRD:∀ wx,Off [b] wc wx→Row8 wx a len cap bs:=fun wx ox=>hr.off0 ox (fun y hy h0=>by have:=ha y hy h0;simp;omega)
   have HF:Hid (_):=And.intro hF (And.intro hRS (And.intro hRD (And.intro HY.out.2.2.2.2.2.2 (And.intro HSS.out (And.intro hr.byte (And.intro (dZ HSS.out odd) bbc))))))
   have HLW:Hid (_):=lwc
   clear hF hRS hRD hr ha O ec bbc yc hcut bbd yd ed gd ud hbd hgd ged hb2 fzb HW HY HB lwc HSS HE q0 zq0 zu2
   cases odd
   ·go_wp2_with fail
    refine (HF.out.1 2 P.c s.ss 0 0 (ac gs 0) 4 4 (cB P false) _ (by repeat (first | exact Off.refl _ _ | refine Off.set ?_ (by simp) | refine Off.trans ?_ (Off.drew _ _))) (HF.out.2.1 _ (by repeat (first | exact Off.refl _ _ | refine Off.set ?_ (by simp) | refine Off.trans ?_ (Off.drew _ _)))) HF.out.2.2.2.1.c HF.out.2.2.2.2.1 (by omega)).mono ?_
    rintro e w5 ⟨v,rfl,h5⟩
    have r0:w5.cell? ⟨w.heap.size,0,none⟩=some (.int .i64 2):=ab w5 _ 0 _ _ _ h5.out.1
    have H5:Hid (_):=h5.out
    clear h5
    go_wp2_with fail
    go_ret2
    exact⟨v,rfl,H5.out.2.1,_,H5.out.2.2,b9 _ _ _ _ _ _ _ (aG P false),Nat.le_trans (cV _ _ _ _ _ _ _) (by omega),⟨fun e=>by omega,(fun _ _=>by rw[qI]),fun e=>by omega,fun e=>by omega,fun e=>by omega,fun _=>⟨_,_,rfl⟩,fun e=>by omega,fun e=>by omega,fun e=>by omega⟩⟩
   ·by_cases ht:N.tmod 2=0
    ·have ht1:(N.tmod 2 == 0)=true:=by simp[ht]
     go_wp2_with fail
     refine (HF.out.1 2 P.c s.ss 0 0 (ac gs 0) 4 4 (cB P true) _ (by repeat (first | exact Off.refl _ _ | refine Off.set ?_ (by simp) | refine Off.trans ?_ (Off.drew _ _))) (HF.out.2.1 _ (by repeat (first | exact Off.refl _ _ | refine Off.set ?_ (by simp) | refine Off.trans ?_ (Off.drew _ _)))) HF.out.2.2.2.1.c HF.out.2.2.2.2.1 (by omega)).mono ?_
     rintro e w5 ⟨v,rfl,h5⟩
     have r0:w5.cell? ⟨w.heap.size,0,none⟩=some (.int .i64 2):=ab w5 _ 0 _ _ _ h5.out.1
     have H5:Hid (_):=h5.out
     clear h5
     go_wp2_with fail
     go_ret2
     exact⟨v,rfl,H5.out.2.1,_,H5.out.2.2,b9 _ _ _ _ _ _ _ (aG P true),Nat.le_trans (cV _ _ _ _ _ _ _) (by omega),⟨fun e=>by omega,(fun _ e=>by cases e),fun e=>by omega,fun e=>by omega,fun e=>by omega,fun _=>⟨_,_,rfl⟩,fun e=>by omega,fun e=>by omega,fun e=>by omega⟩⟩
    ·have ht1:(N.tmod 2 == 0)=false:=by simp[ht]
     go_wp2_with fail
     refine (HF.out.1 2 P.c (bI s true) 0 0 (ac gs 0) 4 4 (cB P true) _ (by repeat (first | exact Off.refl _ _ | refine Off.set ?_ (by simp) | refine Off.trans ?_ (Off.drew _ _))) (HF.out.2.1 _ (by repeat (first | exact Off.refl _ _ | refine Off.set ?_ (by simp) | refine Off.trans ?_ (Off.drew _ _)))) HF.out.2.2.2.1.c HF.out.2.2.2.2.2.2.1 (by omega)).mono ?_
     rintro e w5 ⟨v,rfl,h5⟩
     have r0:w5.cell? ⟨w.heap.size,0,none⟩=some (.int .i64 2):=ab w5 _ 0 _ _ _ h5.out.1
     have H5:Hid (_):=h5.out
     clear h5
     go_wp2_with fail
     go_ret2
     exact⟨v,rfl,H5.out.2.1,_,H5.out.2.2,b9 _ _ _ _ _ _ _ (aG P true),Nat.le_trans (cV _ _ _ _ _ _ _) (by omega),⟨fun e=>by omega,(fun _ e=>by cases e),fun e=>by omega,fun e=>by omega,fun e=>by omega,fun _=>⟨_,_,rfl⟩,fun e=>by omega,fun e=>by omega,fun e=>by omega⟩⟩
end Go.Proofs.YtdpahjfekoikiaaGreat
