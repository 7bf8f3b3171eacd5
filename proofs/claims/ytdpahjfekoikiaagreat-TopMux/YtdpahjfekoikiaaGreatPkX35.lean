/- Part 36: contracts that the proof rests on. -/
import Derived.Test.YtdpahjfekoikiaaGreatPkX34
set_option maxHeartbeats 64000000
set_option maxRecDepth 100000
namespace Go.Proofs.YtdpahjfekoikiaaGreat
open Tryz
open Go.RowKit
def sw (P:Pm):Pm:=⟨P.c,P.i,P.o,P.t,P.n⟩
theorem vW (b:Nat) (w:World) (x0 x1 x2 x3 x4 x5 x6 x7 x8 x9:Value):Off [b] w ((((((((((w.setCell ⟨b,0,none⟩ x0).setCell ⟨b,1,none⟩ x1).setCell ⟨b,2,none⟩ x2).setCell ⟨b,3,none⟩ x3).setCell ⟨b,4,none⟩ x4).setCell ⟨b,5,none⟩ x5).setCell ⟨b,6,none⟩ x6).setCell ⟨b,7,none⟩ x7).setCell ⟨b,8,none⟩ x8).setCell ⟨b,9,none⟩ x9):=
 (((((((((Off.setCell b 0 w x0).trans (Off.setCell b 1 _ x1)).trans (Off.setCell b 2 _ x2)).trans (Off.setCell b 3 _ x3)).trans (Off.setCell b 4 _ x4)).trans (Off.setCell b 5 _ x5)).trans (Off.setCell b 6 _ x6)).trans (Off.setCell b 7 _ x7)).trans (Off.setCell b 8 _ x8)).trans (Off.setCell b 9 _ x9)
def jT:Array Value:=#[.pointer none,.pointer none,.int .i64 0,.int .u32 0,.int .u32 0,.int .u32 0,.bool false,.int .i64 0,.slice none 0 0,.bool false]
theorem jw (P:Pm) (hP:Pok P) (w:World) :
  Calls prog 29 #[.agg #[.int .u32 (P.c:Nat),.int .i64 (P.o:Nat),.int .i64 (P.i:Nat),.int .i64 (P.t:Nat),.int .u32 (P.n:Nat)]] w fun e w'=>∃ db vb vg ga,e=.returned (.agg #[aa db 0,aa vb 0,.int .i64 1,.int .u32 0,.int .u32 0,.int .u32 0,.bool false,.int .i64 0,.slice (ac ga 0) P.o P.o,.bool false])∧Hid (NL w w' (sw P) db vb vg ga):=by
 obtain⟨i0,hi,hz0,hz1,hz2⟩:=info_parts aS
 have hX:=nz w #[.int .u32 (P.c:Nat),.int .i64 (P.o:Nat),.int .i64 (P.i:Nat),.int .i64 (P.t:Nat),.int .u32 (P.n:Nat)] jT 29 92
 have hA:Below w.heap.size w ((w.alloc (.cells #[.int .u32 (P.c:Nat),.int .i64 (P.o:Nat),.int .i64 (P.i:Nat),.int .i64 (P.t:Nat),.int .u32 (P.n:Nat)] 29)).alloc (.cells jT 92)):=((Below.refl _ _).alloc (Nat.le_refl _) _).alloc (by simp) _
 have hs:((w.alloc (.cells #[.int .u32 (P.c:Nat),.int .i64 (P.o:Nat),.int .i64 (P.i:Nat),.int .i64 (P.t:Nat),.int .u32 (P.n:Nat)] 29)).alloc (.cells jT 92)).heap.size=w.heap.size+2:=by simp
 have hW:=fun wx=>nC P.t wx hP.t1 hP.t2
 have hV:=fun wx=>nA P.i wx hP.i1 hP.i8
 have hi8:=hP.o8
 have hi1:=hP.o1
 have HW:Hid (_):=hW
 have HV:Hid (_):=hV
 have HA:Hid (_):=And.intro hA hs
 clear hA hs hW hV hP
 go_enter func29,ntmps29
 go_wp2_with fail
 refine (HW.out _).mono ?_
 rintro e w2 ⟨rfl,o2,d2⟩
 unfold jT at hX HA
 generalize hwa:(w.alloc (.cells #[.int .u32 (P.c:Nat),.int .i64 (P.o:Nat),.int .i64 (P.i:Nat),.int .i64 (P.t:Nat),.int .u32 (P.n:Nat)] 29)).alloc (.cells #[.pointer none,.pointer none,.int .i64 0,.int .u32 0,.int .u32 0,.int .u32 0,.bool false,.int .i64 0,.slice none 0 0,.bool false] 92)=wa at *
 clear hwa
 have b2:Below wa.heap.size wa w2:=⟨o2.os,o2.tape,o2.output,o2.size,fun k hk=>o2.block k hk (by simp)⟩
 have p1:w2.cell? ⟨w.heap.size,2,none⟩=some (.int .i64 (P.i:Nat)):=ab w2 _ 2 _ _ _ (hX w2 b2).1
 have K2:Hid (_):=And.intro b2 d2
 have HX:Hid (_):=hX
 clear b2 d2 o2 HW hX
 go_wp2_with fail
 refine (HV.out _).mono ?_
 rintro e w3 ⟨vb,vg,rfl,h3⟩
 have o3:=h3.out.2.2.2.2.1
 have b3:Below wa.heap.size wa w3:=K2.out.1.trans ⟨o3.os,o3.tape,o3.output,o3.size,fun k hk=>o3.block k (Nat.lt_of_lt_of_le hk K2.out.1.size) (by simp)⟩
 have p2:w3.cell? ⟨w.heap.size,1,none⟩=some (.int .i64 (P.o:Nat)):=ab w3 _ 1 _ _ _ (HX.out w3 b3).1
 have K3:Hid (_):=And.intro b3 (And.intro (K2.out.2.off o3 (by simp)) (And.intro h3.out (Nat.lt_of_lt_of_le K2.out.2.lt (Nat.le_refl _))))
 have K4:Hid (_):=K2.out.2.lt
 clear b3 o3 h3 p1 HV K2
 go_wp2_with (at_make;refine aH _ rfl (.tmp 22) (.tmp 22) 43 rfl w3.heap.size 5 i0 underlying43 hi hz0 hz1 hz2 _ _ _ _ P.o P.o rfl rfl rfl rfl (Nat.le_refl _) (by omega) (Nat.le_refl _) ?_)
 intro w4 hown4 hbel4
 have b4:Below wa.heap.size wa w4:=K3.out.1.trans (hbel4.mono K3.out.1.size)
 have e4:=(HX.out w4 b4).2
 have y0:=ab w4 (w.heap.size+1) 0 _ _ _ e4
 have y1:=ab w4 (w.heap.size+1) 1 _ _ _ e4
 have y2:=ab w4 (w.heap.size+1) 2 _ _ _ e4
 have y3:=ab w4 (w.heap.size+1) 3 _ _ _ e4
 have y4:=ab w4 (w.heap.size+1) 4 _ _ _ e4
 have y5:=ab w4 (w.heap.size+1) 5 _ _ _ e4
 have y6:=ab w4 (w.heap.size+1) 6 _ _ _ e4
 have y7:=ab w4 (w.heap.size+1) 7 _ _ _ e4
 have y8:=ab w4 (w.heap.size+1) 8 _ _ _ e4
 have y9:=ab w4 (w.heap.size+1) 9 _ _ _ e4
 have fz:=fun j=>frozen_of_row w4 (w.heap.size+1) j _ _ e4
 have f0:=fz 0
 have f1:=fz 1
 have f2:=fz 2
 have f3:=fz 3
 have f4:=fz 4
 have f5:=fz 5
 have f6:=fz 6
 have f7:=fz 7
 have f8:=fz 8
 have f9:=fz 9
 have K5:Hid (_):=And.intro b4 (And.intro hown4 hbel4)
 clear e4 b4 hown4 hbel4 fz p2 HX
 go_wp2_with fail
 refine bodyPost_ret (v:=.agg #[aa wa.heap.size 0,aa vb 0,.int .i64 1,.int .u32 0,.int .u32 0,.int .u32 0,.bool false,.int .i64 0,.slice (ac w3.heap.size 0) P.o P.o,.bool false]) (by simp[results,results29,go_sem,y0,y1,y2,y3,y4,y5,y6,y7,y8,y9]) rfl ⟨wa.heap.size,vb,vg,w3.heap.size,rfl,?_⟩
 obtain⟨b4,hown4,hbel4⟩:=K5.out
 obtain⟨b3,d3,⟨v1,v2,v3,v4,o3,x3⟩,_⟩:=K3.out
 obtain⟨hA,hs⟩:=HA.out
 have hlt:=(hown4.lt _ rfl).2
 have k4:=K4.out
 have oo:Off [w.heap.size+1] w4 _:=vW (w.heap.size+1) w4 (aa wa.heap.size 0) (aa vb 0) (.int .i64 1) (.int .u32 0) (.int .u32 0) (.int .u32 0) (.bool false) (.int .i64 0) (.slice (ac w3.heap.size 0) P.o P.o) (.bool false)
 have q4:=Off.of_below (l:=[]) hbel4
 have sz:=oo.size
 have s3:=b3.size
 have s4:=b4.size
 have so:w4.ownsRow w.heap.size 5 1 (.slice (ac w3.heap.size 0) P.o P.o) P.o (CB (fun _=>0) P.o):=ak hown4 (by omega)
 have z6:w3.heap.size<w4.heap.size:=hlt
 have z2:wa.heap.size<vb:=by omega
 have z3:wa.heap.size<vg:=by omega
 refine⟨(d3.off q4 (by simp)).off oo (by simp;omega),((x3.off q4 (by simp) (by simp) (by simp)).off oo (by simp;omega) (by simp;omega) (by simp)),an so oo ?_,?_,by omega,z2,z3,v3,v4,Nat.lt_of_lt_of_le z6 sz⟩
 ·intro k hk
  cases hk
  have:=b3.size
  simp;omega
 ·have bo:=oo.below (B:=w.heap.size) (w0:=w) (hA.trans (b4.mono (by omega))) (by simp) (by have:=b4.size;omega)
  exact bo
theorem HX.made {w3 w4:World} {P:Pm} {db vb vg ga b:Nat} (hP:Pok P) (hD:DG w3 (b+2) [b,b+1,b+2] []) (hN:NL w3 w4 (sw P) db vb vg ga) :
  HX (w4.alloc (.cells (lH P (b+2) db vb dY (.slice (ac ga 0) P.o P.o)) 95)) w4.heap.size P [w4.heap.size,db,vb,vg,ga,b,b+1,b+2] dY
   ⟨b+2,db,vb,vg,[],[b,b+1,b+2],.slice (ac ga 0) P.o P.o,fun k=>if k=w4.heap.size then 0 else if k=db then 3 else if k=vb∨k=vg then 4 else if k=ga then 6 else 5⟩:=by
 obtain⟨q1,q2,q3,q4,q5,q6,q7,q8,q9,q10⟩:=hN
 have s3:=q4.size
 have d3:b+2<w3.heap.size:=hD.ult _ (by simp)
 have o34:Off [] w3 w4:=Off.of_below q4
 have oA:Off [] w4 (w4.alloc (.cells (lH P (b+2) db vb dY (.slice (ac ga 0) P.o P.o)) 95)):=Off.alloc _ _ _
 refine⟨aB w4 _,q1.off oA (by simp),q2.off oA (by simp) (by simp) (by simp),hD.off (o34.trans oA) (by simp),an (ak q3 (Nat.zero_le _)) oA (by simp),fun i _=>(by show 0<256;omega),?_,?_,?_,?_,?_,fun k hk=>by simp at hk,?_,?_,hP⟩
 ·intro k hk
  rw[World.size_alloc]
  simp at hk
  omega
 ·exact⟨if_pos rfl,by simp⟩
 ·exact⟨by dsimp only;rw[if_neg (by omega),if_pos rfl],by simp⟩
 ·exact⟨by dsimp only;rw[if_neg (by omega),if_neg (by omega),if_pos (.inl rfl)],by simp⟩
 ·exact⟨by dsimp only;rw[if_neg (by omega),if_neg (by omega),if_pos (.inr rfl)],by simp⟩
 ·intro k hk
  refine⟨?_,by simp at hk ⊢;omega⟩
  dsimp only
  simp at hk
  rw[if_neg (by omega),if_neg (by omega),if_neg (by omega),if_neg (by omega)]
 ·intro k hk
  cases hk
  exact⟨by dsimp only;rw[if_neg (by omega),if_neg (by omega),if_neg (by omega),if_pos rfl],by simp⟩
theorem qB (P:Pm) (hP:Pok P) (w:World) :
  Calls prog 9 #[.agg #[.int .u32 (P.c:Nat),.int .i64 (P.o:Nat),.int .i64 (P.i:Nat),.int .i64 (P.t:Nat),.int .u32 (P.n:Nat)]] w fun e w'=>∃ d,e=.returned (.tuple #[aa d 0,.int .i64 0])∧Hid (Below w.heap.size w w'∧∃ U,HV w' d P U dY∧∀ k,k ∈ U→w.heap.size≤k):=by
 have hb:Below w.heap.size w (w.alloc (.cells #[.int .u32 (P.c:Nat),.int .i64 (P.o:Nat),.int .i64 (P.i:Nat),.int .i64 (P.t:Nat),.int .u32 (P.n:Nat)] 29)):=(Below.refl _ _).alloc (Nat.le_refl _) _
 have hs:(w.alloc (.cells #[.int .u32 (P.c:Nat),.int .i64 (P.o:Nat),.int .i64 (P.i:Nat),.int .i64 (P.t:Nat),.int .u32 (P.n:Nat)] 29)).heap.size=w.heap.size+1:=by simp
 have hx0:=aB w (.cells #[.int .u32 (P.c:Nat),.int .i64 (P.o:Nat),.int .i64 (P.i:Nat),.int .i64 (P.t:Nat),.int .u32 (P.n:Nat)] 29)
 have hC:=fI P.c P.o P.i P.t P.n (w.alloc (.cells #[.int .u32 (P.c:Nat),.int .i64 (P.o:Nat),.int .i64 (P.i:Nat),.int .i64 (P.t:Nat),.int .u32 (P.n:Nat)] 29)) 0 (if_pos hP.ok)
 have HH:Hid (_):=And.intro hb (And.intro hs (And.intro hx0 hP))
 clear hb hs hx0 hP
 go_enter func9,ntmps9
 go_wp2_with (first | (go_at_call 25;refine hC.mono ?_;rintro e w2 ⟨rfl,b1⟩))
 obtain⟨hb,hs,hx0,hP⟩:=HH.out
 have l1:=b1.size
 have hw1:w.heap.size<w2.heap.size:=by omega
 have e2:=(b1.block w.heap.size (by omega)).trans hx0
 have bb:=hb.trans (b1.mono hb.size)
 have H2:Hid (_):=And.intro bb (And.intro hw1 hP)
 have HS:w2.drew.cell? ⟨w.heap.size,0,none⟩=some (.int .u32 (P.c:Nat))∧w2.drew.cell? ⟨w.heap.size,1,none⟩=some (.int .i64 (P.o:Nat))∧w2.drew.cell? ⟨w.heap.size,2,none⟩=some (.int .i64 (P.i:Nat))∧w2.drew.cell? ⟨w.heap.size,3,none⟩=some (.int .i64 (P.t:Nat))∧w2.drew.cell? ⟨w.heap.size,4,none⟩=some (.int .u32 (P.n:Nat)):=⟨ab w2 _ 0 _ _ _ e2,ab w2 _ 1 _ _ _ e2,ab w2 _ 2 _ _ _ e2,ab w2 _ 3 _ _ _ e2,ab w2 _ 4 _ _ _ e2⟩
 have hN:=ke w2.drew
 clear hC b1 hb hs hx0 hP l1 hw1 e2 bb HH
 go_region_held3 (fun w'=>w'.cell? ⟨w.heap.size,0,none⟩=some (.int .u32 (P.c:Nat))∧w'.cell? ⟨w.heap.size,1,none⟩=some (.int .i64 (P.o:Nat))∧w'.cell? ⟨w.heap.size,2,none⟩=some (.int .i64 (P.i:Nat))∧w'.cell? ⟨w.heap.size,3,none⟩=some (.int .i64 (P.t:Nat))∧w'.cell? ⟨w.heap.size,4,none⟩=some (.int .u32 (P.n:Nat))) (first | with_reducible assumption | exact⟨(belA _).cell hwl |>.trans HU.1,(belA _).cell hwl |>.trans HU.2.1,(belA _).cell hwl |>.trans HU.2.2.1,(belA _).cell hwl |>.trans HU.2.2.2.1,(belA _).cell hwl |>.trans HU.2.2.2.2⟩) (first
  | (go_at_call 27;refine hN.mono ?_;rintro e w3 ⟨rfl,h3⟩;have hL:=jw P H2.out.2.2 w3;have hl3:w.heap.size<w2.drew.heap.size:=H2.out.2.1;have HT:w3.cell? ⟨w.heap.size,0,none⟩=some (.int .u32 (P.c:Nat))∧w3.cell? ⟨w.heap.size,1,none⟩=some (.int .i64 (P.o:Nat))∧w3.cell? ⟨w.heap.size,2,none⟩=some (.int .i64 (P.i:Nat))∧w3.cell? ⟨w.heap.size,3,none⟩=some (.int .i64 (P.t:Nat))∧w3.cell? ⟨w.heap.size,4,none⟩=some (.int .u32 (P.n:Nat)):=⟨(h3.out.1.cell hl3).trans HS.1,(h3.out.1.cell hl3).trans HS.2.1,(h3.out.1.cell hl3).trans HS.2.2.1,(h3.out.1.cell hl3).trans HS.2.2.2.1,(h3.out.1.cell hl3).trans HS.2.2.2.2⟩;have hl4:w.heap.size<w3.heap.size:=(Nat.lt_of_lt_of_le hl3 h3.out.1.size);clear hN)
  | (go_at_call 29;refine hL.mono ?_;rintro e w4 ⟨db,vb,vg,ga,rfl,h4⟩;have HU:w4.cell? ⟨w.heap.size,0,none⟩=some (.int .u32 (P.c:Nat))∧w4.cell? ⟨w.heap.size,1,none⟩=some (.int .i64 (P.o:Nat))∧w4.cell? ⟨w.heap.size,2,none⟩=some (.int .i64 (P.i:Nat))∧w4.cell? ⟨w.heap.size,3,none⟩=some (.int .i64 (P.t:Nat))∧w4.cell? ⟨w.heap.size,4,none⟩=some (.int .u32 (P.n:Nat)):=⟨(h4.out.bel.cell hl4).trans HT.1,(h4.out.bel.cell hl4).trans HT.2.1,(h4.out.bel.cell hl4).trans HT.2.2.1,(h4.out.bel.cell hl4).trans HT.2.2.2.1,(h4.out.bel.cell hl4).trans HT.2.2.2.2⟩;have hwl:w.heap.size<w4.heap.size:=(Nat.lt_of_lt_of_le hl4 h4.out.bel.size);have belA:∀ o,Below w4.heap.size w4 (w4.alloc o):=(fun o=>(Below.refl _ _).alloc (Nat.le_refl _) o);clear hL))
 all_goals
  go_wp2_with fail
  go_ret2
  obtain⟨bb,hw1,hP⟩:=H2.out
  have X:=HX.made hP h3.out.2.2 h4.out
  have s3:=h3.out.1.size
  have s2:w2.drew.heap.size=w2.heap.size:=rfl
  have k1:=h4.out.h1
  have k2:=h4.out.h2
  have k3:=h4.out.h3
  have k4:=h4.out.h4
  have k6:=h4.out.h6
  have bA:=belA (.cells (lH P (w2.drew.heap.size+2) db vb dY (.slice (ac ga 0) P.o P.o)) 95)
  have b34:=h3.out.1.trans (h4.out.bel.mono h3.out.1.size)
  have b24:=(Below.drew (Below.refl w2.heap.size w2)).trans b34
  refine⟨w4.heap.size,rfl,bb.trans ((b24.trans (bA.mono b24.size)).mono bb.size),_,⟨_,X⟩,?_⟩
  intro k hk
  have:=bb.size
  simp at hk
  omega
end Go.Proofs.YtdpahjfekoikiaaGreat
