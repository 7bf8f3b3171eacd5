/- Part 53 of the texts on which the proof rests: contracts of Go functions. -/
import Derived.Test.YtiopiheomoehbaaGreatPkF47
import Derived.Test.YtiopiheomoehbaaGreatPkF51
namespace Go.Proofs.YtiopiheomoehbaaGreat
set_option maxRecDepth 100000
open Go.RowKit Go.Maps
set_option linter.unusedVariables false
def natL:Value→Nat
 | .int _ i=>i.toNat
 | _=>0
def mvT:Mv:=⟨5,0,1,0,0,0,0,false,0,fun _=>0⟩
theorem mvT_ok:mvT.Ok:=⟨by decide,by decide,by decide,by decide,by decide,by decide,by decide⟩
theorem s0_in (P Q:Pm) (mx:Nat):(s0 P Q mx).In:=
 ⟨fun k hk=>Ih.new_ _,fun k hk=>Iv.new_ _,fun k hk=>Nat.le_refl _,fun k hk=>⟨Nat.le_refl _,by show (0:Int)≤6 * ((0:Nat):Int);decide⟩,Nat.le_refl _,Nat.le_refl _⟩
theorem ful_bad {S:Ws} (hv:S.mv<4096) (hn:0<S.n):S.bad mvT=0:=by
 unfold Ws.bad
 rw[if_neg (by omega),if_neg (by decide),if_neg (by show ¬ ((0:Int)<0∨((S.n:Nat):Int)≤0);omega),if_neg (by decide),if_neg (by decide),if_neg (by decide),if_pos (by decide),if_neg (by decide)]
theorem ful_full {S:Ws} (m:Mv) (hv:S.mv=4096):S.bad m=150:=by
 unfold Ws.bad
 rw[if_pos (by omega)]
theorem ful_play {S:Ws} (hv:S.mv<4096) (hn:0<S.n):(S.play mvT).S.mv=S.mv+1∧(S.play mvT).S.n=S.n:=by
 unfold Ws.play
 rw[if_neg (fun q=>q (ful_bad hv hn))]
 exact⟨rfl,rfl⟩
structure Fuw (S:Ws) (i:Nat):Prop where
 I:S.In
 mv:S.mv=i
 n:0<S.n
theorem Fuw.start:Fuw (s0 P0 P0 50) 0:=⟨s0_in _ _ _,rfl,by decide⟩
theorem Fuw.next {S:Ws} {i:Nat} (h:Fuw S i) (K:S.Kn) (hi:i<4096):Fuw (S.play mvT).S (i+1):=by
 obtain⟨e1,e2⟩:=ful_play (S:=S) (by rw[h.mv];exact hi) h.n
 exact⟨h.I.play K,by rw[e1,h.mv],by rw[e2];exact h.n⟩
theorem ptickT {w0 w:World} {t:Nat→Thing} {L:Pw} {S:Ws} {i:Nat} (h:PWn ev w0 t L w S) (F:Fre ev t 0) (f:Fuw S i) (hi:i<4096):Calls Tryz.prog 8 #[.pointer (some ⟨L.x,0,none⟩),.agg #[.int .i64 5,.int .i64 0,.int .i64 1,.int .i64 0,.int .i64 0,.int .u32 0,.int .i64 0,.bool false,.slice none 0 0]] w fun r w'=>∃ A:Array Value,r=.returned (.tuple #[.agg A,.int .i64 0])∧Hid (∃ S',Fuw S' (i+1)∧PWn ev w0 t L w' S'):=by
 obtain⟨t1,L1,h1,hs,hx,he⟩:=h
 subst hs
 have F1:=F.els he
 have K:=h1.n.kn
 have hP:=pplayIn ev w0 w t1 L1 0 mvT none 0 h1 F1 f.I mvT_ok f.n ⟨fun i hi=>absurd hi (Nat.not_lt_zero i),fun _=>⟨rfl,rfl⟩,fun x hx=>(by cases hx),Nat.le_refl _⟩ (fun y hy=>by cases hy) (by decide)
 rw[hx.x]at hP
 refine hP.mono ?_
 rintro r w' (⟨hb,_⟩ | ⟨hb,a',c',ah,ch,ad,cd,rfl,H⟩)
 ·exact absurd (ful_bad (by rw[f.mv];exact hi) f.n) hb
 ·exact⟨_,rfl,_,f.next K hi,PWn.bind hx he (H.out.dropR F1)⟩
theorem pfullT {w0 w:World} {t:Nat→Thing} {L:Pw} {S:Ws} (m:Mv) (d:Option Addr) (c:Nat) (h:PWn ev w0 t L w S) (f:Fuw S 4096) (ok:m.Ok):Calls Tryz.prog 8 #[.pointer (some ⟨L.x,0,none⟩),.agg #[.int .i64 m.k,.int .i64 m.c,.int .i64 m.s,.int .i64 m.f,.int .i64 m.a,.int .u32 (m.w:Nat),.int .i64 m.n,.bool m.h,.slice d m.l c]] w fun r w'=>∃ A:Array Value,r=.returned (.tuple #[.agg A,.int .i64 150])∧A.size=29∧A.all (·.oneCell')=true∧Hid (A=#[.int .i64 0,.int .i64 0,.int .i64 0,.int .i64 0,.int .i64 0,.int .u32 0,.int .i64 0,.bool false,.slice none 0 0,.int .i64 0,.int .i64 0,.int .i64 0,.int .u32 0,.int .u32 0,.int .u32 0,.int .i64 0,.int .i64 0,.bool false,.bool false,.slice none 0 0,.int .i64 0,.int .u32 0,.int .u32 0,.int .u32 0,.int .i64 0,.int .i64 0,.bool false,.bool false,.slice none 0 0]∧Below w.heap.size w w'):=by
 obtain⟨t1,L1,h1,hs,hx,he⟩:=h
 subst hs
 have hRf:=prefAny ev w0 w t1 L1 m d c h1 ok f.n
 rw[ful_full m f.mv,hx.x]at hRf
 refine (wplayB L.x m d c 150 (by decide) w hRf).mono ?_
 rintro r w' ⟨rfl,b⟩
 exact⟨_,rfl,rfl,by kernel_rfl,rfl,b⟩
set_option maxHeartbeats 8000000 in
theorem worldFull_any (m:Mv) (ok:m.Ok) (d:Option Addr) (c:Nat) (w:World) (R:Row8 w d m.l c m.b) (hl:m.l≤140737488351232):Calls Tryz.prog 3 #[.agg #[.int .i64 m.k,.int .i64 m.c,.int .i64 m.s,.int .i64 m.f,.int .i64 m.a,.int .u32 (m.w:Nat),.int .i64 m.n,.bool m.h,.slice d m.l c]] w fun r w'=>r=.returned (.bool true)∧Below w.heap.size w w':=by
 have kA:=heap_alloc_new w (.cells #[.int .i64 m.k,.int .i64 m.c,.int .i64 m.s,.int .i64 m.f,.int .i64 m.a,.int .u32 (m.w:Nat),.int .i64 m.n,.bool m.h,.slice d m.l c] 27)
 have bA:=belY (Below.refl _ w) (.cells #[.int .i64 m.k,.int .i64 m.c,.int .i64 m.s,.int .i64 m.f,.int .i64 m.a,.int .u32 (m.w:Nat),.int .i64 m.n,.bool m.h,.slice d m.l c] 27)
 obtain⟨wa,hwa⟩:∃ z,w.alloc (.cells #[.int .i64 m.k,.int .i64 m.c,.int .i64 m.s,.int .i64 m.f,.int .i64 m.a,.int .u32 (m.w:Nat),.int .i64 m.n,.bool m.h,.slice d m.l c] 27)=z:=⟨_,rfl⟩
 obtain⟨x,hx⟩:∃ z,w.heap.size=z:=⟨_,rfl⟩
 rw[hwa]at kA bA
 have Ra:=R.below bA
 have HB:Hid (Below w.heap.size w wa):=bA
 rw[hx]at kA
 have hAw:=awake17 wa
 have HK:Hid (wa.heap[x]?=some (.cells #[.int .i64 m.k,.int .i64 m.c,.int .i64 m.s,.int .i64 m.f,.int .i64 m.a,.int .u32 (m.w:Nat),.int .i64 m.n,.bool m.h,.slice d m.l c] 27 (0,0))):=kA
 have HR:Hid (_):=Ra
 have HE:Hid (_=wa):=hwa
 have HS:Hid (w.heap.size=x):=hx
 have HL:Hid (m.l≤140737488351232):=hl
 clear kA bA hwa hx Ra R hl
 go_enter Tryz.func3,Tryz.ntmps3
 go_upto_region 1 with fail
 rw[HE.out,HS.out]
 go_wp2_with fail
 refine hAw.mono ?_
 rintro r w1 ⟨rfl,b1⟩
 clear hAw
 have HB1:Hid (Below wa.heap.size wa w1):=b1
 have hLo:=plone w1
 clear b1
 go_wp2_with fail
 refine hLo.mono ?_
 rintro r w2 ⟨q0,q1,rfl,H2⟩
 clear hLo
 have hN:Calls Tryz.prog 6 #[.agg #[.slice (some ⟨q0,0,none⟩) 1 1,.slice (some ⟨q1,0,none⟩) 1 1,.int .u32 50]] w2 fun r w'=>∃ L:Pw,r=.returned (.tuple #[.pointer (some ⟨L.x,0,none⟩),.int .i64 0])∧Hid (PW ev w2 w' (evT L) L∧L.S=s0 P0 P0 50):=pnewL P0 P0 P0_ok P0_ok q0 q1 50 (by decide) (by decide) w2 H2.out.1 H2.out.2.1
 have HB2:Hid (Below wa.heap.size wa w2):=HB1.out.trans (H2.out.2.2.mono HB1.out.size)
 go_wp2_with fail
 refine hN.mono ?_
 rintro r w3 ⟨L,rfl,H3⟩
 clear hN
 have HS0:Hid (∃ S,Fuw S 0∧PWn ev w2 (evT L) L w3 S):=⟨_,Fuw.start,by have:=H3.out.1.n;rw[H3.out.2]at this;exact this⟩
 obtain⟨X,hX⟩:∃ y,L.x=y:=⟨_,rfl⟩
 rw[hX]
 have HX:Hid (L.x=X):=hX
 clear hX H3
 go_wp2_with fail
 go_loopw [4,5,16,17,18,19,20,21,22,23,24,25,26,27] (fun _ i _ _ _ _ _ _ _ _ _ _ _ _ wr=>∃ k:Nat,k≤4096∧i=.int .i64 ((k:Nat):Int)∧Hid (∃ S,Fuw S k∧PWn ev w2 (evT L) L wr S)) (fun _ i _ _ _ _ _ _ _ _ _ _ _ _ _=>4096-natL i)
 case atStart=>exact⟨0,by omega,rfl,HS0⟩
 case round=>
  obtain⟨k,hk,rfl,HI⟩:=hrel
  clear HS0
  by_cases hlt:k<4096
  ·have hlt':((k:Nat):Int)<4096:=by omega
   have hT:Calls Tryz.prog 8 #[.pointer (some ⟨X,0,none⟩),.agg #[.int .i64 5,.int .i64 0,.int .i64 1,.int .i64 0,.int .i64 0,.int .u32 0,.int .i64 0,.bool false,.slice none 0 0]] wr fun r w'=>∃ A:Array Value,r=.returned (.tuple #[.agg A,.int .i64 0])∧Hid (∃ S',Fuw S' (k+1)∧PWn ev w2 (evT L) L w' S'):=by
    obtain⟨S,f,hp⟩:=HI.out
    have:=ptickT hp (evT_fre L) f hlt
    rw[HX.out]at this
    exact this
   go_wp2_with fail
   refine hT.mono ?_
   rintro r w4 ⟨A,rfl,H4⟩
   clear hT
   go_wp2_with fail
   refine⟨⟨k+1,by omega,by simp,H4⟩,?_⟩
   have e1:natL (.int .i64 ((k:Nat):Int))=k:=by simp[natL]
   have e2:natL (.int .i64 (((k:Nat):Int)+1))=k+1:=by simp[natL]
   rw[e1,e2]
   omega
  ·obtain rfl:k=4096:=by omega
   have hbr:Below w2.heap.size w2 wr:=by
    obtain⟨S,_,t9,L9,h9,_⟩:=HI.out
    exact h9.1.bel
   have hb0:Below wa.heap.size wa wr:=HB2.out.trans (hbr.mono HB2.out.size)
   have k1:=(hb0.block x (Array.getElem?_eq_some_iff.1 HK.out).1).trans HK.out
   have q0:wr.cell? ⟨x,0,none⟩=some (.int .i64 m.k):=cell_of_row wr x 0 _ _ _ k1
   have q1:wr.cell? ⟨x,1,none⟩=some (.int .i64 m.c):=cell_of_row wr x 1 _ _ _ k1
   have q2:wr.cell? ⟨x,2,none⟩=some (.int .i64 m.s):=cell_of_row wr x 2 _ _ _ k1
   have q3:wr.cell? ⟨x,3,none⟩=some (.int .i64 m.f):=cell_of_row wr x 3 _ _ _ k1
   have q4:wr.cell? ⟨x,4,none⟩=some (.int .i64 m.a):=cell_of_row wr x 4 _ _ _ k1
   have q5:wr.cell? ⟨x,5,none⟩=some (.int .u32 (m.w:Nat)):=cell_of_row wr x 5 _ _ _ k1
   have q6:wr.cell? ⟨x,6,none⟩=some (.int .i64 m.n):=cell_of_row wr x 6 _ _ _ k1
   have q7:wr.cell? ⟨x,7,none⟩=some (.bool m.h):=cell_of_row wr x 7 _ _ _ k1
   have q8:wr.cell? ⟨x,8,none⟩=some (.slice d m.l c):=cell_of_row wr x 8 _ _ _ k1
   have hCo:=pcopyY m d c wr (HR.out.below hb0) HL.out
   have HBr:Hid (_):=hb0
   clear hb0 hbr k1
   go_wp2_with fail
   refine hCo.mono ?_
   rintro r w5 ⟨a',c',rfl,H5⟩
   clear hCo q2 q3 q4 q5 q6 q7 q8
   have hPl:Calls Tryz.prog 8 #[.pointer (some ⟨X,0,none⟩),.agg #[.int .i64 m.k,.int .i64 m.c,.int .i64 m.s,.int .i64 m.f,.int .i64 m.a,.int .u32 (m.w:Nat),.int .i64 m.n,.bool m.h,.slice a' m.l c']] w5 fun r w'=>∃ A:Array Value,r=.returned (.tuple #[.agg A,.int .i64 150])∧A.size=29∧A.all (·.oneCell')=true∧Hid (A=#[.int .i64 0,.int .i64 0,.int .i64 0,.int .i64 0,.int .i64 0,.int .u32 0,.int .i64 0,.bool false,.slice none 0 0,.int .i64 0,.int .i64 0,.int .i64 0,.int .u32 0,.int .u32 0,.int .u32 0,.int .i64 0,.int .i64 0,.bool false,.bool false,.slice none 0 0,.int .i64 0,.int .u32 0,.int .u32 0,.int .u32 0,.int .i64 0,.int .i64 0,.bool false,.bool false,.slice none 0 0]∧Below w5.heap.size w5 w'):=by
    obtain⟨S,f,hp⟩:=HI.out
    have:=pfullT m a' c' (hp.below H5.out.2.1) f ok
    rw[HX.out]at this
    exact this
   go_wp2_with fail
   refine hPl.mono ?_
   rintro r w6 ⟨A,rfl,hsA,hoA,H6⟩
   clear hPl
   have kr1:=heap_alloc_new w6 (.cells #[.int .i64 0,.int .i64 0,.int .i64 0,.int .i64 0,.int .i64 0,.int .u32 0,.int .i64 0,.bool false,.slice none 0 0,.int .i64 0,.int .i64 0,.int .i64 0,.int .u32 0,.int .u32 0,.int .u32 0,.int .i64 0,.int .i64 0,.bool false,.bool false,.slice none 0 0,.int .i64 0,.int .u32 0,.int .u32 0,.int .u32 0,.int .i64 0,.int .i64 0,.bool false,.bool false,.slice none 0 0] 41)
   have hth1:(w6.alloc (.cells #[.int .i64 0,.int .i64 0,.int .i64 0,.int .i64 0,.int .i64 0,.int .u32 0,.int .i64 0,.bool false,.slice none 0 0,.int .i64 0,.int .i64 0,.int .i64 0,.int .u32 0,.int .u32 0,.int .u32 0,.int .i64 0,.int .i64 0,.bool false,.bool false,.slice none 0 0,.int .i64 0,.int .u32 0,.int .u32 0,.int .u32 0,.int .i64 0,.int .i64 0,.bool false,.bool false,.slice none 0 0] 41)).there w6.heap.size 0 A.size:=there_row kr1 (by rw[hsA];rfl)
   have hrg1:=World.rangeAt_setCells_same (w6.alloc (.cells #[.int .i64 0,.int .i64 0,.int .i64 0,.int .i64 0,.int .i64 0,.int .u32 0,.int .i64 0,.bool false,.slice none 0 0,.int .i64 0,.int .i64 0,.int .i64 0,.int .u32 0,.int .u32 0,.int .u32 0,.int .i64 0,.int .i64 0,.bool false,.bool false,.slice none 0 0,.int .i64 0,.int .u32 0,.int .u32 0,.int .u32 0,.int .i64 0,.int .i64 0,.bool false,.bool false,.slice none 0 0] 41)) w6.heap.size 0 A.toList (by simpa using hth1)
   have hof1:=off_setCells (w6.alloc (.cells #[.int .i64 0,.int .i64 0,.int .i64 0,.int .i64 0,.int .i64 0,.int .u32 0,.int .i64 0,.bool false,.slice none 0 0,.int .i64 0,.int .i64 0,.int .i64 0,.int .u32 0,.int .u32 0,.int .u32 0,.int .i64 0,.int .i64 0,.bool false,.bool false,.slice none 0 0,.int .i64 0,.int .u32 0,.int .u32 0,.int .u32 0,.int .i64 0,.int .i64 0,.bool false,.bool false,.slice none 0 0] 41)) w6.heap.size 0 A.toList
   have hst1:(storeCells ⟨w6.heap.size,0,none⟩ A.toList).run Tryz.prog (w6.alloc (.cells #[.int .i64 0,.int .i64 0,.int .i64 0,.int .i64 0,.int .i64 0,.int .u32 0,.int .i64 0,.bool false,.slice none 0 0,.int .i64 0,.int .i64 0,.int .i64 0,.int .u32 0,.int .u32 0,.int .u32 0,.int .i64 0,.int .i64 0,.bool false,.bool false,.slice none 0 0,.int .i64 0,.int .u32 0,.int .u32 0,.int .u32 0,.int .i64 0,.int .i64 0,.bool false,.bool false,.slice none 0 0] 41))=.ok () ((w6.alloc (.cells #[.int .i64 0,.int .i64 0,.int .i64 0,.int .i64 0,.int .i64 0,.int .u32 0,.int .i64 0,.bool false,.slice none 0 0,.int .i64 0,.int .i64 0,.int .i64 0,.int .u32 0,.int .u32 0,.int .u32 0,.int .i64 0,.int .i64 0,.bool false,.bool false,.slice none 0 0,.int .i64 0,.int .u32 0,.int .u32 0,.int .u32 0,.int .i64 0,.int .i64 0,.bool false,.bool false,.slice none 0 0] 41)).setCells w6.heap.size 0 A.toList):=storeY_run hth1 hoA
   have hbl1:Below w6.heap.size w6 ((w6.alloc (.cells #[.int .i64 0,.int .i64 0,.int .i64 0,.int .i64 0,.int .i64 0,.int .u32 0,.int .i64 0,.bool false,.slice none 0 0,.int .i64 0,.int .i64 0,.int .i64 0,.int .u32 0,.int .u32 0,.int .u32 0,.int .i64 0,.int .i64 0,.bool false,.bool false,.slice none 0 0,.int .i64 0,.int .u32 0,.int .u32 0,.int .u32 0,.int .i64 0,.int .i64 0,.bool false,.bool false,.slice none 0 0] 41)).setCells w6.heap.size 0 A.toList):=hof1.below (belY (Below.refl _ _) _) (by simp) (by rw[sz1];omega)
   obtain⟨wz,hw1⟩:∃ z,(w6.alloc (.cells #[.int .i64 0,.int .i64 0,.int .i64 0,.int .i64 0,.int .i64 0,.int .u32 0,.int .i64 0,.bool false,.slice none 0 0,.int .i64 0,.int .i64 0,.int .i64 0,.int .u32 0,.int .u32 0,.int .u32 0,.int .i64 0,.int .i64 0,.bool false,.bool false,.slice none 0 0,.int .i64 0,.int .u32 0,.int .u32 0,.int .u32 0,.int .i64 0,.int .i64 0,.bool false,.bool false,.slice none 0 0] 41)).setCells w6.heap.size 0 A.toList=z:=⟨_,rfl⟩
   rw[hw1]at hst1 hrg1 hbl1
   have hbz:Below wr.heap.size wr wz:=by
    have h1:=H5.out.2.1
    have h2:=H6.out.2
    have e1:=h1.trans (h2.mono h1.size)
    exact e1.trans (hbl1.mono e1.size)
   have hMo:Calls Tryz.prog 10 #[.pointer (some ⟨X,0,none⟩)] wz fun r w'=>r=.returned (.int .i64 4096)∧w'=wz:=by
    obtain⟨S,f,hp⟩:=HI.out
    have:=pmoves (hp.below hbz)
    rw[HX.out,f.mv]at this
    exact this
   have hi:(Tryz.prog.info? 41).map (·.size)=some A.size:=by rw[hsA];kernel_rfl
   have hSR:Calls Tryz.prog 11 #[.agg A,.agg #[.int .i64 0,.int .i64 0,.int .i64 0,.int .i64 0,.int .i64 0,.int .u32 0,.int .i64 0,.bool false,.slice none 0 0,.int .i64 0,.int .i64 0,.int .i64 0,.int .u32 0,.int .u32 0,.int .u32 0,.int .i64 0,.int .i64 0,.bool false,.bool false,.slice none 0 0,.int .i64 0,.int .u32 0,.int .u32 0,.int .u32 0,.int .i64 0,.int .i64 0,.bool false,.bool false,.slice none 0 0]] wz fun r w'=>r=.returned (.bool true)∧Below wz.heap.size wz w':=by
    rw[H6.out.1]
    exact rsameRZ wz
   have HZ:Hid (_):=hbz
   clear kr1 hth1 hof1 hbl1 hw1 hbz HI
   go_wp2_with fail
   refine hMo.mono ?_
   rintro r w7 ⟨rfl,rfl⟩
   clear hMo
   go_wp2_with (refine wpList_loadAG (by kernel_rfl) 41 (.tmp 6) rfl w6.heap.size 0 rfl A _ hrg1 Tryz.underlying41 rfl hi ?_)
   refine hSR.mono ?_
   rintro r w8 ⟨rfl,b8⟩
   clear hSR hrg1 hst1
   go_wp2_with fail
   go_ret
   refine⟨rfl,?_⟩
   have h0:=HB.out
   have h1:=HBr.out
   have h2:=HZ.out
   have e1:=h0.trans (h1.mono h0.size)
   have e2:=e1.trans (h2.mono e1.size)
   exact e2.trans (b8.mono e2.size)
theorem worldFull_walk (a0_0:Int) (a0_1:Int) (a0_2:Int) (a0_3:Int) (a0_4:Int) (a0_5:Int) (a0_6:Int) (a0_7:Bool) (a0_8:Option Addr) (len0_8 cap0_8:Nat) (z0_8:List Int) (w:World) (w0_0:(Lit.int .i64 a0_0).wf=true) (w0_1:(Lit.int .i64 a0_1).wf=true) (w0_2:(Lit.int .i64 a0_2).wf=true) (w0_3:(Lit.int .i64 a0_3).wf=true) (w0_4:(Lit.int .i64 a0_4).wf=true) (w0_5:(Lit.int .u32 a0_5).wf=true) (w0_6:(Lit.int .i64 a0_6).wf=true) (w0_8:BRow .u8 w a0_8 len0_8 cap0_8 z0_8) (s0_8:len0_8≤140737488351232) :
  Calls Tryz.prog 3 #[.agg #[.int .i64 a0_0,.int .i64 a0_1,.int .i64 a0_2,.int .i64 a0_3,.int .i64 a0_4,.int .u32 a0_5,.int .i64 a0_6,.bool a0_7,.slice a0_8 len0_8 cap0_8]] w fun e w'=>e=.returned (.bool true)∧Below w.heap.size w w':=by
 obtain⟨x,rfl,hx⟩:=u32_sn w0_5
 exact worldFull_any ⟨a0_0,a0_1,a0_2,a0_3,a0_4,x,a0_6,a0_7,len0_8,fun i=>(z0_8.getD i 0).toNat⟩ ⟨i64_sn w0_0,i64_sn w0_1,i64_sn w0_2,i64_sn w0_3,i64_sn w0_4,hx,i64_sn w0_6⟩ a0_8 cap0_8 w w0_8.row8 s0_8
end Go.Proofs.YtiopiheomoehbaaGreat
