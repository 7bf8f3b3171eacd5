/- Part 38: contracts that the proof rests on. -/
import Derived.Test.YtfgnmadnmjdbiaaGreatPkN36
set_option maxHeartbeats 64000000
set_option maxRecDepth 100000
namespace Go.Proofs.YtfgnmadnmjdbiaaGreat
open Tryz
open Go.RowKit Go.Maps
set_option linter.unusedVariables false
theorem xx (w:World):Calls prog 17 #[] w fun r w'=>r=.returned (.int .i64 7)∧w'=w:=by
 go_enter func17,ntmps17
 go_wp2_with fail
 go_ret
 exact⟨rfl,rfl⟩
theorem sC:Pj bN (dJ M0) 1 0:=⟨rfl,rfl,rfl,rfl,rfl,rfl,rfl,rfl,rfl,fun _=>rfl⟩
theorem sx (P Q:Pm) (mx:Nat):(s0 P Q mx).In:=zl 1 mx (fun _=>P) (fun _=>Q)
theorem pX (w:World):Calls prog 6 #[] w fun r w'=>r=.returned (.bool true)∧Below w.heap.size w w':=by
 have hLo:=uJ w
 have hBo:=fun wx=>xx wx
 go_enter func6,ntmps6
 go_wp2_with fail
 refine hLo.mono ?_
 rintro r w1 ⟨q0,q1,rfl,H1⟩
 clear hLo
 have hN:Calls prog 11 #[.agg #[.slice (af q0 0) 1 1,.slice (af q1 0) 1 1,.int .u32 50]] w1 fun r w'=>∃ L:Pw,r=.returned (.tuple #[ac L.x 0,.int .i64 0])∧Hid (PW ev w1 w' (fA L) L∧L.S=s0 P0 P0 50):=tI P0 P0 ja ja q0 q1 50 (by decide) (by decide) w1 H1.out.1 H1.out.2.1
 have HB1:Hid (_):=H1.out.2.2
 clear H1
 go_wp2_with fail
 refine hN.mono ?_
 rintro r w2 ⟨L,rfl,H2⟩
 clear hN
 have hp:=H2.out.1.n
 rw[H2.out.2]at hp
 obtain⟨X,hX⟩:∃ y,L.x=y:=⟨_,rfl⟩
 have hSe:Calls prog 8 #[ac L.x 0,.int .i64 0,.int .i64 7] w2 fun r w'=>r=.returned (.tuple #[.int .i64 3,.bool true,.int .i64 0])∧Hid (∃ S',PWn ev w1 (fA L) L w' S'∧Sm (s0 P0 P0 50) S' 15∧Pj (S'.hs 0) (S'.ds 0) 4 0∧(S'.hs 0).v.lat=0∧(S'.ds 0).v.lat=0∧(S'.hs 0).hd=false∧(S'.ds 0).hd=false):=nd (c:=0) (i:=0) (P:=P0) 7 hp (dS L) (sx _ _ _) (by decide) (by decide) (by decide) rfl rfl sC rfl rfl (by decide) (by decide)
 rw[hX]at hSe ⊢
 have HX:Hid (L.x=X):=hX
 clear hp hX H2
 go_wp2_with fail
 refine hSe.mono ?_
 rintro r w3 ⟨rfl,H3⟩
 clear hSe
 obtain⟨S,p3,sm,J,l1,l2,_⟩:=H3.out
 have hn:0<S.n:=by rw[sm.n];decide
 have hU:Calls prog 10 #[ac X 0,.int .i64 0] w3 fun r w'=>r=.returned (.bool true)∧Below w3.heap.size w3 w':=by
  have:=uL p3 (c:=0) hn
  rw[HX.out,iA J l1 l2]at this
  exact this
 have HB3:Hid (Below w.heap.size w w3):=by
  obtain⟨t9,L9,h9,_⟩:=p3
  exact HB1.out.trans (h9.1.bel.mono HB1.out.size)
 clear p3 sm J l1 l2 hn H3
 go_wp2_with fail
 refine hU.mono ?_
 rintro r w4 ⟨rfl,b4⟩
 clear hU
 have HB4:Hid (Below w.heap.size w w4):=HB3.out.trans (b4.mono HB3.out.size)
 have hB:=hBo w4
 clear hBo b4
 go_wp2_with fail
 refine hB.mono ?_
 rintro r w5 ⟨rfl,rfl⟩
 go_wp2_with fail
 go_ret
 exact⟨rfl,HB4.out⟩
theorem mT (k most:Int) (a:Option Addr) (len cap:Nat) (bs:Nat→Nat) (w:World) (hr:Row8 w a len cap bs) (hk1 : -9223372036854775808≤k∧k≤9223372036854775807):Calls prog 3 #[.int .i64 k,.int .i64 most,.slice a len cap] w fun r w'=>r=.returned (.bool true)∧Below w.heap.size w w':=by
 obtain⟨i0,hi,hz0,hz1,hz2⟩:=info_parts bY
 have hAw:=pX w
 have hbd:=wD
 have HR:Hid (Row8 w a len cap bs):=hr
 clear hr
 go_enter func3,ntmps3
 go_wp2_with fail
 refine hAw.mono ?_
 rintro r w1 ⟨rfl,b1⟩
 clear hAw
 have HB1:Hid (Below w.heap.size w w1):=b1
 clear b1
 by_cases h100:len≤100
 ·have h1:¬ ((len:Nat):Int) > 100:=by omega
  have h2:decide ((100:Int) < ((len:Nat):Int))=false:=decide_eq_false (by omega)
  have hE:=uG (.pointer none) k 1 (by decide) w1 _ (fun _ _ h b=>h.trans (b.mono h.size)) (xi ⟨2,k,0,0,0,0,0,false,0,fun _=>0⟩ none 0 w1)
  go_wp2_with fail
  refine hE.mono ?_
  rintro r w2 ⟨rfl,b2⟩
  clear hE
  have HB2:Hid (Below w.heap.size w w2):=HB1.out.trans (b2.out.mono HB1.out.size)
  have hS:=xg (.pointer none) k 1 most (by decide) w2 (yL k w2)
  clear b2
  go_wp2_with fail
  refine hS.mono ?_
  rintro r w3 ⟨rfl,b3⟩
  clear hS
  have HB3:Hid (Below w.heap.size w w3):=HB2.out.trans (b3.mono HB2.out.size)
  have hC:Below w3.heap.size w3 (w3.alloc (.cells #[] 5)):=(Below.refl _ _).alloc (Nat.le_refl _) _
  have O0:=xf w3.heap.size bs w3 (Nat.le_refl _)
  have hszC:=hC.size
  have R0:=(HR.out.below HB3.out).below hC
  have hby:=HR.out.byte
  clear b3
  go_wp2_with (at_builtin;refine aT rfl (.tmp 35) (.tmp 36) 22 rfl w3.heap.size 5 i0 (.int .u8 0) underlying22 hi hz0 hz1 hz2 rfl _ 0 _ rfl O0 a len cap bs rfl R0 (by unfold maxLen;omega) (by omega) hszC ?_)
  intro v4 w4 own4 grow4
  have hb4:Below w3.heap.size w3 w4:=hC.grown grow4 hszC (fun j hj=>(O0.lt j hj).1)
  rw[show CB bs 0=[] from rfl,List.nil_append]at own4
  obtain⟨a4,c4,rfl,R4⟩:=aX own4 hby
  have HB4:Hid (Below w.heap.size w w4):=HB3.out.trans (hb4.mono HB3.out.size)
  clear own4 grow4 hb4 O0 hC hszC R0 R4
  have hC:Below w4.heap.size w4 (w4.alloc (.cells #[] 5)):=(Below.refl _ _).alloc (Nat.le_refl _) _
  have O0:=xf w4.heap.size bs w4 (Nat.le_refl _)
  have hszC:=hC.size
  have R0:=(HR.out.below HB4.out).below hC
  go_wp2_with (at_builtin;refine aT rfl (.tmp 38) (.tmp 39) 22 rfl w4.heap.size 5 i0 (.int .u8 0) underlying22 hi hz0 hz1 hz2 rfl _ 0 _ rfl O0 a len cap bs rfl R0 (by unfold maxLen;omega) (by omega) hszC ?_)
  intro v5 w5 own5 grow5
  have hb5:Below w4.heap.size w4 w5:=hC.grown grow5 hszC (fun j hj=>(O0.lt j hj).1)
  rw[show CB bs 0=[] from rfl,List.nil_append]at own5
  obtain⟨a5,c5,rfl,R5⟩:=aX own5 hby
  have HB5:Hid (Below w.heap.size w w5):=HB4.out.trans (hb5.mono HB4.out.size)
  have hT:=yl (.pointer none) k 1 (by decide) a4 a5 len c4 len c5 w5 _ (fun _ _ h b=>h.trans (b.mono h.size)) (xi ⟨1,k,1,0,0,0,0,false,len,fun _=>0⟩ a4 c4 w5)
  clear own5 grow5 hb5 O0 hC hszC R0 R5 hby hbd
  go_wp2_with fail
  refine hT.mono ?_
  rintro r w6 ⟨rfl,b6⟩
  clear hT
  have HB6:Hid (Below w.heap.size w w6):=HB5.out.trans (b6.out.mono HB5.out.size)
  have hU:=zS (.pointer none) k 1 w6 (yL k w6)
  clear b6
  go_wp2_with fail
  refine hU.mono ?_
  rintro r w7 ⟨rfl,b7⟩
  clear hU
  have HB7:Hid (Below w.heap.size w w7):=HB6.out.trans (b7.mono HB6.out.size)
  have hLo:=uJ w7
  clear b7
  go_wp2_with fail
  refine hLo.mono ?_
  rintro r w8 ⟨q0,q1,rfl,H8⟩
  clear hLo
  have hN:Calls prog 11 #[.agg #[.slice (af q0 0) 1 1,.slice (af q1 0) 1 1,.int .u32 50]] w8 fun r w'=>∃ L:Pw,r=.returned (.tuple #[ac L.x 0,.int .i64 0])∧Hid (PW ev w8 w' (fA L) L∧L.S=s0 P0 P0 50):=tI P0 P0 ja ja q0 q1 50 (by decide) (by decide) w8 H8.out.1 H8.out.2.1
  have HB8:Hid (Below w.heap.size w w8):=HB7.out.trans (H8.out.2.2.mono HB7.out.size)
  clear H8
  go_wp2_with fail
  refine hN.mono ?_
  rintro r w9 ⟨L,rfl,H9⟩
  clear hN
  have hp:PWn ev w8 (fA L) L w9 (s0 P0 P0 50):=by
   have:=H9.out.1.n
   rw[H9.out.2]at this
   exact this
  obtain⟨X,hX⟩:∃ y,L.x=y:=⟨_,rfl⟩
  rw[hX]
  have HX:Hid (L.x=X):=hX
  have HP:Hid (PWn ev w8 (fA L) L w9 (s0 P0 P0 50)):=hp
  have HBf:Hid (∀ wx,Below w9.heap.size w9 wx→Below w.heap.size w wx):=fun wx b=>by
   obtain⟨t9,L9,h9,_⟩:=hp
   exact HB8.out.trans ((h9.1.bel.trans (b.mono h9.1.bel.size)).mono HB8.out.size)
  clear hp hX H9
  by_cases h0:k=0
  ·subst h0
   go_wp2_with fail
   go_ret
   exact⟨rfl,HBf.out _ (Below.refl _ _)⟩
  ·have h0b:(k == 0)=false:=by simpa using h0
   have hbad:(s0 P0 P0 50).bad ⟨2,k,0,0,0,0,0,false,0,fun _=>0⟩=171:=by
    unfold Ws.bad
    rw[if_neg (by show ¬ (4096≤0);omega),if_neg (by show ¬ ((2:Int)<1∨(8:Int)<2);decide),if_pos (by show k<0∨((1:Nat):Int)≤k;omega)]
   have hE:=uG (ac X 0) k 171 (by decide) w9 (fun w'=>PWn ev w8 (fA L) L w' (s0 P0 P0 50)) (fun _ _ h b=>h.below b) (by
    have:=ej (i:=0) ⟨2,k,0,0,0,0,0,false,0,fun _=>0⟩ none 0 HP.out (dS L) (sx _ _ _) ⟨by dsimp only;omega,hk1,by dsimp only;omega,by dsimp only;omega,by dsimp only;omega,by dsimp only;omega,by dsimp only;omega⟩ (by decide) (bc _ _) (fun y hy=>by cases hy) (by show (0:Nat)≤_;omega)
    rw[HX.out]at this
    refine Calls.mono this ?_
    rintro r w' ⟨A,E,rfl,hs,ho,H⟩
    have e:E=171:=H.out.1.trans hbad
    subst e
    have p:=H.out.2.1
    have hp:((s0 P0 P0 50).play ⟨2,k,0,0,0,0,0,false,0,fun _=>0⟩).S=s0 P0 P0 50:=by
     unfold Ws.play
     rw[if_pos (by rw[hbad];decide)]
    rw[hp]at p
    exact⟨A,rfl,hs,ho,p⟩)
   clear hbad
   have hsee:∀ wz,PWn ev w8 (fA L) L wz (s0 P0 P0 50)→tt (ac X 0) k 171 wz:=fun wz p s hs wx b=>by
    have q:=p.below b
    obtain⟨cv,_⟩:=q.conn (k:=0) (by decide)
    obtain⟨bb,cb⟩:=q.bagp
    rw[HX.out]at cv cb
    refine (zR X bb (fu L.vc) (gZ L.vc) 1 k s 171 wx cb cv (by rw[if_pos (by omega)]) (by decide)).mono ?_
    rintro r w' ⟨rfl,b'⟩
    exact⟨_,rfl,rfl,by kernel_rfl,ni _,b'⟩
   have HSee:Hid (_):=hsee
   have hkb:¬ k=0:=h0
   clear hsee hkb
   go_wp2_with fail
   refine hE.mono ?_
   rintro r w10 ⟨rfl,H10⟩
   clear hE
   have hS:=xg (ac X 0) k 171 most (by decide) w10 (HSee.out w10 H10.out)
   go_wp2_with fail
   refine hS.mono ?_
   rintro r w11 ⟨rfl,b11⟩
   clear hS
   have H11:Hid (PWn ev w8 (fA L) L w11 (s0 P0 P0 50)):=H10.out.below b11
   have hU:=zS (ac X 0) k 171 w11 (HSee.out w11 H11.out)
   clear b11 H10
   go_wp2_with fail
   refine hU.mono ?_
   rintro r w12 ⟨rfl,b12⟩
   clear hU
   have H12:Hid (PWn ev w8 (fA L) L w12 (s0 P0 P0 50)):=H11.out.below b12
   have hM:Calls prog 13 #[ac X 0] w12 fun r w'=>r=.returned (.int .i64 0)∧w'=w12:=by
    have:=xL H12.out
    rw[HX.out]at this
    exact this
   clear b12 H11
   go_wp2_with fail
   refine hM.mono ?_
   rintro r w13 ⟨rfl,rfl⟩
   clear hM
   have HBz:Hid (Below w.heap.size w w13):=by
    obtain⟨t9,L9,h9,_⟩:=H12.out
    exact HB8.out.trans (h9.1.bel.mono HB8.out.size)
   go_wp2_with fail
   go_ret
   exact⟨rfl,HBz.out⟩
 ·have h1:((len:Nat):Int) > 100:=by omega
  have h2:decide ((100:Int) < ((len:Nat):Int))=true:=decide_eq_true (by omega)
  go_wp2_with fail
  go_ret
  exact⟨rfl,HB1.out⟩
theorem fairNil_walk (a0:Int) (a1:Int) (a2:Option Addr) (len2 cap2:Nat) (z2:List Int) (w:World) (w0:(Lit.int .i64 a0).wf=true) (w1:(Lit.int .i64 a1).wf=true) (w2:BRow .u8 w a2 len2 cap2 z2) :
  Calls prog 3 #[.int .i64 a0,.int .i64 a1,.slice a2 len2 cap2] w fun e w'=>e=.returned (.bool true)∧Below w.heap.size w w':=by
 exact mT a0 a1 a2 len2 cap2 _ w w2.row8 (xW w0)
end Go.Proofs.YtfgnmadnmjdbiaaGreat
