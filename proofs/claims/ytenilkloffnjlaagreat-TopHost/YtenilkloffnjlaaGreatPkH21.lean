/- Part 22: contracts that the proof rests on. -/
import Derived.Test.YtenilkloffnjlaaGreatPkH15
import Derived.Test.YtenilkloffnjlaaGreatPkH16
import Derived.Test.YtenilkloffnjlaaGreatPkH17
import Derived.Test.YtenilkloffnjlaaGreatPkH18
import Derived.Test.YtenilkloffnjlaaGreatPkH19
import Derived.Test.YtenilkloffnjlaaGreatPkH20
set_option maxHeartbeats 64000000
set_option maxRecDepth 100000
namespace Go.Proofs.YtenilkloffnjlaaGreat
open Tryz
open Go.RowKit
theorem qD (x:Int) (h0:0≤x) (h1:x≤200):(Lit.int .i64 x).wf=true:=by
 have e1:IntKind.i64.min = -9223372036854775808:=by decide
 have e2:IntKind.i64.max=9223372036854775807:=by decide
 simp[Lit.wf,e1,e2]
 omega
theorem nL {w:World} {M e n m cap:Nat} {a:Option Addr} {xs:List Value} (h:w.ownsRow M e 1 (.slice a m cap) n xs) (x:Addr) (hx:a=some x):M≤x.block∧x.block<w.heap.size:=by
 rcases h.2 with hn | ⟨g',cap',cur',he,hg',hh,_⟩
 ·have:=hn.1;rw[hx]at this;cases this
 ·rw[hx]at he;cases he;exact⟨hg',(Array.getElem?_eq_some_iff.1 hh).1⟩
theorem xh (d m g n mx:Nat) (P:Pm) (U:List Nat) (s:Sd) (k c ss num fl:Nat) (a:Option Addr) (len cap:Nat) (bs:Nat→Nat) (w:World) (h:DV w d m g n mx P U s) (hr:Row8 w a len cap bs) (ha:∀ x,a=some x→x.block<w.heap.size∧x.block ∉ U) (hk:1≤k∧k≤5) (hfl:fl<16) (hsn:s.st=4→s.sn+1<4294967296) (hs:s.st≠6) (ho:s.od<4) (hL:s.L.length<800000) (ht:s.ms.t<9223372036854774000) :
  Calls prog 174 #[.pointer (some ⟨d,0,none⟩),.agg #[.int .i64 (k:Nat),.int .u32 (c:Nat),.int .u32 (ss:Nat),.int .u32 (num:Nat),.int .i64 (fl:Nat),.slice a len cap]] w fun e w'=>∃ v,e=.returned (.tuple #[v,.int .i64 (bc P mx n s k ss num fl len bs).e])∧Hid (Out U w w' d m g n mx P (bc P mx n s k ss num fl len bs).s (bc P mx n s k ss num fl len bs).f v):=by
 have:k=1∨k=2∨k=3∨k=4∨k=5:=by omega
 rcases this with rfl | rfl | rfl | rfl | rfl
 ·exact us d m g n mx P U s c ss num fl a len cap bs w h hr ha hfl hsn hs ho hL ht
 ·exact ut d m g n mx P U s c ss num fl a len cap bs w h hr ha hfl hsn hs ho hL ht
 ·exact uu d m g n mx P U s c ss num fl a len cap bs w h hr ha hfl hsn hs ho hL ht
 ·exact uv d m g n mx P U s c ss num fl a len cap bs w h hr ha hfl hsn hs ho hL ht
 ·exact uw d m g n mx P U s c ss num fl a len cap bs w h hr ha hfl hsn hs ho hL ht
theorem vx (d m g n mx:Nat) (P:Pm) (U:List Nat) (s:Sd) (a:Option Addr) (len cap:Nat) (bs:Nat→Nat) (w:World) (h:DV w d m g n mx P U s) (hr:Row8 w a len cap bs) (hsn:s.st=4→s.sn+1<4294967296) (hs:s.st≠6) (ho:s.od<4) (hL:s.L.length<800000) (ht:s.ms.t<9223372036854774000) :
  Calls prog 141 #[.pointer (some ⟨d,0,none⟩),.slice a len cap] w fun e w'=>∃ v,e=.returned (.tuple #[v,.int .i64 (bR P mx n s len bs).e])∧Hid (Out U w w' d m g n mx P (bR P mx n s len bs).s (bR P mx n s len bs).f v):=by
 unfold bR
 by_cases hE:DE bs len=0
 ·have hD:=gP a len cap bs w hr hE
  rw[if_neg (by omega)]
  obtain⟨_,_,_,hLW⟩:=gN hE
  obtain⟨hk1,_,_,_,hf1⟩:=fO hLW
  have HH:Hid (_):=And.intro h (And.intro hsn (And.intro hs (And.intro ho (And.intro hL ht))))
  have hby:∀ i,i<len→bs i<256:=hr.byte
  obtain⟨B,x⟩:=id h
  have hdl:=x.dlt
  clear h hr hsn hs ho hL ht hLW
  by_cases hK:eJ (bs 0:Int)=false
  ·rw[if_pos hK]
   have hF:=fun wx=>fY (bs 0:Int) wx
   rw[hK]at hF
   go_enter func141,ntmps141
   go_wp2_with (go_at_call 134;refine hD.mono ?_;rintro e w2 ⟨a2,c2,rfl,h2⟩)
   go_wp2_with (go_at_call 173;refine (hF _).mono ?_;rintro e w' ⟨rfl,hw⟩;have hw:=hw.symm;subst hw)
   go_ret2
   exact⟨_,rfl,Out.none_ ((Gr.below h2.out.2).trans (Gr.below ((Below.refl _ _).alloc (Nat.le_refl _) _))) (DV.below (DV.below HH.out.1 h2.out.2) ((Below.refl _ _).alloc (Nat.le_refl _) _))⟩
  ·rw[if_neg hK]
   have hK':eJ (bs 0:Int)=true:=by simpa using hK
   have hk5:1≤bs 0∧bs 0≤5:=by unfold eJ at hK';simp at hK';omega
   have hF:=fun wx=>fY (bs 0:Int) wx
   rw[hK']at hF
   have hT:∀ (w2:World) (a2:Option Addr) (c2:Nat),w2.ownsRow w.heap.size 5 1 (.slice a2 (len-19) c2) (len-19) (CB (fun i=>bs (15+i)) (len-19))→Below w.heap.size w w2→∀ wx,Below w2.heap.size w2 wx →
     Calls prog 174 #[.pointer (some ⟨d,0,none⟩),.agg #[.int .i64 (bs 0:Nat),.int .u32 (aC bs 1:Nat),.int .u32 (aC bs 5:Nat),.int .u32 (aC bs 9:Nat),.int .i64 (bs 13:Nat),.slice a2 (len-19) c2]] wx fun e w'=>∃ v,e=.returned (.tuple #[v,.int .i64 (bc P mx n s (bs 0) (aC bs 5) (aC bs 9) (bs 13) (len-19) (fun i=>bs (15+i))).e])∧Hid (Out U w w' d m g n mx P (bc P mx n s (bs 0) (aC bs 5) (aC bs 9) (bs 13) (len-19) (fun i=>bs (15+i))).s (bc P mx n s (bs 0) (aC bs 5) (aC bs 9) (bs 13) (len-19) (fun i=>bs (15+i))).f v):=by
    intro w2 a2 c2 ho2 hb2 wx hbx
    obtain⟨h,hsn,hs,ho,hL,ht⟩:=HH.out
    have hr2:Row8 w2 a2 (len-19) c2 (fun i=>bs (15+i)):=iC ho2 (fun i hi=>hby _ (by omega))
    have hbb:Below w.heap.size w wx:=hb2.trans (hbx.mono hb2.size)
    refine (xh d m g n mx P U s (bs 0) (aC bs 1) (aC bs 5) (aC bs 9) (bs 13) a2 (len-19) c2 _ wx (DV.below h hbb) (hr2.below hbx) (fun x hx=>?_) hk5 (by omega) hsn hs ho hL ht).mono ?_
    ·have:=nL ho2 x hx
     exact⟨Nat.lt_of_lt_of_le this.2 hbx.size,fun hm=>by have:=DV.ult h _ hm;omega⟩
    ·rintro e w' ⟨v,rfl,h5⟩
     exact⟨v,rfl,Out.pre (Gr.below hbb) h5.out⟩
   have HT:Hid (_):=hT
   have HX:Hid (_):=x
   clear hT x hby hk1 hf1 hk5 hE hK
   by_cases hC:aC bs 1=P.c
   ·rw[if_neg (by omega)]
    generalize bc P mx n s (bs 0) (aC bs 5) (aC bs 9) (bs 13) (len-19) (fun i=>bs (15+i))=R at *
    have hC1:((aC bs 1:Nat):Int)=(P.c:Int):=by omega
    rw[hC1]at hD
    have HC:Hid (_):=hC
    clear hC hC1
    go_enter func141,ntmps141
    go_wp2_with (first | (go_at_call 134;refine hD.mono ?_;rintro e w2 ⟨a2,c2,rfl,h2⟩;have c0:=(HX.out.newd (Off.of_below h2.out.2)).cells.1;have hdl2:=(HX.out.newd (Off.of_below h2.out.2)).dlt;have hdn:¬ d=w2.heap.size:=(by omega);have hdn':¬ w2.heap.size=d:=(by omega)) | (go_at_call 173;refine (hF _).mono ?_;rintro e w' ⟨rfl,hw⟩;have hw:=hw.symm;subst hw))
    repeat (go_quiet (fail);go_wp2_with fail)
    have hQ:=HT.out w2 a2 c2 h2.out.1 h2.out.2
    rw[HC.out]at hQ
    refine (hQ _ (below_drewN ((Below.refl _ _).alloc (Nat.le_refl _) _) _)).mono ?_
    rintro e w5 ⟨v,rfl,h5⟩
    clear hD hF hQ h2 c0
    go_wp2_with fail
    go_ret2
    exact⟨v,rfl,h5⟩
   ·rw[if_pos hC]
    have hC1:(((aC bs 1:Nat):Int) == (P.c:Int))=false:=by simp;omega
    have hC2:(((aC bs 1:Nat):Int)=(P.c:Int))=False:=by simp;omega
    clear hC HT
    go_enter func141,ntmps141
    go_wp2_with (first | (go_at_call 134;refine hD.mono ?_;rintro e w2 ⟨a2,c2,rfl,h2⟩;have c0:=(HX.out.newd (Off.of_below h2.out.2)).cells.1;have hdl2:=(HX.out.newd (Off.of_below h2.out.2)).dlt;have hdn:¬ d=w2.heap.size:=(by omega);have hdn':¬ w2.heap.size=d:=(by omega)) | (go_at_call 173;refine (hF _).mono ?_;rintro e w' ⟨rfl,hw⟩;have hw:=hw.symm;subst hw))
    repeat (go_quiet (fail);go_wp2_with fail)
    go_ret2
    have bb:=below_drewN ((Below.refl w2.heap.size w2).alloc (Nat.le_refl _) (.cells #[.int .i64 (bs 0:Nat),.int .u32 (aC bs 1:Nat),.int .u32 (aC bs 5:Nat),.int .u32 (aC bs 9:Nat),.int .i64 (bs 13:Nat),.slice a2 (len-19) c2] 50)) nq
    exact⟨_,rfl,Out.none_ ((Gr.below h2.out.2).trans (Gr.below bb)) (DV.below (DV.below HH.out.1 h2.out.2) bb)⟩
 ·have hD:=gO a len cap bs w hr hE
  rw[if_pos hE]
  have HE:Hid (_):=And.intro h hE
  have e0:(DE bs len == 0)=false:=by simpa using hE
  have e0':(DE bs len=0)=False:=by simpa using hE
  clear h hr hE hs ho hL ht hsn
  generalize DE bs len=E at *
  go_enter func141,ntmps141
  go_wp2_with (go_at_call 134;refine hD.mono ?_;rintro e w2 ⟨rfl,b2⟩)
  go_ret2
  exact⟨_,rfl,Out.none_ ((Gr.below b2).trans (Gr.below ((Below.refl _ _).alloc (Nat.le_refl _) _))) (DV.below (DV.below HE.out.1 b2) ((Below.refl _ _).alloc (Nat.le_refl _) _))⟩
theorem nQ (d m g n mx:Nat) (P:Pm) (U:List Nat) (s:Sd) (a:Option Addr) (len cap:Nat) (bs:Nat→Nat) (w:World) (h:DV w d m g n mx P U s) (hr:Row8 w a len cap bs) (hsn:s.st=4→s.sn+1<4294967296) (ho:s.od<4) (hL:s.L.length<800000) (ht:s.ms.t<9223372036854774000) :
  Calls prog 110 #[.pointer (some ⟨d,0,none⟩),.slice a len cap] w fun e w'=>∃ v,e=.returned (.tuple #[v,.int .i64 (ay P mx n s len bs).e])∧Hid (Out U w w' d m g n mx P (ay P mx n s len bs).s (ay P mx n s len bs).f v):=by
 obtain⟨B,x⟩:=id h
 have c11:=x.cells.2.2.2.2.2.2.2.2.2.2.2.1
 unfold ay
 by_cases h6:s.st=6
 ·rw[if_pos h6]
  rw[h6]at c11
  have q:=fp d w c11
  have H:Hid (_):=h
  clear h x hr hsn ho hL ht c11
  go_enter func110,ntmps110
  go_wp2_with (go_at_call 140;refine q.mono ?_;rintro e w' ⟨rfl,hw⟩;have hw:=hw.symm;subst hw)
  go_ret2
  exact⟨_,rfl,Out.none_ (Gr.refl _ _) H.out⟩
 ·rw[if_neg h6]
  have q:=ia d s.st w c11 h6
  have hH:=vx d m g n mx P U s a len cap bs w h hr hsn h6 ho hL ht
  have hre:=yg P mx n s len bs
  have hrl:=mc P mx n s len bs
  generalize bR P mx n s len bs=R at *
  have HL:Hid (R.s.L.length<900000):=(by show _<_;omega)
  have HE:Hid (_):=hre
  clear h x hr hsn ho hL ht c11 h6 hrl hre
  by_cases he:R.e≠0∧R.e≠70
  ·rw[if_pos he]
   have e0:(R.e != 0)=true:=by simpa using he.1
   have e7:(R.e != 70)=true:=by simpa using he.2
   have hw:(Lit.int .i64 R.e).wf=true:=qD R.e HE.out.1 HE.out.2
   have hN:∀ U2 w2,DV w2 d m g n mx P U2 R.s→Calls prog 142 #[.pointer (some ⟨d,0,none⟩),.int .i64 R.e] w2 fun e w'=>e=.returned (.tuple #[])∧Hid (∃ U',Gr U2 w2 U' w'∧DV w' d m g n mx P U' (gv R.s R.e)):=fun U2 w2 h2=>kK d m g n mx P U2 R.s R.e w2 h2 he.1 hw HL.out
   have HN:Hid (_):=hN
   clear hN hw he
   go_enter func110,ntmps110
   go_wp2_with (first | (go_at_call 140;refine q.mono ?_;rintro e w' ⟨rfl,hw⟩;have hw:=hw.symm;subst hw) | (go_at_call 141;refine hH.mono ?_;rintro e w2 ⟨v,rfl,h2⟩))
   obtain⟨U2,g2,x2,f2,k2⟩:=h2.out
   refine (HN.out U2 w2 x2).mono ?_
   rintro e w3 ⟨rfl,h3⟩
   obtain⟨U3,g3,x3⟩:=h3.out
   have H3:Hid (_):=Out.next g2 f2 k2 g3 x3
   clear hH q h2 g2 x2 f2 k2 h3 g3 x3 HN
   go_wp2_with fail
   go_ret2
   exact⟨v,rfl,H3⟩
  ·rw[if_neg he]
   have he':R.e=0∨R.e=70:=by omega
   clear he
   rcases he' with he | he
   all_goals
    rw[he]at hH ⊢
    go_enter func110,ntmps110
    go_wp2_with (first | (go_at_call 140;refine q.mono ?_;rintro e w' ⟨rfl,hw⟩;have hw:=hw.symm;subst hw) | (go_at_call 141;refine hH.mono ?_;rintro e w2 ⟨v,rfl,h2⟩))
    go_ret2
    exact⟨v,rfl,h2⟩
open Go.RowKit Go.Maps
theorem uh (M:Nat) (t:Int) (b:Nat) (p r:Option Addr) (q:Option Int) (f o v:Int) (w:World) (h:Met w b t p f o r) (hp:Pk M w p q) (hM:M≤w.heap.size) :
  Calls prog 136 #[.pointer (some ⟨b,0,none⟩),.int .i64 v] w fun e w'=>e=.returned (.bool (q.all (fun x=>decide (x<v))))∧Off [b] w w' ∧
   ∃ p',Met w' b t p' f o r∧Pk M w' p' (if q.all (fun x=>decide (x<v)) then some v else q)∧(p'=p∨p'=some ⟨w.heap.size,0,none⟩):=by
 have up:∀ n,Off [b] w (((w.alloc (.cells #[.int .i64 v] 2)).drewN n).setCell ⟨b,1,none⟩ (.pointer (some ⟨w.heap.size,0,none⟩))) ∧
   ∃ p',Met (((w.alloc (.cells #[.int .i64 v] 2)).drewN n).setCell ⟨b,1,none⟩ (.pointer (some ⟨w.heap.size,0,none⟩))) b t p' f o r ∧
    Pk M (((w.alloc (.cells #[.int .i64 v] 2)).drewN n).setCell ⟨b,1,none⟩ (.pointer (some ⟨w.heap.size,0,none⟩))) p' (some v)∧(p'=p∨p'=some ⟨w.heap.size,0,none⟩):=by
  intro n
  have h1:Met ((w.alloc (.cells #[.int .i64 v] 2)).drewN n) b t p f o r:=(h.off (Off.alloc [] w _) (by simp)).off (Off.drewN [] _ n) (by simp)
  refine⟨((Off.alloc [b] w _).trans (Off.drewN [b] _ n)).trans (Off.setCell _ _ _ _),_,h1.s1 _,.some w.heap.size v hM ?_,.inr rfl⟩
  rw[heap_setCell_other _ _ _ _ (by have:=h.lt;simp;omega)]
  exact aB w _
 cases hp with
 | none=>
  refine (qg t b r f o v w h).mono ?_
  rintro e w' ⟨rfl,n,rfl⟩
  exact⟨rfl,up n⟩
 | some c x hMc hc=>
  by_cases hlt:x<v
  ·refine (wL t b c r f o x v w h hc hlt).mono ?_
   rintro e w' ⟨rfl,n,rfl⟩
   have e1:Option.all (fun x=>decide (x<v)) (some x)=true:=by simp[hlt]
   rw[e1]
   exact⟨rfl,up n⟩
  ·refine (wK t b c r f o x v w h hc (by omega)).mono ?_
   rintro e w' ⟨rfl,n,rfl⟩
   have e1:Option.all (fun x=>decide (x<v)) (some x)=false:=by simp[hlt]
   rw[e1]
   refine⟨rfl,(Off.alloc [b] w _).trans (Off.drewN [b] _ n),_,(h.off (Off.alloc [] w _) (by simp)).off (Off.drewN [] _ n) (by simp),?_,.inl rfl⟩
   exact .some c x hMc ((heap_alloc_old w _ (Array.getElem?_eq_some_iff.1 hc).1).trans hc)
theorem uR (B:Nat) (b m:Nat) (v:Value) (vs:List Value) (p:Option Addr) (L:List gm) (a:Option Addr) (n cap:Nat) (bs:Nat→Nat) (w:World) (h:Bg B w b m v vs p L) (R:Row8 w a n cap bs) (hab:∀ x,a=some x→x.block≠m) (hn:n≤27) (hL:L.length<4096) (hB:B≤w.heap.size) :
  Calls prog 107 #[.pointer (some ⟨b,0,none⟩),.slice a n cap] w fun e w'=>e=.returned (.tuple #[.int .i64 (L.length:Nat),.int .i64 0]) ∧
   Hid (∃ g cap' x p',Off (b :: m :: v.ownBlock.toList) w w'∧Bg B w' b m (.slice (some ⟨g,0,none⟩) (L.length+1) cap') (vs ++ [x]) p' (L ++ [(n,bs)])∧(v.ownBlock=some g∨w.heap.size≤g)∧(∀ k,x.ownBlock=some k→w.heap.size≤k)∧(p'=p∨∃ y,p'=some y∧w.heap.size≤y.block)):=by
 have HB:Hid (Bg B w b m v vs p L):=h
 have c0:=h.c0
 have c1:=h.c1
 have hbm:b≠m:=ey h.at_ h.met.at_ (by decide)
 have hle:=zz fun f hf=>(h.fl.small f hf).1
 have hA:=nc (gf L) n m p none 0 0 w (by omega) (by omega) h.met
 have hsat:rO (gf L) n=gf L+n:=by unfold rO;rw[if_neg (by omega)]
 rw[hsat]at hA
 have o1:=Off.setCell m 0 w (.int .u64 (gf L+n:Nat))
 have m1:=h.met.s0 (gf L+n:Nat)
 have p1:Pk 0 (w.setCell ⟨m,0,none⟩ (.int .u64 (gf L+n:Nat))) p (rF L):=by
  have hp:=h.pk
  generalize rF L=q at hp
  cases hp with
  | none=>exact .none
  | some c v' h' hc=>exact .some c v' h' ((o1.block c (Array.getElem?_eq_some_iff.1 hc).1 (by simpa using ey hc h.met.at_ (by decide))).trans hc)
 have R1:Row8 (w.setCell ⟨m,0,none⟩ (.int .u64 (gf L+n:Nat))) a n cap bs:=R.offB o1 (fun x hx=>by simpa using hab x hx)
 have hA':Calls prog 135 #[.pointer (some ⟨m,0,none⟩),.int .u64 (n:Nat)] w fun e w'=>e=.returned (.tuple #[.int .u64 (gf L+n:Nat),.int .i64 0])∧w'.cell? ⟨b,1,none⟩=some (.pointer (some ⟨m,0,none⟩))∧Hid (Off [m] w w'∧Met w' m (gf L+n:Nat) p 0 0 none∧Pk 0 w' p (rF L)∧Row8 w' a n cap bs):=by
  refine hA.mono ?_
  rintro e w' ⟨rfl,rfl⟩
  exact⟨rfl,(World.cell?_of_block (o1.block b h.lt (by simpa using hbm))).trans c1,o1,m1,p1,R1⟩
 obtain⟨av,cv,rfl⟩:=cy h.fl.rows
 have hI:¬ ((27:Int) < (n:Int)):=by omega
 obtain⟨N,eN⟩:∃ N,N=L.length:=⟨_,rfl⟩
 have HN:Hid (N=L.length):=eN
 rw[← eN]at c0 hL ⊢
 have hJ:¬ ((4096:Int) ≤ (N:Int)):=by omega
 have hblt:=h.lt
 have hw64:IntKind.u64.wrap ((n:Nat):Int)=((n:Nat):Int):=by rw[IntKind.wrap_u64];omega
 clear hA hsat hle h o1 m1 p1 R1 R eN
 obtain⟨t,et⟩:∃ t,t=gf L+n:=⟨_,rfl⟩
 have HT:Hid (t=gf L+n):=et
 rw[← et]at hA'
 clear et
 go_enter func107,ntmps107
 go_wp2_with fail
 refine hA'.mono ?_
 rintro e w1 ⟨rfl,c1',H1⟩
 clear hA' c1
 have hR:=uh 0 _ m p none _ 0 0 (n:Nat) w1 H1.out.2.1 H1.out.2.2.1 (Nat.zero_le _)
 go_wp2_with fail
 refine hR.mono ?_
 rintro e w2 ⟨rfl,H2⟩
 obtain⟨o12,p',m2,k2,n2⟩:=H2
 have o2:Off [m] w w2:=H1.out.1.trans o12
 have R2:Row8 w2 a n cap bs:=H1.out.2.2.2.offB o12 (fun x hx=>by simpa using hab x hx)
 have b2:w2.heap[b]?=some (.cells #[.slice av N cv,.pointer (some ⟨m,0,none⟩)] 110 (0,0)):=by rw[HN.out];exact (o2.block b hblt (by simpa using hbm)).trans HB.out.at_
 have hx0:∀ wx,Below w2.heap.size w2 wx→wx.cell? ⟨b,0,none⟩=some (.slice av N cv):=fun wx hx=>ae wx b 0 _ _ _ ((hx.block b (Array.getElem?_eq_some_iff.1 b2).1).trans b2)
 have hC:∀ wx,Below w2.heap.size w2 wx→Calls prog 27 #[.slice a n cap] wx fun e w'=>∃ v,e=.returned v∧∃ a' cap',v=.slice a' n cap'∧Below w2.heap.size w2 w'∧Hid (w'.ownsRow w2.heap.size 5 1 (.slice a' n cap') n (CB bs n)):=by
  intro wx hx
  refine (jj a n cap bs wx (R2.below hx) (by omega)).mono ?_
  rintro e w' ⟨a',cap',rfl,H⟩
  exact⟨_,rfl,a',cap',rfl,hx.trans (H.out.1.mono hx.size),aS H.out.2 hx.size⟩
 have f2:Fl B w2 (.slice av N cv) vs L:=by
  rw[HN.out]
  refine HB.out.fl.keep o2 fun y hy hs=>?_
  simp only[List.mem_singleton]at hy
  subst hy
  refine⟨fun e=>?_,fun c f hc=>?_⟩
  ·obtain⟨c,hc⟩:=aT HB.out.fl.rows e
   exact ey HB.out.met.at_ hc (by decide) rfl
  ·exact ey HB.out.met.at_ hc (by decide) rfl
 have ho:Hid (∀ wx,Below w2.heap.size w2 wx→wx.ownsRow B 37 1 (.slice av N cv) N vs):=fun wx hx=>by have:=(f2.below hx).rows;rw[← HN.out]at this;exact this
 have hgb:Hid (∀ wx wy,Below w2.heap.size w2 wx→wx.grownBy wy (Value.slice av N cv).ownBlock→wy.heap[b]?=some (.cells #[.slice av N cv,.pointer (some ⟨m,0,none⟩)] 110 (0,0))):=by
  intro wx wy hx hg
  have hlt:=(Array.getElem?_eq_some_iff.1 b2).1
  have hka:=(hx.block b hlt).trans b2
  refine (hg.block b (Nat.lt_of_lt_of_le hlt hx.size) fun ek=>?_).trans hka
  obtain⟨c',hc'⟩:=aT (ho.out wx hx) ek.symm
  exact ey hka hc' (by decide) rfl
 have hby:=R2.byte
 have hB2:B≤w2.heap.size:=Nat.le_trans hB o2.size
 have H2:Hid (_):=And.intro o2 (And.intro m2 (And.intro k2 (And.intro n2 H1.out.1.size)))
 have cB:w2.cell? ⟨b,0,none⟩=some (.slice av N cv):=hx0 _ (Below.refl _ _)
 clear o12 o2 m2 k2 n2 f2 R2 b2 H1 hR c1' c0
 go_wp2_with fail
 go_region_law (first
  | (refine rQ 27 #[.tmp 45] #[37] rfl (by kernel_rfl) #[.slice a n cap] (by kernel_rfl) (hC _ (by repeat (first | with_reducible assumption | with_reducible refine cK ?_ _ | with_reducible refine Below.drew ?_ | with_reducible refine jT ?_ (Nat.le_refl _) _ | with_reducible exact Below.refl _ _))) ?_;rintro _ w3 ⟨a3,cap3,rfl,b3,H3⟩;have c3:=hx0 _ b3;have c3a:=hx0 (w3.alloc (.cells #[.slice a3 n cap3] 37)) (jT b3 (Nat.le_refl _) _))
  | (refine um rfl (.tmp 44) (.tmp 47) rfl rfl B N w3.heap.size vs (.slice a3 n cap3) (.slice av N cv) rfl (ho.out _ (by repeat (first | with_reducible assumption | with_reducible refine cK ?_ _ | with_reducible refine Below.drew ?_ | with_reducible refine jT ?_ (Nat.le_refl _) _ | with_reducible exact Below.refl _ _))) rfl (ae _ _ 0 _ _ _ (aB w3 _)) rfl (by omega) (by rw[World.size_alloc];have:=b3.size;omega) ?_;intro g4 cap4 w4 H4;have hp4:=hgb.out _ _ (by repeat (first | with_reducible assumption | with_reducible refine cK ?_ _ | with_reducible refine Below.drew ?_ | with_reducible refine jT ?_ (Nat.le_refl _) _ | with_reducible exact Below.refl _ _)) H4.out.2.1;have hc4:=ae w4 b 0 _ _ _ hp4;have hf4:=frozen_of_row w4 b 0 _ _ hp4))
 all_goals
  clear ho hC hx0 cB c3 c3a hp4
  go_wp2_with fail
  go_ret2
  refine⟨rfl,g4,cap4,.slice a3 n cap3,p',?_⟩
  obtain rfl:=HN.out
  have hT:=HT.out
  subst hT
  obtain⟨z1,z2,z3⟩:=HB.out.put H2.out.1 (by rw[xi];exact H2.out.2.1) (by rw[yV];exact H2.out.2.2.1) b3 H3.out hn hby hL hB2 ((Below.refl _ _).alloc (Nat.le_refl _) _) H4.out.1 H4.out.2.1 H4.out.2.2
  refine⟨z1,z2,z3,fun k hk=>Nat.le_trans H2.out.1.size (H3.out.lt k hk).1,?_⟩
  rcases H2.out.2.2.2.1 with e | e
  ·exact .inl e
  ·exact .inr ⟨_,e,H2.out.2.2.2.2⟩
theorem bG {l:List Nat} {w w':World} {B e size n:Nat} {v:Value} {xs:List Value} (h:w.ownsRow B e size v n xs) (q:Off l w w') (hl:∀ k,v.ownBlock=some k→k ∉ l):w'.ownsRow B e size v n xs:=gC h fun k hk=>by
 obtain⟨c,hc⟩:=aT h hk
 exact q.block k (Array.getElem?_eq_some_iff.1 hc).1 (hl k hk)
theorem DV.offY {w w':World} {d m g n mx:Nat} {P:Pm} {U l:List Nat} {s:Sd} (h:DV w d m g n mx P U s) (q:Off l w w') (hl:∀ k,k ∈ U→k ∉ l):DV w' d m g n mx P U s:=by
 obtain⟨B,h⟩:=h
 exact⟨B,⟨(q.block d h.dlt (hl _ h.kd.2)).trans h.dev,h.mem.off q (hl _ h.km.2) (hl _ h.kg.2),fun hs=>⟨(h.cel hs).1,(h.cel hs).2.1.off q (hl _ h.kc.2),(h.cel hs).2.2⟩,h.dog.off q (hl _ h.kb.2),h.val.off q (hl _ h.kv.2) (hl _ h.kw.2) (fun k hk hM=>hl k (h.kM k hM).2 hk),h.log.off q (fun k hk=>hl _ (h.kl k hk).2),aO h.app q (fun k hk=>hl _ (h.ka k hk).2),h.apb,fun k hk=>Nat.lt_of_lt_of_le (h.ltU k hk) q.size,h.kd,h.km,h.kg,h.kc,h.kb,h.kv,h.kw,h.kM,h.kl,h.ka,h.pok,h.n10,h.mx0,h.mxl⟩⟩
def lZ (b m:Nat) (v:Value) (vs:List Value) (p:Option Addr):List Nat:=b :: m :: (v.ownBlock.toList ++ (p.toList.map (·.block) ++ vs.filterMap Value.ownBlock))
theorem aay {b m:Nat} {v:Value} {vs:List Value} {p:Option Addr} {x:Value} {k:Nat} (hx:x ∈ vs) (hk:x.ownBlock=some k):k ∈ lZ b m v vs p:=by
 unfold lZ
 simp only[List.mem_cons,List.mem_append,List.mem_filterMap]
 exact .inr (.inr (.inr (.inr ⟨x,hx,hk⟩)))
theorem abE {b m:Nat} {v:Value} {vs:List Value} {p:Option Addr} {k:Nat} (hk:v.ownBlock=some k):k ∈ lZ b m v vs p:=by
 unfold lZ
 simp[hk]
theorem abD {b m:Nat} {v:Value} {vs:List Value} {p:Option Addr} {y:Addr} (hk:p=some y):y.block ∈ lZ b m v vs p:=by
 unfold lZ
 simp[hk]
theorem Bg.offU {B:Nat} {w w':World} {b m:Nat} {v:Value} {vs:List Value} {p:Option Addr} {L:List gm} {l:List Nat} (h:Bg B w b m v vs p L) (o:Off l w w') (hl:∀ k,k ∈ lZ b m v vs p→k ∉ l):Bg B w' b m v vs p L:=by
 have kk:∀ {e:TypeId} {s n:Nat} {x:Value} {xs:List Value},w.ownsRow B e s x n xs→(∀ g,x.ownBlock=some g→g ∉ l)→w'.ownsRow B e s x n xs:=by
  intro e s n x xs ho hg
  refine gC ho fun g eg=>?_
  obtain⟨c,hc⟩:=aT ho eg
  exact o.block g (Array.getElem?_eq_some_iff.1 hc).1 (hg g eg)
 refine⟨(o.block b h.lt (hl b (by simp[lZ]))).trans h.at_,⟨kk h.fl.rows (fun g eg=>hl g (abE eg)),fun i f hi=>?_,h.fl.small,h.fl.len⟩,h.met.off o (hl m (by simp[lZ])),?_,h.bB,h.mB⟩
 ·obtain⟨x,hx,ho⟩:=h.fl.frs i f hi
  exact⟨x,hx,kk ho (fun g eg=>hl g (aay (List.mem_of_getElem? hx) eg))⟩
 ·have hp:=h.pk
  generalize rF L=q at hp
  cases hp with
  | none=>exact .none
  | some c v' h' hc=>exact .some c v' h' ((o.block c (Array.getElem?_eq_some_iff.1 hc).1 (hl c (abD rfl))).trans hc)
theorem Bg.ltU {B:Nat} {w:World} {b m:Nat} {v:Value} {vs:List Value} {p:Option Addr} {L:List gm} (h:Bg B w b m v vs p L) (hvs:vs.length=L.length):∀ k,k ∈ lZ b m v vs p→k<w.heap.size:=by
 intro k hk
 simp only[lZ,List.mem_cons,List.mem_append,List.mem_filterMap,Option.mem_toList,List.mem_map]at hk
 rcases hk with rfl | rfl | hk | ⟨y,hy,rfl⟩ | ⟨x,hx,hk⟩
 ·exact h.lt
 ·exact h.met.lt
 ·obtain⟨c,hc⟩:=aT h.fl.rows hk
  exact (Array.getElem?_eq_some_iff.1 hc).1
 ·have hp:=h.pk
  generalize rF L=q at hp
  cases hp with
  | none=>cases hy
  | some c v' h' hc=>
   cases hy
   exact (Array.getElem?_eq_some_iff.1 hc).1
 ·obtain⟨i,hi⟩:=List.getElem?_of_mem hx
  have hlt:i<L.length:=by have:=(List.getElem?_eq_some_iff.1 hi).1;omega
  obtain⟨x',hx',ho⟩:=h.fl.frs i L[i] (List.getElem?_eq_getElem hlt)
  rw[hi]at hx'
  cases hx'
  obtain⟨c,hc⟩:=aT ho hk
  exact (Array.getElem?_eq_some_iff.1 hc).1
def bgT (b m:Nat) (v:Value) (vs:List Value) (p:Option Addr) (L:List gm):Thing:=⟨lZ b m v vs p,fun w=>Bg 0 w b m v vs p L∧vs.length=L.length,fun _ _ _ h o hl=>⟨h.1.offU o hl,h.2⟩⟩
structure Mv where
 k:Int
 c:Int
 s:Int
 f:Int
 a:Int
 w:Nat
 n:Int
 h:Bool
 l:Nat
 b:Nat→Nat
abbrev aj (m:Mv) (c:Int) (d:Option Addr) (e:Nat):Array Value:=#[.int .i64 m.k,.int .i64 c,.int .i64 m.s,.int .i64 m.f,.int .i64 m.a,.int .u32 (m.w:Nat),.int .i64 m.n,.bool m.h,.slice d m.l e]
def Mv.cs (m:Mv) (d:Option Addr) (e:Nat):Array Value:=#[.int .i64 m.k,.int .i64 m.c,.int .i64 m.s,.int .i64 m.f,.int .i64 m.a,.int .u32 (m.w:Nat),.int .i64 m.n,.bool m.h,.slice d m.l e]
structure Mv.Ok (m:Mv):Prop where
 k : -9223372036854775808≤m.k∧m.k≤9223372036854775807
 c : -9223372036854775808≤m.c∧m.c≤9223372036854775807
 s : -9223372036854775808≤m.s∧m.s≤9223372036854775807
 f : -9223372036854775808≤m.f∧m.f≤9223372036854775807
 a : -9223372036854775808≤m.a∧m.a≤9223372036854775807
 w:m.w<4294967296
 n : -9223372036854775808≤m.n∧m.n≤9223372036854775807
structure Sh where
 L:List R4
 dc:Nat
 v:Vs
 st:Nat
 ss:Nat
 nm:Nat
 sn:Nat
 wt:Bool
 ms:Nat
 ap:Nat→Nat
 hd:Bool
def eX (s:Sh) (x:Int):Sh:={ s with L:=s.L ++ [(((s.L.length+1:Nat):Int),x,(s.ss:Int),(s.nm:Int))] }
def be (s:Sh) (x:Int):Sh:=if gJ s.v x=true then eX { s with v:=du s.v x } x else { s with v:=du s.v x }
def lM (s:Sh):Sh:={ s with wt:=false,ms:=0,dc:=0,v:=dF s.v }
def gz (s:Sh) (k:Nat):Sh:={ s with v:=dS s.v false,st:=k }
def iO (s:Sh):Sh:={ s with v:=dS s.v false,st:=1,nm:=0,sn:=0,wt:=false,ms:=0 }
def fZ (s:Sh):Sh:=gz (be s 80) 5
def eW (s:Sh):Sh:={ s with dc:=0,v:=om,st:=1,ss:=0,nm:=0,sn:=0,wt:=false,ms:=0,ap:=fun _=>0,hd:=false }
def bK (s:Sh):Nat:=(if aE s.v=true then 0 else 1) + (if au s.v=true then 2 else 0) + (if s.v.lat=0 then 0 else 4) + (if s.hd=true then 8 else 0)
def aR (s:Sh):Sh:=
 if s.st=1∨s.wt=false then s else if s.ms+1<4 then { s with ms:=s.ms+1 } else iO (if s.st=4 then be { s with ms:=s.ms+1 } 131 else { s with ms:=s.ms+1 })
def bj (P:Pm) (s:Sh):Sh × Fm:=
 if s.st=1 then (s,cS 1 P.c 0 0 0 4 (lL P))
 else if s.st=2 then (s,cS 2 P.c s.ss 0 0 4 (lL P))
 else if s.st=3 then (s,cS 3 P.c s.ss 0 0 0 (fun _=>0))
 else if s.sn+1=P.n then (fZ { s with sn:=s.sn+1 },cS 5 P.c s.ss (s.sn+1) 0 0 (fun _=>0))
 else ({ s with sn:=s.sn+1 },cS 4 P.c s.ss (s.sn+1) (bK s) P.o s.ap)
def jq (s:Sh):Int:=if s.st=5 then 132 else 0
def aM (P:Pm) (s:Sh):Sh:=if s.st=5 then s else { (bj P (aR s)).1 with wt:=true }
def aL (P:Pm) (s:Sh):Fm:=if s.st=5 then cZ else (bj P (aR s)).2
def bY (P:Pm) (s:Sh) (k num len:Nat):Bool:=
 decide (k=18∧s.st=2∨k=19∧s.st=3∨k=20∧((s.st=4∧s.nm<num)∧num<P.n)∧len=P.i∨k=21∧(s.st=4∧s.nm<num)∧num=P.n)
def jN (P:Pm) (s:Sh) (k ss len:Nat) (bs:Nat→Nat):Int:=if k≠17∨ss≤s.ss then 130 else if aX P len bs=true then 0 else 91
def gh (P:Pm) (s:Sh) (k c ss num len:Nat) (bs:Nat→Nat):Int:=
 if fE k=false then 43 else if c≠P.c then 44 else if s.st=1 then jN P s k ss len bs else if ss≠s.ss∨bY P s k num len=false then 130 else 0
def cr (s:Sh) (k ss num fl:Nat) (bs:Nat→Nat):Sh:=
 if k=17 then lM { s with st:=2,ss:=ss }
 else if k=18 then lM { s with st:=3 }
 else if k=19 then lM { s with st:=4,v:=dS s.v true }
 else if k=20 then { lM { s with nm:=num } with v:=dY (fL (dF s.v) (decide (8≤fl))) bs }
 else if k=21 then fZ (lM { s with nm:=num })
 else lM s
def cP (P:Pm) (s:Sh) (len:Nat) (bs:Nat→Nat):Int:=
 if DE bs len≠0 then DE bs len else gh P s (bs 0) (aC bs 1) (aC bs 5) (aC bs 9) (len-19) (fun i=>bs (15+i))
def bu (P:Pm) (s:Sh) (len:Nat) (bs:Nat→Nat):Sh:=
 if cP P s len bs≠0 then eX s (cP P s len bs) else cr s (bs 0) (aC bs 5) (aC bs 9) (bs 13) (fun i=>bs (15+i))
def gX (P:Pm) (len:Nat):Int:=if len=P.o then 0 else 45
def di (P:Pm) (s:Sh) (len:Nat) (bs:Nat→Nat) (h:Bool):Sh:=if len=P.o then { s with ap:=bs,hd:=h } else s
def eY (k:Int):Int:=if k<0 then 2 else 0
def dP (P:Pm) (s:Sh) (k:Int):Sh:=if k<0 then s else
 if lW P.t s.dc k.toNat=true then be { s with dc:=tk P.t s.dc k.toNat } 100 else { s with dc:=tk P.t s.dc k.toNat }
def gy (s:Sh):Int:=sY s.v
def jL (s:Sh):Sh:={ s with v:=ja s.v }
def bV:Sh:=⟨[],0,om,1,0,0,0,false,0,fun _=>0,false⟩
structure Ih (P:Pm) (s:Sh):Prop where
 st1:1≤s.st
 st5:s.st≤5
 ss:s.ss<4294967296
 nm:s.nm<4294967296
 sn:s.sn<4294967296
 ms:s.ms<4
 s4:s.st=2∨s.st=3∨s.st=4→s.ss≠0
 hs:s.st≠4→s.st≠5→s.sn=0∧s.nm=0
 run:s.st=4→s.sn<P.n∧s.nm<P.n
 vr:s.v.run=decide (s.st=4)
 lat5:s.st=5→s.v.lat≠0
set_option linter.unusedVariables false
structure Fa where
 k:Nat
 c:Nat
 s:Nat
 ss:Nat
 nn:Nat
 on:Bool
 cd:Int
 d:Fm
structure Ws where
 n:Nat
 PH:Nat→Pm
 PD:Nat→Pm
 hs:Nat→Sh
 ds:Nat→Sd
 mx:Nat
 bg:List Fm
 mv:Nat
 fs:List Fa
def aG {α:Type} (f:Nat→α) (k:Nat) (x:α):Nat→α:=fun j=>if j=k then x else f j
theorem ai {α:Type} (f:Nat→α) (k:Nat) (x:α):aG f k x k=x:=if_pos rfl
theorem cG {α:Type} (f:Nat→α) {k j:Nat} (x:α) (h:j≠k):aG f k x j=f j:=if_neg h
def Ws.setH (S:Ws) (k:Nat) (s:Sh):Ws:={ S with hs:=aG S.hs k s }
def Ws.setD (S:Ws) (k:Nat) (s:Sd):Ws:={ S with ds:=aG S.ds k s }
def Ws.note (S:Ws) (l:List Fa):Ws:={ S with fs:=S.fs ++ l }
def gby (at_ x i:Nat):Nat:=(List.range 8).foldl (fun n j=>2*n + (PM.ly at_ (PM.bl x) x (PM.bl x) (8*i+j)).toNat) 0
def qZ (f:Fm) (at_ x:Nat):Fm:=(f.1,xr f.2 (gby at_ x))
def pI (f:Fm):Nat:=if DE f.2 f.1=0 then f.2 0 else 0
def dW (kd k s:Nat) (f:Fm):List Fa:=if pI f=4∨pI f=20 then [⟨kd,k,s,aC f.2 5,aC f.2 9,false,0,(f.1-19,fun i=>f.2 (15+i))⟩] else []
def dE (kd k s:Nat):Fa:=⟨kd,k,s,0,0,false,0,cZ⟩
def cO (k s:Nat) (f:Fm):List Fa:=dE 4 k s :: dW 2 k s f
def ee (k:Nat) (a b:Sd):List Fa:=(if b.st=6∧a.st≠6 then [dE 7 k 2] else []) ++ (if b.ss≠a.ss∧b.ss≠0 then [⟨3,k,2,b.ss,0,false,0,cZ⟩] else [])
def brF (f:Fm) (st:Nat):Bool:=if pI f=1 then false else if pI f=2 then decide (st=2) else if pI f=3 then decide (st=3) else true
def Ws.put (S:Ws) (k s:Nat) (f:Fm):Ws:=if f.1=0 then S else { S with bg:=S.bg ++ [f],fs:=S.fs ++ dW 1 k s f }
def Ws.putI (S:Ws) (f:Fm):Int:=if f.1=0 then -1 else ((S.bg.length:Nat):Int)
structure Wr where
 e:Int
 i:Int
 S:Ws
def Ws.toH (S:Ws) (k:Nat) (f:Fm):Wr:=
 ⟨cP (S.PH k) (S.hs k) f.1 f.2,-1,if cP (S.PH k) (S.hs k) f.1 f.2=0 then (S.setH k (bu (S.PH k) (S.hs k) f.1 f.2)).note (cO k 1 f) else S.setH k (bu (S.PH k) (S.hs k) f.1 f.2)⟩
def Ws.toD1 (S:Ws) (k:Nat) (f:Fm):Ws:=(S.setD k (ay (S.PD k) S.mx 16 (S.ds k) f.1 f.2).s).note (ee k (S.ds k) (ay (S.PD k) S.mx 16 (S.ds k) f.1 f.2).s)
def Ws.toD2 (S:Ws) (k:Nat) (f:Fm):Ws:=if (ay (S.PD k) S.mx 16 (S.ds k) f.1 f.2).e=0∧brF f (S.ds k).st=true then (S.toD1 k f).note (cO k 2 f) else S.toD1 k f
def Ws.toD (S:Ws) (k:Nat) (f:Fm):Wr:=⟨(ay (S.PD k) S.mx 16 (S.ds k) f.1 f.2).e,(S.toD2 k f).putI (ay (S.PD k) S.mx 16 (S.ds k) f.1 f.2).f,(S.toD2 k f).put k 2 (ay (S.PD k) S.mx 16 (S.ds k) f.1 f.2).f⟩
def Ws.snd (S:Ws) (k:Nat):Wr:=⟨jq (S.hs k),(S.setH k (aM (S.PH k) (S.hs k))).putI (aL (S.PH k) (S.hs k)),(S.setH k (aM (S.PH k) (S.hs k))).put k 1 (aL (S.PH k) (S.hs k))⟩
def Ws.fr (S:Ws) (m:Mv):Fm:=if m.k=4 then qZ (S.bg.getD m.f.toNat cZ) m.a.toNat m.w else S.bg.getD m.f.toNat cZ
def eZ (k:Int):Bool:=(k != 2) && (k != 8)
def Ws.bad (S:Ws) (m:Mv):Int:=
 if 4096≤S.mv then 150 else if m.k<1∨8<m.k then 170 else if m.c<0∨((S.n:Nat):Int)≤m.c then 171 else if eZ m.k=true∧m.s≠1∧m.s≠2 then 172
 else if m.k=3 then (if m.f<0∨((S.bg.length:Nat):Int)≤m.f then 151 else 0)
 else if m.k=4 then (if m.f<0∨((S.bg.length:Nat):Int)≤m.f then 151 else cF (S.bg.getD m.f.toNat cZ).1 m.a m.w)
 else if m.k=5 then (if m.n<0∨1048576<m.n then 2 else 0)
 else if m.k=7 then (if m.n<0∨m.s=1∧0<m.n then 2 else 0)
 else if m.k=8 then (if m.n<0 then 2 else 0) else 0
def Ws.act (S:Ws) (m:Mv):Wr:=
 let k:=m.c.toNat
 if m.k=1 then (if m.s=1 then ⟨gX (S.PH k) m.l,-1,S.setH k (di (S.PH k) (S.hs k) m.l m.b m.h)⟩ else ⟨gT (S.PD k) (S.ds k) m.l,-1,S.setD k (em (S.PD k) (S.ds k) m.l m.b m.h)⟩)
 else if m.k=2 then S.snd k
 else if m.k=3∨m.k=4 then (if m.s=1 then S.toH k (S.fr m) else S.toD k (S.fr m))
 else if m.k=5 then
  (if m.s=1 then ⟨eY m.n,-1,(S.setH k (dP (S.PH k) (S.hs k) m.n)).note (if eY m.n=0 then [⟨5,k,1,0,m.n.toNat,false,0,cZ⟩] else [])⟩
   else ⟨eU (S.ds k) m.n,-1,(S.setD k (eV (S.PD k) (S.ds k) m.n)).note (if eU (S.ds k) m.n=0 then [⟨5,k,2,0,m.n.toNat,false,0,cZ⟩] else [])⟩)
 else if m.k=6 then
  (if m.s=1 then ⟨gy (S.hs k),-1,(S.setH k (jL (S.hs k))).note (if gy (S.hs k)=0 then [dE 6 k 1] else [])⟩
   else ⟨gr (S.ds k),-1,(S.setD k (gt (S.ds k))).note (if gr (S.ds k)=0 then [dE 6 k 2] else [])⟩)
 else if m.k=7 then
  (if m.s=1 then ⟨0,-1,(S.note [dE 7 k 1]).setH k (eW (S.hs k))⟩ else ⟨fS S.mx 16 (S.ds k) m.n,-1,(S.note [dE 7 k 2]).setD k (cL S.mx 16 (S.ds k) m.n)⟩)
 else ⟨arE m.n,-1,S.setD k { S.ds k with ms:=lK (S.ds k).ms m.n }⟩
def oH (S:Ws) (k:Nat):Fa:=⟨8,k,1,0,0,aE (S.hs k).v,(S.hs k).v.lat,((S.PH k).i,co (S.hs k).v)⟩
def oD (S:Ws) (k:Nat):Fa:=⟨8,k,2,0,0,aE (S.ds k).v,(S.ds k).v.lat,((S.PD k).o,co (S.ds k).v)⟩
def Ws.play (S:Ws) (m:Mv):Wr:=
 if S.bad m≠0 then ⟨S.bad m,0,S⟩ else
  let r:=({ S with mv:=S.mv+1 }:Ws).act m
  ⟨r.e,r.i,r.S.note [oH r.S m.c.toNat,oD r.S m.c.toNat]⟩
def jf (P:Pm) (lb db vb:Nat) (s:Sh) (av:Value):Array Value:=
 #[.int .u32 (P.c:Nat),.int .i64 (P.o:Nat),.int .i64 (P.i:Nat),.int .i64 (P.t:Nat),.int .u32 (P.n:Nat),.pointer (some ⟨lb,0,none⟩),
  .pointer (some ⟨db,0,none⟩),.pointer (some ⟨vb,0,none⟩),.int .i64 (s.st:Nat),.int .u32 (s.ss:Nat),.int .u32 (s.nm:Nat),.int .u32 (s.sn:Nat),.bool s.wt,.int .i64 (s.ms:Nat),av,.bool s.hd]
structure Bh where
 lb:Nat
 db:Nat
 vb:Nat
 vg:Nat
 M:List Nat
 Ul:List Nat
 av:Value
 col:Nat→Nat
structure HX (w:World) (d:Nat) (P:Pm) (U:List Nat) (s:Sh) (B:Bh):Prop where
 dev:w.heap[d]?=some (.cells (jf P B.lb B.db B.vb s B.av) 141 (0,0))
 dog:DR w B.db P.t s.dc
 val:VR w B.vb B.vg B.M P.i s.v
 log:DG w B.lb B.Ul s.L
 app:w.ownsRow 0 5 1 B.av P.o (CB s.ap P.o)
 apb:∀ i,i<P.o→s.ap i<256
 ltU:∀ k,k ∈ U→k<w.heap.size
 kd:B.col d=0∧d ∈ U
 kb:B.col B.db=3∧B.db ∈ U
 kv:B.col B.vb=4∧B.vb ∈ U
 kw:B.col B.vg=4∧B.vg ∈ U
 kM:∀ k,k ∈ B.M→B.col k=4∧k ∈ U
 kl:∀ k,k ∈ B.Ul→B.col k=5∧k ∈ U
 ka:∀ k,B.av.ownBlock=some k→B.col k=6∧k ∈ U
 pok:Pok P
def HV (w:World) (d:Nat) (P:Pm) (U:List Nat) (s:Sh):Prop:=∃ B,HX w d P U s B
section
variable {w w':World} {d:Nat} {P:Pm} {U:List Nat} {s s':Sh} {B:Bh}
theorem HX.dlt (h:HX w d P U s B):d<w.heap.size:=h.ltU d h.kd.2
theorem HX.own (h:HX w d P U s B) (q:Off [d] w w') (e:w'.heap[d]?=some (.cells (jf P B.lb B.db B.vb s' B.av) 141 (0,0)))
  (h2:s'.dc=s.dc) (h3:s'.v=s.v) (h4:s'.L=s.L) (h5:s'.ap=s.ap):HX w' d P U s' B:=by
 have hn:∀ k,B.col k≠0→k ∉ [d]:=fun k hk hm=>by simp at hm;rw[hm,h.kd.1]at hk;exact hk rfl
 refine⟨e,?_,?_,?_,?_,h5 ▸ h.apb,fun k hk=>Nat.lt_of_lt_of_le (h.ltU k hk) q.size,h.kd,h.kb,h.kv,h.kw,h.kM,h.kl,h.ka,h.pok⟩
 ·rw[h2];exact h.dog.off q (hn _ (by rw[h.kb.1];omega))
 ·rw[h3];exact h.val.off q (hn _ (by rw[h.kv.1];omega)) (hn _ (by rw[h.kw.1];omega)) (fun k hk hM=>by simp at hk;subst hk;have:=(h.kM _ hM).1;rw[h.kd.1]at this;omega)
 ·rw[h4];exact h.log.off q (fun k hk=>hn _ (by rw[(h.kl k hk).1];omega))
 ·rw[h5];exact aO h.app q (fun k hk=>hn _ (by rw[(h.ka k hk).1];omega))
theorem HX.dogd (h:HX w d P U s B) (q:Off [B.db] w w') {c:Nat} (e:DR w' B.db P.t c):HX w' d P U { s with dc:=c } B:=by
 have hn:∀ k,B.col k≠3→k ∉ [B.db]:=fun k hk hm=>by simp at hm;rw[hm,h.kb.1]at hk;exact hk rfl
 refine⟨(q.block d h.dlt (hn _ (by rw[h.kd.1];omega))).trans h.dev,e,?_,?_,?_,h.apb,fun k hk=>Nat.lt_of_lt_of_le (h.ltU k hk) q.size,h.kd,h.kb,h.kv,h.kw,h.kM,h.kl,h.ka,h.pok⟩
 ·exact h.val.off q (hn _ (by rw[h.kv.1];omega)) (hn _ (by rw[h.kw.1];omega)) (fun k hk hM=>by simp at hk;subst hk;have:=(h.kM _ hM).1;rw[h.kb.1]at this;omega)
 ·exact h.log.off q (fun k hk=>hn _ (by rw[(h.kl k hk).1];omega))
 ·exact aO h.app q (fun k hk=>hn _ (by rw[(h.ka k hk).1];omega))
theorem HX.vald (h:HX w d P U s B) (q:Off [B.vb,B.vg] w w') {M:List Nat} {v:Vs} (e:VR w' B.vb B.vg M P.i v) (hM:∀ k,k ∈ M→k ∈ B.M∨w.heap.size≤k) (hl:∀ k,k ∈ M→k<w'.heap.size) :
  ∃ U' B',Gr U w U' w'∧HX w' d P U' { s with v:=v } B':=by
 have hn:∀ k,B.col k≠4→k ∉ [B.vb,B.vg]:=fun k hk hm=>by simp at hm;rcases hm with hm | hm <;> rw[hm]at hk <;> first | exact hk h.kv.1 | exact hk h.kw.1
 let col':Nat→Nat:=fun k=>if k<w.heap.size then B.col k else 4
 have hc:∀ k x,B.col k=x∧k ∈ U→col' k=x∧k ∈ M ++ U:=fun k x hk=>⟨by show (if k<w.heap.size then B.col k else 4)=x;rw[if_pos (h.ltU k hk.2)];exact hk.1,by simp[hk.2]⟩
 refine⟨M ++ U,{ B with M:=M,col:=col' },⟨q.more (fun k hk=>by simp at hk;rcases hk with rfl | rfl <;> first | exact h.kv.2 | exact h.kw.2),fun k hk=>?_⟩,?_⟩
 ·rcases List.mem_append.1 hk with hk | hk
  ·rcases hM k hk with hk | hk
   ·exact .inl (h.kM k hk).2
   ·exact .inr hk
  ·exact .inl hk
 refine⟨(q.block d h.dlt (hn _ (by rw[h.kd.1];omega))).trans h.dev,?_,e,?_,?_,h.apb,?_,hc _ _ h.kd,hc _ _ h.kb,hc _ _ h.kv,hc _ _ h.kw,?_,fun k hk=>hc _ _ (h.kl k hk),fun k hk=>hc _ _ (h.ka k hk),h.pok⟩
 ·exact h.dog.off q (hn _ (by rw[h.kb.1];omega))
 ·exact h.log.off q (fun k hk=>hn _ (by rw[(h.kl k hk).1];omega))
 ·exact aO h.app q (fun k hk=>hn _ (by rw[(h.ka k hk).1];omega))
 ·intro k hk
  rcases List.mem_append.1 hk with hk | hk
  ·exact hl k hk
  ·exact Nat.lt_of_lt_of_le (h.ltU k hk) q.size
 ·intro k hk
  rcases hM k hk with hk' | hk'
  ·exact⟨(hc k 4 (h.kM k hk')).1,List.mem_append.2 (.inl hk)⟩
  ·exact⟨by show (if k<w.heap.size then B.col k else 4)=4;rw[if_neg (by omega)],List.mem_append.2 (.inl hk)⟩
theorem HX.vals (h:HX w d P U s B) (q:Off [B.vb,B.vg] w w') {v:Vs} (e:VR w' B.vb B.vg B.M P.i v):∃ U' B',Gr U w U' w'∧HX w' d P U' { s with v:=v } B':=
 h.vald q e (fun _ hk=>.inl hk) (fun k hk=>Nat.lt_of_lt_of_le (h.ltU k (h.kM k hk).2) q.size)
theorem HX.logd (h:HX w d P U s B) {V:List Nat} {L:List R4} (q:Off B.Ul w w') (e:DG w' B.lb V L) (hV:∀ k,k ∈ V→k ∈ B.Ul∨w.heap.size≤k) :
  ∃ U' B',Gr U w U' w'∧HX w' d P U' { s with L:=L } B':=by
 have hV:∀ k,k ∈ V→(k ∈ B.Ul∨w.heap.size≤k)∧k<w'.heap.size:=fun k hk=>⟨hV k hk,e.ult k hk⟩
 have hn:∀ k,B.col k≠5→k ∉ B.Ul:=fun k hk hm=>hk (h.kl k hm).1
 let col':Nat→Nat:=fun k=>if k<w.heap.size then B.col k else 5
 have hc:∀ k x,B.col k=x∧k ∈ U→col' k=x∧k ∈ V ++ U:=fun k x hk=>⟨by show (if k<w.heap.size then B.col k else 5)=x;rw[if_pos (h.ltU k hk.2)];exact hk.1,by simp[hk.2]⟩
 refine⟨V ++ U,{ B with Ul:=V,col:=col' },⟨q.more (fun k hk=>(h.kl k hk).2),fun k hk=>?_⟩,?_⟩
 ·rcases List.mem_append.1 hk with hk | hk
  ·rcases (hV k hk).1 with hk | hk
   ·exact .inl (h.kl k hk).2
   ·exact .inr hk
  ·exact .inl hk
 refine⟨(q.block d h.dlt (hn _ (by rw[h.kd.1];omega))).trans h.dev,?_,?_,e,?_,h.apb,?_,hc _ _ h.kd,hc _ _ h.kb,hc _ _ h.kv,hc _ _ h.kw,fun k hk=>hc _ _ (h.kM k hk),?_,fun k hk=>hc _ _ (h.ka k hk),h.pok⟩
 ·exact h.dog.off q (hn _ (by rw[h.kb.1];omega))
 ·exact h.val.off q (hn _ (by rw[h.kv.1];omega)) (hn _ (by rw[h.kw.1];omega)) (fun k hk hM=>by have:=(h.kM _ hM).1;rw[(h.kl k hk).1]at this;omega)
 ·exact aO h.app q (fun k hk=>hn _ (by rw[(h.ka k hk).1];omega))
 ·intro k hk
  rcases List.mem_append.1 hk with hk | hk
  ·exact (hV k hk).2
  ·exact Nat.lt_of_lt_of_le (h.ltU k hk) q.size
 ·intro k hk
  rcases (hV k hk).1 with hk' | hk'
  ·exact⟨(hc k 5 (h.kl k hk')).1,List.mem_append.2 (.inl hk)⟩
  ·exact⟨by show (if k<w.heap.size then B.col k else 5)=5;rw[if_neg (by omega)],List.mem_append.2 (.inl hk)⟩
theorem HX.newd (h:HX w d P U s B) (q:Off [] w w'):HX w' d P U s B:=
 ⟨(q.block d h.dlt (by simp)).trans h.dev,h.dog.off q (by simp),h.val.off q (by simp) (by simp) (by simp),h.log.off q (by simp),aO h.app q (by simp),h.apb,fun k hk=>Nat.lt_of_lt_of_le (h.ltU k hk) q.size,h.kd,h.kb,h.kv,h.kw,h.kM,h.kl,h.ka,h.pok⟩
theorem HX.c0 (h:HX w d P U s B):w.cell? ⟨d,0,none⟩=some (.int .u32 (P.c:Nat)):=ae w d 0 _ _ _ h.dev
theorem HX.c1 (h:HX w d P U s B):w.cell? ⟨d,1,none⟩=some (.int .i64 (P.o:Nat)):=ae w d 1 _ _ _ h.dev
theorem HX.c2 (h:HX w d P U s B):w.cell? ⟨d,2,none⟩=some (.int .i64 (P.i:Nat)):=ae w d 2 _ _ _ h.dev
theorem HX.c3 (h:HX w d P U s B):w.cell? ⟨d,3,none⟩=some (.int .i64 (P.t:Nat)):=ae w d 3 _ _ _ h.dev
theorem HX.c4 (h:HX w d P U s B):w.cell? ⟨d,4,none⟩=some (.int .u32 (P.n:Nat)):=ae w d 4 _ _ _ h.dev
theorem HX.c5 (h:HX w d P U s B):w.cell? ⟨d,5,none⟩=some (.pointer (some ⟨B.lb,0,none⟩)):=ae w d 5 _ _ _ h.dev
theorem HX.c6 (h:HX w d P U s B):w.cell? ⟨d,6,none⟩=some (.pointer (some ⟨B.db,0,none⟩)):=ae w d 6 _ _ _ h.dev
theorem HX.c7 (h:HX w d P U s B):w.cell? ⟨d,7,none⟩=some (.pointer (some ⟨B.vb,0,none⟩)):=ae w d 7 _ _ _ h.dev
theorem HX.c8 (h:HX w d P U s B):w.cell? ⟨d,8,none⟩=some (.int .i64 (s.st:Nat)):=ae w d 8 _ _ _ h.dev
theorem HX.c9 (h:HX w d P U s B):w.cell? ⟨d,9,none⟩=some (.int .u32 (s.ss:Nat)):=ae w d 9 _ _ _ h.dev
theorem HX.c10 (h:HX w d P U s B):w.cell? ⟨d,10,none⟩=some (.int .u32 (s.nm:Nat)):=ae w d 10 _ _ _ h.dev
theorem HX.c11 (h:HX w d P U s B):w.cell? ⟨d,11,none⟩=some (.int .u32 (s.sn:Nat)):=ae w d 11 _ _ _ h.dev
theorem HX.c12 (h:HX w d P U s B):w.cell? ⟨d,12,none⟩=some (.bool s.wt):=ae w d 12 _ _ _ h.dev
theorem HX.c13 (h:HX w d P U s B):w.cell? ⟨d,13,none⟩=some (.int .i64 (s.ms:Nat)):=ae w d 13 _ _ _ h.dev
theorem HX.c14 (h:HX w d P U s B):w.cell? ⟨d,14,none⟩=some B.av:=ae w d 14 _ _ _ h.dev
theorem HX.c15 (h:HX w d P U s B):w.cell? ⟨d,15,none⟩=some (.bool s.hd):=ae w d 15 _ _ _ h.dev
theorem HX.fz (h:HX w d P U s B) (j:Nat):w.frozen? ⟨d,j,none⟩=false:=frozen_of_row w d j _ _ h.dev
end
end Go.Proofs.YtenilkloffnjlaaGreat
