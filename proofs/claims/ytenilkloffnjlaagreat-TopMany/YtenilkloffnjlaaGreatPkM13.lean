/- Part 14: contracts that the proof rests on. -/
import Derived.Deep.RegionHeld3
import Derived.Test.YtenilkloffnjlaaGreatPkM10
import Derived.Test.YtenilkloffnjlaaGreatPkM11
import Derived.Test.YtenilkloffnjlaaGreatPkM12
set_option maxHeartbeats 64000000
set_option maxRecDepth 100000
namespace Go.Proofs.YtenilkloffnjlaaGreat
open Tryz
open Go.RowKit
theorem oY (x:Int) (h0:0≤x) (h1:x≤200):(Lit.int .i64 x).wf=true:=by
 have e1:IntKind.i64.min = -9223372036854775808:=by decide
 have e2:IntKind.i64.max=9223372036854775807:=by decide
 simp[Lit.wf,e1,e2]
 omega
theorem mu {w:World} {M e n m cap:Nat} {a:Option Addr} {xs:List Value} (h:w.ownsRow M e 1 (.slice a m cap) n xs) (x:Addr) (hx:a=some x):M≤x.block∧x.block<w.heap.size:=by
 rcases h.2 with hn | ⟨g',cap',cur',he,hg',hh,_⟩
 ·have:=hn.1;rw[hx]at this;cases this
 ·rw[hx]at he;cases he;exact⟨hg',(Array.getElem?_eq_some_iff.1 hh).1⟩
theorem uV (d m g n mx:Nat) (P:Pm) (U:List Nat) (s:Sd) (k c ss num fl:Nat) (a:Option Addr) (len cap:Nat) (bs:Nat→Nat) (w:World) (h:DV w d m g n mx P U s) (hr:Row8 w a len cap bs) (ha:∀ x,a=some x→x.block<w.heap.size∧x.block ∉ U) (hk:1≤k∧k≤5) (hfl:fl<16) (hsn:s.st=4→s.sn+1<4294967296) (hs:s.st≠6) (ho:s.od<4) (hL:s.L.length<800000) (ht:s.ms.t<9223372036854774000) :
  Calls prog 174 #[.pointer (some ⟨d,0,none⟩),.agg #[.int .i64 (k:Nat),.int .u32 (c:Nat),.int .u32 (ss:Nat),.int .u32 (num:Nat),.int .i64 (fl:Nat),.slice a len cap]] w fun e w'=>∃ v,e=.returned (.tuple #[v,.int .i64 (aW P mx n s k ss num fl len bs).e])∧Hid (Out U w w' d m g n mx P (aW P mx n s k ss num fl len bs).s (aW P mx n s k ss num fl len bs).f v):=by
 have:k=1∨k=2∨k=3∨k=4∨k=5:=by omega
 rcases this with rfl | rfl | rfl | rfl | rfl
 ·exact sM d m g n mx P U s c ss num fl a len cap bs w h hr ha hfl hsn hs ho hL ht
 ·exact sO d m g n mx P U s c ss num fl a len cap bs w h hr ha hfl hsn hs ho hL ht
 ·exact sP d m g n mx P U s c ss num fl a len cap bs w h hr ha hfl hsn hs ho hL ht
 ·exact sQ d m g n mx P U s c ss num fl a len cap bs w h hr ha hfl hsn hs ho hL ht
 ·exact sR d m g n mx P U s c ss num fl a len cap bs w h hr ha hfl hsn hs ho hL ht
theorem tN (d m g n mx:Nat) (P:Pm) (U:List Nat) (s:Sd) (a:Option Addr) (len cap:Nat) (bs:Nat→Nat) (w:World) (h:DV w d m g n mx P U s) (hr:Row8 w a len cap bs) (hsn:s.st=4→s.sn+1<4294967296) (hs:s.st≠6) (ho:s.od<4) (hL:s.L.length<800000) (ht:s.ms.t<9223372036854774000) :
  Calls prog 141 #[.pointer (some ⟨d,0,none⟩),.slice a len cap] w fun e w'=>∃ v,e=.returned (.tuple #[v,.int .i64 (bO P mx n s len bs).e])∧Hid (Out U w w' d m g n mx P (bO P mx n s len bs).s (bO P mx n s len bs).f v):=by
 unfold bO
 by_cases hE:DE bs len=0
 ·have hD:=gm a len cap bs w hr hE
  rw[if_neg (by omega)]
  obtain⟨_,_,_,hLW⟩:=jb hE
  obtain⟨hk1,_,_,_,hf1⟩:=gU hLW
  have HH:Hid (_):=And.intro h (And.intro hsn (And.intro hs (And.intro ho (And.intro hL ht))))
  have hby:∀ i,i<len→bs i<256:=hr.byte
  obtain⟨B,x⟩:=id h
  have hdl:=x.dlt
  clear h hr hsn hs ho hL ht hLW
  by_cases hK:fM (bs 0:Int)=false
  ·rw[if_pos hK]
   have hF:=fun wx=>fh (bs 0:Int) wx
   rw[hK]at hF
   go_enter func141,ntmps141
   go_wp2_with (go_at_call 134;refine hD.mono ?_;rintro e w2 ⟨a2,c2,rfl,h2⟩)
   go_wp2_with (go_at_call 173;refine (hF _).mono ?_;rintro e w' ⟨rfl,hw⟩;have hw:=hw.symm;subst hw)
   go_ret2
   exact⟨_,rfl,Out.none_ ((Gr.below h2.out.2).trans (Gr.below ((Below.refl _ _).alloc (Nat.le_refl _) _))) (DV.below (DV.below HH.out.1 h2.out.2) ((Below.refl _ _).alloc (Nat.le_refl _) _))⟩
  ·rw[if_neg hK]
   have hK':fM (bs 0:Int)=true:=by simpa using hK
   have hk5:1≤bs 0∧bs 0≤5:=by unfold fM at hK';simp at hK';omega
   have hF:=fun wx=>fh (bs 0:Int) wx
   rw[hK']at hF
   have hT:∀ (w2:World) (a2:Option Addr) (c2:Nat),w2.ownsRow w.heap.size 5 1 (.slice a2 (len-19) c2) (len-19) (CB (fun i=>bs (15+i)) (len-19))→Below w.heap.size w w2→∀ wx,Below w2.heap.size w2 wx →
     Calls prog 174 #[.pointer (some ⟨d,0,none⟩),.agg #[.int .i64 (bs 0:Nat),.int .u32 (aS bs 1:Nat),.int .u32 (aS bs 5:Nat),.int .u32 (aS bs 9:Nat),.int .i64 (bs 13:Nat),.slice a2 (len-19) c2]] wx fun e w'=>∃ v,e=.returned (.tuple #[v,.int .i64 (aW P mx n s (bs 0) (aS bs 5) (aS bs 9) (bs 13) (len-19) (fun i=>bs (15+i))).e])∧Hid (Out U w w' d m g n mx P (aW P mx n s (bs 0) (aS bs 5) (aS bs 9) (bs 13) (len-19) (fun i=>bs (15+i))).s (aW P mx n s (bs 0) (aS bs 5) (aS bs 9) (bs 13) (len-19) (fun i=>bs (15+i))).f v):=by
    intro w2 a2 c2 ho2 hb2 wx hbx
    obtain⟨h,hsn,hs,ho,hL,ht⟩:=HH.out
    have hr2:Row8 w2 a2 (len-19) c2 (fun i=>bs (15+i)):=gQ ho2 (fun i hi=>hby _ (by omega))
    have hbb:Below w.heap.size w wx:=hb2.trans (hbx.mono hb2.size)
    refine (uV d m g n mx P U s (bs 0) (aS bs 1) (aS bs 5) (aS bs 9) (bs 13) a2 (len-19) c2 _ wx (DV.below h hbb) (hr2.below hbx) (fun x hx=>?_) hk5 (by omega) hsn hs ho hL ht).mono ?_
    ·have:=mu ho2 x hx
     exact⟨Nat.lt_of_lt_of_le this.2 hbx.size,fun hm=>by have:=DV.ult h _ hm;omega⟩
    ·rintro e w' ⟨v,rfl,h5⟩
     exact⟨v,rfl,Out.pre (Gr.below hbb) h5.out⟩
   have HT:Hid (_):=hT
   have HX:Hid (_):=x
   clear hT x hby hk1 hf1 hk5 hE hK
   by_cases hC:aS bs 1=P.c
   ·rw[if_neg (by omega)]
    generalize aW P mx n s (bs 0) (aS bs 5) (aS bs 9) (bs 13) (len-19) (fun i=>bs (15+i))=R at *
    have hC1:((aS bs 1:Nat):Int)=(P.c:Int):=by omega
    rw[hC1]at hD
    have HC:Hid (_):=hC
    clear hC hC1
    go_enter func141,ntmps141
    go_wp2_with (first | (go_at_call 134;refine hD.mono ?_;rintro e w2 ⟨a2,c2,rfl,h2⟩;have c0:=(HX.out.newd (Off.of_below h2.out.2)).cells.1;have hdl2:=(HX.out.newd (Off.of_below h2.out.2)).dlt;have hdn:¬ d=w2.heap.size:=(by omega);have hdn':¬ w2.heap.size=d:=(by omega)) | (go_at_call 173;refine (hF _).mono ?_;rintro e w' ⟨rfl,hw⟩;have hw:=hw.symm;subst hw))
    repeat (go_quiet (fail);go_wp2_with fail)
    have hQ:=HT.out w2 a2 c2 h2.out.1 h2.out.2
    rw[HC.out]at hQ
    refine (hQ _ (below_drewN ((Below.refl _ _).alloc (Nat.le_refl _) _) _)).mono ?_
    rintro e w5 ⟨v,rfl,h5⟩
    clear hD hF hQ h2 c0
    go_wp2_with fail
    go_ret2
    exact⟨v,rfl,h5⟩
   ·rw[if_pos hC]
    have hC1:(((aS bs 1:Nat):Int) == (P.c:Int))=false:=by simp;omega
    have hC2:(((aS bs 1:Nat):Int)=(P.c:Int))=False:=by simp;omega
    clear hC HT
    go_enter func141,ntmps141
    go_wp2_with (first | (go_at_call 134;refine hD.mono ?_;rintro e w2 ⟨a2,c2,rfl,h2⟩;have c0:=(HX.out.newd (Off.of_below h2.out.2)).cells.1;have hdl2:=(HX.out.newd (Off.of_below h2.out.2)).dlt;have hdn:¬ d=w2.heap.size:=(by omega);have hdn':¬ w2.heap.size=d:=(by omega)) | (go_at_call 173;refine (hF _).mono ?_;rintro e w' ⟨rfl,hw⟩;have hw:=hw.symm;subst hw))
    repeat (go_quiet (fail);go_wp2_with fail)
    go_ret2
    have bb:=below_drewN ((Below.refl w2.heap.size w2).alloc (Nat.le_refl _) (.cells #[.int .i64 (bs 0:Nat),.int .u32 (aS bs 1:Nat),.int .u32 (aS bs 5:Nat),.int .u32 (aS bs 9:Nat),.int .i64 (bs 13:Nat),.slice a2 (len-19) c2] 50)) nq
    exact⟨_,rfl,Out.none_ ((Gr.below h2.out.2).trans (Gr.below bb)) (DV.below (DV.below HH.out.1 h2.out.2) bb)⟩
 ·have hD:=gi a len cap bs w hr hE
  rw[if_pos hE]
  have HE:Hid (_):=And.intro h hE
  have e0:(DE bs len == 0)=false:=by simpa using hE
  have e0':(DE bs len=0)=False:=by simpa using hE
  clear h hr hE hs ho hL ht hsn
  generalize DE bs len=E at *
  go_enter func141,ntmps141
  go_wp2_with (go_at_call 134;refine hD.mono ?_;rintro e w2 ⟨rfl,b2⟩)
  go_ret2
  exact⟨_,rfl,Out.none_ ((Gr.below b2).trans (Gr.below ((Below.refl _ _).alloc (Nat.le_refl _) _))) (DV.below (DV.below HE.out.1 b2) ((Below.refl _ _).alloc (Nat.le_refl _) _))⟩
theorem mD (d m g n mx:Nat) (P:Pm) (U:List Nat) (s:Sd) (a:Option Addr) (len cap:Nat) (bs:Nat→Nat) (w:World) (h:DV w d m g n mx P U s) (hr:Row8 w a len cap bs) (hsn:s.st=4→s.sn+1<4294967296) (ho:s.od<4) (hL:s.L.length<800000) (ht:s.ms.t<9223372036854774000) :
  Calls prog 110 #[.pointer (some ⟨d,0,none⟩),.slice a len cap] w fun e w'=>∃ v,e=.returned (.tuple #[v,.int .i64 (az P mx n s len bs).e])∧Hid (Out U w w' d m g n mx P (az P mx n s len bs).s (az P mx n s len bs).f v):=by
 obtain⟨B,x⟩:=id h
 have c11:=x.cells.2.2.2.2.2.2.2.2.2.2.2.1
 unfold az
 by_cases h6:s.st=6
 ·rw[if_pos h6]
  rw[h6]at c11
  have q:=eo d w c11
  have H:Hid (_):=h
  clear h x hr hsn ho hL ht c11
  go_enter func110,ntmps110
  go_wp2_with (go_at_call 140;refine q.mono ?_;rintro e w' ⟨rfl,hw⟩;have hw:=hw.symm;subst hw)
  go_ret2
  exact⟨_,rfl,Out.none_ (Gr.refl _ _) H.out⟩
 ·rw[if_neg h6]
  have q:=gw d s.st w c11 h6
  have hH:=tN d m g n mx P U s a len cap bs w h hr hsn h6 ho hL ht
  have hre:=we P mx n s len bs
  have hrl:=kP P mx n s len bs
  generalize bO P mx n s len bs=R at *
  have HL:Hid (R.s.L.length<900000):=(by show _<_;omega)
  have HE:Hid (_):=hre
  clear h x hr hsn ho hL ht c11 h6 hrl hre
  by_cases he:R.e≠0∧R.e≠70
  ·rw[if_pos he]
   have e0:(R.e != 0)=true:=by simpa using he.1
   have e7:(R.e != 70)=true:=by simpa using he.2
   have hw:(Lit.int .i64 R.e).wf=true:=oY R.e HE.out.1 HE.out.2
   have hN:∀ U2 w2,DV w2 d m g n mx P U2 R.s→Calls prog 142 #[.pointer (some ⟨d,0,none⟩),.int .i64 R.e] w2 fun e w'=>e=.returned (.tuple #[])∧Hid (∃ U',Gr U2 w2 U' w'∧DV w' d m g n mx P U' (gF R.s R.e)):=fun U2 w2 h2=>jC d m g n mx P U2 R.s R.e w2 h2 he.1 hw HL.out
   have HN:Hid (_):=hN
   clear hN hw he
   go_enter func110,ntmps110
   go_wp2_with (first | (go_at_call 140;refine q.mono ?_;rintro e w' ⟨rfl,hw⟩;have hw:=hw.symm;subst hw) | (go_at_call 141;refine hH.mono ?_;rintro e w2 ⟨v,rfl,h2⟩))
   obtain⟨U2,g2,x2,f2,k2⟩:=h2.out
   refine (HN.out U2 w2 x2).mono ?_
   rintro e w3 ⟨rfl,h3⟩
   obtain⟨U3,g3,x3⟩:=h3.out
   have H3:Hid (_):=Out.next g2 f2 k2 g3 x3
   clear hH q h2 g2 x2 f2 k2 h3 g3 x3 HN
   go_wp2_with fail
   go_ret2
   exact⟨v,rfl,H3⟩
  ·rw[if_neg he]
   have he':R.e=0∨R.e=70:=by omega
   clear he
   rcases he' with he | he
   all_goals
    rw[he]at hH ⊢
    go_enter func110,ntmps110
    go_wp2_with (first | (go_at_call 140;refine q.mono ?_;rintro e w' ⟨rfl,hw⟩;have hw:=hw.symm;subst hw) | (go_at_call 141;refine hH.mono ?_;rintro e w2 ⟨v,rfl,h2⟩))
    go_ret2
    exact⟨v,rfl,h2⟩
open Go.RowKit Go.Maps
theorem sF (M:Nat) (t:Int) (b:Nat) (p r:Option Addr) (q:Option Int) (f o v:Int) (w:World) (h:Met w b t p f o r) (hp:Pk M w p q) (hM:M≤w.heap.size) :
  Calls prog 136 #[.pointer (some ⟨b,0,none⟩),.int .i64 v] w fun e w'=>e=.returned (.bool (q.all (fun x=>decide (x<v))))∧Off [b] w w' ∧
   ∃ p',Met w' b t p' f o r∧Pk M w' p' (if q.all (fun x=>decide (x<v)) then some v else q)∧(p'=p∨p'=some ⟨w.heap.size,0,none⟩):=by
 have up:∀ n,Off [b] w (((w.alloc (.cells #[.int .i64 v] 2)).drewN n).setCell ⟨b,1,none⟩ (.pointer (some ⟨w.heap.size,0,none⟩))) ∧
   ∃ p',Met (((w.alloc (.cells #[.int .i64 v] 2)).drewN n).setCell ⟨b,1,none⟩ (.pointer (some ⟨w.heap.size,0,none⟩))) b t p' f o r ∧
    Pk M (((w.alloc (.cells #[.int .i64 v] 2)).drewN n).setCell ⟨b,1,none⟩ (.pointer (some ⟨w.heap.size,0,none⟩))) p' (some v)∧(p'=p∨p'=some ⟨w.heap.size,0,none⟩):=by
  intro n
  have h1:Met ((w.alloc (.cells #[.int .i64 v] 2)).drewN n) b t p f o r:=(h.off (Off.alloc [] w _) (by simp)).off (Off.drewN [] _ n) (by simp)
  refine⟨((Off.alloc [b] w _).trans (Off.drewN [b] _ n)).trans (Off.setCell _ _ _ _),_,h1.s1 _,.some w.heap.size v hM ?_,.inr rfl⟩
  rw[heap_setCell_other _ _ _ _ (by have:=h.lt;simp;omega)]
  exact aA w _
 cases hp with
 | none=>
  refine (oC t b r f o v w h).mono ?_
  rintro e w' ⟨rfl,n,rfl⟩
  exact⟨rfl,up n⟩
 | some c x hMc hc=>
  by_cases hlt:x<v
  ·refine (uE t b c r f o x v w h hc hlt).mono ?_
   rintro e w' ⟨rfl,n,rfl⟩
   have e1:Option.all (fun x=>decide (x<v)) (some x)=true:=by simp[hlt]
   rw[e1]
   exact⟨rfl,up n⟩
  ·refine (uD t b c r f o x v w h hc (by omega)).mono ?_
   rintro e w' ⟨rfl,n,rfl⟩
   have e1:Option.all (fun x=>decide (x<v)) (some x)=false:=by simp[hlt]
   rw[e1]
   refine⟨rfl,(Off.alloc [b] w _).trans (Off.drewN [b] _ n),_,(h.off (Off.alloc [] w _) (by simp)).off (Off.drewN [] _ n) (by simp),?_,.inl rfl⟩
   exact .some c x hMc ((heap_alloc_old w _ (Array.getElem?_eq_some_iff.1 hc).1).trans hc)
theorem tv (B:Nat) (b m:Nat) (v:Value) (vs:List Value) (p:Option Addr) (L:List fC) (a:Option Addr) (n cap:Nat) (bs:Nat→Nat) (w:World) (h:Bg B w b m v vs p L) (R:Row8 w a n cap bs) (hab:∀ x,a=some x→x.block≠m) (hn:n≤27) (hL:L.length<4096) (hB:B≤w.heap.size) :
  Calls prog 107 #[.pointer (some ⟨b,0,none⟩),.slice a n cap] w fun e w'=>e=.returned (.tuple #[.int .i64 (L.length:Nat),.int .i64 0]) ∧
   Hid (∃ g cap' x p',Off (b :: m :: v.ownBlock.toList) w w'∧Bg B w' b m (.slice (some ⟨g,0,none⟩) (L.length+1) cap') (vs ++ [x]) p' (L ++ [(n,bs)])∧(v.ownBlock=some g∨w.heap.size≤g)∧(∀ k,x.ownBlock=some k→w.heap.size≤k)∧(p'=p∨∃ y,p'=some y∧w.heap.size≤y.block)):=by
 have HB:Hid (Bg B w b m v vs p L):=h
 have c0:=h.c0
 have c1:=h.c1
 have hbm:b≠m:=dK h.at_ h.met.at_ (by decide)
 have hle:=xD fun f hf=>(h.fl.small f hf).1
 have hA:=lP (fp L) n m p none 0 0 w (by omega) (by omega) h.met
 have hsat:qi (fp L) n=fp L+n:=by unfold qi;rw[if_neg (by omega)]
 rw[hsat]at hA
 have o1:=Off.setCell m 0 w (.int .u64 (fp L+n:Nat))
 have m1:=h.met.s0 (fp L+n:Nat)
 have p1:Pk 0 (w.setCell ⟨m,0,none⟩ (.int .u64 (fp L+n:Nat))) p (qd L):=by
  have hp:=h.pk
  generalize qd L=q at hp
  cases hp with
  | none=>exact .none
  | some c v' h' hc=>exact .some c v' h' ((o1.block c (Array.getElem?_eq_some_iff.1 hc).1 (by simpa using dK hc h.met.at_ (by decide))).trans hc)
 have R1:Row8 (w.setCell ⟨m,0,none⟩ (.int .u64 (fp L+n:Nat))) a n cap bs:=R.offB o1 (fun x hx=>by simpa using hab x hx)
 have hA':Calls prog 135 #[.pointer (some ⟨m,0,none⟩),.int .u64 (n:Nat)] w fun e w'=>e=.returned (.tuple #[.int .u64 (fp L+n:Nat),.int .i64 0])∧w'.cell? ⟨b,1,none⟩=some (.pointer (some ⟨m,0,none⟩))∧Hid (Off [m] w w'∧Met w' m (fp L+n:Nat) p 0 0 none∧Pk 0 w' p (qd L)∧Row8 w' a n cap bs):=by
  refine hA.mono ?_
  rintro e w' ⟨rfl,rfl⟩
  exact⟨rfl,(World.cell?_of_block (o1.block b h.lt (by simpa using hbm))).trans c1,o1,m1,p1,R1⟩
 obtain⟨av,cv,rfl⟩:=bK h.fl.rows
 have hI:¬ ((27:Int) < (n:Int)):=by omega
 obtain⟨N,eN⟩:∃ N,N=L.length:=⟨_,rfl⟩
 have HN:Hid (N=L.length):=eN
 rw[← eN]at c0 hL ⊢
 have hJ:¬ ((4096:Int) ≤ (N:Int)):=by omega
 have hblt:=h.lt
 have hw64:IntKind.u64.wrap ((n:Nat):Int)=((n:Nat):Int):=by rw[IntKind.wrap_u64];omega
 clear hA hsat hle h o1 m1 p1 R1 R eN
 obtain⟨t,et⟩:∃ t,t=fp L+n:=⟨_,rfl⟩
 have HT:Hid (t=fp L+n):=et
 rw[← et]at hA'
 clear et
 go_enter func107,ntmps107
 go_wp2_with fail
 refine hA'.mono ?_
 rintro e w1 ⟨rfl,c1',H1⟩
 clear hA' c1
 have hR:=sF 0 _ m p none _ 0 0 (n:Nat) w1 H1.out.2.1 H1.out.2.2.1 (Nat.zero_le _)
 go_wp2_with fail
 refine hR.mono ?_
 rintro e w2 ⟨rfl,H2⟩
 obtain⟨o12,p',m2,k2,n2⟩:=H2
 have o2:Off [m] w w2:=H1.out.1.trans o12
 have R2:Row8 w2 a n cap bs:=H1.out.2.2.2.offB o12 (fun x hx=>by simpa using hab x hx)
 have b2:w2.heap[b]?=some (.cells #[.slice av N cv,.pointer (some ⟨m,0,none⟩)] 110 (0,0)):=by rw[HN.out];exact (o2.block b hblt (by simpa using hbm)).trans HB.out.at_
 have hx0:∀ wx,Below w2.heap.size w2 wx→wx.cell? ⟨b,0,none⟩=some (.slice av N cv):=fun wx hx=>ae wx b 0 _ _ _ ((hx.block b (Array.getElem?_eq_some_iff.1 b2).1).trans b2)
 have hC:∀ wx,Below w2.heap.size w2 wx→Calls prog 27 #[.slice a n cap] wx fun e w'=>∃ v,e=.returned v∧∃ a' cap',v=.slice a' n cap'∧Below w2.heap.size w2 w'∧Hid (w'.ownsRow w2.heap.size 5 1 (.slice a' n cap') n (CB bs n)):=by
  intro wx hx
  refine (iD a n cap bs wx (R2.below hx) (by omega)).mono ?_
  rintro e w' ⟨a',cap',rfl,H⟩
  exact⟨_,rfl,a',cap',rfl,hx.trans (H.out.1.mono hx.size),aN H.out.2 hx.size⟩
 have f2:Fl B w2 (.slice av N cv) vs L:=by
  rw[HN.out]
  refine HB.out.fl.keep o2 fun y hy hs=>?_
  simp only[List.mem_singleton]at hy
  subst hy
  refine⟨fun e=>?_,fun c f hc=>?_⟩
  ·obtain⟨c,hc⟩:=aL HB.out.fl.rows e
   exact dK HB.out.met.at_ hc (by decide) rfl
  ·exact dK HB.out.met.at_ hc (by decide) rfl
 have ho:Hid (∀ wx,Below w2.heap.size w2 wx→wx.ownsRow B 37 1 (.slice av N cv) N vs):=fun wx hx=>by have:=(f2.below hx).rows;rw[← HN.out]at this;exact this
 have hgb:Hid (∀ wx wy,Below w2.heap.size w2 wx→wx.grownBy wy (Value.slice av N cv).ownBlock→wy.heap[b]?=some (.cells #[.slice av N cv,.pointer (some ⟨m,0,none⟩)] 110 (0,0))):=by
  intro wx wy hx hg
  have hlt:=(Array.getElem?_eq_some_iff.1 b2).1
  have hka:=(hx.block b hlt).trans b2
  refine (hg.block b (Nat.lt_of_lt_of_le hlt hx.size) fun ek=>?_).trans hka
  obtain⟨c',hc'⟩:=aL (ho.out wx hx) ek.symm
  exact dK hka hc' (by decide) rfl
 have hby:=R2.byte
 have hB2:B≤w2.heap.size:=Nat.le_trans hB o2.size
 have H2:Hid (_):=And.intro o2 (And.intro m2 (And.intro k2 (And.intro n2 H1.out.1.size)))
 have cB:w2.cell? ⟨b,0,none⟩=some (.slice av N cv):=hx0 _ (Below.refl _ _)
 clear o12 o2 m2 k2 n2 f2 R2 b2 H1 hR c1' c0
 go_wp2_with fail
 go_region_law (first
  | (refine qk 27 #[.tmp 45] #[37] rfl (by kernel_rfl) #[.slice a n cap] (by kernel_rfl) (hC _ (by repeat (first | with_reducible assumption | with_reducible refine eZ ?_ _ | with_reducible refine Below.drew ?_ | with_reducible refine jf ?_ (Nat.le_refl _) _ | with_reducible exact Below.refl _ _))) ?_;rintro _ w3 ⟨a3,cap3,rfl,b3,H3⟩;have c3:=hx0 _ b3;have c3a:=hx0 (w3.alloc (.cells #[.slice a3 n cap3] 37)) (jf b3 (Nat.le_refl _) _))
  | (refine sI rfl (.tmp 44) (.tmp 47) rfl rfl B N w3.heap.size vs (.slice a3 n cap3) (.slice av N cv) rfl (ho.out _ (by repeat (first | with_reducible assumption | with_reducible refine eZ ?_ _ | with_reducible refine Below.drew ?_ | with_reducible refine jf ?_ (Nat.le_refl _) _ | with_reducible exact Below.refl _ _))) rfl (ae _ _ 0 _ _ _ (aA w3 _)) rfl (by omega) (by rw[World.size_alloc];have:=b3.size;omega) ?_;intro g4 cap4 w4 H4;have hp4:=hgb.out _ _ (by repeat (first | with_reducible assumption | with_reducible refine eZ ?_ _ | with_reducible refine Below.drew ?_ | with_reducible refine jf ?_ (Nat.le_refl _) _ | with_reducible exact Below.refl _ _)) H4.out.2.1;have hc4:=ae w4 b 0 _ _ _ hp4;have hf4:=frozen_of_row w4 b 0 _ _ hp4))
 all_goals
  clear ho hC hx0 cB c3 c3a hp4
  go_wp2_with fail
  go_ret2
  refine⟨rfl,g4,cap4,.slice a3 n cap3,p',?_⟩
  obtain rfl:=HN.out
  have hT:=HT.out
  subst hT
  obtain⟨z1,z2,z3⟩:=HB.out.put H2.out.1 (by rw[uW];exact H2.out.2.1) (by rw[xe];exact H2.out.2.2.1) b3 H3.out hn hby hL hB2 ((Below.refl _ _).alloc (Nat.le_refl _) _) H4.out.1 H4.out.2.1 H4.out.2.2
  refine⟨z1,z2,z3,fun k hk=>Nat.le_trans H2.out.1.size (H3.out.lt k hk).1,?_⟩
  rcases H2.out.2.2.2.1 with e | e
  ·exact .inl e
  ·exact .inr ⟨_,e,H2.out.2.2.2.2⟩
theorem aX {l:List Nat} {w w':World} {B e size n:Nat} {v:Value} {xs:List Value} (h:w.ownsRow B e size v n xs) (q:Off l w w') (hl:∀ k,v.ownBlock=some k→k ∉ l):w'.ownsRow B e size v n xs:=fP h fun k hk=>by
 obtain⟨c,hc⟩:=aL h hk
 exact q.block k (Array.getElem?_eq_some_iff.1 hc).1 (hl k hk)
theorem DV.offY {w w':World} {d m g n mx:Nat} {P:Pm} {U l:List Nat} {s:Sd} (h:DV w d m g n mx P U s) (q:Off l w w') (hl:∀ k,k ∈ U→k ∉ l):DV w' d m g n mx P U s:=by
 obtain⟨B,h⟩:=h
 exact⟨B,⟨(q.block d h.dlt (hl _ h.kd.2)).trans h.dev,h.mem.off q (hl _ h.km.2) (hl _ h.kg.2),fun hs=>⟨(h.cel hs).1,(h.cel hs).2.1.off q (hl _ h.kc.2),(h.cel hs).2.2⟩,h.dog.off q (hl _ h.kb.2),h.val.off q (hl _ h.kv.2) (hl _ h.kw.2) (fun k hk hM=>hl k (h.kM k hM).2 hk),h.log.off q (fun k hk=>hl _ (h.kl k hk).2),aH h.app q (fun k hk=>hl _ (h.ka k hk).2),h.apb,fun k hk=>Nat.lt_of_lt_of_le (h.ltU k hk) q.size,h.kd,h.km,h.kg,h.kc,h.kb,h.kv,h.kw,h.kM,h.kl,h.ka,h.pok,h.n10,h.mx0,h.mxl⟩⟩
def kK (b m:Nat) (v:Value) (vs:List Value) (p:Option Addr):List Nat:=b :: m :: (v.ownBlock.toList ++ (p.toList.map (·.block) ++ vs.filterMap Value.ownBlock))
theorem yv {b m:Nat} {v:Value} {vs:List Value} {p:Option Addr} {x:Value} {k:Nat} (hx:x ∈ vs) (hk:x.ownBlock=some k):k ∈ kK b m v vs p:=by
 unfold kK
 simp only[List.mem_cons,List.mem_append,List.mem_filterMap]
 exact .inr (.inr (.inr (.inr ⟨x,hx,hk⟩)))
theorem zN {b m:Nat} {v:Value} {vs:List Value} {p:Option Addr} {k:Nat} (hk:v.ownBlock=some k):k ∈ kK b m v vs p:=by
 unfold kK
 simp[hk]
theorem zM {b m:Nat} {v:Value} {vs:List Value} {p:Option Addr} {y:Addr} (hk:p=some y):y.block ∈ kK b m v vs p:=by
 unfold kK
 simp[hk]
theorem Bg.offU {B:Nat} {w w':World} {b m:Nat} {v:Value} {vs:List Value} {p:Option Addr} {L:List fC} {l:List Nat} (h:Bg B w b m v vs p L) (o:Off l w w') (hl:∀ k,k ∈ kK b m v vs p→k ∉ l):Bg B w' b m v vs p L:=by
 have kk:∀ {e:TypeId} {s n:Nat} {x:Value} {xs:List Value},w.ownsRow B e s x n xs→(∀ g,x.ownBlock=some g→g ∉ l)→w'.ownsRow B e s x n xs:=by
  intro e s n x xs ho hg
  refine fP ho fun g eg=>?_
  obtain⟨c,hc⟩:=aL ho eg
  exact o.block g (Array.getElem?_eq_some_iff.1 hc).1 (hg g eg)
 refine⟨(o.block b h.lt (hl b (by simp[kK]))).trans h.at_,⟨kk h.fl.rows (fun g eg=>hl g (zN eg)),fun i f hi=>?_,h.fl.small,h.fl.len⟩,h.met.off o (hl m (by simp[kK])),?_,h.bB,h.mB⟩
 ·obtain⟨x,hx,ho⟩:=h.fl.frs i f hi
  exact⟨x,hx,kk ho (fun g eg=>hl g (yv (List.mem_of_getElem? hx) eg))⟩
 ·have hp:=h.pk
  generalize qd L=q at hp
  cases hp with
  | none=>exact .none
  | some c v' h' hc=>exact .some c v' h' ((o.block c (Array.getElem?_eq_some_iff.1 hc).1 (hl c (zM rfl))).trans hc)
theorem Bg.ltU {B:Nat} {w:World} {b m:Nat} {v:Value} {vs:List Value} {p:Option Addr} {L:List fC} (h:Bg B w b m v vs p L) (hvs:vs.length=L.length):∀ k,k ∈ kK b m v vs p→k<w.heap.size:=by
 intro k hk
 simp only[kK,List.mem_cons,List.mem_append,List.mem_filterMap,Option.mem_toList,List.mem_map]at hk
 rcases hk with rfl | rfl | hk | ⟨y,hy,rfl⟩ | ⟨x,hx,hk⟩
 ·exact h.lt
 ·exact h.met.lt
 ·obtain⟨c,hc⟩:=aL h.fl.rows hk
  exact (Array.getElem?_eq_some_iff.1 hc).1
 ·have hp:=h.pk
  generalize qd L=q at hp
  cases hp with
  | none=>cases hy
  | some c v' h' hc=>
   cases hy
   exact (Array.getElem?_eq_some_iff.1 hc).1
 ·obtain⟨i,hi⟩:=List.getElem?_of_mem hx
  have hlt:i<L.length:=by have:=(List.getElem?_eq_some_iff.1 hi).1;omega
  obtain⟨x',hx',ho⟩:=h.fl.frs i L[i] (List.getElem?_eq_getElem hlt)
  rw[hi]at hx'
  cases hx'
  obtain⟨c,hc⟩:=aL ho hk
  exact (Array.getElem?_eq_some_iff.1 hc).1
def zC (b m:Nat) (v:Value) (vs:List Value) (p:Option Addr) (L:List fC):Thing:=⟨kK b m v vs p,fun w=>Bg 0 w b m v vs p L∧vs.length=L.length,fun _ _ _ h o hl=>⟨h.1.offU o hl,h.2⟩⟩
structure Mv where
 k:Int
 c:Int
 s:Int
 f:Int
 a:Int
 w:Nat
 n:Int
 h:Bool
 l:Nat
 b:Nat→Nat
abbrev ak (m:Mv) (c:Int) (d:Option Addr) (e:Nat):Array Value:=#[.int .i64 m.k,.int .i64 c,.int .i64 m.s,.int .i64 m.f,.int .i64 m.a,.int .u32 (m.w:Nat),.int .i64 m.n,.bool m.h,.slice d m.l e]
def Mv.cs (m:Mv) (d:Option Addr) (e:Nat):Array Value:=#[.int .i64 m.k,.int .i64 m.c,.int .i64 m.s,.int .i64 m.f,.int .i64 m.a,.int .u32 (m.w:Nat),.int .i64 m.n,.bool m.h,.slice d m.l e]
structure Mv.Ok (m:Mv):Prop where
 k : -9223372036854775808≤m.k∧m.k≤9223372036854775807
 c : -9223372036854775808≤m.c∧m.c≤9223372036854775807
 s : -9223372036854775808≤m.s∧m.s≤9223372036854775807
 f : -9223372036854775808≤m.f∧m.f≤9223372036854775807
 a : -9223372036854775808≤m.a∧m.a≤9223372036854775807
 w:m.w<4294967296
 n : -9223372036854775808≤m.n∧m.n≤9223372036854775807
structure Sh where
 L:List R4
 dc:Nat
 v:Vs
 st:Nat
 ss:Nat
 nm:Nat
 sn:Nat
 wt:Bool
 ms:Nat
 ap:Nat→Nat
 hd:Bool
def eM (s:Sh) (x:Int):Sh:={ s with L:=s.L ++ [(((s.L.length+1:Nat):Int),x,(s.ss:Int),(s.nm:Int))] }
def be (s:Sh) (x:Int):Sh:=if fZ s.v x=true then eM { s with v:=du s.v x } x else { s with v:=du s.v x }
def ta (s:Sh):Sh:={ s with wt:=false,ms:=0,dc:=0,v:=fq s.v }
def fL (s:Sh) (k:Nat):Sh:={ s with v:=eV s.v false,st:=k }
def ic (s:Sh):Sh:={ s with v:=eV s.v false,st:=1,nm:=0,sn:=0,wt:=false,ms:=0 }
def jG (s:Sh):Sh:=fL (be s 80) 5
def ft (s:Sh):Sh:={ s with dc:=0,v:=oW,st:=1,ss:=0,nm:=0,sn:=0,wt:=false,ms:=0,ap:=fun _=>0,hd:=false }
def bQ (s:Sh):Nat:=(if aB s.v=true then 0 else 1) + (if aq s.v=true then 2 else 0) + (if s.v.lat=0 then 0 else 4) + (if s.hd=true then 8 else 0)
def co (s:Sh):Sh:=
 if s.st=1∨s.wt=false then s else if s.ms+1<4 then { s with ms:=s.ms+1 } else ic (if s.st=4 then be { s with ms:=s.ms+1 } 131 else { s with ms:=s.ms+1 })
def bT (P:Pm) (s:Sh):Sh × Fm:=
 if s.st=1 then (s,dN 1 P.c 0 0 0 4 (kR P))
 else if s.st=2 then (s,dN 2 P.c s.ss 0 0 4 (kR P))
 else if s.st=3 then (s,dN 3 P.c s.ss 0 0 0 (fun _=>0))
 else if s.sn+1=P.n then (jG { s with sn:=s.sn+1 },dN 5 P.c s.ss (s.sn+1) 0 0 (fun _=>0))
 else ({ s with sn:=s.sn+1 },dN 4 P.c s.ss (s.sn+1) (bQ s) P.o s.ap)
def mh (s:Sh):Int:=if s.st=5 then 132 else 0
def cF (P:Pm) (s:Sh):Sh:=if s.st=5 then s else { (bT P (co s)).1 with wt:=true }
def aP (P:Pm) (s:Sh):Fm:=if s.st=5 then cG else (bT P (co s)).2
def cz (P:Pm) (s:Sh) (k num len:Nat):Bool:=
 decide (k=18∧s.st=2∨k=19∧s.st=3∨k=20∧((s.st=4∧s.nm<num)∧num<P.n)∧len=P.i∨k=21∧(s.st=4∧s.nm<num)∧num=P.n)
def jI (P:Pm) (s:Sh) (k ss len:Nat) (bs:Nat→Nat):Int:=if k≠17∨ss≤s.ss then 130 else if aO P len bs=true then 0 else 91
def gG (P:Pm) (s:Sh) (k c ss num len:Nat) (bs:Nat→Nat):Int:=
 if ia k=false then 43 else if c≠P.c then 44 else if s.st=1 then jI P s k ss len bs else if ss≠s.ss∨cz P s k num len=false then 130 else 0
def cH (s:Sh) (k ss num fl:Nat) (bs:Nat→Nat):Sh:=
 if k=17 then ta { s with st:=2,ss:=ss }
 else if k=18 then ta { s with st:=3 }
 else if k=19 then ta { s with st:=4,v:=eV s.v true }
 else if k=20 then { ta { s with nm:=num } with v:=fu (it (fq s.v) (decide (8≤fl))) bs }
 else if k=21 then jG (ta { s with nm:=num })
 else ta s
def eF (P:Pm) (s:Sh) (len:Nat) (bs:Nat→Nat):Int:=
 if DE bs len≠0 then DE bs len else gG P s (bs 0) (aS bs 1) (aS bs 5) (aS bs 9) (len-19) (fun i=>bs (15+i))
def dk (P:Pm) (s:Sh) (len:Nat) (bs:Nat→Nat):Sh:=
 if eF P s len bs≠0 then eM s (eF P s len bs) else cH s (bs 0) (aS bs 5) (aS bs 9) (bs 13) (fun i=>bs (15+i))
def gt (P:Pm) (len:Nat):Int:=if len=P.o then 0 else 45
def dE (P:Pm) (s:Sh) (len:Nat) (bs:Nat→Nat) (h:Bool):Sh:=if len=P.o then { s with ap:=bs,hd:=h } else s
def dZ (k:Int):Int:=if k<0 then 2 else 0
def d7 (P:Pm) (s:Sh) (k:Int):Sh:=if k<0 then s else
 if kI P.t s.dc k.toNat=true then be { s with dc:=tk P.t s.dc k.toNat } 100 else { s with dc:=tk P.t s.dc k.toNat }
def fJ (s:Sh):Int:=rp s.v
def iX (s:Sh):Sh:={ s with v:=kJ s.v }
def bu:Sh:=⟨[],0,oW,1,0,0,0,false,0,fun _=>0,false⟩
structure Ih (P:Pm) (s:Sh):Prop where
 st1:1≤s.st
 st5:s.st≤5
 ss:s.ss<4294967296
 nm:s.nm<4294967296
 sn:s.sn<4294967296
 ms:s.ms<4
 s4:s.st=2∨s.st=3∨s.st=4→s.ss≠0
 hs:s.st≠4→s.st≠5→s.sn=0∧s.nm=0
 run:s.st=4→s.sn<P.n∧s.nm<P.n
 vr:s.v.run=decide (s.st=4)
 lat5:s.st=5→s.v.lat≠0
set_option linter.unusedVariables false
structure Fa where
 k:Nat
 c:Nat
 s:Nat
 ss:Nat
 nn:Nat
 on:Bool
 cd:Int
 d:Fm
structure Ws where
 n:Nat
 PH:Nat→Pm
 PD:Nat→Pm
 hs:Nat→Sh
 ds:Nat→Sd
 mx:Nat
 bg:List Fm
 mv:Nat
 fs:List Fa
def bf {α:Type} (f:Nat→α) (k:Nat) (x:α):Nat→α:=fun j=>if j=k then x else f j
theorem aj {α:Type} (f:Nat→α) (k:Nat) (x:α):bf f k x k=x:=if_pos rfl
theorem bY {α:Type} (f:Nat→α) {k j:Nat} (x:α) (h:j≠k):bf f k x j=f j:=if_neg h
def Ws.setH (S:Ws) (k:Nat) (s:Sh):Ws:={ S with hs:=bf S.hs k s }
def Ws.setD (S:Ws) (k:Nat) (s:Sd):Ws:={ S with ds:=bf S.ds k s }
def Ws.note (S:Ws) (l:List Fa):Ws:={ S with fs:=S.fs ++ l }
def yE (at_ x i:Nat):Nat:=(List.range 8).foldl (fun n j=>2*n + (PM.ly at_ (PM.bl x) x (PM.bl x) (8*i+j)).toNat) 0
def rS (f:Fm) (at_ x:Nat):Fm:=(f.1,xr f.2 (yE at_ x))
def nS (f:Fm):Nat:=if DE f.2 f.1=0 then f.2 0 else 0
def dq (kd k s:Nat) (f:Fm):List Fa:=if nS f=4∨nS f=20 then [⟨kd,k,s,aS f.2 5,aS f.2 9,false,0,(f.1-19,fun i=>f.2 (15+i))⟩] else []
def cX (kd k s:Nat):Fa:=⟨kd,k,s,0,0,false,0,cG⟩
def cy (k s:Nat) (f:Fm):List Fa:=cX 4 k s :: dq 2 k s f
def dy (k:Nat) (a b:Sd):List Fa:=(if b.st=6∧a.st≠6 then [cX 7 k 2] else []) ++ (if b.ss≠a.ss∧b.ss≠0 then [⟨3,k,2,b.ss,0,false,0,cG⟩] else [])
def yy (f:Fm) (st:Nat):Bool:=if nS f=1 then false else if nS f=2 then decide (st=2) else if nS f=3 then decide (st=3) else true
def Ws.put (S:Ws) (k s:Nat) (f:Fm):Ws:=if f.1=0 then S else { S with bg:=S.bg ++ [f],fs:=S.fs ++ dq 1 k s f }
def Ws.putI (S:Ws) (f:Fm):Int:=if f.1=0 then -1 else ((S.bg.length:Nat):Int)
structure Wr where
 e:Int
 i:Int
 S:Ws
def Ws.toH (S:Ws) (k:Nat) (f:Fm):Wr:=
 ⟨eF (S.PH k) (S.hs k) f.1 f.2,-1,if eF (S.PH k) (S.hs k) f.1 f.2=0 then (S.setH k (dk (S.PH k) (S.hs k) f.1 f.2)).note (cy k 1 f) else S.setH k (dk (S.PH k) (S.hs k) f.1 f.2)⟩
def Ws.toD1 (S:Ws) (k:Nat) (f:Fm):Ws:=(S.setD k (az (S.PD k) S.mx 16 (S.ds k) f.1 f.2).s).note (dy k (S.ds k) (az (S.PD k) S.mx 16 (S.ds k) f.1 f.2).s)
def Ws.toD2 (S:Ws) (k:Nat) (f:Fm):Ws:=if (az (S.PD k) S.mx 16 (S.ds k) f.1 f.2).e=0∧yy f (S.ds k).st=true then (S.toD1 k f).note (cy k 2 f) else S.toD1 k f
def Ws.toD (S:Ws) (k:Nat) (f:Fm):Wr:=⟨(az (S.PD k) S.mx 16 (S.ds k) f.1 f.2).e,(S.toD2 k f).putI (az (S.PD k) S.mx 16 (S.ds k) f.1 f.2).f,(S.toD2 k f).put k 2 (az (S.PD k) S.mx 16 (S.ds k) f.1 f.2).f⟩
def Ws.snd (S:Ws) (k:Nat):Wr:=⟨mh (S.hs k),(S.setH k (cF (S.PH k) (S.hs k))).putI (aP (S.PH k) (S.hs k)),(S.setH k (cF (S.PH k) (S.hs k))).put k 1 (aP (S.PH k) (S.hs k))⟩
def Ws.fr (S:Ws) (m:Mv):Fm:=if m.k=4 then rS (S.bg.getD m.f.toNat cG) m.a.toNat m.w else S.bg.getD m.f.toNat cG
def d8 (k:Int):Bool:=(k != 2) && (k != 8)
def Ws.bad (S:Ws) (m:Mv):Int:=
 if 4096≤S.mv then 150 else if m.k<1∨8<m.k then 170 else if m.c<0∨((S.n:Nat):Int)≤m.c then 171 else if d8 m.k=true∧m.s≠1∧m.s≠2 then 172
 else if m.k=3 then (if m.f<0∨((S.bg.length:Nat):Int)≤m.f then 151 else 0)
 else if m.k=4 then (if m.f<0∨((S.bg.length:Nat):Int)≤m.f then 151 else cq (S.bg.getD m.f.toNat cG).1 m.a m.w)
 else if m.k=5 then (if m.n<0∨1048576<m.n then 2 else 0)
 else if m.k=7 then (if m.n<0∨m.s=1∧0<m.n then 2 else 0)
 else if m.k=8 then (if m.n<0 then 2 else 0) else 0
def Ws.act (S:Ws) (m:Mv):Wr:=
 let k:=m.c.toNat
 if m.k=1 then (if m.s=1 then ⟨gt (S.PH k) m.l,-1,S.setH k (dE (S.PH k) (S.hs k) m.l m.b m.h)⟩ else ⟨gp (S.PD k) (S.ds k) m.l,-1,S.setD k (dD (S.PD k) (S.ds k) m.l m.b m.h)⟩)
 else if m.k=2 then S.snd k
 else if m.k=3∨m.k=4 then (if m.s=1 then S.toH k (S.fr m) else S.toD k (S.fr m))
 else if m.k=5 then
  (if m.s=1 then ⟨dZ m.n,-1,(S.setH k (d7 (S.PH k) (S.hs k) m.n)).note (if dZ m.n=0 then [⟨5,k,1,0,m.n.toNat,false,0,cG⟩] else [])⟩
   else ⟨dX (S.ds k) m.n,-1,(S.setD k (dY (S.PD k) (S.ds k) m.n)).note (if dX (S.ds k) m.n=0 then [⟨5,k,2,0,m.n.toNat,false,0,cG⟩] else [])⟩)
 else if m.k=6 then
  (if m.s=1 then ⟨fJ (S.hs k),-1,(S.setH k (iX (S.hs k))).note (if fJ (S.hs k)=0 then [cX 6 k 1] else [])⟩
   else ⟨fG (S.ds k),-1,(S.setD k (fH (S.ds k))).note (if fG (S.ds k)=0 then [cX 6 k 2] else [])⟩)
 else if m.k=7 then
  (if m.s=1 then ⟨0,-1,(S.note [cX 7 k 1]).setH k (ft (S.hs k))⟩ else ⟨fc S.mx 16 (S.ds k) m.n,-1,(S.note [cX 7 k 2]).setD k (cr S.mx 16 (S.ds k) m.n)⟩)
 else ⟨yu m.n,-1,S.setD k { S.ds k with ms:=ks (S.ds k).ms m.n }⟩
def oH (S:Ws) (k:Nat):Fa:=⟨8,k,1,0,0,aB (S.hs k).v,(S.hs k).v.lat,((S.PH k).i,cO (S.hs k).v)⟩
def oD (S:Ws) (k:Nat):Fa:=⟨8,k,2,0,0,aB (S.ds k).v,(S.ds k).v.lat,((S.PD k).o,cO (S.ds k).v)⟩
def Ws.play (S:Ws) (m:Mv):Wr:=
 if S.bad m≠0 then ⟨S.bad m,0,S⟩ else
  let r:=({ S with mv:=S.mv+1 }:Ws).act m
  ⟨r.e,r.i,r.S.note [oH r.S m.c.toNat,oD r.S m.c.toNat]⟩
def iz (P:Pm) (lb db vb:Nat) (s:Sh) (av:Value):Array Value:=
 #[.int .u32 (P.c:Nat),.int .i64 (P.o:Nat),.int .i64 (P.i:Nat),.int .i64 (P.t:Nat),.int .u32 (P.n:Nat),.pointer (some ⟨lb,0,none⟩),
  .pointer (some ⟨db,0,none⟩),.pointer (some ⟨vb,0,none⟩),.int .i64 (s.st:Nat),.int .u32 (s.ss:Nat),.int .u32 (s.nm:Nat),.int .u32 (s.sn:Nat),.bool s.wt,.int .i64 (s.ms:Nat),av,.bool s.hd]
structure Bh where
 lb:Nat
 db:Nat
 vb:Nat
 vg:Nat
 M:List Nat
 Ul:List Nat
 av:Value
 col:Nat→Nat
structure HX (w:World) (d:Nat) (P:Pm) (U:List Nat) (s:Sh) (B:Bh):Prop where
 dev:w.heap[d]?=some (.cells (iz P B.lb B.db B.vb s B.av) 141 (0,0))
 dog:DR w B.db P.t s.dc
 val:VR w B.vb B.vg B.M P.i s.v
 log:DG w B.lb B.Ul s.L
 app:w.ownsRow 0 5 1 B.av P.o (CB s.ap P.o)
 apb:∀ i,i<P.o→s.ap i<256
 ltU:∀ k,k ∈ U→k<w.heap.size
 kd:B.col d=0∧d ∈ U
 kb:B.col B.db=3∧B.db ∈ U
 kv:B.col B.vb=4∧B.vb ∈ U
 kw:B.col B.vg=4∧B.vg ∈ U
 kM:∀ k,k ∈ B.M→B.col k=4∧k ∈ U
 kl:∀ k,k ∈ B.Ul→B.col k=5∧k ∈ U
 ka:∀ k,B.av.ownBlock=some k→B.col k=6∧k ∈ U
 pok:Pok P
def HV (w:World) (d:Nat) (P:Pm) (U:List Nat) (s:Sh):Prop:=∃ B,HX w d P U s B
section
variable {w w':World} {d:Nat} {P:Pm} {U:List Nat} {s s':Sh} {B:Bh}
theorem HX.dlt (h:HX w d P U s B):d<w.heap.size:=h.ltU d h.kd.2
theorem HX.own (h:HX w d P U s B) (q:Off [d] w w') (e:w'.heap[d]?=some (.cells (iz P B.lb B.db B.vb s' B.av) 141 (0,0)))
  (h2:s'.dc=s.dc) (h3:s'.v=s.v) (h4:s'.L=s.L) (h5:s'.ap=s.ap):HX w' d P U s' B:=by
 have hn:∀ k,B.col k≠0→k ∉ [d]:=fun k hk hm=>by simp at hm;rw[hm,h.kd.1]at hk;exact hk rfl
 refine⟨e,?_,?_,?_,?_,h5 ▸ h.apb,fun k hk=>Nat.lt_of_lt_of_le (h.ltU k hk) q.size,h.kd,h.kb,h.kv,h.kw,h.kM,h.kl,h.ka,h.pok⟩
 ·rw[h2];exact h.dog.off q (hn _ (by rw[h.kb.1];omega))
 ·rw[h3];exact h.val.off q (hn _ (by rw[h.kv.1];omega)) (hn _ (by rw[h.kw.1];omega)) (fun k hk hM=>by simp at hk;subst hk;have:=(h.kM _ hM).1;rw[h.kd.1]at this;omega)
 ·rw[h4];exact h.log.off q (fun k hk=>hn _ (by rw[(h.kl k hk).1];omega))
 ·rw[h5];exact aH h.app q (fun k hk=>hn _ (by rw[(h.ka k hk).1];omega))
theorem HX.dogd (h:HX w d P U s B) (q:Off [B.db] w w') {c:Nat} (e:DR w' B.db P.t c):HX w' d P U { s with dc:=c } B:=by
 have hn:∀ k,B.col k≠3→k ∉ [B.db]:=fun k hk hm=>by simp at hm;rw[hm,h.kb.1]at hk;exact hk rfl
 refine⟨(q.block d h.dlt (hn _ (by rw[h.kd.1];omega))).trans h.dev,e,?_,?_,?_,h.apb,fun k hk=>Nat.lt_of_lt_of_le (h.ltU k hk) q.size,h.kd,h.kb,h.kv,h.kw,h.kM,h.kl,h.ka,h.pok⟩
 ·exact h.val.off q (hn _ (by rw[h.kv.1];omega)) (hn _ (by rw[h.kw.1];omega)) (fun k hk hM=>by simp at hk;subst hk;have:=(h.kM _ hM).1;rw[h.kb.1]at this;omega)
 ·exact h.log.off q (fun k hk=>hn _ (by rw[(h.kl k hk).1];omega))
 ·exact aH h.app q (fun k hk=>hn _ (by rw[(h.ka k hk).1];omega))
theorem HX.vald (h:HX w d P U s B) (q:Off [B.vb,B.vg] w w') {M:List Nat} {v:Vs} (e:VR w' B.vb B.vg M P.i v) (hM:∀ k,k ∈ M→k ∈ B.M∨w.heap.size≤k) (hl:∀ k,k ∈ M→k<w'.heap.size) :
  ∃ U' B',Gr U w U' w'∧HX w' d P U' { s with v:=v } B':=by
 have hn:∀ k,B.col k≠4→k ∉ [B.vb,B.vg]:=fun k hk hm=>by simp at hm;rcases hm with hm | hm <;> rw[hm]at hk <;> first | exact hk h.kv.1 | exact hk h.kw.1
 let col':Nat→Nat:=fun k=>if k<w.heap.size then B.col k else 4
 have hc:∀ k x,B.col k=x∧k ∈ U→col' k=x∧k ∈ M ++ U:=fun k x hk=>⟨by show (if k<w.heap.size then B.col k else 4)=x;rw[if_pos (h.ltU k hk.2)];exact hk.1,by simp[hk.2]⟩
 refine⟨M ++ U,{ B with M:=M,col:=col' },⟨q.more (fun k hk=>by simp at hk;rcases hk with rfl | rfl <;> first | exact h.kv.2 | exact h.kw.2),fun k hk=>?_⟩,?_⟩
 ·rcases List.mem_append.1 hk with hk | hk
  ·rcases hM k hk with hk | hk
   ·exact .inl (h.kM k hk).2
   ·exact .inr hk
  ·exact .inl hk
 refine⟨(q.block d h.dlt (hn _ (by rw[h.kd.1];omega))).trans h.dev,?_,e,?_,?_,h.apb,?_,hc _ _ h.kd,hc _ _ h.kb,hc _ _ h.kv,hc _ _ h.kw,?_,fun k hk=>hc _ _ (h.kl k hk),fun k hk=>hc _ _ (h.ka k hk),h.pok⟩
 ·exact h.dog.off q (hn _ (by rw[h.kb.1];omega))
 ·exact h.log.off q (fun k hk=>hn _ (by rw[(h.kl k hk).1];omega))
 ·exact aH h.app q (fun k hk=>hn _ (by rw[(h.ka k hk).1];omega))
 ·intro k hk
  rcases List.mem_append.1 hk with hk | hk
  ·exact hl k hk
  ·exact Nat.lt_of_lt_of_le (h.ltU k hk) q.size
 ·intro k hk
  rcases hM k hk with hk' | hk'
  ·exact⟨(hc k 4 (h.kM k hk')).1,List.mem_append.2 (.inl hk)⟩
  ·exact⟨by show (if k<w.heap.size then B.col k else 4)=4;rw[if_neg (by omega)],List.mem_append.2 (.inl hk)⟩
theorem HX.vals (h:HX w d P U s B) (q:Off [B.vb,B.vg] w w') {v:Vs} (e:VR w' B.vb B.vg B.M P.i v):∃ U' B',Gr U w U' w'∧HX w' d P U' { s with v:=v } B':=
 h.vald q e (fun _ hk=>.inl hk) (fun k hk=>Nat.lt_of_lt_of_le (h.ltU k (h.kM k hk).2) q.size)
theorem HX.logd (h:HX w d P U s B) {V:List Nat} {L:List R4} (q:Off B.Ul w w') (e:DG w' B.lb V L) (hV:∀ k,k ∈ V→k ∈ B.Ul∨w.heap.size≤k) :
  ∃ U' B',Gr U w U' w'∧HX w' d P U' { s with L:=L } B':=by
 have hV:∀ k,k ∈ V→(k ∈ B.Ul∨w.heap.size≤k)∧k<w'.heap.size:=fun k hk=>⟨hV k hk,e.ult k hk⟩
 have hn:∀ k,B.col k≠5→k ∉ B.Ul:=fun k hk hm=>hk (h.kl k hm).1
 let col':Nat→Nat:=fun k=>if k<w.heap.size then B.col k else 5
 have hc:∀ k x,B.col k=x∧k ∈ U→col' k=x∧k ∈ V ++ U:=fun k x hk=>⟨by show (if k<w.heap.size then B.col k else 5)=x;rw[if_pos (h.ltU k hk.2)];exact hk.1,by simp[hk.2]⟩
 refine⟨V ++ U,{ B with Ul:=V,col:=col' },⟨q.more (fun k hk=>(h.kl k hk).2),fun k hk=>?_⟩,?_⟩
 ·rcases List.mem_append.1 hk with hk | hk
  ·rcases (hV k hk).1 with hk | hk
   ·exact .inl (h.kl k hk).2
   ·exact .inr hk
  ·exact .inl hk
 refine⟨(q.block d h.dlt (hn _ (by rw[h.kd.1];omega))).trans h.dev,?_,?_,e,?_,h.apb,?_,hc _ _ h.kd,hc _ _ h.kb,hc _ _ h.kv,hc _ _ h.kw,fun k hk=>hc _ _ (h.kM k hk),?_,fun k hk=>hc _ _ (h.ka k hk),h.pok⟩
 ·exact h.dog.off q (hn _ (by rw[h.kb.1];omega))
 ·exact h.val.off q (hn _ (by rw[h.kv.1];omega)) (hn _ (by rw[h.kw.1];omega)) (fun k hk hM=>by have:=(h.kM _ hM).1;rw[(h.kl k hk).1]at this;omega)
 ·exact aH h.app q (fun k hk=>hn _ (by rw[(h.ka k hk).1];omega))
 ·intro k hk
  rcases List.mem_append.1 hk with hk | hk
  ·exact (hV k hk).2
  ·exact Nat.lt_of_lt_of_le (h.ltU k hk) q.size
 ·intro k hk
  rcases (hV k hk).1 with hk' | hk'
  ·exact⟨(hc k 5 (h.kl k hk')).1,List.mem_append.2 (.inl hk)⟩
  ·exact⟨by show (if k<w.heap.size then B.col k else 5)=5;rw[if_neg (by omega)],List.mem_append.2 (.inl hk)⟩
theorem HX.newd (h:HX w d P U s B) (q:Off [] w w'):HX w' d P U s B:=
 ⟨(q.block d h.dlt (by simp)).trans h.dev,h.dog.off q (by simp),h.val.off q (by simp) (by simp) (by simp),h.log.off q (by simp),aH h.app q (by simp),h.apb,fun k hk=>Nat.lt_of_lt_of_le (h.ltU k hk) q.size,h.kd,h.kb,h.kv,h.kw,h.kM,h.kl,h.ka,h.pok⟩
theorem HX.c0 (h:HX w d P U s B):w.cell? ⟨d,0,none⟩=some (.int .u32 (P.c:Nat)):=ae w d 0 _ _ _ h.dev
theorem HX.c1 (h:HX w d P U s B):w.cell? ⟨d,1,none⟩=some (.int .i64 (P.o:Nat)):=ae w d 1 _ _ _ h.dev
theorem HX.c2 (h:HX w d P U s B):w.cell? ⟨d,2,none⟩=some (.int .i64 (P.i:Nat)):=ae w d 2 _ _ _ h.dev
theorem HX.c3 (h:HX w d P U s B):w.cell? ⟨d,3,none⟩=some (.int .i64 (P.t:Nat)):=ae w d 3 _ _ _ h.dev
theorem HX.c4 (h:HX w d P U s B):w.cell? ⟨d,4,none⟩=some (.int .u32 (P.n:Nat)):=ae w d 4 _ _ _ h.dev
theorem HX.c5 (h:HX w d P U s B):w.cell? ⟨d,5,none⟩=some (.pointer (some ⟨B.lb,0,none⟩)):=ae w d 5 _ _ _ h.dev
theorem HX.c6 (h:HX w d P U s B):w.cell? ⟨d,6,none⟩=some (.pointer (some ⟨B.db,0,none⟩)):=ae w d 6 _ _ _ h.dev
theorem HX.c7 (h:HX w d P U s B):w.cell? ⟨d,7,none⟩=some (.pointer (some ⟨B.vb,0,none⟩)):=ae w d 7 _ _ _ h.dev
theorem HX.c8 (h:HX w d P U s B):w.cell? ⟨d,8,none⟩=some (.int .i64 (s.st:Nat)):=ae w d 8 _ _ _ h.dev
theorem HX.c9 (h:HX w d P U s B):w.cell? ⟨d,9,none⟩=some (.int .u32 (s.ss:Nat)):=ae w d 9 _ _ _ h.dev
theorem HX.c10 (h:HX w d P U s B):w.cell? ⟨d,10,none⟩=some (.int .u32 (s.nm:Nat)):=ae w d 10 _ _ _ h.dev
theorem HX.c11 (h:HX w d P U s B):w.cell? ⟨d,11,none⟩=some (.int .u32 (s.sn:Nat)):=ae w d 11 _ _ _ h.dev
theorem HX.c12 (h:HX w d P U s B):w.cell? ⟨d,12,none⟩=some (.bool s.wt):=ae w d 12 _ _ _ h.dev
theorem HX.c13 (h:HX w d P U s B):w.cell? ⟨d,13,none⟩=some (.int .i64 (s.ms:Nat)):=ae w d 13 _ _ _ h.dev
theorem HX.c14 (h:HX w d P U s B):w.cell? ⟨d,14,none⟩=some B.av:=ae w d 14 _ _ _ h.dev
theorem HX.c15 (h:HX w d P U s B):w.cell? ⟨d,15,none⟩=some (.bool s.hd):=ae w d 15 _ _ _ h.dev
theorem HX.fz (h:HX w d P U s B) (j:Nat):w.frozen? ⟨d,j,none⟩=false:=frozen_of_row w d j _ _ h.dev
end
end Go.Proofs.YtenilkloffnjlaaGreat
namespace Go.Proofs.YtenilkloffnjlaaGreat
open Tryz
open Go.RowKit
theorem HV.below {w w':World} {d:Nat} {P:Pm} {U:List Nat} {s:Sh} (h:HV w d P U s) (hb:Below w.heap.size w w'):HV w' d P U s:=by
 obtain⟨B,h⟩:=h
 exact⟨B,h.newd (Off.of_below hb)⟩
theorem HV.ult {w:World} {d:Nat} {P:Pm} {U:List Nat} {s:Sh} (h:HV w d P U s) (k:Nat) (hk:k ∈ U):k<w.heap.size:=by
 obtain⟨B,h⟩:=h
 exact h.ltU k hk
theorem cL (d:Nat) (P:Pm) (U:List Nat) (s:Sh) (w:World) (h:HV w d P U s) :
  Calls prog 170 #[.pointer (some ⟨d,6,none⟩)] w fun e w'=>e=.returned (.tuple #[])∧Hid (∃ U',Gr U w U' w'∧HV w' d P U' (ta s)):=by
 obtain⟨B,h⟩:=h
 have e1:(w.setCell ⟨d,12,none⟩ (.bool false)).heap[d]?=some (.cells (iz P B.lb B.db B.vb { s with wt:=false } B.av) 141 (0,0)):=heap_setCell_same _ _ _ _ _ _ h.dev
 have e2:((w.setCell ⟨d,12,none⟩ (.bool false)).setCell ⟨d,13,none⟩ (.int .i64 0)).heap[d]?=some (.cells (iz P B.lb B.db B.vb { s with wt:=false,ms:=0 } B.av) 141 (0,0)):=heap_setCell_same _ _ _ _ _ _ e1
 have o1:=(Off.setCell d 12 w (.bool false)).trans (Off.setCell d 13 _ (.int .i64 0))
 have h1:=h.own o1 (s':={ s with wt:=false,ms:=0 }) e2 rfl rfl rfl rfl
 have c6:=h.c6
 have c12:=h.c12
 have c13:=h.c13
 have z12:=h.fz 12
 have z13:=h.fz 13
 have H:Hid (_):=And.intro h.kd.2 (And.intro o1 h1)
 clear h h1 o1 e1 e2
 go_enter func170,ntmps170
 go_wp2_with fail
 refine (lM _ _ _ _ H.out.2.2.dog).mono ?_
 rintro e w2 ⟨rfl,o2,d2⟩
 have h2:=H.out.2.2.dogd o2 d2
 have c7:=h2.c7
 have H2:Hid (_):=And.intro (H.out.2.1.more (m:=U) (by simp[H.out.1])) (And.intro (o2.more (m:=U) (by simp[H.out.2.2.kb.2])) h2)
 clear h2 o2 d2 H c6 c12 c13 z12 z13
 go_wp2_with fail
 refine (j9 _ _ _ _ _ _ H2.out.2.2.val).mono ?_
 rintro e w3 ⟨rfl,h3⟩
 obtain⟨U',B',g3,x3⟩:=H2.out.2.2.vals h3.out.1 h3.out.2
 have H3:Hid (∃ U',Gr U w U' w3∧HV w3 d P U' (ta s)):=⟨U',(Gr.trans (Gr.trans ⟨H2.out.1,fun _ h=>.inl h⟩ ⟨H2.out.2.1,fun _ h=>.inl h⟩) g3),B',x3⟩
 clear H2 h3 g3 x3 c7
 go_wp2_with fail
 go_end0
 exact⟨rfl,H3⟩
theorem jH (d:Nat) (P:Pm) (U:List Nat) (s:Sh) (k:Nat) (w:World) (h:HV w d P U s) :
  Calls prog 151 #[.pointer (some ⟨d,6,none⟩),.int .i64 (k:Nat)] w fun e w'=>e=.returned (.tuple #[])∧Hid (∃ U',Gr U w U' w'∧HV w' d P U' (fL s k)):=by
 obtain⟨B,h⟩:=h
 have c7:=h.c7
 have H:Hid (_):=h
 clear h
 go_enter func151,ntmps151
 go_wp2_with fail
 refine (fY _ _ _ _ _ _ _ H.out.val).mono ?_
 rintro e w2 ⟨rfl,h2⟩
 obtain⟨U',B',g2,x2⟩:=H.out.vals h2.out.1 h2.out.2
 have o7:=Off.setCell d 8 w2 (.int .i64 (k:Nat))
 have x7:=x2.own o7 (s':=fL s k) (heap_setCell_same _ _ _ _ _ _ x2.dev) rfl rfl rfl rfl
 have H7:Hid (_):=And.intro (Gr.trans g2 (Gr.same o7 (by simp[x2.kd.2]))) x7
 have c8:=x2.c8
 have z8:=x2.fz 8
 clear H h2 g2 x2 o7 x7 c7
 go_wp2_with fail
 go_end0
 exact⟨rfl,_,H7.out.1,_,H7.out.2⟩
theorem kV (d:Nat) (P:Pm) (U:List Nat) (s:Sh) (w:World) (h:HV w d P U s) :
  Calls prog 128 #[.pointer (some ⟨d,6,none⟩)] w fun e w'=>e=.returned (.tuple #[])∧Hid (∃ U',Gr U w U' w'∧HV w' d P U' (ic s)):=by
 have q:=jH d P U s 1 w h
 clear h
 go_enter func128,ntmps128
 go_wp2_with fail
 refine q.mono ?_
 rintro e w2 ⟨rfl,h2⟩
 obtain⟨U2,g2,B2,x2⟩:=h2.out
 have e1:(w2.setCell ⟨d,10,none⟩ (.int .u32 0)).heap[d]?=some (.cells (iz P B2.lb B2.db B2.vb { fL s 1 with nm:=0 } B2.av) 141 (0,0)):=heap_setCell_same _ _ _ _ _ _ x2.dev
 have e2:((w2.setCell ⟨d,10,none⟩ (.int .u32 0)).setCell ⟨d,11,none⟩ (.int .u32 0)).heap[d]?=some (.cells (iz P B2.lb B2.db B2.vb { fL s 1 with nm:=0,sn:=0 } B2.av) 141 (0,0)):=heap_setCell_same _ _ _ _ _ _ e1
 have e3:(((w2.setCell ⟨d,10,none⟩ (.int .u32 0)).setCell ⟨d,11,none⟩ (.int .u32 0)).setCell ⟨d,12,none⟩ (.bool false)).heap[d]?=some (.cells (iz P B2.lb B2.db B2.vb { fL s 1 with nm:=0,sn:=0,wt:=false } B2.av) 141 (0,0)):=heap_setCell_same _ _ _ _ _ _ e2
 have e4:((((w2.setCell ⟨d,10,none⟩ (.int .u32 0)).setCell ⟨d,11,none⟩ (.int .u32 0)).setCell ⟨d,12,none⟩ (.bool false)).setCell ⟨d,13,none⟩ (.int .i64 0)).heap[d]?=some (.cells (iz P B2.lb B2.db B2.vb (ic s) B2.av) 141 (0,0)):=heap_setCell_same _ _ _ _ _ _ e3
 have o4:=(((Off.setCell d 10 w2 (.int .u32 0)).trans (Off.setCell d 11 _ (.int .u32 0))).trans (Off.setCell d 12 _ (.bool false))).trans (Off.setCell d 13 _ (.int .i64 0))
 have x4:=x2.own o4 (s':=ic s) e4 rfl rfl rfl rfl
 have H4:Hid (_):=And.intro (Gr.trans g2 (Gr.same o4 (by simp[x2.kd.2]))) x4
 have c10:=x2.c10
 have c11:=x2.c11
 have c12:=x2.c12
 have c13:=x2.c13
 have z10:=x2.fz 10
 have z11:=x2.fz 11
 have z12:=x2.fz 12
 have z13:=x2.fz 13
 clear q h2 g2 x2 o4 x4 e1 e2 e3 e4
 go_wp2_with fail
 go_end0
 exact⟨rfl,_,H4.out.1,_,H4.out.2⟩
theorem kX (d:Nat) (P:Pm) (U:List Nat) (s:Sh) (x:Int) (w:World) (h:HV w d P U s) (hx:x≠0) (hw:(Lit.int .i64 x).wf=true) (hL:s.L.length<900000) :
  Calls prog 138 #[.pointer (some ⟨d,0,none⟩),.int .i64 x] w fun e w'=>e=.returned (.tuple #[])∧Hid (∃ U',Gr U w U' w'∧HV w' d P U' (eM s x)):=by
 obtain⟨B,h⟩:=h
 have hd:=h.newd (Off.drew [] w)
 have hC:=kQ B.lb B.Ul s.L x (s.ss:Nat) (s.nm:Nat) w.drew hd.log (by omega) hw hx
 have c5:=h.c5
 have c9:=h.c9
 have c10:=h.c10
 have H:Hid (_):=hd
 clear h hd
 go_enter func138,ntmps138
 go_wp2_with fail
 go_region_with (go_at_call 168;refine hC.mono ?_;rintro e w2 ⟨rfl,h2⟩)
 all_goals
  obtain⟨V,o2,L2,hV⟩:=h2.out
  obtain⟨U',B',g3,x3⟩:=H.out.logd o2 L2 hV
  have H3:Hid (∃ U',Gr U w U' w2∧HV w2 d P U' (eM s x)):=⟨U',Gr.trans (Gr.same (Off.drew [] w) (by simp)) g3,B',x3⟩
  clear hC H h2 o2 L2 hV g3 x3
  go_wp2_with fail
  go_end0
  exact⟨rfl,H3⟩
theorem gL (d:Nat) (P:Pm) (U:List Nat) (s:Sh) (x:Int) (w:World) (h:HV w d P U s) (hx:x≠0) (hw:(Lit.int .i64 x).wf=true) (hL:s.L.length<900000) :
  Calls prog 127 #[.pointer (some ⟨d,0,none⟩),.int .i64 x] w fun e w'=>e=.returned (.tuple #[])∧Hid (∃ U',Gr U w U' w'∧HV w' d P U' (be s x)):=by
 obtain⟨B,h⟩:=h
 have c7:=h.c7
 have H:Hid (_):=h
 clear h
 unfold be
 by_cases ht:fZ s.v x=true
 ·rw[if_pos ht]
  go_enter func127,ntmps127
  go_wp2_with fail
  refine (gz _ _ _ _ _ _ _ H.out.val).mono ?_
  rintro e w2 ⟨rfl,h2⟩
  rw[ht]
  obtain⟨U',B',g2,x2⟩:=H.out.vals h2.out.1 h2.out.2
  have hN:=kX d P U' { s with v:=du s.v x } x w2 ⟨B',x2⟩ hx hw hL
  have H2:Hid (_):=g2
  clear H h2 g2 x2 c7
  go_wp2_with (go_at_call 138;refine hN.mono ?_;rintro e w3 ⟨rfl,h3⟩)
  go_end0
  obtain⟨U3,g3,x3⟩:=h3.out
  exact⟨rfl,U3,H2.out.trans g3,x3⟩
 ·rw[if_neg ht]
  have ht':fZ s.v x=false:=by simpa using ht
  go_enter func127,ntmps127
  go_wp2_with fail
  refine (gz _ _ _ _ _ _ _ H.out.val).mono ?_
  rintro e w2 ⟨rfl,h2⟩
  rw[ht']
  obtain⟨U',B',g2,x2⟩:=H.out.vals h2.out.1 h2.out.2
  have H2:Hid (_):=And.intro g2 x2
  clear H h2 g2 x2 c7
  go_wp2_with fail
  go_end0
  exact⟨rfl,U',H2.out.1,B',H2.out.2⟩
theorem nC (d:Nat) (P:Pm) (U:List Nat) (s:Sh) (w:World) (h:HV w d P U s) (hL:s.L.length<900000) :
  Calls prog 154 #[.pointer (some ⟨d,0,none⟩)] w fun e w'=>e=.returned (.tuple #[])∧Hid (∃ U',Gr U w U' w'∧HV w' d P U' (jG s)):=by
 have hT:=gL d P U s 80 w h (by omega) (by decide) hL
 clear h hL
 go_enter func154,ntmps154
 go_wp2_with fail
 refine hT.mono ?_
 rintro e w2 ⟨rfl,h2⟩
 obtain⟨U2,g2,x2⟩:=h2.out
 have hV:=jH d P U2 _ 5 w2 x2
 have H2:Hid (_):=g2
 clear hT h2 g2 x2
 go_wp2_with fail
 refine hV.mono ?_
 rintro e w3 ⟨rfl,h3⟩
 clear hV
 go_wp2_with fail
 go_end0
 obtain⟨U3,g3,x3⟩:=h3.out
 exact⟨rfl,U3,H2.out.trans g3,x3⟩
theorem pO (d:Nat) (P:Pm) (U:List Nat) (s:Sh) (w:World) (h:HV w d P U s) :
  Calls prog 155 #[.pointer (some ⟨d,6,none⟩)] w fun e w'=>e=.returned (.int .i64 (bQ s:Nat))∧Below w.heap.size w w':=by
 obtain⟨B,h⟩:=h
 have c7:=h.c7
 have c15:=h.c15
 have H:Hid (_):=h
 clear h
 unfold bQ
 cases h1:aB s.v <;> cases h2:aq s.v <;> by_cases h3:s.v.lat=0 <;> cases h4:s.hd
 all_goals
  rw[h4]at c15
  go_enter func155,ntmps155
  go_wp2_with fail
  refine (iw _ _ _ _ _ _ H.out.val).mono ?_
  rintro e w2 ⟨v2,rfl,h5⟩
  rw[h1]
  have hb:=h5.out.2
  have x2:=H.out.newd (Off.of_below hb)
  have e7:=x2.c7
  have e15:=x2.c15
  have q1:=fX _ _ _ _ _ _ x2.val
  have q2:=iu _ _ _ _ _ _ x2.val
  rw[h2]at q1
  rw[h4]at e15
  first
   | rw[h3]at q2
   | skip
  have HB:Hid (_):=hb
  clear H h5 hb x2 c7 c15
  go_wp2_with (first | (go_at_call 63;refine q1.mono ?_;rintro e w' ⟨rfl,hw⟩;have hw:=hw.symm;subst hw) | (go_at_call 62;refine q2.mono ?_;rintro e w' ⟨rfl,hw⟩;have hw:=hw.symm;subst hw))
  go_ret
  exact⟨by first | rfl | (simp[h3];done) | (simp[h3];rfl),HB.out⟩
theorem aE {P:Program} {md:Region.Mode} {ops:Array Oper} {Q:Exit→Act→World→Prop} {S:World→Prop} {fuel:Nat} {l:Array Bool} {a:Act} {w:World} {i:Nat} {o:Oper} (f:FuncId) (args:Array Value) (hr:Region.ready md ops l=[i]) (ho:ops[i]?=some o)
  (hw:Region.wanted o (yielded ops a.tmps)=true) (hrun:(execOp a.eval o).run P w=.ok (.enter f args) w)
  (hc:Calls P f args w fun e w''=>∃ v,e=.returned v∧(S w''∧wpAnyH P md ops Q S fuel (l.setIfInBounds i true) (a.put o.dst v) w'')):wpAnyH P md ops Q S (fuel+1) l a w:=
 wpAnyH_all hr (by simp) (fun j hj=>by
  obtain rfl:=List.mem_singleton.1 hj
  exact mZ f args ho hw hrun hc)
theorem tO {P:Program} {md:Region.Mode} {ops:Array Oper} {Q:Exit→Act→World→Prop} {S:World→Prop} {fuel:Nat} {l:Array Bool} {a:Act} {w:World} {i:Nat} {o:Oper} (v:Value) (hr:Region.ready md ops l=[i]) (ho:ops[i]?=some o)
  (hw:Region.wanted o (yielded ops a.tmps)=true) (hrun:(execOp a.eval o).run P w=.ok (.value v) w) (hS:S w)
  (h:wpAnyH P md ops Q S fuel (l.setIfInBounds i true) (a.put o.dst v) w):wpAnyH P md ops Q S (fuel+1) l a w:=
 wpAnyH_all hr (by simp) (fun j hj=>by
  obtain rfl:=List.mem_singleton.1 hj
  exact dP v w ho hw hrun ⟨hS,h⟩)
theorem cj {P:Program} {md:Region.Mode} {ops:Array Oper} {Q:Exit→Act→World→Prop} {S:World→Prop} {fuel:Nat} {l:Array Bool} {a:Act} {w:World} {i:Nat} {o:Oper} (w':World) (hr:Region.ready md ops l=[i]) (ho:ops[i]?=some o)
  (hw:Region.wanted o (yielded ops a.tmps)=true) (hrun:(execOp a.eval o).run P w=.ok .skip w') (hS:S w')
  (h:wpAnyH P md ops Q S fuel (l.setIfInBounds i true) (a.put o.dst undef) w'):wpAnyH P md ops Q S (fuel+1) l a w:=
 wpAnyH_all hr (by simp) (fun j hj=>by
  obtain rfl:=List.mem_singleton.1 hj
  unfold wpOp
  simp only[ho,hw,if_true]
  refine .inl ?_
  unfold Oper.wp
  rw[hrun]
  exact⟨hS,h⟩)
theorem aG {P:Program} {md:Region.Mode} {ops:Array Oper} {Q:Exit→Act→World→Prop} {S:World→Prop} {fuel:Nat} {l l':Array Bool} {a a':Act} {w:World} (ha:a=a') (hl:l=l') (h:wpAnyH P md ops Q S fuel l' a' w):wpAnyH P md ops Q S fuel l a w:=by rw[ha,hl];exact h
end Go.Proofs.YtenilkloffnjlaaGreat
