/- Part 19: contracts that the proof rests on. -/
import Derived.Deep.RegionHeld3
import Derived.Sort.WalkA
import Derived.Test.YtdpahjfekoikiaaGreatPkX14
import Derived.Test.YtdpahjfekoikiaaGreatPkX15
import Derived.Test.YtdpahjfekoikiaaGreatPkX16
import Derived.Test.YtdpahjfekoikiaaGreatPkX17
set_option maxHeartbeats 64000000
set_option maxRecDepth 100000
namespace Go.Proofs.YtdpahjfekoikiaaGreat
open Tryz
open Go.RowKit
theorem lA (x:Int) (h0:0≤x) (h1:x≤200):(Lit.int .i64 x).wf=true:=by
 have e1:IntKind.i64.min = -9223372036854775808:=by decide
 have e2:IntKind.i64.max=9223372036854775807:=by decide
 simp[Lit.wf,e1,e2]
 omega
theorem gq {w:World} {M e n m cap:Nat} {a:Option Addr} {xs:List Value} (h:w.ownsRow M e 1 (.slice a m cap) n xs) (x:Addr) (hx:a=some x):M≤x.block∧x.block<w.heap.size:=by
 rcases h.2 with hn | ⟨g',cap',cur',he,hg',hh,_⟩
 ·have:=hn.1;rw[hx]at this;cases this
 ·rw[hx]at he;cases he;exact⟨hg',(Array.getElem?_eq_some_iff.1 hh).1⟩
theorem rs (d m g n mx:Nat) (P:Pm) (U:List Nat) (s:Sd) (k c ss num fl:Nat) (a:Option Addr) (len cap:Nat) (bs:Nat→Nat) (w:World) (h:DV w d m g n mx P U s) (hr:Row8 w a len cap bs) (ha:∀ x,a=some x→x.block<w.heap.size∧x.block ∉ U) (hk:1≤k∧k≤5) (hfl:fl<16) (hsn:s.st=4→s.sn+1<4294967296) (hs:s.st≠6) (ho:s.od<4) (hL:s.L.length<800000) (ht:s.ms.t<9223372036854774000) :
  Calls prog 114 #[aa d 0,.agg #[.int .i64 (k:Nat),.int .u32 (c:Nat),.int .u32 (ss:Nat),.int .u32 (num:Nat),.int .i64 (fl:Nat),.slice a len cap]] w fun e w'=>∃ v,e=.returned (.tuple #[v,.int .i64 (aw P mx n s k ss num fl len bs).e])∧Hid (Out U w w' d m g n mx P (aw P mx n s k ss num fl len bs).s (aw P mx n s k ss num fl len bs).f v):=by
 have:k=1∨k=2∨k=3∨k=4∨k=5:=by omega
 rcases this with rfl | rfl | rfl | rfl | rfl
 ·exact oU d m g n mx P U s c ss num fl a len cap bs w h hr ha hfl hsn hs ho hL ht
 ·exact oX d m g n mx P U s c ss num fl a len cap bs w h hr ha hfl hsn hs ho hL ht
 ·exact oY d m g n mx P U s c ss num fl a len cap bs w h hr ha hfl hsn hs ho hL ht
 ·exact oZ d m g n mx P U s c ss num fl a len cap bs w h hr ha hfl hsn hs ho hL ht
 ·exact pa d m g n mx P U s c ss num fl a len cap bs w h hr ha hfl hsn hs ho hL ht
theorem pX (d m g n mx:Nat) (P:Pm) (U:List Nat) (s:Sd) (a:Option Addr) (len cap:Nat) (bs:Nat→Nat) (w:World) (h:DV w d m g n mx P U s) (hr:Row8 w a len cap bs) (hsn:s.st=4→s.sn+1<4294967296) (hs:s.st≠6) (ho:s.od<4) (hL:s.L.length<800000) (ht:s.ms.t<9223372036854774000) :
  Calls prog 72 #[aa d 0,.slice a len cap] w fun e w'=>∃ v,e=.returned (.tuple #[v,.int .i64 (bi P mx n s len bs).e])∧Hid (Out U w w' d m g n mx P (bi P mx n s len bs).s (bi P mx n s len bs).f v):=by
 unfold bi
 by_cases hE:DE bs len=0
 ·have hD:=fL a len cap bs w hr hE
  rw[if_neg (by omega)]
  obtain⟨_,_,_,hLW⟩:=fc hE
  obtain⟨hk1,_,_,_,hf1⟩:=cR hLW
  have HH:Hid (_):=And.intro h (And.intro hsn (And.intro hs (And.intro ho (And.intro hL ht))))
  have hby:∀ i,i<len→bs i<256:=hr.byte
  obtain⟨B,x⟩:=id h
  have hdl:=x.dlt
  clear h hr hsn hs ho hL ht hLW
  by_cases hK:cz (bs 0:Int)=false
  ·rw[if_pos hK]
   have hF:=fun wx=>dX (bs 0:Int) wx
   rw[hK]at hF
   go_enter func72,ntmps72
   go_wp2_with (go_at_call 39;refine hD.mono ?_;rintro e w2 ⟨a2,c2,rfl,h2⟩)
   go_wp2_with (go_at_call 113;refine (hF _).mono ?_;rintro e w' ⟨rfl,hw⟩;have hw:=hw.symm;subst hw)
   go_ret2
   exact⟨_,rfl,Out.none_ ((Gr.below h2.out.2).trans (Gr.below ((Below.refl _ _).alloc (Nat.le_refl _) _))) (DV.below (DV.below HH.out.1 h2.out.2) ((Below.refl _ _).alloc (Nat.le_refl _) _))⟩
  ·rw[if_neg hK]
   have hK':cz (bs 0:Int)=true:=by simpa using hK
   have hk5:1≤bs 0∧bs 0≤5:=by unfold cz at hK';simp at hK';omega
   have hF:=fun wx=>dX (bs 0:Int) wx
   rw[hK']at hF
   have hT:∀ (w2:World) (a2:Option Addr) (c2:Nat),w2.ownsRow w.heap.size 5 1 (.slice a2 (len-19) c2) (len-19) (CB (fun i=>bs (15+i)) (len-19))→Below w.heap.size w w2→∀ wx,Below w2.heap.size w2 wx →
     Calls prog 114 #[aa d 0,.agg #[.int .i64 (bs 0:Nat),.int .u32 (aE bs 1:Nat),.int .u32 (aE bs 5:Nat),.int .u32 (aE bs 9:Nat),.int .i64 (bs 13:Nat),.slice a2 (len-19) c2]] wx fun e w'=>∃ v,e=.returned (.tuple #[v,.int .i64 (aw P mx n s (bs 0) (aE bs 5) (aE bs 9) (bs 13) (len-19) (fun i=>bs (15+i))).e])∧Hid (Out U w w' d m g n mx P (aw P mx n s (bs 0) (aE bs 5) (aE bs 9) (bs 13) (len-19) (fun i=>bs (15+i))).s (aw P mx n s (bs 0) (aE bs 5) (aE bs 9) (bs 13) (len-19) (fun i=>bs (15+i))).f v):=by
    intro w2 a2 c2 ho2 hb2 wx hbx
    obtain⟨h,hsn,hs,ho,hL,ht⟩:=HH.out
    have hr2:Row8 w2 a2 (len-19) c2 (fun i=>bs (15+i)):=eY ho2 (fun i hi=>hby _ (by omega))
    have hbb:Below w.heap.size w wx:=hb2.trans (hbx.mono hb2.size)
    refine (rs d m g n mx P U s (bs 0) (aE bs 1) (aE bs 5) (aE bs 9) (bs 13) a2 (len-19) c2 _ wx (DV.below h hbb) (hr2.below hbx) (fun x hx=>?_) hk5 (by omega) hsn hs ho hL ht).mono ?_
    ·have:=gq ho2 x hx
     exact⟨Nat.lt_of_lt_of_le this.2 hbx.size,fun hm=>by have:=DV.ult h _ hm;omega⟩
    ·rintro e w' ⟨v,rfl,h5⟩
     exact⟨v,rfl,Out.pre (Gr.below hbb) h5.out⟩
   have HT:Hid (_):=hT
   have HX:Hid (_):=x
   clear hT x hby hk1 hf1 hk5 hE hK
   by_cases hC:aE bs 1=P.c
   ·rw[if_neg (by omega)]
    generalize aw P mx n s (bs 0) (aE bs 5) (aE bs 9) (bs 13) (len-19) (fun i=>bs (15+i))=R at *
    have hC1:((aE bs 1:Nat):Int)=(P.c:Int):=by omega
    rw[hC1]at hD
    have HC:Hid (_):=hC
    clear hC hC1
    go_enter func72,ntmps72
    go_wp2_with (first | (go_at_call 39;refine hD.mono ?_;rintro e w2 ⟨a2,c2,rfl,h2⟩;have c0:=(HX.out.newd (Off.of_below h2.out.2)).cells.1;have hdl2:=(HX.out.newd (Off.of_below h2.out.2)).dlt;have hdn:¬ d=w2.heap.size:=(by omega);have hdn':¬ w2.heap.size=d:=(by omega)) | (go_at_call 113;refine (hF _).mono ?_;rintro e w' ⟨rfl,hw⟩;have hw:=hw.symm;subst hw))
    repeat (go_quiet (fail);go_wp2_with fail)
    have hQ:=HT.out w2 a2 c2 h2.out.1 h2.out.2
    rw[HC.out]at hQ
    refine (hQ _ (below_drewN ((Below.refl _ _).alloc (Nat.le_refl _) _) _)).mono ?_
    rintro e w5 ⟨v,rfl,h5⟩
    clear hD hF hQ h2 c0
    go_wp2_with fail
    go_ret2
    exact⟨v,rfl,h5⟩
   ·rw[if_pos hC]
    have hC1:(((aE bs 1:Nat):Int) == (P.c:Int))=false:=by simp;omega
    have hC2:(((aE bs 1:Nat):Int)=(P.c:Int))=False:=by simp;omega
    clear hC HT
    go_enter func72,ntmps72
    go_wp2_with (first | (go_at_call 39;refine hD.mono ?_;rintro e w2 ⟨a2,c2,rfl,h2⟩;have c0:=(HX.out.newd (Off.of_below h2.out.2)).cells.1;have hdl2:=(HX.out.newd (Off.of_below h2.out.2)).dlt;have hdn:¬ d=w2.heap.size:=(by omega);have hdn':¬ w2.heap.size=d:=(by omega)) | (go_at_call 113;refine (hF _).mono ?_;rintro e w' ⟨rfl,hw⟩;have hw:=hw.symm;subst hw))
    repeat (go_quiet (fail);go_wp2_with fail)
    go_ret2
    have bb:=below_drewN ((Below.refl w2.heap.size w2).alloc (Nat.le_refl _) (.cells #[.int .i64 (bs 0:Nat),.int .u32 (aE bs 1:Nat),.int .u32 (aE bs 5:Nat),.int .u32 (aE bs 9:Nat),.int .i64 (bs 13:Nat),.slice a2 (len-19) c2] 103)) nq
    exact⟨_,rfl,Out.none_ ((Gr.below h2.out.2).trans (Gr.below bb)) (DV.below (DV.below HH.out.1 h2.out.2) bb)⟩
 ·have hD:=iI a len cap bs w hr hE
  rw[if_pos hE]
  have HE:Hid (_):=And.intro h hE
  have e0:(DE bs len == 0)=false:=by simpa using hE
  have e0':(DE bs len=0)=False:=by simpa using hE
  clear h hr hE hs ho hL ht hsn
  generalize DE bs len=E at *
  go_enter func72,ntmps72
  go_wp2_with (go_at_call 39;refine hD.mono ?_;rintro e w2 ⟨rfl,b2⟩)
  go_ret2
  exact⟨_,rfl,Out.none_ ((Gr.below b2).trans (Gr.below ((Below.refl _ _).alloc (Nat.le_refl _) _))) (DV.below (DV.below HE.out.1 b2) ((Below.refl _ _).alloc (Nat.le_refl _) _))⟩
theorem jG (d m g n mx:Nat) (P:Pm) (U:List Nat) (s:Sd) (a:Option Addr) (len cap:Nat) (bs:Nat→Nat) (w:World) (h:DV w d m g n mx P U s) (hr:Row8 w a len cap bs) (hsn:s.st=4→s.sn+1<4294967296) (ho:s.od<4) (hL:s.L.length<800000) (ht:s.ms.t<9223372036854774000) :
  Calls prog 38 #[aa d 0,.slice a len cap] w fun e w'=>∃ v,e=.returned (.tuple #[v,.int .i64 (aI P mx n s len bs).e])∧Hid (Out U w w' d m g n mx P (aI P mx n s len bs).s (aI P mx n s len bs).f v):=by
 obtain⟨B,x⟩:=id h
 have c11:=x.cells.2.2.2.2.2.2.2.2.2.2.2.1
 unfold aI
 by_cases h6:s.st=6
 ·rw[if_pos h6]
  rw[h6]at c11
  have q:=fX d w c11
  have H:Hid (_):=h
  clear h x hr hsn ho hL ht c11
  go_enter func38,ntmps38
  go_wp2_with (go_at_call 32;refine q.mono ?_;rintro e w' ⟨rfl,hw⟩;have hw:=hw.symm;subst hw)
  go_ret2
  exact⟨_,rfl,Out.none_ (Gr.refl _ _) H.out⟩
 ·rw[if_neg h6]
  have q:=i6 d s.st w c11 h6
  have hH:=pX d m g n mx P U s a len cap bs w h hr hsn h6 ho hL ht
  have hre:=rZ P mx n s len bs
  have hrl:=iL P mx n s len bs
  generalize bi P mx n s len bs=R at *
  have HL:Hid (R.s.L.length<900000):=(by show _<_;omega)
  have HE:Hid (_):=hre
  clear h x hr hsn ho hL ht c11 h6 hrl hre
  by_cases he:R.e≠0∧R.e≠70
  ·rw[if_pos he]
   have e0:(R.e != 0)=true:=by simpa using he.1
   have e7:(R.e != 70)=true:=by simpa using he.2
   have hw:(Lit.int .i64 R.e).wf=true:=lA R.e HE.out.1 HE.out.2
   have hN:∀ U2 w2,DV w2 d m g n mx P U2 R.s→Calls prog 73 #[aa d 0,.int .i64 R.e] w2 fun e w'=>e=.returned (.tuple #[])∧Hid (∃ U',Gr U2 w2 U' w'∧DV w' d m g n mx P U' (fs R.s R.e)):=fun U2 w2 h2=>gG d m g n mx P U2 R.s R.e w2 h2 he.1 hw HL.out
   have HN:Hid (_):=hN
   clear hN hw he
   go_enter func38,ntmps38
   go_wp2_with (first | (go_at_call 32;refine q.mono ?_;rintro e w' ⟨rfl,hw⟩;have hw:=hw.symm;subst hw) | (go_at_call 72;refine hH.mono ?_;rintro e w2 ⟨v,rfl,h2⟩))
   obtain⟨U2,g2,x2,f2,k2⟩:=h2.out
   refine (HN.out U2 w2 x2).mono ?_
   rintro e w3 ⟨rfl,h3⟩
   obtain⟨U3,g3,x3⟩:=h3.out
   have H3:Hid (_):=Out.next g2 f2 k2 g3 x3
   clear hH q h2 g2 x2 f2 k2 h3 g3 x3 HN
   go_wp2_with fail
   go_ret2
   exact⟨v,rfl,H3⟩
  ·rw[if_neg he]
   have he':R.e=0∨R.e=70:=by omega
   clear he
   rcases he' with he | he
   all_goals
    rw[he]at hH ⊢
    go_enter func38,ntmps38
    go_wp2_with (first | (go_at_call 32;refine q.mono ?_;rintro e w' ⟨rfl,hw⟩;have hw:=hw.symm;subst hw) | (go_at_call 72;refine hH.mono ?_;rintro e w2 ⟨v,rfl,h2⟩))
    go_ret2
    exact⟨v,rfl,h2⟩
theorem DX.appd {w w1 w2:World} {d m g n mx:Nat} {P:Pm} {U:List Nat} {s s':Sd} {B:Bk} {A A':Prop} (h:DX w d m g n mx P U s B A) {v:Value} {bs:Nat→Nat} (hb:Below w.heap.size w w1) (ho:w1.ownsRow w.heap.size 5 1 v P.i (CB bs P.i)) (hy:∀ i,i<P.i→bs i<256) (o:Off [d] w1 w2)
  (e:w2.heap[d]?=some (.cells (iw P m mx B.cp B.lb B.db B.vb s' v) 90 (0,0))) (h1:s'.ms=s.ms) (h2:s'.dc=s.dc) (h3:s'.v=s.v) (h4:s'.L=s.L) (h5:s'.ap=bs) (h6:A'→A) :
  ∃ U' B',Gr U w U' w2∧DX w2 d m g n mx P U' s' B' A':=by
 have x1:=h.newd (Off.of_below (l:=[]) hb)
 have hd:=h.dlt
 have hn:∀ k,B.col k≠0→k ∉ [d]:=fun k hk hm=>by simp at hm;rw[hm,h.kd.1]at hk;exact hk rfl
 have hge:∀ k,v.ownBlock=some k→w.heap.size≤k:=fun k hk=>Fr.ge (f:=(P.i,bs)) ho k hk
 have hlt:∀ k,v.ownBlock=some k→k<w1.heap.size:=fun k hk=>Fr.lt (f:=(P.i,bs)) ho k hk
 have hq:∀ k x,B.col k=x∧k ∈ U→(if k<w.heap.size then B.col k else 6)=x∧k ∈ v.ownBlock.toList ++ U:=fun k x hk=>⟨by rw[if_pos (h.ltU k hk.2)];exact hk.1,List.mem_append.2 (.inr hk.2)⟩
 refine⟨v.ownBlock.toList ++ U,{ B with av:=v,col:=fun k=>if k<w.heap.size then B.col k else 6 },⟨(Off.of_below hb).trans (o.more (by simp[h.kd.2])),fun k hk=>?_⟩,?_⟩
 ·rcases List.mem_append.1 hk with hk | hk
  ·exact .inr (hge k (by simpa using hk))
  ·exact .inl hk
 ·refine⟨e,?_,?_,?_,?_,?_,?_,h5 ▸ hy,?_,hq _ _ h.kd,hq _ _ h.km,hq _ _ h.kg,hq _ _ h.kc,hq _ _ h.kb,hq _ _ h.kv,hq _ _ h.kw,fun k hk=>hq _ _ (h.kM k hk),fun k hk=>hq _ _ (h.kl k hk),?_,h.pok,h.n10,h.mx0,h.mxl⟩
  ·rw[h1];exact x1.mem.off o (hn _ (by rw[h.km.1];omega)) (hn _ (by rw[h.kg.1];omega))
  ·intro hs
   obtain⟨c1,c2,c3⟩:=x1.cel (h6 hs)
   rw[h1]
   exact⟨c1,c2.off o (hn _ (by rw[h.kc.1];omega)),c3⟩
  ·rw[h2];exact x1.dog.off o (hn _ (by rw[h.kb.1];omega))
  ·rw[h3];exact x1.val.off o (hn _ (by rw[h.kv.1];omega)) (hn _ (by rw[h.kw.1];omega)) (fun k hk hM=>by simp at hk;subst hk;have:=(h.kM _ hM).1;rw[h.kd.1]at this;omega)
  ·rw[h4];exact x1.log.off o (fun k hk=>hn _ (by rw[(h.kl k hk).1];omega))
  ·rw[h5];exact an (ak ho (Nat.zero_le _)) o (fun k hk=>by have:=hge k hk;simp;omega)
  ·intro k hk
   rcases List.mem_append.1 hk with hk | hk
   ·exact Nat.lt_of_lt_of_le (hlt k (by simpa using hk)) o.size
   ·exact Nat.lt_of_lt_of_le (x1.ltU k hk) o.size
  ·intro k hk
   have:=hge k hk
   exact⟨by show (if k<w.heap.size then _ else 6)=6;rw[if_neg (by omega)],List.mem_append.2 (.inl (by simpa using hk))⟩
theorem kj (d m g n mx:Nat) (P:Pm) (U:List Nat) (s:Sd) (a:Option Addr) (len cap:Nat) (bs:Nat→Nat) (o:Bool) (w:World) (h:DV w d m g n mx P U s) (hr:Row8 w a len cap bs) :
  Calls prog 12 #[aa d 0,.slice a len cap,.bool o] w fun e w'=>e=.returned (.int .i64 (mZ P s len))∧Hid (∃ U',Gr U w U' w'∧DV w' d m g n mx P U' (eG P s len bs o)):=by
 obtain⟨B,x⟩:=id h
 have c11:=x.cells.2.2.2.2.2.2.2.2.2.2.2.1
 have c2:=x.cells.2.2.1
 unfold mZ eG
 by_cases h6:s.st=6
 ·rw[if_pos h6,if_pos h6]
  rw[h6]at c11
  have q:=fX d w c11
  have H:Hid (_):=h
  clear h x c2 c11 h6 hr
  go_enter func12,ntmps12
  go_wp2_with (go_at_call 32;refine q.mono ?_;rintro e w' ⟨rfl,hw⟩;have hw:=hw.symm;subst hw)
  go_ret
  exact⟨rfl,U,Gr.refl _ _,H.out⟩
 ·rw[if_neg h6,if_neg h6]
  have q:=i6 d s.st w c11 h6
  by_cases hl:len=P.i
  ·subst hl
   rw[if_pos rfl,if_pos rfl]
   obtain⟨i0,hi,hz0,hz1,hz2⟩:=info_parts aS
   have O0:w.ownsRow w.heap.size 5 1 (.slice none 0 0) 0 []:=World.ownsRow_nil w _ _ _
   have hi8:=x.pok.i8
   have hdl:=x.dlt
   have HX:Hid (_):=And.intro x hr.byte
   clear h x c11 h6
   go_enter func12,ntmps12
   go_wp2_with (first | (go_at_call 32;refine q.mono ?_;rintro e w' ⟨rfl,hw⟩;have hw:=hw.symm;subst hw) | (at_builtin;refine ae rfl (.const (.slice none 0 0)) (.tmp 23) 43 rfl w.heap.size 5 i0 (.int .u8 0) underlying43 hi hz0 hz1 hz2 rfl _ 0 _ rfl O0 a P.i cap bs rfl hr (by unfold maxLen;omega) (by omega) (Nat.le_refl _) ?_))
   intro v2 w2 hown2 hgrow2
   have hbel2:Below w.heap.size w w2:=(Below.refl _ _).grown hgrow2 (Nat.le_refl _) (fun j hj=>by cases hj)
   obtain⟨a2,k2,rfl,_⟩:=aO hown2 HX.out.2
   have x2:=HX.out.1.newd (Off.of_below hbel2)
   have y16:=x2.cells.2.2.2.2.2.2.2.2.2.2.2.2.2.2.2.2.1
   have y17:=x2.cells.2.2.2.2.2.2.2.2.2.2.2.2.2.2.2.2.2
   have f16:=x2.fz 16
   have f17:=x2.fz 17
   have H2:Hid (_):=And.intro hown2 (And.intro hbel2 x2)
   clear hown2 hbel2 hgrow2 O0 hr x2 q c2
   go_wp2_with fail
   go_ret
   obtain⟨h1,h2,x2⟩:=H2.out
   have e1:(w2.setCell ⟨d,16,none⟩ (.slice a2 P.i k2)).heap[d]?=some (.cells (iw P m mx B.cp B.lb B.db B.vb s (.slice a2 P.i k2)) 90 (0,0)):=heap_setCell_same _ _ _ _ _ _ x2.dev
   have e2:((w2.setCell ⟨d,16,none⟩ (.slice a2 P.i k2)).setCell ⟨d,17,none⟩ (.bool o)).heap[d]?=some (.cells (iw P m mx B.cp B.lb B.db B.vb { s with ap:=bs,hd:=o } (.slice a2 P.i k2)) 90 (0,0)):=heap_setCell_same _ _ _ _ _ _ e1
   obtain⟨U3,B3,g3,x3⟩:=HX.out.1.appd (s':={ s with ap:=bs,hd:=o }) (A':=s.st≠6) h2 h1 HX.out.2 ((Off.setCell d 16 w2 (.slice a2 P.i k2)).trans (Off.setCell d 17 _ (.bool o))) e2 rfl rfl rfl rfl rfl id
   exact⟨rfl,U3,g3,B3,x3⟩
  ·rw[if_neg hl,if_neg hl]
   have el:((len:Int) != (P.i:Int))=true:=by simp;omega
   have H:Hid (_):=h
   clear h x c11 h6 hr hl
   go_enter func12,ntmps12
   go_wp2_with (go_at_call 32;refine q.mono ?_;rintro e w' ⟨rfl,hw⟩;have hw:=hw.symm;subst hw)
   go_ret
   exact⟨rfl,U,Gr.refl _ _,H.out⟩
open Go.RowKit Go.Maps
theorem cw {P:Program} {md:Region.Mode} {ops:Array Oper} {Q:Exit→Act→World→Prop} {S:World→Prop} {fuel:Nat} {l:Array Bool} {a:Act} {w:World} {i:Nat} {o:Oper} (f:FuncId) (args:Array Value) (hr:Region.ready md ops l=[i]) (ho:ops[i]?=some o)
  (hw:Region.wanted o (yielded ops a.tmps)=true) (hrun:(execOp a.eval o).run P w=.ok (.enter f args) w)
  (hc:Calls P f args w fun e w''=>∃ v,e=.returned v∧(S w''∧wpAnyH P md ops Q S fuel (l.setIfInBounds i true) (a.put o.dst v) w'')):wpAnyH P md ops Q S (fuel+1) l a w:=
 wpAnyH_all hr (by simp) (fun j hj=>by
  obtain rfl:=List.mem_singleton.1 hj
  exact py f args ho hw hrun hc)
theorem dQ {P:Program} {md:Region.Mode} {ops:Array Oper} {Q:Exit→Act→World→Prop} {S:World→Prop} {fuel:Nat} {l:Array Bool} {a:Act} {w:World} {i:Nat} {o:Oper} (w':World) (hr:Region.ready md ops l=[i]) (ho:ops[i]?=some o)
  (hw:Region.wanted o (yielded ops a.tmps)=true) (hrun:(execOp a.eval o).run P w=.ok .skip w') (hS:S w')
  (h:wpAnyH P md ops Q S fuel (l.setIfInBounds i true) (a.put o.dst undef) w'):wpAnyH P md ops Q S (fuel+1) l a w:=
 wpAnyH_all hr (by simp) (fun j hj=>by
  obtain rfl:=List.mem_singleton.1 hj
  unfold wpOp
  simp only[ho,hw,if_true]
  refine .inl ?_
  unfold Oper.wp
  rw[hrun]
  exact⟨hS,h⟩)
theorem aC {P:Program} {md:Region.Mode} {ops:Array Oper} {Q:Exit→Act→World→Prop} {S:World→Prop} {fuel:Nat} {l l':Array Bool} {a a':Act} {w:World} (ha:a=a') (hl:l=l') (h:wpAnyH P md ops Q S fuel l' a' w):wpAnyH P md ops Q S fuel l a w:=by rw[ha,hl];exact h
end Go.Proofs.YtdpahjfekoikiaaGreat
