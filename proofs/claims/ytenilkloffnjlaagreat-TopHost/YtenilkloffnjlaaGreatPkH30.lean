/- Part 31: contracts that the proof rests on. -/
import Derived.Test.YtenilkloffnjlaaGreatPkH29
set_option maxHeartbeats 64000000
set_option maxRecDepth 100000
namespace Go.Proofs.YtenilkloffnjlaaGreat
open Tryz
open Go.RowKit
theorem po (P:Pm) (s:Sh) (k c ss num len:Nat) (bs:Nat→Nat):0≤gh P s k c ss num len bs∧gh P s k c ss num len bs≤200:=by
 unfold gh jN
 split
 ·omega
 ·split
  ·omega
  ·split
   ·split
    ·omega
    ·split <;> omega
   ·split <;> omega
theorem rr {P:Pm} {s:Sh} {k c ss num len:Nat} {bs:Nat→Nat} (h:gh P s k c ss num len bs=0):(17≤k∧k≤22)∧(k=20→len=P.i):=by
 unfold gh jN at h
 by_cases hK:fE (k:Int)=false
 ·rw[if_pos hK]at h;omega
 ·rw[if_neg hK]at h
  have hK':fE (k:Int)=true:=by simpa using hK
  have hk:17≤k∧k≤22:=by unfold fE at hK';simp at hK';omega
  refine⟨hk,fun e=>?_⟩
  by_cases hC:c=P.c
  ·rw[if_neg (by omega)]at h
   by_cases h1:s.st=1
   ·rw[if_pos h1,if_pos (.inl (by omega))]at h;omega
   ·rw[if_neg h1]at h
    by_cases hw:ss≠s.ss∨bY P s k num len=false
    ·rw[if_pos hw]at h;omega
    ·have hw':bY P s k num len=true:=by
      cases hq:bY P s k num len
      ·exact absurd (.inr hq) hw
      ·rfl
     unfold bY at hw'
     simp at hw'
     omega
  ·rw[if_pos hC]at h;omega
theorem nE (d:Nat) (P:Pm) (U:List Nat) (s:Sh) (a:Option Addr) (len cap:Nat) (bs:Nat→Nat) (w:World) (h:HV w d P U s) (hr:Row8 w a len cap bs) (hL:s.L.length<800000) :
  Calls prog 108 #[ac d 0,.slice a len cap] w fun e w'=>e=.returned (.int .i64 (cP P s len bs))∧Hid (∃ U',Gr U w U' w'∧HV w' d P U' (bu P s len bs)):=by
 have hNote:∀ (x:Int) (wx:World),x≠0→0≤x→x≤200→HV wx d P U s→Calls prog 138 #[ac d 0,.int .i64 x] wx fun e w'=>e=.returned (.tuple #[])∧Hid (∃ U',Gr U wx U' w'∧HV w' d P U' (eX s x)):=fun x wx h0 h1 h2 hx=>ml d P U s x wx hx h0 (qD x h1 h2) (by omega)
 unfold bu cP
 by_cases hE:DE bs len=0
 ·rw[if_neg (by omega)]
  have hD:=gP a len cap bs w hr hE
  obtain⟨_,_,_,hLW⟩:=gN hE
  obtain⟨_,_,_,_,hf1⟩:=fO hLW
  have hby:∀ i,i<len→bs i<256:=hr.byte
  have hRg:=po P s (bs 0) (aC bs 1) (aC bs 5) (aC bs 9) (len-19) (fun i=>bs (15+i))
  have hZ:=rr (P:=P) (s:=s) (k:=bs 0) (c:=aC bs 1) (ss:=aC bs 5) (num:=aC bs 9) (len:=len-19) (bs:=fun i=>bs (15+i))
  have hRf:=fun (w2:World) (a2:Option Addr) (c2:Nat) (ho:w2.ownsRow w.heap.size 5 1 (.slice a2 (len-19) c2) (len-19) (CB (fun i=>bs (15+i)) (len-19))) (wx:World) (hx:Below w2.heap.size w2 wx) (hw:Below w.heap.size w w2)=>nF d P U s (bs 0) (aC bs 1) (aC bs 5) (aC bs 9) (bs 13) a2 (len-19) c2 (fun i=>bs (15+i)) wx (HV.below h (hw.trans (hx.mono hw.size))) ((iC ho (fun i hi=>hby _ (by omega))).below hx)
  have HH:Hid (_):=And.intro h (And.intro hL (And.intro hby (And.intro hf1 (And.intro hRg hZ))))
  have HR:Hid (_):=hRf
  have HN:Hid (_):=hNote
  clear h hr hL hE hLW hf1 hby hRg hZ hRf hNote
  generalize gh P s (bs 0) (aC bs 1) (aC bs 5) (aC bs 9) (len-19) (fun i=>bs (15+i))=E at *
  by_cases hz:E=0
  ·subst hz
   rw[if_neg (by simp)]
   go_enter func108,ntmps108
   go_wp2_with fail
   refine hD.mono ?_
   rintro e w2 ⟨a2,c2,rfl,h2⟩
   have b3:Below w2.heap.size w2 (w2.alloc (.cells #[.int .i64 (bs 0:Nat),.int .u32 (aC bs 1:Nat),.int .u32 (aC bs 5:Nat),.int .u32 (aC bs 9:Nat),.int .i64 (bs 13:Nat),.slice a2 (len-19) c2] 50)):=(Below.refl _ _).alloc (Nat.le_refl _) _
   have x3:=aB w2 (.cells #[.int .i64 (bs 0:Nat),.int .u32 (aC bs 1:Nat),.int .u32 (aC bs 5:Nat),.int .u32 (aC bs 9:Nat),.int .i64 (bs 13:Nat),.slice a2 (len-19) c2] 50)
   have l3:w2.heap.size < (w2.alloc (.cells #[.int .i64 (bs 0:Nat),.int .u32 (aC bs 1:Nat),.int .u32 (aC bs 5:Nat),.int .u32 (aC bs 9:Nat),.int .i64 (bs 13:Nat),.slice a2 (len-19) c2] 50)).heap.size:=by rw[World.size_alloc];omega
   have hRf:=HR.out w2 a2 c2 h2.out.1 _ b3 h2.out.2
   have H3:Hid (_):=And.intro b3 (And.intro x3 (And.intro l3 h2.out))
   clear hD b3 x3 l3 h2 HR
   go_wp2_with fail
   refine hRf.mono ?_
   rintro e w4 ⟨rfl,b4⟩
   obtain⟨b3,x3,l3,o2,b2⟩:=H3.out
   have b24:=b3.trans (b4.mono b3.size)
   have b04:=b2.trans (b24.mono b2.size)
   have e4:=(b4.block w2.heap.size l3).trans x3
   have u0:w4.cell? ⟨w2.heap.size,0,none⟩=some (.int .i64 (bs 0:Nat)):=ae w4 _ 0 _ _ _ e4
   have u1:w4.cell? ⟨w2.heap.size,1,none⟩=some (.int .u32 (aC bs 1:Nat)):=ae w4 _ 1 _ _ _ e4
   have u2:w4.cell? ⟨w2.heap.size,2,none⟩=some (.int .u32 (aC bs 5:Nat)):=ae w4 _ 2 _ _ _ e4
   have u3:w4.cell? ⟨w2.heap.size,3,none⟩=some (.int .u32 (aC bs 9:Nat)):=ae w4 _ 3 _ _ _ e4
   have u4:w4.cell? ⟨w2.heap.size,4,none⟩=some (.int .i64 (bs 13:Nat)):=ae w4 _ 4 _ _ _ e4
   have u5:w4.cell? ⟨w2.heap.size,5,none⟩=some (.slice a2 (len-19) c2):=ae w4 _ 5 _ _ _ e4
   obtain⟨h,hL,hby,hf1,hRg,hZ⟩:=HH.out
   obtain⟨hk,hlen⟩:=hZ trivial
   have hT:=tP d P U s (bs 0) (aC bs 1) (aC bs 5) (aC bs 9) (bs 13) a2 (len-19) c2 (fun i=>bs (15+i)) w4 (HV.below h b04) ((iC o2 (fun i hi=>hby _ (by omega))).below b24) (fun x hx=>⟨Nat.lt_of_lt_of_le (nL o2 x hx).2 b24.size,fun hm=>by have:=(nL o2 x hx).1;have:=HV.ult h _ hm;omega⟩) hk (by omega) hlen (by omega)
   have H4:Hid (_):=b04
   clear hRf b4 b3 x3 l3 o2 b2 b24 b04 e4 h hL hby hf1 hRg hZ hk hlen HH H3 HN
   go_wp2_with fail
   refine hT.mono ?_
   rintro e w5 ⟨rfl,h5⟩
   obtain⟨U5,g5,x5⟩:=h5.out
   have H5:Hid (_):=And.intro ((Gr.below (U:=U) H4.out).trans g5) x5
   clear hT h5 g5 x5 H4 u0 u1 u2 u3 u4 u5
   go_wp2_with fail
   go_ret
   exact⟨rfl,U5,H5.out.1,H5.out.2⟩
  ·rw[if_pos hz]
   have e1:(E != 0)=true:=by simpa using hz
   have HZ:Hid (_):=hz
   clear hz
   go_enter func108,ntmps108
   go_wp2_with fail
   refine hD.mono ?_
   rintro e w2 ⟨a2,c2,rfl,h2⟩
   have b3:Below w2.heap.size w2 (w2.alloc (.cells #[.int .i64 (bs 0:Nat),.int .u32 (aC bs 1:Nat),.int .u32 (aC bs 5:Nat),.int .u32 (aC bs 9:Nat),.int .i64 (bs 13:Nat),.slice a2 (len-19) c2] 50)):=(Below.refl _ _).alloc (Nat.le_refl _) _
   have x3:=aB w2 (.cells #[.int .i64 (bs 0:Nat),.int .u32 (aC bs 1:Nat),.int .u32 (aC bs 5:Nat),.int .u32 (aC bs 9:Nat),.int .i64 (bs 13:Nat),.slice a2 (len-19) c2] 50)
   have l3:w2.heap.size < (w2.alloc (.cells #[.int .i64 (bs 0:Nat),.int .u32 (aC bs 1:Nat),.int .u32 (aC bs 5:Nat),.int .u32 (aC bs 9:Nat),.int .i64 (bs 13:Nat),.slice a2 (len-19) c2] 50)).heap.size:=by rw[World.size_alloc];omega
   have hRf:=HR.out w2 a2 c2 h2.out.1 _ b3 h2.out.2
   have H3:Hid (_):=And.intro b3 (And.intro x3 (And.intro l3 h2.out))
   clear hD b3 x3 l3 h2 HR
   go_wp2_with fail
   refine hRf.mono ?_
   rintro e w4 ⟨rfl,b4⟩
   obtain⟨b3,x3,l3,o2,b2⟩:=H3.out
   have b24:=b3.trans (b4.mono b3.size)
   have b04:=b2.trans (b24.mono b2.size)
   have hN:=HN.out E _ HZ.out HH.out.2.2.2.2.1.1 HH.out.2.2.2.2.1.2 (HV.below HH.out.1 b04)
   have H4:Hid (_):=b04
   clear hRf b4 b3 x3 l3 o2 b2 b24 b04 HH H3 HN HZ
   go_wp2_with fail
   refine hN.mono ?_
   rintro e w5 ⟨rfl,h5⟩
   obtain⟨U5,g5,x5⟩:=h5.out
   have H5:Hid (_):=And.intro ((Gr.below (U:=U) H4.out).trans g5) x5
   clear hN h5 g5 x5 H4
   go_wp2_with fail
   go_ret
   exact⟨rfl,U5,H5.out.1,H5.out.2⟩
 ·rw[if_pos hE,if_pos hE]
  have hD:=gO a len cap bs w hr hE
  have hRg:=uD bs len
  have e0:(DE bs len == 0)=false:=by simpa using hE
  have e1:(DE bs len != 0)=true:=by simpa using hE
  have HH:Hid (_):=And.intro h (And.intro hE hRg)
  have HN:Hid (_):=hNote
  clear h hr hL hE hRg hNote
  generalize DE bs len=E at *
  go_enter func108,ntmps108
  go_wp2_with fail
  refine hD.mono ?_
  rintro e w2 ⟨rfl,b2⟩
  have b3:Below w.heap.size w (w2.alloc (.cells bH 50)):=b2.alloc b2.size _
  have hN:=HN.out E _ HH.out.2.1 HH.out.2.2.1 (by have:=HH.out.2.2.2;omega) (HV.below HH.out.1 b3)
  have H3:Hid (_):=b3
  clear hD b2 b3 HN HH
  go_wp2_with fail
  refine hN.mono ?_
  rintro e w4 ⟨rfl,h4⟩
  obtain⟨U4,g4,x4⟩:=h4.out
  have H4:Hid (_):=And.intro ((Gr.below (U:=U) H3.out).trans g4) x4
  clear hN h4 g4 x4 H3
  go_wp2_with fail
  go_ret
  exact⟨rfl,U4,H4.out.1,H4.out.2⟩
theorem tQ (d:Nat) (P:Pm) (U:List Nat) (s:Sh) (k:Int) (w:World) (h:HV w d P U s) (hk:k≤9223372036854775807) (hL:s.L.length<800000) :
  Calls prog 257 #[ac d 0,.int .i64 k] w fun e w'=>e=.returned (.int .i64 (eY k))∧Hid (∃ U',Gr U w U' w'∧HV w' d P U' (dP P s k)):=by
 obtain⟨B,x⟩:=id h
 have c6:=x.c6
 unfold eY dP
 by_cases hn:k<0
 ·rw[if_pos hn,if_pos hn]
  have qT:=lJ k B.db w hn
  have H:Hid (_):=h
  clear h x
  go_enter func257,ntmps257
  go_wp2_with (go_at_call 260;refine qT.mono ?_;rintro e w' ⟨rfl,hw⟩;have hw:=hw.symm;subst hw)
  go_ret
  exact⟨rfl,U,Gr.refl _ _,H.out⟩
 ·rw[if_neg hn,if_neg hn]
  obtain⟨j,rfl⟩:∃ j:Nat,k=(j:Int):=⟨k.toNat,by omega⟩
  rw[show (j:Int).toNat=j from rfl]
  have qT:=lI P.t s.dc j B.db w x.dog (by omega)
  have HX':Hid (_):=x
  have HL:Hid (_):=hL
  clear h x hn hk hL
  cases ht:lW P.t s.dc j
  ·rw[if_neg (by simp)]
   rw[ht]at qT
   go_enter func257,ntmps257
   go_wp2_with (go_at_call 260;refine qT.mono ?_;rintro e w2 ⟨rfl,o2,d2⟩;have H2:Hid (_):=And.intro (Gr.same (U:=U) o2 (by simp[HX'.out.kb.2])) (HX'.out.dogd o2 d2);clear o2 d2)
   go_ret
   exact⟨rfl,U,H2.out.1,B,H2.out.2⟩
  ·rw[if_pos rfl]
   rw[ht]at qT
   go_enter func257,ntmps257
   go_wp2_with (go_at_call 260;refine qT.mono ?_;rintro e w2 ⟨rfl,o2,d2⟩;have H2:Hid (_):=And.intro (Gr.same (U:=U) o2 (by simp[HX'.out.kb.2])) (HX'.out.dogd o2 d2);clear o2 d2)
   refine (ix d P U { s with dc:=tk P.t s.dc j } 100 w2 ⟨B,H2.out.2⟩ (by omega) (by decide) (by have:=HL.out;show s.L.length<900000;omega)).mono ?_
   rintro e w3 ⟨rfl,h3⟩
   clear qT
   go_wp2_with fail
   go_ret
   obtain⟨U3,g3,x3⟩:=h3.out
   exact⟨rfl,U3,H2.out.1.trans g3,x3⟩
theorem vw (d:Nat) (P:Pm) (U:List Nat) (s:Sh) (w:World) (h:HV w d P U s) :
  Calls prog 256 #[ac d 0] w fun e w'=>e=.returned (.int .i64 (gy s))∧Hid (∃ U',Gr U w U' w'∧HV w' d P U' (jL s)):=by
 obtain⟨B,x⟩:=id h
 have c7:=x.c7
 unfold gy jL
 have qA:=qx _ _ _ _ _ _ x.val
 have HX':Hid (_):=x
 clear h x
 go_enter func256,ntmps256
 go_wp2_with (go_at_call 259;refine qA.mono ?_;rintro e w2 ⟨rfl,h2⟩)
 go_ret
 obtain⟨U2,B2,g2,x2⟩:=HX'.out.vals h2.out.1 h2.out.2
 exact⟨rfl,U2,g2,B2,x2⟩
theorem HX.appd {w w1 w2:World} {d:Nat} {P:Pm} {U:List Nat} {s s':Sh} {B:Bh} (h:HX w d P U s B) {v:Value} {bs:Nat→Nat} (hb:Below w.heap.size w w1) (ho:w1.ownsRow w.heap.size 5 1 v P.o (CB bs P.o)) (hy:∀ i,i<P.o→bs i<256) (o:Off [d] w1 w2)
  (e:w2.heap[d]?=some (.cells (jf P B.lb B.db B.vb s' v) 141 (0,0))) (h2:s'.dc=s.dc) (h3:s'.v=s.v) (h4:s'.L=s.L) (h5:s'.ap=bs) :
  ∃ U' B',Gr U w U' w2∧HX w2 d P U' s' B':=by
 have x1:=h.newd (Off.of_below (l:=[]) hb)
 have hd:=h.dlt
 have hn:∀ k,B.col k≠0→k ∉ [d]:=fun k hk hm=>by simp at hm;rw[hm,h.kd.1]at hk;exact hk rfl
 have hge:∀ k,v.ownBlock=some k→w.heap.size≤k:=fun k hk=>Fr.ge (f:=(P.o,bs)) ho k hk
 have hlt:∀ k,v.ownBlock=some k→k<w1.heap.size:=fun k hk=>Fr.lt (f:=(P.o,bs)) ho k hk
 have hq:∀ k x,B.col k=x∧k ∈ U→(if k<w.heap.size then B.col k else 6)=x∧k ∈ v.ownBlock.toList ++ U:=fun k x hk=>⟨by rw[if_pos (h.ltU k hk.2)];exact hk.1,List.mem_append.2 (.inr hk.2)⟩
 refine⟨v.ownBlock.toList ++ U,{ B with av:=v,col:=fun k=>if k<w.heap.size then B.col k else 6 },⟨(Off.of_below hb).trans (o.more (by simp[h.kd.2])),fun k hk=>?_⟩,?_⟩
 ·rcases List.mem_append.1 hk with hk | hk
  ·exact .inr (hge k (by simpa using hk))
  ·exact .inl hk
 ·refine⟨e,?_,?_,?_,?_,h5 ▸ hy,?_,hq _ _ h.kd,hq _ _ h.kb,hq _ _ h.kv,hq _ _ h.kw,fun k hk=>hq _ _ (h.kM k hk),fun k hk=>hq _ _ (h.kl k hk),?_,h.pok⟩
  ·rw[h2];exact x1.dog.off o (hn _ (by rw[h.kb.1];omega))
  ·rw[h3];exact x1.val.off o (hn _ (by rw[h.kv.1];omega)) (hn _ (by rw[h.kw.1];omega)) (fun k hk hM=>by simp at hk;subst hk;have:=(h.kM _ hM).1;rw[h.kd.1]at this;omega)
  ·rw[h4];exact x1.log.off o (fun k hk=>hn _ (by rw[(h.kl k hk).1];omega))
  ·rw[h5];exact aO (aS ho (Nat.zero_le _)) o (fun k hk=>by have:=hge k hk;simp;omega)
  ·intro k hk
   rcases List.mem_append.1 hk with hk | hk
   ·exact Nat.lt_of_lt_of_le (hlt k (by simpa using hk)) o.size
   ·exact Nat.lt_of_lt_of_le (x1.ltU k hk) o.size
  ·intro k hk
   have:=hge k hk
   exact⟨by show (if k<w.heap.size then _ else 6)=6;rw[if_neg (by omega)],List.mem_append.2 (.inl (by simpa using hk))⟩
theorem rx (d:Nat) (P:Pm) (U:List Nat) (s:Sh) (a:Option Addr) (len cap:Nat) (bs:Nat→Nat) (o:Bool) (w:World) (h:HV w d P U s) (hr:Row8 w a len cap bs) :
  Calls prog 258 #[ac d 0,.slice a len cap,.bool o] w fun e w'=>e=.returned (.int .i64 (gX P len))∧Hid (∃ U',Gr U w U' w'∧HV w' d P U' (di P s len bs o)):=by
 obtain⟨B,x⟩:=id h
 have c1:=x.c1
 unfold gX di
 by_cases hl:len=P.o
 ·subst hl
  rw[if_pos rfl,if_pos rfl]
  obtain⟨i0,hi,hz0,hz1,hz2⟩:=info_parts cq
  have O0:w.ownsRow w.heap.size 5 1 (.slice none 0 0) 0 []:=World.ownsRow_nil w _ _ _
  have hi8:=x.pok.o8
  have hdl:=x.dlt
  have HX':Hid (_):=And.intro x hr.byte
  clear h x
  go_enter func258,ntmps258
  go_wp2_with (at_builtin;refine aP rfl (.const (.slice none 0 0)) (.tmp 19) 37 rfl w.heap.size 5 i0 (.int .u8 0) underlying37 hi hz0 hz1 hz2 rfl _ 0 _ rfl O0 a P.o cap bs rfl hr (by unfold maxLen;omega) (by omega) (Nat.le_refl _) ?_)
  intro v2 w2 hown2 hgrow2
  have hbel2:Below w.heap.size w w2:=(Below.refl _ _).grown hgrow2 (Nat.le_refl _) (fun j hj=>by cases hj)
  obtain⟨a2,k2,rfl,_⟩:=aY hown2 HX'.out.2
  have x2:=HX'.out.1.newd (Off.of_below hbel2)
  have y14:=x2.c14
  have y15:=x2.c15
  have f14:=x2.fz 14
  have f15:=x2.fz 15
  have H2:Hid (_):=And.intro hown2 (And.intro hbel2 x2)
  clear hown2 hbel2 hgrow2 O0 hr x2 c1
  go_wp2_with fail
  go_ret
  obtain⟨h1,h2,x2⟩:=H2.out
  have e1:(w2.setCell ⟨d,14,none⟩ (.slice a2 P.o k2)).heap[d]?=some (.cells (jf P B.lb B.db B.vb s (.slice a2 P.o k2)) 141 (0,0)):=heap_setCell_same _ _ _ _ _ _ x2.dev
  have e2:((w2.setCell ⟨d,14,none⟩ (.slice a2 P.o k2)).setCell ⟨d,15,none⟩ (.bool o)).heap[d]?=some (.cells (jf P B.lb B.db B.vb { s with ap:=bs,hd:=o } (.slice a2 P.o k2)) 141 (0,0)):=heap_setCell_same _ _ _ _ _ _ e1
  obtain⟨U3,B3,g3,x3⟩:=HX'.out.1.appd (s':={ s with ap:=bs,hd:=o }) h2 h1 HX'.out.2 ((Off.setCell d 14 w2 (.slice a2 P.o k2)).trans (Off.setCell d 15 _ (.bool o))) e2 rfl rfl rfl rfl
  exact⟨rfl,U3,g3,B3,x3⟩
 ·rw[if_neg hl,if_neg hl]
  have el:((len:Int) != (P.o:Int))=true:=by simp;omega
  have H:Hid (_):=h
  clear h x hr hl
  go_enter func258,ntmps258
  go_wp2_with fail
  go_ret
  exact⟨rfl,U,Gr.refl _ _,H.out⟩
theorem HX.lived {w w1 w2:World} {d:Nat} {P:Pm} {U:List Nat} {s:Sh} {B:Bh} (h:HX w d P U s B) {db vb vg ga:Nat} (q:NL w w1 (sw P) db vb vg ga) (o:Off [d] w1 w2)
  (e:w2.heap[d]?=some (.cells (jf P B.lb db vb (eW s) (.slice (af ga 0) P.o P.o)) 141 (0,0))) :
  ∃ U' B',Gr U w U' w2∧HX w2 d P U' (eW s) B':=by
 obtain⟨q1,q2,q3,q4,q5,q6,q7,q8,q9,q10⟩:=q
 have hd:=h.dlt
 have hq:∀ k x,B.col k=x∧k ∈ U→(if k<w.heap.size then B.col k else if k=db then 3 else if k=vb∨k=vg then 4 else 6)=x∧k ∈ [db,vb,vg,ga] ++ U:=fun k x hk=>⟨by rw[if_pos (h.ltU k hk.2)];exact hk.1,List.mem_append.2 (.inr hk.2)⟩
 have hn:∀ k,B.col k≠0→k ∉ [d]:=fun k hk hm=>by simp at hm;rw[hm,h.kd.1]at hk;exact hk rfl
 have h1:=h.newd (Off.of_below (l:=[]) q4)
 refine⟨[db,vb,vg,ga] ++ U,{ B with db:=db,vb:=vb,vg:=vg,M:=[],av:=.slice (af ga 0) P.o P.o,col:=fun k=>if k<w.heap.size then B.col k else if k=db then 3 else if k=vb∨k=vg then 4 else 6 },⟨?_,?_⟩,?_⟩
 ·exact (Off.of_below q4).trans (o.more (by simp[h.kd.2]))
 ·intro k hk
  rcases List.mem_append.1 hk with hk | hk
  ·simp at hk;right;omega
  ·exact .inl hk
 ·refine⟨e,q1.off o (by simp;omega),q2.off o (by simp;omega) (by simp;omega) (by simp),h1.log.off o (fun k hk=>hn _ (by rw[(h.kl k hk).1];omega)),?_,fun _ _=>by show 0<256;omega,?_,hq _ _ h.kd,?_,?_,?_,fun k hk=>(by simp at hk),fun k hk=>hq _ _ (h.kl k hk),?_,h.pok⟩
  ·refine aO (aS q3 (Nat.zero_le _)) o (fun k hk=>?_)
   cases hk
   simp;omega
  ·intro k hk
   have so:=o.size
   rcases List.mem_append.1 hk with hk | hk
   ·simp at hk;omega
   ·exact Nat.lt_of_lt_of_le (h1.ltU k hk) so
  ·exact⟨by show (if db<w.heap.size then _ else if db=db then 3 else _)=3;rw[if_neg (by omega),if_pos rfl],by simp⟩
  ·exact⟨by show (if vb<w.heap.size then _ else if vb=db then 3 else if vb=vb∨vb=vg then 4 else 6)=4;rw[if_neg (by omega),if_neg (by omega),if_pos (.inl rfl)],by simp⟩
  ·exact⟨by show (if vg<w.heap.size then _ else if vg=db then 3 else if vg=vb∨vg=vg then 4 else 6)=4;rw[if_neg (by omega),if_neg (by omega),if_pos (.inr rfl)],by simp⟩
  ·intro k hk
   cases hk
   exact⟨by show (if ga<w.heap.size then _ else if ga=db then 3 else if ga=vb∨ga=vg then 4 else 6)=6;rw[if_neg (by omega),if_neg (by omega),if_neg (by omega)],by simp⟩
theorem acf (b:Nat) (w:World) (x0 x1 x2 x3 x4 x5 x6 x7 x8 x9:Value):Off [b] w ((((((((((w.setCell ⟨b,6,none⟩ x0).setCell ⟨b,7,none⟩ x1).setCell ⟨b,8,none⟩ x2).setCell ⟨b,9,none⟩ x3).setCell ⟨b,10,none⟩ x4).setCell ⟨b,11,none⟩ x5).setCell ⟨b,12,none⟩ x6).setCell ⟨b,13,none⟩ x7).setCell ⟨b,14,none⟩ x8).setCell ⟨b,15,none⟩ x9):=
 (((((((((Off.setCell b 6 w x0).trans (Off.setCell b 7 _ x1)).trans (Off.setCell b 8 _ x2)).trans (Off.setCell b 9 _ x3)).trans (Off.setCell b 10 _ x4)).trans (Off.setCell b 11 _ x5)).trans (Off.setCell b 12 _ x6)).trans (Off.setCell b 13 _ x7)).trans (Off.setCell b 14 _ x8)).trans (Off.setCell b 15 _ x9)
theorem zy {w:World} {d lb db vb db' vb':Nat} {P:Pm} {av av':Value} {s:Sh} (e:w.heap[d]?=some (.cells (jf P lb db vb s av) 141 (0,0))) :
  ((((((((((w.setCell ⟨d,6,none⟩ (ac db' 0)).setCell ⟨d,7,none⟩ (ac vb' 0)).setCell ⟨d,8,none⟩ (.int .i64 1)).setCell ⟨d,9,none⟩ (.int .u32 0)).setCell ⟨d,10,none⟩ (.int .u32 0)).setCell ⟨d,11,none⟩ (.int .u32 0)).setCell ⟨d,12,none⟩ (.bool false)).setCell ⟨d,13,none⟩ (.int .i64 0)).setCell ⟨d,14,none⟩ (av')).setCell ⟨d,15,none⟩ (.bool false)).heap[d]?=some (.cells (jf P lb db' vb' (eW s) av') 141 (0,0)):=by
 have e0:(w.setCell ⟨d,6,none⟩ (ac db' 0)).heap[d]?=some (.cells (jf P lb db' vb s av) 141 (0,0)):=heap_setCell_same _ _ _ _ _ _ e
 have e1:((w.setCell ⟨d,6,none⟩ (ac db' 0)).setCell ⟨d,7,none⟩ (ac vb' 0)).heap[d]?=some (.cells (jf P lb db' vb' s av) 141 (0,0)):=heap_setCell_same _ _ _ _ _ _ e0
 have e2:(((w.setCell ⟨d,6,none⟩ (ac db' 0)).setCell ⟨d,7,none⟩ (ac vb' 0)).setCell ⟨d,8,none⟩ (.int .i64 1)).heap[d]?=some (.cells (jf P lb db' vb' { s with st:=1 } av) 141 (0,0)):=heap_setCell_same _ _ _ _ _ _ e1
 have e3:((((w.setCell ⟨d,6,none⟩ (ac db' 0)).setCell ⟨d,7,none⟩ (ac vb' 0)).setCell ⟨d,8,none⟩ (.int .i64 1)).setCell ⟨d,9,none⟩ (.int .u32 0)).heap[d]?=some (.cells (jf P lb db' vb' { s with st:=1,ss:=0 } av) 141 (0,0)):=heap_setCell_same _ _ _ _ _ _ e2
 have e4:(((((w.setCell ⟨d,6,none⟩ (ac db' 0)).setCell ⟨d,7,none⟩ (ac vb' 0)).setCell ⟨d,8,none⟩ (.int .i64 1)).setCell ⟨d,9,none⟩ (.int .u32 0)).setCell ⟨d,10,none⟩ (.int .u32 0)).heap[d]?=some (.cells (jf P lb db' vb' { s with st:=1,ss:=0,nm:=0 } av) 141 (0,0)):=heap_setCell_same _ _ _ _ _ _ e3
 have e5:((((((w.setCell ⟨d,6,none⟩ (ac db' 0)).setCell ⟨d,7,none⟩ (ac vb' 0)).setCell ⟨d,8,none⟩ (.int .i64 1)).setCell ⟨d,9,none⟩ (.int .u32 0)).setCell ⟨d,10,none⟩ (.int .u32 0)).setCell ⟨d,11,none⟩ (.int .u32 0)).heap[d]?=some (.cells (jf P lb db' vb' { s with st:=1,ss:=0,nm:=0,sn:=0 } av) 141 (0,0)):=heap_setCell_same _ _ _ _ _ _ e4
 have e6:(((((((w.setCell ⟨d,6,none⟩ (ac db' 0)).setCell ⟨d,7,none⟩ (ac vb' 0)).setCell ⟨d,8,none⟩ (.int .i64 1)).setCell ⟨d,9,none⟩ (.int .u32 0)).setCell ⟨d,10,none⟩ (.int .u32 0)).setCell ⟨d,11,none⟩ (.int .u32 0)).setCell ⟨d,12,none⟩ (.bool false)).heap[d]?=some (.cells (jf P lb db' vb' { s with st:=1,ss:=0,nm:=0,sn:=0,wt:=false } av) 141 (0,0)):=heap_setCell_same _ _ _ _ _ _ e5
 have e7:((((((((w.setCell ⟨d,6,none⟩ (ac db' 0)).setCell ⟨d,7,none⟩ (ac vb' 0)).setCell ⟨d,8,none⟩ (.int .i64 1)).setCell ⟨d,9,none⟩ (.int .u32 0)).setCell ⟨d,10,none⟩ (.int .u32 0)).setCell ⟨d,11,none⟩ (.int .u32 0)).setCell ⟨d,12,none⟩ (.bool false)).setCell ⟨d,13,none⟩ (.int .i64 0)).heap[d]?=some (.cells (jf P lb db' vb' { s with st:=1,ss:=0,nm:=0,sn:=0,wt:=false,ms:=0 } av) 141 (0,0)):=heap_setCell_same _ _ _ _ _ _ e6
 have e8:(((((((((w.setCell ⟨d,6,none⟩ (ac db' 0)).setCell ⟨d,7,none⟩ (ac vb' 0)).setCell ⟨d,8,none⟩ (.int .i64 1)).setCell ⟨d,9,none⟩ (.int .u32 0)).setCell ⟨d,10,none⟩ (.int .u32 0)).setCell ⟨d,11,none⟩ (.int .u32 0)).setCell ⟨d,12,none⟩ (.bool false)).setCell ⟨d,13,none⟩ (.int .i64 0)).setCell ⟨d,14,none⟩ (av')).heap[d]?=some (.cells (jf P lb db' vb' { s with st:=1,ss:=0,nm:=0,sn:=0,wt:=false,ms:=0 } av') 141 (0,0)):=heap_setCell_same _ _ _ _ _ _ e7
 have e9:((((((((((w.setCell ⟨d,6,none⟩ (ac db' 0)).setCell ⟨d,7,none⟩ (ac vb' 0)).setCell ⟨d,8,none⟩ (.int .i64 1)).setCell ⟨d,9,none⟩ (.int .u32 0)).setCell ⟨d,10,none⟩ (.int .u32 0)).setCell ⟨d,11,none⟩ (.int .u32 0)).setCell ⟨d,12,none⟩ (.bool false)).setCell ⟨d,13,none⟩ (.int .i64 0)).setCell ⟨d,14,none⟩ (av')).setCell ⟨d,15,none⟩ (.bool false)).heap[d]?=some (.cells (jf P lb db' vb' (eW s) av') 141 (0,0)):=heap_setCell_same _ _ _ _ _ _ e8
 exact e9
theorem rs (d:Nat) (P:Pm) (U:List Nat) (s:Sh) (w:World) (h:HV w d P U s) :
  Calls prog 84 #[ac d 0] w fun e w'=>e=.returned (.int .i64 0)∧Hid (∃ U',Gr U w U' w'∧HV w' d P U' (eW s)):=by
 obtain⟨B,h⟩:=h
 have c0:=h.c0
 have c1:=h.c1
 have c2:=h.c2
 have c3:=h.c3
 have c4:=h.c4
 have hL:=iQ P h.pok w
 have H:Hid (_):=h
 clear h
 go_enter func84,ntmps84
 go_wp2_with (go_at_call 75;refine hL.mono ?_;rintro e w1 ⟨db,vb,vg,ga,rfl,h1⟩;have x1:=H.out.newd (Off.of_below h1.out.bel);have y6:=x1.c6;have y7:=x1.c7;have y8:=x1.c8;have y9:=x1.c9;have y10:=x1.c10;have y11:=x1.c11;have y12:=x1.c12;have y13:=x1.c13;have y14:=x1.c14;have y15:=x1.c15;have f6:=x1.fz 6;have f7:=x1.fz 7;have f8:=x1.fz 8;have f9:=x1.fz 9;have f10:=x1.fz 10;have f11:=x1.fz 11;have f12:=x1.fz 12;have f13:=x1.fz 13;have f14:=x1.fz 14;have f15:=x1.fz 15;clear x1 hL c0 c1 c2 c3 c4)
 go_ret
 have e1:=(H.out.newd (Off.of_below h1.out.bel)).dev
 have o:=acf d w1 (ac db 0) (ac vb 0) (.int .i64 1) (.int .u32 0) (.int .u32 0) (.int .u32 0) (.bool false) (.int .i64 0) (.slice (af ga 0) P.o P.o) (.bool false)
 have e2:=zy (db':=db) (vb':=vb) (av':=.slice (af ga 0) P.o P.o) e1
 obtain⟨U',B',g2,x2⟩:=H.out.lived h1.out o e2
 exact⟨rfl,U',g2,B',x2⟩
end Go.Proofs.YtenilkloffnjlaaGreat
