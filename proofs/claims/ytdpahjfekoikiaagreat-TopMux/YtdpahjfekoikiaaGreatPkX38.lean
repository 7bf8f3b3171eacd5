/- Part 39: contracts that the proof rests on. -/
import Derived.Test.YtdpahjfekoikiaaGreatPkX37
set_option maxHeartbeats 64000000
set_option maxRecDepth 100000
namespace Go.Proofs.YtdpahjfekoikiaaGreat
open Tryz
open Go.RowKit
theorem ky (P:Pm) (s:Sh) (k c ss num len:Nat) (bs:Nat→Nat):0≤bS P s k c ss num len bs∧bS P s k c ss num len bs≤200:=by
 unfold bS fU
 split
 ·omega
 ·split
  ·omega
  ·split
   ·split
    ·omega
    ·split <;> omega
   ·split <;> omega
theorem ml {P:Pm} {s:Sh} {k c ss num len:Nat} {bs:Nat→Nat} (h:bS P s k c ss num len bs=0):(17≤k∧k≤22)∧(k=20→len=P.i):=by
 unfold bS fU at h
 by_cases hK:dB (k:Int)=false
 ·rw[if_pos hK]at h;omega
 ·rw[if_neg hK]at h
  have hK':dB (k:Int)=true:=by simpa using hK
  have hk:17≤k∧k≤22:=by unfold dB at hK';simp at hK';omega
  refine⟨hk,fun e=>?_⟩
  by_cases hC:c=P.c
  ·rw[if_neg (by omega)]at h
   by_cases h1:s.st=1
   ·rw[if_pos h1,if_pos (.inl (by omega))]at h;omega
   ·rw[if_neg h1]at h
    by_cases hw:ss≠s.ss∨bc P s k num len=false
    ·rw[if_pos hw]at h;omega
    ·have hw':bc P s k num len=true:=by
      cases hq:bc P s k num len
      ·exact absurd (.inr hq) hw
      ·rfl
     unfold bc at hw'
     simp at hw'
     omega
  ·rw[if_pos hC]at h;omega
theorem jx (d:Nat) (P:Pm) (U:List Nat) (s:Sh) (a:Option Addr) (len cap:Nat) (bs:Nat→Nat) (w:World) (h:HV w d P U s) (hr:Row8 w a len cap bs) (hL:s.L.length<800000) :
  Calls prog 15 #[aa d 0,.slice a len cap] w fun e w'=>e=.returned (.int .i64 (cZ P s len bs))∧Hid (∃ U',Gr U w U' w'∧HV w' d P U' (cE P s len bs)):=by
 have hNote:∀ (x:Int) (wx:World),x≠0→0≤x→x≤200→HV wx d P U s→Calls prog 41 #[aa d 0,.int .i64 x] wx fun e w'=>e=.returned (.tuple #[])∧Hid (∃ U',Gr U wx U' w'∧HV w' d P U' (dR s x)):=fun x wx h0 h1 h2 hx=>iP d P U s x wx hx h0 (lA x h1 h2) (by omega)
 unfold cE cZ
 by_cases hE:DE bs len=0
 ·rw[if_neg (by omega)]
  have hD:=fL a len cap bs w hr hE
  obtain⟨_,_,_,hLW⟩:=fc hE
  obtain⟨_,_,_,_,hf1⟩:=cR hLW
  have hby:∀ i,i<len→bs i<256:=hr.byte
  have hRg:=ky P s (bs 0) (aE bs 1) (aE bs 5) (aE bs 9) (len-19) (fun i=>bs (15+i))
  have hZ:=ml (P:=P) (s:=s) (k:=bs 0) (c:=aE bs 1) (ss:=aE bs 5) (num:=aE bs 9) (len:=len-19) (bs:=fun i=>bs (15+i))
  have hRf:=fun (w2:World) (a2:Option Addr) (c2:Nat) (ho:w2.ownsRow w.heap.size 5 1 (.slice a2 (len-19) c2) (len-19) (CB (fun i=>bs (15+i)) (len-19))) (wx:World) (hx:Below w2.heap.size w2 wx) (hw:Below w.heap.size w w2)=>jy d P U s (bs 0) (aE bs 1) (aE bs 5) (aE bs 9) (bs 13) a2 (len-19) c2 (fun i=>bs (15+i)) wx (HV.below h (hw.trans (hx.mono hw.size))) ((eY ho (fun i hi=>hby _ (by omega))).below hx)
  have HH:Hid (_):=And.intro h (And.intro hL (And.intro hby (And.intro hf1 (And.intro hRg hZ))))
  have HR:Hid (_):=hRf
  have HN:Hid (_):=hNote
  clear h hr hL hE hLW hf1 hby hRg hZ hRf hNote
  generalize bS P s (bs 0) (aE bs 1) (aE bs 5) (aE bs 9) (len-19) (fun i=>bs (15+i))=E at *
  by_cases hz:E=0
  ·subst hz
   rw[if_neg (by simp)]
   go_enter func15,ntmps15
   go_wp2_with fail
   refine hD.mono ?_
   rintro e w2 ⟨a2,c2,rfl,h2⟩
   have b3:Below w2.heap.size w2 (w2.alloc (.cells #[.int .i64 (bs 0:Nat),.int .u32 (aE bs 1:Nat),.int .u32 (aE bs 5:Nat),.int .u32 (aE bs 9:Nat),.int .i64 (bs 13:Nat),.slice a2 (len-19) c2] 103)):=(Below.refl _ _).alloc (Nat.le_refl _) _
   have x3:=aB w2 (.cells #[.int .i64 (bs 0:Nat),.int .u32 (aE bs 1:Nat),.int .u32 (aE bs 5:Nat),.int .u32 (aE bs 9:Nat),.int .i64 (bs 13:Nat),.slice a2 (len-19) c2] 103)
   have l3:w2.heap.size < (w2.alloc (.cells #[.int .i64 (bs 0:Nat),.int .u32 (aE bs 1:Nat),.int .u32 (aE bs 5:Nat),.int .u32 (aE bs 9:Nat),.int .i64 (bs 13:Nat),.slice a2 (len-19) c2] 103)).heap.size:=by rw[World.size_alloc];omega
   have hRf:=HR.out w2 a2 c2 h2.out.1 _ b3 h2.out.2
   have H3:Hid (_):=And.intro b3 (And.intro x3 (And.intro l3 h2.out))
   clear hD b3 x3 l3 h2 HR
   go_wp2_with fail
   refine hRf.mono ?_
   rintro e w4 ⟨rfl,b4⟩
   obtain⟨b3,x3,l3,o2,b2⟩:=H3.out
   have b24:=b3.trans (b4.mono b3.size)
   have b04:=b2.trans (b24.mono b2.size)
   have e4:=(b4.block w2.heap.size l3).trans x3
   have u0:w4.cell? ⟨w2.heap.size,0,none⟩=some (.int .i64 (bs 0:Nat)):=ab w4 _ 0 _ _ _ e4
   have u1:w4.cell? ⟨w2.heap.size,1,none⟩=some (.int .u32 (aE bs 1:Nat)):=ab w4 _ 1 _ _ _ e4
   have u2:w4.cell? ⟨w2.heap.size,2,none⟩=some (.int .u32 (aE bs 5:Nat)):=ab w4 _ 2 _ _ _ e4
   have u3:w4.cell? ⟨w2.heap.size,3,none⟩=some (.int .u32 (aE bs 9:Nat)):=ab w4 _ 3 _ _ _ e4
   have u4:w4.cell? ⟨w2.heap.size,4,none⟩=some (.int .i64 (bs 13:Nat)):=ab w4 _ 4 _ _ _ e4
   have u5:w4.cell? ⟨w2.heap.size,5,none⟩=some (.slice a2 (len-19) c2):=ab w4 _ 5 _ _ _ e4
   obtain⟨h,hL,hby,hf1,hRg,hZ⟩:=HH.out
   obtain⟨hk,hlen⟩:=hZ trivial
   have hT:=oC d P U s (bs 0) (aE bs 1) (aE bs 5) (aE bs 9) (bs 13) a2 (len-19) c2 (fun i=>bs (15+i)) w4 (HV.below h b04) ((eY o2 (fun i hi=>hby _ (by omega))).below b24) (fun x hx=>⟨Nat.lt_of_lt_of_le (gq o2 x hx).2 b24.size,fun hm=>by have:=(gq o2 x hx).1;have:=HV.ult h _ hm;omega⟩) hk (by omega) hlen (by omega)
   have H4:Hid (_):=b04
   clear hRf b4 b3 x3 l3 o2 b2 b24 b04 e4 h hL hby hf1 hRg hZ hk hlen HH H3 HN
   go_wp2_with fail
   refine hT.mono ?_
   rintro e w5 ⟨rfl,h5⟩
   obtain⟨U5,g5,x5⟩:=h5.out
   have H5:Hid (_):=And.intro ((Gr.below (U:=U) H4.out).trans g5) x5
   clear hT h5 g5 x5 H4 u0 u1 u2 u3 u4 u5
   go_wp2_with fail
   go_ret
   exact⟨rfl,U5,H5.out.1,H5.out.2⟩
  ·rw[if_pos hz]
   have e1:(E != 0)=true:=by simpa using hz
   have HZ:Hid (_):=hz
   clear hz
   go_enter func15,ntmps15
   go_wp2_with fail
   refine hD.mono ?_
   rintro e w2 ⟨a2,c2,rfl,h2⟩
   have b3:Below w2.heap.size w2 (w2.alloc (.cells #[.int .i64 (bs 0:Nat),.int .u32 (aE bs 1:Nat),.int .u32 (aE bs 5:Nat),.int .u32 (aE bs 9:Nat),.int .i64 (bs 13:Nat),.slice a2 (len-19) c2] 103)):=(Below.refl _ _).alloc (Nat.le_refl _) _
   have x3:=aB w2 (.cells #[.int .i64 (bs 0:Nat),.int .u32 (aE bs 1:Nat),.int .u32 (aE bs 5:Nat),.int .u32 (aE bs 9:Nat),.int .i64 (bs 13:Nat),.slice a2 (len-19) c2] 103)
   have l3:w2.heap.size < (w2.alloc (.cells #[.int .i64 (bs 0:Nat),.int .u32 (aE bs 1:Nat),.int .u32 (aE bs 5:Nat),.int .u32 (aE bs 9:Nat),.int .i64 (bs 13:Nat),.slice a2 (len-19) c2] 103)).heap.size:=by rw[World.size_alloc];omega
   have hRf:=HR.out w2 a2 c2 h2.out.1 _ b3 h2.out.2
   have H3:Hid (_):=And.intro b3 (And.intro x3 (And.intro l3 h2.out))
   clear hD b3 x3 l3 h2 HR
   go_wp2_with fail
   refine hRf.mono ?_
   rintro e w4 ⟨rfl,b4⟩
   obtain⟨b3,x3,l3,o2,b2⟩:=H3.out
   have b24:=b3.trans (b4.mono b3.size)
   have b04:=b2.trans (b24.mono b2.size)
   have hN:=HN.out E _ HZ.out HH.out.2.2.2.2.1.1 HH.out.2.2.2.2.1.2 (HV.below HH.out.1 b04)
   have H4:Hid (_):=b04
   clear hRf b4 b3 x3 l3 o2 b2 b24 b04 HH H3 HN HZ
   go_wp2_with fail
   refine hN.mono ?_
   rintro e w5 ⟨rfl,h5⟩
   obtain⟨U5,g5,x5⟩:=h5.out
   have H5:Hid (_):=And.intro ((Gr.below (U:=U) H4.out).trans g5) x5
   clear hN h5 g5 x5 H4
   go_wp2_with fail
   go_ret
   exact⟨rfl,U5,H5.out.1,H5.out.2⟩
 ·rw[if_pos hE,if_pos hE]
  have hD:=iI a len cap bs w hr hE
  have hRg:=pr bs len
  have e0:(DE bs len == 0)=false:=by simpa using hE
  have e1:(DE bs len != 0)=true:=by simpa using hE
  have HH:Hid (_):=And.intro h (And.intro hE hRg)
  have HN:Hid (_):=hNote
  clear h hr hL hE hRg hNote
  generalize DE bs len=E at *
  go_enter func15,ntmps15
  go_wp2_with fail
  refine hD.mono ?_
  rintro e w2 ⟨rfl,b2⟩
  have b3:Below w.heap.size w (w2.alloc (.cells cm 103)):=b2.alloc b2.size _
  have hN:=HN.out E _ HH.out.2.1 HH.out.2.2.1 (by have:=HH.out.2.2.2;omega) (HV.below HH.out.1 b3)
  have H3:Hid (_):=b3
  clear hD b2 b3 HN HH
  go_wp2_with fail
  refine hN.mono ?_
  rintro e w4 ⟨rfl,h4⟩
  obtain⟨U4,g4,x4⟩:=h4.out
  have H4:Hid (_):=And.intro ((Gr.below (U:=U) H3.out).trans g4) x4
  clear hN h4 g4 x4 H3
  go_wp2_with fail
  go_ret
  exact⟨rfl,U4,H4.out.1,H4.out.2⟩
theorem HX.appd {w w1 w2:World} {d:Nat} {P:Pm} {U:List Nat} {s s':Sh} {B:Bh} (h:HX w d P U s B) {v:Value} {bs:Nat→Nat} (hb:Below w.heap.size w w1) (ho:w1.ownsRow w.heap.size 5 1 v P.o (CB bs P.o)) (hy:∀ i,i<P.o→bs i<256) (o:Off [d] w1 w2)
  (e:w2.heap[d]?=some (.cells (lH P B.lb B.db B.vb s' v) 95 (0,0))) (h2:s'.dc=s.dc) (h3:s'.v=s.v) (h4:s'.L=s.L) (h5:s'.ap=bs) :
  ∃ U' B',Gr U w U' w2∧HX w2 d P U' s' B':=by
 have x1:=h.newd (Off.of_below (l:=[]) hb)
 have hd:=h.dlt
 have hn:∀ k,B.col k≠0→k ∉ [d]:=fun k hk hm=>by simp at hm;rw[hm,h.kd.1]at hk;exact hk rfl
 have hge:∀ k,v.ownBlock=some k→w.heap.size≤k:=fun k hk=>Fr.ge (f:=(P.o,bs)) ho k hk
 have hlt:∀ k,v.ownBlock=some k→k<w1.heap.size:=fun k hk=>Fr.lt (f:=(P.o,bs)) ho k hk
 have hq:∀ k x,B.col k=x∧k ∈ U→(if k<w.heap.size then B.col k else 6)=x∧k ∈ v.ownBlock.toList ++ U:=fun k x hk=>⟨by rw[if_pos (h.ltU k hk.2)];exact hk.1,List.mem_append.2 (.inr hk.2)⟩
 refine⟨v.ownBlock.toList ++ U,{ B with av:=v,col:=fun k=>if k<w.heap.size then B.col k else 6 },⟨(Off.of_below hb).trans (o.more (by simp[h.kd.2])),fun k hk=>?_⟩,?_⟩
 ·rcases List.mem_append.1 hk with hk | hk
  ·exact .inr (hge k (by simpa using hk))
  ·exact .inl hk
 ·refine⟨e,?_,?_,?_,?_,h5 ▸ hy,?_,hq _ _ h.kd,hq _ _ h.kb,hq _ _ h.kv,hq _ _ h.kw,fun k hk=>hq _ _ (h.kM k hk),fun k hk=>hq _ _ (h.kl k hk),?_,h.pok⟩
  ·rw[h2];exact x1.dog.off o (hn _ (by rw[h.kb.1];omega))
  ·rw[h3];exact x1.val.off o (hn _ (by rw[h.kv.1];omega)) (hn _ (by rw[h.kw.1];omega)) (fun k hk hM=>by simp at hk;subst hk;have:=(h.kM _ hM).1;rw[h.kd.1]at this;omega)
  ·rw[h4];exact x1.log.off o (fun k hk=>hn _ (by rw[(h.kl k hk).1];omega))
  ·rw[h5];exact an (ak ho (Nat.zero_le _)) o (fun k hk=>by have:=hge k hk;simp;omega)
  ·intro k hk
   rcases List.mem_append.1 hk with hk | hk
   ·exact Nat.lt_of_lt_of_le (hlt k (by simpa using hk)) o.size
   ·exact Nat.lt_of_lt_of_le (x1.ltU k hk) o.size
  ·intro k hk
   have:=hge k hk
   exact⟨by show (if k<w.heap.size then _ else 6)=6;rw[if_neg (by omega)],List.mem_append.2 (.inl (by simpa using hk))⟩
theorem mo (d:Nat) (P:Pm) (U:List Nat) (s:Sh) (a:Option Addr) (len cap:Nat) (bs:Nat→Nat) (o:Bool) (w:World) (h:HV w d P U s) (hr:Row8 w a len cap bs) :
  Calls prog 11 #[aa d 0,.slice a len cap,.bool o] w fun e w'=>e=.returned (.int .i64 (nc P len))∧Hid (∃ U',Gr U w U' w'∧HV w' d P U' (eH P s len bs o)):=by
 obtain⟨B,x⟩:=id h
 have c1:=x.c1
 unfold nc eH
 by_cases hl:len=P.o
 ·subst hl
  rw[if_pos rfl,if_pos rfl]
  obtain⟨i0,hi,hz0,hz1,hz2⟩:=info_parts aS
  have O0:w.ownsRow w.heap.size 5 1 (.slice none 0 0) 0 []:=World.ownsRow_nil w _ _ _
  have hi8:=x.pok.o8
  have hdl:=x.dlt
  have HX':Hid (_):=And.intro x hr.byte
  clear h x
  go_enter func11,ntmps11
  go_wp2_with (at_builtin;refine ae rfl (.const (.slice none 0 0)) (.tmp 19) 43 rfl w.heap.size 5 i0 (.int .u8 0) underlying43 hi hz0 hz1 hz2 rfl _ 0 _ rfl O0 a P.o cap bs rfl hr (by unfold maxLen;omega) (by omega) (Nat.le_refl _) ?_)
  intro v2 w2 hown2 hgrow2
  have hbel2:Below w.heap.size w w2:=(Below.refl _ _).grown hgrow2 (Nat.le_refl _) (fun j hj=>by cases hj)
  obtain⟨a2,k2,rfl,_⟩:=aO hown2 HX'.out.2
  have x2:=HX'.out.1.newd (Off.of_below hbel2)
  have y14:=x2.c14
  have y15:=x2.c15
  have f14:=x2.fz 14
  have f15:=x2.fz 15
  have H2:Hid (_):=And.intro hown2 (And.intro hbel2 x2)
  clear hown2 hbel2 hgrow2 O0 hr x2 c1
  go_wp2_with fail
  go_ret
  obtain⟨h1,h2,x2⟩:=H2.out
  have e1:(w2.setCell ⟨d,14,none⟩ (.slice a2 P.o k2)).heap[d]?=some (.cells (lH P B.lb B.db B.vb s (.slice a2 P.o k2)) 95 (0,0)):=heap_setCell_same _ _ _ _ _ _ x2.dev
  have e2:((w2.setCell ⟨d,14,none⟩ (.slice a2 P.o k2)).setCell ⟨d,15,none⟩ (.bool o)).heap[d]?=some (.cells (lH P B.lb B.db B.vb { s with ap:=bs,hd:=o } (.slice a2 P.o k2)) 95 (0,0)):=heap_setCell_same _ _ _ _ _ _ e1
  obtain⟨U3,B3,g3,x3⟩:=HX'.out.1.appd (s':={ s with ap:=bs,hd:=o }) h2 h1 HX'.out.2 ((Off.setCell d 14 w2 (.slice a2 P.o k2)).trans (Off.setCell d 15 _ (.bool o))) e2 rfl rfl rfl rfl
  exact⟨rfl,U3,g3,B3,x3⟩
 ·rw[if_neg hl,if_neg hl]
  have el:((len:Int) != (P.o:Int))=true:=by simp;omega
  have H:Hid (_):=h
  clear h x hr hl
  go_enter func11,ntmps11
  go_wp2_with fail
  go_ret
  exact⟨rfl,U,Gr.refl _ _,H.out⟩
end Go.Proofs.YtdpahjfekoikiaaGreat
