/- Part 26: contracts that the proof rests on. -/
import Derived.Test.YtdpahjfekoikiaaGreatPkX24
set_option maxHeartbeats 64000000
set_option maxRecDepth 100000
namespace Go.Proofs.YtdpahjfekoikiaaGreat
open Tryz
open Go.RowKit Go.Maps
theorem qr (b:Nat) (L:List Prt) (lost:Nat) (V:List Nat) (a:Option Addr) (len cap:Nat) (bs:Nat→Nat) (c:Nat) (w:World) (h:Mxx w b L lost V) (hr:Row8 w a len cap bs) (hE:DE bs len=0) (hc:c=aE bs 1) (hcl:c<4294967296) (E:Int) (hEE:E=if (dO L c).isSome then 0 else 44) :
  Calls prog 36 #[aa b 0,.slice a len cap] w fun e w'=>e=.returned (.tuple #[po (dM L c),.int .i64 E])∧Below w.heap.size w w':=by
 obtain⟨l,mb,nn,D,h,hV⟩:=h
 have hb1:Below w.heap.size w (w.alloc (.cells #[.pointer none,.pointer none] 97)):=(Below.refl _ _).alloc (Nat.le_refl _) _
 have hD:=fL a len cap bs _ (hr.below hb1) hE
 rw[← hc]at hD
 have hs1:(w.alloc (.cells #[.pointer none,.pointer none] 97)).heap.size=w.heap.size+1:=by simp
 have hn1:=aB w (.cells #[.pointer none,.pointer none] 97)
 have hbl:=h.lt b (by simp[ix])
 obtain⟨xa,xb,th,hX,hth⟩:∃ xa xb th,po (dM L c)=.agg #[.pointer xa,.pointer xb]∧(dO L c).isSome=th:=by
  unfold dM
  cases dO L c with
  | none=>exact⟨none,none,false,rfl,rfl⟩
  | some q=>exact⟨_,_,true,rfl,rfl⟩
 have hX0:th=false→xa=none∧xb=none:=fun e=>by
  subst e
  unfold dM at hX
  cases hq:dO L c with
  | none=>rw[hq]at hX;simp[po]at hX;exact⟨hX.1.symm,hX.2.symm⟩
  | some q=>rw[hq]at hth;cases hth
 have HB:Hid (_):=And.intro hb1 (And.intro hs1 (And.intro hn1 (And.intro h (And.intro hX hth))))
 rw[hX]
 rw[hth]at hEE
 clear hr hb1 hs1 hn1 h hX hth hV hE hc
 generalize bs 0=q0 at hD
 generalize aE bs 5=q5 at hD
 generalize aE bs 9=q9 at hD
 generalize bs 13=q13 at hD
 generalize len-19=ln at hD
 go_enter func36,ntmps36
 go_wp2_with (go_at_call 39;refine hD.mono ?_;rintro e w2 ⟨a2,c2,rfl,h2⟩;have kl:w.heap.size<w2.heap.size:=Nat.lt_of_lt_of_le (by rw[HB.out.2.1];omega) h2.out.2.size;clear hD)
 generalize hW:w2.alloc (.cells #[.int .i64 (q0:Nat),.int .u32 (c:Nat),.int .u32 (q5:Nat),.int .u32 (q9:Nat),.int .i64 (q13:Nat),.slice a2 ln c2] 103)=W
 obtain⟨hb1,hs1,hn1,h,hX,hth⟩:=HB.out
 have b2:=h2.out.2
 have hBW:Below w.heap.size w W:=by rw[← hW];exact (hb1.trans (b2.mono (by rw[hs1];omega))).alloc (by omega) _
 have hsW:W.heap.size=w2.heap.size+1:=by rw[← hW];simp
 have hM:MX W b L lost l mb nn D:=h.off (o:=[]) (Off.of_below hBW) (by simp)
 have e1:=hM.c0
 have hu:W.heap[w2.heap.size]?=some (.cells #[.int .i64 (q0:Nat),.int .u32 (c:Nat),.int .u32 (q5:Nat),.int .u32 (q9:Nat),.int .i64 (q13:Nat),.slice a2 ln c2] 103 (0,0)):=by rw[← hW];exact aB w2 _
 have e2:W.cell? ⟨w2.heap.size,1,none⟩=some (.int .u32 (c:Nat)):=ab W w2.heap.size 1 _ _ _ hu
 have hN:W.heap[w.heap.size]?=some (.cells #[.pointer none,.pointer none] 97 (0,0)):=by rw[← hW];exact (Below.heap_alloc _ _ _ kl).trans ((b2.block w.heap.size (by rw[hs1];omega)).trans hn1)
 have hk:=(hM.off (Off.drew [] W) (by simp)).look2 c hcl
 have oW:Off [] W (W.alloc (.cells #[.pointer none,.pointer none] 97)).drew:=(Off.alloc [] W _).trans (Off.drew [] _)
 have hk2:=(hM.off oW (by simp)).look2 c hcl
 rw[hX,hth]at hk hk2
 have g1:(W.alloc (.cells #[.pointer none,.pointer none] 97)).drew.cell? ⟨b,0,none⟩=some (.map (some mb)):=(World.cell?_of_block (oW.block b (by omega) (by simp))).trans e1
 have g2:(W.alloc (.cells #[.pointer none,.pointer none] 97)).drew.cell? ⟨w2.heap.size,1,none⟩=some (.int .u32 (c:Nat)):=(World.cell?_of_block (oW.block w2.heap.size (by omega) (by simp))).trans e2
 have HM:Hid (_):=And.intro hBW (And.intro hN hsW)
 clear hW hb1 hs1 hn1 h hX hth b2 hBW hM hu hN oW h2 HB
 have hs:W.drew.heap.size=W.heap.size:=rfl
 go_cut [8,9] (fun x8 x9 wx=>x8=aa W.heap.size 0∧x9=.bool th∧Hid (Off [] W wx∧wx.heap[W.heap.size]?=some (.cells #[.pointer xa,.pointer xb] 97 (0,0))))
 case first=>
  go_region_with fail
  all_goals
   go_wp2_with fail
   go_meet
   exact⟨by rw[HM.out.2.2],rfl,(Off.alloc [] W _).trans (Off.drew [] _),aB W _⟩
 case rest=>
  obtain⟨rfl,rfl,H⟩:=hcut
  clear hk hk2 g1 g2 e1 e2 hs
  obtain⟨oc,hn⟩:=H.out
  obtain⟨hBW,hN,hsW⟩:=HM.out
  have hBc:Below w.heap.size w wc:=oc.below hBW (by simp) hBW.size
  have hNc:=(oc.block w.heap.size (by omega) (by simp)).trans hN
  have k0:wc.cell? ⟨w.heap.size,0,none⟩=some (.pointer none):=ab wc _ 0 _ _ _ hNc
  have k1:wc.cell? ⟨w.heap.size,1,none⟩=some (.pointer none):=ab wc _ 1 _ _ _ hNc
  have f0:=frozen_of_row wc w.heap.size 0 _ _ hNc
  have f1:=frozen_of_row wc w.heap.size 1 _ _ hNc
  have n0:wc.cell? ⟨W.heap.size,0,none⟩=some (.pointer xa):=ab wc _ 0 _ _ _ hn
  have n1:wc.cell? ⟨W.heap.size,1,none⟩=some (.pointer xb):=ab wc _ 1 _ _ _ hn
  have ne:¬ w.heap.size=W.heap.size:=by omega
  have HF:Hid (Below w.heap.size w wc):=hBc
  clear oc hn hBW hN hBc hNc H HM
  clear hsW
  clear hsW
  generalize W.heap.size=M at *
  cases th with
  | false=>
   obtain⟨rfl,rfl⟩:=hX0 rfl
   simp at hEE
   subst hEE
   go_wp2_with fail
   refine bodyPost_ret (v:=.tuple #[.agg #[.pointer none,.pointer none],.int .i64 44]) (by simp[results,results36,go_sem,k0,k1]) rfl ⟨rfl,?_⟩
   exact (HF.out.setCell (Nat.le_refl _) _).setCell (Nat.le_refl _) _
  | true=>
   simp at hEE
   subst hEE
   go_wp2_with fail
   refine bodyPost_ret (v:=.tuple #[.agg #[.pointer xa,.pointer xb],.int .i64 0]) (by simp[results,results36,go_sem,k0,k1]) rfl ⟨rfl,?_⟩
   exact (HF.out.setCell (Nat.le_refl _) _).setCell (Nat.le_refl _) _
theorem sV (n:Nat) (h:n<1000000):mz n 1=n+1:=by unfold mz;rw[if_neg (by omega)]
def bump (L:List Prt) (c:Nat):List Prt:=L.map fun q=>if q.c=c then { q with n:=q.n+1 } else q
theorem ko (L:List Prt) (c x:Nat):dO (bump L c) x=(dO L x).map fun q=>if q.c=c then { q with n:=q.n+1 } else q:=by
 induction L with
 | nil=>rfl
 | cons q L ih=>
  simp only[bump,List.map_cons,dO]at ih ⊢
  by_cases e:q.c=c
  ·rw[if_pos e]
   by_cases e2:q.c=x
   ·simp[e2,e2 ▸ e]
   ·simp[e2,ih]
  ·rw[if_neg e]
   by_cases e2:q.c=x
   ·simp[e2,e2 ▸ e]
   ·simp[e2,ih]
theorem oe (L:List Prt) (c x:Nat):dM (bump L c) x=dM L x:=by
 unfold dM
 rw[ko]
 cases dO L x with
 | none=>rfl
 | some q=>simp;split <;> simp
theorem gy (L:List Prt) (c b l mb:Nat):ix (bump L c) b l mb=ix L b l mb:=by
 unfold ix bump
 simp
 intro q _
 split <;> rfl
theorem MX.bump {b:Nat} {L:List Prt} {lost l mb nn:Nat} {D:DataW Unit} {w:World} (h:MX w b L lost l mb nn D) (p:Prt) (hp:p ∈ L):MX (w.setCell ⟨p.k,0,none⟩ (.int .u64 ((p.n+1:Nat):Int))) b (bump L p.c) lost l mb nn D:=by
 have o:Off [p.k] w (w.setCell ⟨p.k,0,none⟩ (.int .u64 ((p.n+1:Nat):Int))):=Off.setCell p.k 0 w _
 have hbl:b≠p.k:=fun e=>by
  have h1:=h.blk
  rw[e,(h.met p hp).1.at_]at h1
  simp at h1
 have hone:∀ q,q ∈ L→q.c≠p.c→q.k≠p.k:=fun q hq hne=>by
  rcases List.pairwise_iff_getElem.1 h.one with hh
  obtain⟨i,hi,rfl⟩:=List.getElem_of_mem hp
  obtain⟨j,hj,rfl⟩:=List.getElem_of_mem hq
  rcases Nat.lt_trichotomy i j with hij | hij | hij
  ·exact Ne.symm (hh i j hi hj hij).2
  ·subst hij;exact absurd rfl hne
  ·exact (hh j i hj hi hij).2
 have huni:∀ q,q ∈ L→q.c=p.c→q=p:=fun q hq he=>by
  rcases List.pairwise_iff_getElem.1 h.one with hh
  obtain⟨i,hi,rfl⟩:=List.getElem_of_mem hp
  obtain⟨j,hj,rfl⟩:=List.getElem_of_mem hq
  rcases Nat.lt_trichotomy i j with hij | hij | hij
  ·exact absurd he.symm (hh i j hi hj hij).1
  ·subst hij;rfl
  ·exact absurd he (hh j i hj hi hij).1
 refine⟨(o.block b (h.lt b (by simp[ix])) (by simpa using hbl)).trans h.blk,h.los.off o (by simpa using Ne.symm (h.met p hp).2.1),aK h.map o (by simpa using Ne.symm (h.ne.2.2 p hp)),?_,?_,fun c hc=>?_,fun c hc=>?_,fun c hc=>?_,fun q hq=>?_,?_⟩
 ·simpa [Go.Proofs.YtdpahjfekoikiaaGreat.bump] using h.nle
 ·simpa [Go.Proofs.YtdpahjfekoikiaaGreat.bump] using h.siz
 ·rw[oe];exact h.at_ c hc
 ·rw[ko];simpa using h.has_ c hc
 ·obtain⟨q,hq,e⟩:=h.key c hc
  exact⟨_,List.mem_map.2 ⟨q,hq,rfl⟩,by split <;> simpa using e⟩
 ·obtain⟨q,hq',rfl⟩:=List.mem_map.1 hq
  by_cases e:q.c=p.c
  ·have e2:=huni q hq' e
   subst e2
   rw[if_pos rfl]
   exact⟨(h.met q hp).1.s0 _,(h.met q hp).2⟩
  ·rw[if_neg e]
   exact⟨(h.met q hq').1.off o (by simpa using hone q hq' e),(h.met q hq').2⟩
 ·unfold Go.Proofs.YtdpahjfekoikiaaGreat.bump
  rw[List.pairwise_map]
  refine h.one.imp fun {x y} hxy=>?_
  split <;> split <;> exact hxy
theorem DV.offM {w w':World} {d m g n mx:Nat} {P:Pm} {U l:List Nat} {s:Sd} (h:DV w d m g n mx P U s) (q:Off l w w') (hl:∀ k,k ∈ U→k ∉ l):DV w' d m g n mx P U s:=by
 obtain⟨B,h⟩:=h
 exact⟨B,⟨(q.block d h.dlt (hl _ h.kd.2)).trans h.dev,h.mem.off q (hl _ h.km.2) (hl _ h.kg.2),fun hs=>⟨(h.cel hs).1,(h.cel hs).2.1.off q (hl _ h.kc.2),(h.cel hs).2.2⟩,h.dog.off q (hl _ h.kb.2),h.val.off q (hl _ h.kv.2) (hl _ h.kw.2) (fun k hk hM=>hl k (h.kM k hM).2 hk),h.log.off q (fun k hk=>hl _ (h.kl k hk).2),an h.app q (fun k hk=>hl _ (h.ka k hk).2),h.apb,fun k hk=>Nat.lt_of_lt_of_le (h.ltU k hk) q.size,h.kd,h.km,h.kg,h.kc,h.kb,h.kv,h.kw,h.kM,h.kl,h.ka,h.pok,h.n10,h.mx0,h.mxl⟩⟩
theorem oG {w w2 W w4:World} {d m g n mx:Nat} {P:Pm} {U:List Nat} {s:Sd} {f:Fm} {v p q:Value} (hU:∀ k,k ∈ U→k<w.heap.size) (b2:Below w.heap.size w w2) (hn:W.heap[w2.heap.size]?=some (.cells #[p,q] 97 (0,0))) (h:Out U W w4 d m g n mx P s f v) :
  w4.cell? ⟨d,0,none⟩=some (.int .u32 (P.c:Nat))∧w4.cell? ⟨w2.heap.size,0,none⟩=some p:=by
 obtain⟨U',G,⟨B,x⟩,_,_⟩:=h
 refine⟨x.cells.1,?_⟩
 have:=b2.size
 have hl:w2.heap.size<W.heap.size:=(Array.getElem?_eq_some_iff.1 hn).1
 exact ab w4 _ 0 _ _ _ ((G.off.block w2.heap.size hl (fun hm=>by have:=hU _ hm;omega)).trans hn)
theorem iV (b:Nat) (L:List Prt) (lost:Nat) (V:List Nat) (p:Prt) (m g n mx:Nat) (P:Pm) (U:List Nat) (s:Sd) (a:Option Addr) (len cap:Nat) (bs:Nat→Nat) (w:World) (h:Mxx w b L lost V) (hD:DV w p.d m g n mx P U s) (hUV:∀ k,k ∈ U→k ∉ V) (hr:Row8 w a len cap bs) (hE:DE bs len=0) (hf:dO L (aE bs 1)=some p) (hP:P.c=p.c) (hpn:p.n<1000000) (hsn:s.st=4→s.sn+1<4294967296) (ho:s.od<4) (hL:s.L.length<800000) (ht:s.ms.t<9223372036854774000) (hra:∀ x,a=some x→x.block ∉ V) :
  Calls prog 14 #[aa b 0,.slice a len cap] w fun e w'=>∃ v,e=.returned (.tuple #[.int .u32 (p.c:Nat),v,.int .i64 (aI P mx n s len bs).e])∧Hid (∃ w1,Off V w w1∧DV w1 p.d m g n mx P U s∧Out U w1 w' p.d m g n mx P (aI P mx n s len bs).s (aI P mx n s len bs).f v∧Mxx w' b (bump L p.c) lost V∧Mxx w1 b (bump L p.c) lost V):=by
 obtain⟨h1,h2,_,_⟩:=fc hE
 have hQ:=qr b L lost V a len cap bs (aE bs 1) w h hr hE rfl (mL fun j hj=>hr.byte _ (by omega)) 0 (by rw[hf];rfl)
 rw[show po (dM L (aE bs 1))=.agg #[aa p.d 0,aa p.k 0] by unfold dM;rw[hf];rfl]at hQ
 obtain⟨l,mb,nn,D,h,hV⟩:=h
 have hpL:=(m8 hf).1
 have hq:=dS b mb w h.c0
 have hpV:p.k ∈ V:=by rw[hV];simp[ix];exact .inr (.inr (.inr ⟨p,hpL,rfl⟩))
 have oV:∀ w2,Below w.heap.size w w2→Off V w ((w2.alloc (.cells #[aa p.d 0,aa p.k 0] 97)).setCell ⟨p.k,0,none⟩ (.int .u64 ((p.n+1:Nat):Int))):=fun w2 b2=>((Off.of_below b2).trans (Off.alloc V w2 _)).trans ((Off.setCell p.k 0 _ _).more (fun k hk=>by simp at hk;subst hk;exact hpV))
 have hT:∀ w2,Below w.heap.size w w2→∃ W,W=(w2.alloc (.cells #[aa p.d 0,aa p.k 0] 97)).setCell ⟨p.k,0,none⟩ (.int .u64 ((p.n+1:Nat):Int))∧Off V w W∧DV W p.d m g n mx P U s∧MX W b (bump L p.c) lost l mb nn D∧Row8 W a len cap bs∧W.heap[w2.heap.size]?=some (.cells #[aa p.d 0,aa p.k 0] 97 (0,0)):=by
  intro w2 b2
  refine⟨_,rfl,?_,?_,?_,?_,?_⟩
  ·exact oV w2 b2
  ·exact hD.offM (oV w2 b2) hUV
  ·exact ((h.off (o:=[]) (Off.of_below b2) (by simp)).off (Off.alloc [] w2 _) (by simp)).bump p hpL
  ·exact hr.off (oV w2 b2) hra
  ·have hpl:=h.lt p.k (hV ▸ hpV)
   have:=b2.size
   exact ((Off.setCell p.k 0 (w2.alloc (.cells #[aa p.d 0,aa p.k 0] 97)) (.int .u64 ((p.n+1:Nat):Int))).block w2.heap.size (by simp) (by simp;omega)).trans (aB w2 _)
 have hC0:=fun w2 b2=>(h.off (o:=[]) (Off.of_below (w':=w2) b2) (by simp)).off (Off.alloc [] w2 (.cells #[aa p.d 0,aa p.k 0] 97)) (by simp)
 have hUl:∀ k,k ∈ U→k<w.heap.size:=fun k hk=>hD.ult k hk
 have hVl:∀ k,k ∈ V→k<w.heap.size:=fun k hk=>h.lt k (hV ▸ hk)
 have H:Hid (_):=And.intro hT (And.intro hC0 (And.intro hpL (And.intro hV (And.intro hUV (And.intro hP (And.intro hsn (And.intro ho (And.intro hL (And.intro ht (And.intro hUl hVl))))))))))
 clear hT hC0 hV hUV hP hsn ho hL ht h hr hra hD hE hf oV h1 h2 hpV hUl hVl hpL
 go_enter func14,ntmps14
 go_upto_region 3 with (go_at_call 30;refine hq.mono ?_;rintro e w' ⟨rfl,hw⟩;have hw:=hw.symm;subst hw)
 go_wp2_with (first
  | (go_at_call 36;refine hQ.mono ?_;rintro e w2 ⟨rfl,b2⟩;have hM2:=H.out.2.1 w2 b2;have hA:=jp p.n 1 p.k none none 0 0 _ (by omega) (by omega) (hM2.met p H.out.2.2.1).1;rw[sV p.n hpn]at hA;obtain⟨W,hW,hX⟩:=H.out.1 w2 b2;rw[← hW]at hA;have HX:Hid (_):=And.intro b2 hX;have q0:W.cell? ⟨w2.heap.size,0,none⟩=some (aa p.d 0):=ab W _ 0 _ _ _ hX.2.2.2.2;have hR:=jG p.d m g n mx P U s a len cap bs W hX.2.1 hX.2.2.2.1 H.out.2.2.2.2.2.2.1 H.out.2.2.2.2.2.2.2.1 H.out.2.2.2.2.2.2.2.2.1 H.out.2.2.2.2.2.2.2.2.2.1;clear hM2 hX hW hQ hq b2)
  | (go_at_call 37;refine hA.mono ?_;rintro e w3 ⟨rfl,hw⟩;have hw:=hw.symm;subst hw;clear hA)
  | (go_at_call 38;refine hR.mono ?_;rintro e w4 ⟨v,rfl,h4⟩;obtain⟨cd,q1⟩:=oG H.out.2.2.2.2.2.2.2.2.2.2.1 HX.out.1 HX.out.2.2.2.2.2 h4.out;have hC:=eM p.d P.c w4 cd;clear cd hR)
  | (go_at_call 31;refine hC.mono ?_;rintro e w5 ⟨rfl,hw⟩;have hw:=hw.symm;subst hw;clear hC))
 refine bodyPost_ret (v:=.tuple #[.int .u32 (P.c:Nat),v,.int .i64 (aI P mx n s len bs).e]) (by simp[results,results14,go_sem]) rfl ?_
 obtain⟨b2,o1,D1,M1,r1,n1⟩:=HX.out
 refine⟨v,by rw[H.out.2.2.2.2.2.1],W,o1,D1,h4.out,?_⟩
 obtain⟨U',G,_⟩:=h4.out
 refine⟨⟨l,mb,nn,D,M1.off G.off (fun k hk hm=>?_),by rw[gy];exact H.out.2.2.2.1⟩,⟨l,mb,nn,D,M1,by rw[gy];exact H.out.2.2.2.1⟩⟩
 rw[gy,← H.out.2.2.2.1]at hk
 exact H.out.2.2.2.2.1 k hm hk
open Go.RowKit
def sh (x:Dr) (U:List Nat):Thing:=⟨U,fun w=>DV w x.d x.m x.g x.n x.mx x.P U x.s,fun _ _ _ h o hl=>DV.off h o hl⟩
def vN (x:Dr) (U:List Nat):Thing:=⟨U,fun w=>RW w x.d x.m x.g x.n x.mx x.P U x.s,fun _ _ _ h o hl=>RW.off h o hl⟩
theorem Mxx.off {w w':World} {b:Nat} {L:List Prt} {lost:Nat} {V l:List Nat} (h:Mxx w b L lost V) (o:Off l w w') (hl:∀ k,k ∈ V→k ∉ l):Mxx w' b L lost V:=by
 obtain⟨l,mb,nn,D,h,e⟩:=h
 subst e
 exact⟨l,mb,nn,D,h.off o hl,rfl⟩
theorem Mxx.lt {w:World} {b:Nat} {L:List Prt} {lost:Nat} {V:List Nat} (h:Mxx w b L lost V):∀ k,k ∈ V→k<w.heap.size:=by
 obtain⟨l,mb,nn,D,h,e⟩:=h
 subst e
 exact h.lt
def qx (b:Nat) (L:List Prt) (lost:Nat) (V:List Nat):Thing:=⟨V,fun w=>Mxx w b L lost V,fun _ _ _ h o hl=>h.off o hl⟩
section
variable {w0 w w':World} {t:Nat→Thing} {i:Nat}
theorem Al.dv (h:Al w0 w t) {x:Dr} {U:List Nat} (e:t i=sh x U):DV w x.d x.m x.g x.n x.mx x.P U x.s:=h.get e
theorem Al.rw (h:Al w0 w t) {x:Dr} {U:List Nat} (e:t i=vN x U):RW w x.d x.m x.g x.n x.mx x.P U x.s:=h.get e
theorem Al.mx (h:Al w0 w t) {b:Nat} {L:List Prt} {lost:Nat} {V:List Nat} (e:t i=qx b L lost V):Mxx w b L lost V:=h.get e
theorem Al.stepD (h:Al w0 w t) {x:Dr} {U U':List Nat} (e:t i=sh x U) (g:Gr U w U' w') {s':Sd} (hx:DV w' x.d x.m x.g x.n x.mx x.P U' s'):Al w0 w' (dh t i (sh { x with s:=s' } U')):=
 h.step i (sh { x with s:=s' } U') (by rw[e];rfl) g hx (fun k hk=>hx.ult k hk)
theorem Al.apart (h:Al w0 w t) {j:Nat} (hij:i≠j) {x y:Thing} (ei:t i=x) (ej:t j=y):∀ k,k ∈ x.U→k ∉ y.U:=by
 subst ei;subst ej
 exact h.dis i j hij
end
def Pl.dr (L:Pl) (s:Sd):Dr:=⟨L.d,L.m,L.g,L.n,L.mx,L.P,s⟩
def Pl.rr (L:Pl) (s:Sd):Dr:=⟨L.e,L.r,L.q,L.n,L.mx,L.P,s⟩
theorem Al.two {w0 w w':World} {t:Nat→Thing} (h:Al w0 w t) {L:Pl} {s:Sd} (T:vn w w' L s) (i j:Nat):∃ U V,Al w0 w' (dh (dh t i (sh (L.dr s) U)) j (vN (L.rr s) V)):=by
 obtain⟨U,V,T⟩:=T
 have h1:=h.below T.bel
 have sz:=T.bel.size
 have s0:=h.size
 have hn:∀ k,w.heap.size≤k→∀ j,k ∉ (t j).U:=fun k hk j hm=>by have:=(h.lt j k hm).2;omega
 have h2:Al w0 w' (dh t i (sh (L.dr s) U)):=h1.turn i _ (Off.refl _ _) T.dv (fun k hk=>⟨by have:=(T.uv k hk).1;omega,T.dv.ult k hk⟩) (fun k hk j _=>hn k (T.uv k hk).1 j)
 refine⟨U,V,h2.turn j _ (Off.refl _ _) T.rw (fun k hk=>⟨by have:=T.vb k hk;omega,T.rw.ult k hk⟩) (fun k hk q _ hm=>?_)⟩
 by_cases e:q=i
 ·subst e
  rw[aR]at hm
  exact (T.uv k hm).2 hk
 ·rw[ag _ _ e]at hm
  exact hn k (T.vb k hk) q hm
end Go.Proofs.YtdpahjfekoikiaaGreat
