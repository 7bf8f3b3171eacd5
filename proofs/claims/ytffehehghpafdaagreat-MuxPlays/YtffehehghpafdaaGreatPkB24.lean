/- Part 25 of the texts on which the proofs of layer 13 rest: contracts of Go functions. -/
import Derived.Test.YtffehehghpafdaaGreatPkB13
import Derived.Test.YtffehehghpafdaaGreatPkB20
import Derived.Test.YtffehehghpafdaaGreatPkB21
import Derived.Test.YtffehehghpafdaaGreatPkB23
namespace Go.Proofs.YtffehehghpafdaaGreat
set_option maxRecDepth 100000
open Go.RowKit Go.Maps
def pfE (L:List Prt) (bs:Nat→Nat) (len:Nat):Int:=if DE bs len≠0 then DE bs len else if (fnd L (w4v bs 1)).isSome then 0 else 44
theorem sat_one (n:Nat) (h:n<1000000):sat n 1=n+1:=by unfold sat;rw[if_neg (by omega)]
theorem MX.lost {b:Nat} {L:List Prt} {lost l mb nn:Nat} {D:DataW Unit} {w:World} (h:MX w b L lost l mb nn D):MX (w.setCell ⟨l,0,none⟩ (.int .u64 ((lost+1:Nat):Int))) b L (lost+1) l mb nn D:=by
 have o:Off [l] w (w.setCell ⟨l,0,none⟩ (.int .u64 ((lost+1:Nat):Int))):=Off.setCell l 0 w _
 have hbl:b≠l:=fun e=>by
  have h1:=h.blk
  rw[e,h.los.at_]at h1
  simp at h1
 exact⟨(o.block b (h.lt b (by simp[MXU])) (by simpa using hbl)).trans h.blk,h.los.s0 _,ownsMap_off h.map o (by simpa using Ne.symm h.ne.2.1),h.nle,h.siz,h.at_,h.has_,h.key,fun p hp=>⟨(h.met p hp).1.off o (by simpa using (h.met p hp).2.1),(h.met p hp).2⟩,h.one⟩
theorem mport_lost (b:Nat) (L:List Prt) (lost:Nat) (V:List Nat) (a:Option Addr) (len cap:Nat) (bs:Nat→Nat) (w:World) (h:Mxx w b L lost V) (hr:Row8 w a len cap bs) (hE:pfE L bs len≠0) :
  Calls Tryz.prog 61 #[.pointer (some ⟨b,0,none⟩),.slice a len cap] w fun e w'=>e=.returned (.tuple #[.agg #[.pointer none,.pointer none],.int .i64 (pfE L bs len)])∧Below w.heap.size w w':=by
 by_cases hD:DE bs len=0
 ·have e1:pfE L bs len=if (fnd L (w4v bs 1)).isSome then 0 else 44:=by unfold pfE;rw[if_neg (by omega)]
  have hn:fnd L (w4v bs 1)=none:=by
   cases hq:fnd L (w4v bs 1) with
   | none=>rfl
   | some q=>rw[hq]at e1;exact absurd e1 hE
  obtain⟨h1,h2,_,_⟩:=DE_zero hD
  have q:=mport_ok b L lost V a len cap bs (w4v bs 1) w h hr hD rfl (w4v_lt fun j hj=>hr.byte _ (by omega)) _ e1
  rw[show ptq (fndq L (w4v bs 1))=.agg #[.pointer none,.pointer none] by unfold fndq;rw[hn];rfl]at q
  exact q
 ·have e1:pfE L bs len=DE bs len:=by unfold pfE;rw[if_pos hD]
  rw[e1]
  exact mport_no b a len cap bs w hr hD
set_option maxHeartbeats 1000000 in
theorem mrecv_lost (b:Nat) (L:List Prt) (lost:Nat) (V:List Nat) (a:Option Addr) (len cap:Nat) (bs:Nat→Nat) (w:World) (h:Mxx w b L lost V) (hr:Row8 w a len cap bs) (hE:pfE L bs len≠0) (hl:lost<1000000) :
  Calls Tryz.prog 17 #[.pointer (some ⟨b,0,none⟩),.slice a len cap] w fun e w'=>e=.returned (.tuple #[.int .u32 0,.slice none 0 0,.int .i64 (pfE L bs len)])∧Hid (Off V w w'∧Mxx w' b L (lost+1) V):=by
 have hP:=mport_lost b L lost V a len cap bs w h hr hE
 obtain⟨l,mb,nn,D,h,hV⟩:=h
 have hq:=mnone_any b mb w h.c0
 have H:Hid (_):=And.intro h hV
 generalize pfE L bs len=E at *
 clear hr hV h
 go_enter Tryz.func17,Tryz.ntmps17
 go_wp2_with (first
  | (go_at_call 55;refine hq.mono ?_;rintro e w' ⟨rfl,hw⟩;have hw:=hw.symm;subst hw)
  | (go_at_call 61;refine hP.mono ?_;rintro e w2 ⟨rfl,b2⟩;have h2:=(H.out.1.off (o:=[]) (Off.of_below b2) (by simp)).off (Off.alloc [] w2 (.cells #[.pointer none,.pointer none] 122)) (by simp);have c1:=h2.c1;have H2:Hid (_):=And.intro b2 h2;have hA:=add_any lost 1 l none none 0 0 _ (by omega) (by omega) h2.los;rw[sat_one lost hl]at hA;clear hP b2 h2)
  | (go_at_call 62;refine hA.mono ?_;rintro e w3 ⟨rfl,hw⟩;have hw:=hw.symm;subst hw))
 refine bodyPost_ret (v:=.tuple #[.int .u32 0,.slice none 0 0,.int .i64 E]) (by simp[results,Tryz.results17,go_sem]) rfl ⟨rfl,?_⟩
 have e3:=H2.out.2.lost
 rw[show ((lost+1:Nat):Int)=(lost:Int)+1 by omega]at e3
 refine⟨((Off.of_below H2.out.1).trans (Off.alloc V w2 _)).trans ((Off.setCell l 0 _ _).more (fun k hk=>by simp at hk;subst hk;rw[H.out.2];simp[MXU])),l,mb,nn,D,e3,H.out.2⟩
def bump (L:List Prt) (c:Nat):List Prt:=L.map fun q=>if q.c=c then { q with n:=q.n+1 } else q
theorem fnd_bump (L:List Prt) (c x:Nat):fnd (bump L c) x=(fnd L x).map fun q=>if q.c=c then { q with n:=q.n+1 } else q:=by
 induction L with
 | nil=>rfl
 | cons q L ih=>
  simp only[bump,List.map_cons,fnd]at ih ⊢
  by_cases e:q.c=c
  ·rw[if_pos e]
   by_cases e2:q.c=x
   ·simp[e2,e2 ▸ e]
   ·simp[e2,ih]
  ·rw[if_neg e]
   by_cases e2:q.c=x
   ·simp[e2,e2 ▸ e]
   ·simp[e2,ih]
theorem fndq_bump (L:List Prt) (c x:Nat):fndq (bump L c) x=fndq L x:=by
 unfold fndq
 rw[fnd_bump]
 cases fnd L x with
 | none=>rfl
 | some q=>simp;split <;> simp
theorem MXU_bump (L:List Prt) (c b l mb:Nat):MXU (bump L c) b l mb=MXU L b l mb:=by
 unfold MXU bump
 simp
 intro q _
 split <;> rfl
theorem MX.bump {b:Nat} {L:List Prt} {lost l mb nn:Nat} {D:DataW Unit} {w:World} (h:MX w b L lost l mb nn D) (p:Prt) (hp:p ∈ L):MX (w.setCell ⟨p.k,0,none⟩ (.int .u64 ((p.n+1:Nat):Int))) b (bump L p.c) lost l mb nn D:=by
 have o:Off [p.k] w (w.setCell ⟨p.k,0,none⟩ (.int .u64 ((p.n+1:Nat):Int))):=Off.setCell p.k 0 w _
 have hbl:b≠p.k:=fun e=>by
  have h1:=h.blk
  rw[e,(h.met p hp).1.at_]at h1
  simp at h1
 have hone:∀ q,q ∈ L→q.c≠p.c→q.k≠p.k:=fun q hq hne=>by
  rcases List.pairwise_iff_getElem.1 h.one with hh
  obtain⟨i,hi,rfl⟩:=List.getElem_of_mem hp
  obtain⟨j,hj,rfl⟩:=List.getElem_of_mem hq
  rcases Nat.lt_trichotomy i j with hij | hij | hij
  ·exact Ne.symm (hh i j hi hj hij).2
  ·subst hij;exact absurd rfl hne
  ·exact (hh j i hj hi hij).2
 have huni:∀ q,q ∈ L→q.c=p.c→q=p:=fun q hq he=>by
  rcases List.pairwise_iff_getElem.1 h.one with hh
  obtain⟨i,hi,rfl⟩:=List.getElem_of_mem hp
  obtain⟨j,hj,rfl⟩:=List.getElem_of_mem hq
  rcases Nat.lt_trichotomy i j with hij | hij | hij
  ·exact absurd he.symm (hh i j hi hj hij).1
  ·subst hij;rfl
  ·exact absurd he (hh j i hj hi hij).1
 refine⟨(o.block b (h.lt b (by simp[MXU])) (by simpa using hbl)).trans h.blk,h.los.off o (by simpa using Ne.symm (h.met p hp).2.1),ownsMap_off h.map o (by simpa using Ne.symm (h.ne.2.2 p hp)),?_,?_,fun c hc=>?_,fun c hc=>?_,fun c hc=>?_,fun q hq=>?_,?_⟩
 ·simpa [Go.Proofs.YtffehehghpafdaaGreat.bump] using h.nle
 ·simpa [Go.Proofs.YtffehehghpafdaaGreat.bump] using h.siz
 ·rw[fndq_bump];exact h.at_ c hc
 ·rw[fnd_bump];simpa using h.has_ c hc
 ·obtain⟨q,hq,e⟩:=h.key c hc
  exact⟨_,List.mem_map.2 ⟨q,hq,rfl⟩,by split <;> simpa using e⟩
 ·obtain⟨q,hq',rfl⟩:=List.mem_map.1 hq
  by_cases e:q.c=p.c
  ·have e2:=huni q hq' e
   subst e2
   rw[if_pos rfl]
   exact⟨(h.met q hp).1.s0 _,(h.met q hp).2⟩
  ·rw[if_neg e]
   exact⟨(h.met q hq').1.off o (by simpa using hone q hq' e),(h.met q hq').2⟩
 ·unfold Go.Proofs.YtffehehghpafdaaGreat.bump
  rw[List.pairwise_map]
  refine h.one.imp fun {x y} hxy=>?_
  split <;> split <;> exact hxy
theorem DV.offM {w w':World} {d m g n mx:Nat} {P:Pm} {U l:List Nat} {s:Sd} (h:DV w d m g n mx P U s) (q:Off l w w') (hl:∀ k,k ∈ U→k ∉ l):DV w' d m g n mx P U s:=by
 obtain⟨B,h⟩:=h
 exact⟨B,⟨(q.block d h.dlt (hl _ h.kd.2)).trans h.dev,h.mem.off q (hl _ h.km.2) (hl _ h.kg.2),fun hs=>⟨(h.cel hs).1,(h.cel hs).2.1.off q (hl _ h.kc.2),(h.cel hs).2.2⟩,h.dog.off q (hl _ h.kb.2),h.val.off q (hl _ h.kv.2) (hl _ h.kw.2) (fun k hk hM=>hl k (h.kM k hM).2 hk),h.log.off q (fun k hk=>hl _ (h.kl k hk).2),own_offk h.app q (fun k hk=>hl _ (h.ka k hk).2),h.apb,fun k hk=>Nat.lt_of_lt_of_le (h.ltU k hk) q.size,h.kd,h.km,h.kg,h.kc,h.kb,h.kv,h.kw,h.kM,h.kl,h.ka,h.pok,h.n10,h.mx0,h.mxl⟩⟩
theorem mrecv_end {w w2 W w4:World} {d m g n mx:Nat} {P:Pm} {U:List Nat} {s:Sd} {f:Fm} {v p q:Value} (hU:∀ k,k ∈ U→k<w.heap.size) (b2:Below w.heap.size w w2) (hn:W.heap[w2.heap.size]?=some (.cells #[p,q] 122 (0,0))) (h:Out U W w4 d m g n mx P s f v) :
  w4.cell? ⟨d,0,none⟩=some (.int .u32 (P.c:Nat))∧w4.cell? ⟨w2.heap.size,0,none⟩=some p:=by
 obtain⟨U',G,⟨B,x⟩,_,_⟩:=h
 refine⟨x.cells.1,?_⟩
 have:=b2.size
 have hl:w2.heap.size<W.heap.size:=(Array.getElem?_eq_some_iff.1 hn).1
 exact cell_of_row w4 _ 0 _ _ _ ((G.off.block w2.heap.size hl (fun hm=>by have:=hU _ hm;omega)).trans hn)
set_option maxHeartbeats 2000000 in
theorem mrecv_any (b:Nat) (L:List Prt) (lost:Nat) (V:List Nat) (p:Prt) (m g n mx:Nat) (P:Pm) (U:List Nat) (s:Sd) (a:Option Addr) (len cap:Nat) (bs:Nat→Nat) (w:World) (h:Mxx w b L lost V) (hD:DV w p.d m g n mx P U s) (hUV:∀ k,k ∈ U→k ∉ V) (hr:Row8 w a len cap bs) (hE:DE bs len=0) (hf:fnd L (w4v bs 1)=some p) (hP:P.c=p.c) (hpn:p.n<1000000) (hsn:s.st=4→s.sn+1<4294967296) (ho:s.od<4) (hL:s.L.length<800000) (ht:s.ms.t<9223372036854774000) (hra:∀ x,a=some x→x.block ∉ V) :
  Calls Tryz.prog 17 #[.pointer (some ⟨b,0,none⟩),.slice a len cap] w fun e w'=>∃ v,e=.returned (.tuple #[.int .u32 (p.c:Nat),v,.int .i64 (drecv P mx n s len bs).e])∧Hid (∃ w1,Off V w w1∧DV w1 p.d m g n mx P U s∧Out U w1 w' p.d m g n mx P (drecv P mx n s len bs).s (drecv P mx n s len bs).f v∧Mxx w' b (bump L p.c) lost V∧Mxx w1 b (bump L p.c) lost V):=by
 obtain⟨h1,h2,_,_⟩:=DE_zero hE
 have hQ:=mport_ok b L lost V a len cap bs (w4v bs 1) w h hr hE rfl (w4v_lt fun j hj=>hr.byte _ (by omega)) 0 (by rw[hf];rfl)
 rw[show ptq (fndq L (w4v bs 1))=.agg #[.pointer (some ⟨p.d,0,none⟩),.pointer (some ⟨p.k,0,none⟩)] by unfold fndq;rw[hf];rfl]at hQ
 obtain⟨l,mb,nn,D,h,hV⟩:=h
 have hpL:=(fnd_mem hf).1
 have hq:=mnone_any b mb w h.c0
 have hpV:p.k ∈ V:=by rw[hV];simp[MXU];exact .inr (.inr (.inr ⟨p,hpL,rfl⟩))
 have oV:∀ w2,Below w.heap.size w w2→Off V w ((w2.alloc (.cells #[.pointer (some ⟨p.d,0,none⟩),.pointer (some ⟨p.k,0,none⟩)] 122)).setCell ⟨p.k,0,none⟩ (.int .u64 ((p.n+1:Nat):Int))):=fun w2 b2=>((Off.of_below b2).trans (Off.alloc V w2 _)).trans ((Off.setCell p.k 0 _ _).more (fun k hk=>by simp at hk;subst hk;exact hpV))
 have hT:∀ w2,Below w.heap.size w w2→∃ W,W=(w2.alloc (.cells #[.pointer (some ⟨p.d,0,none⟩),.pointer (some ⟨p.k,0,none⟩)] 122)).setCell ⟨p.k,0,none⟩ (.int .u64 ((p.n+1:Nat):Int))∧Off V w W∧DV W p.d m g n mx P U s∧MX W b (bump L p.c) lost l mb nn D∧Row8 W a len cap bs∧W.heap[w2.heap.size]?=some (.cells #[.pointer (some ⟨p.d,0,none⟩),.pointer (some ⟨p.k,0,none⟩)] 122 (0,0)):=by
  intro w2 b2
  refine⟨_,rfl,?_,?_,?_,?_,?_⟩
  ·exact oV w2 b2
  ·exact hD.offM (oV w2 b2) hUV
  ·exact ((h.off (o:=[]) (Off.of_below b2) (by simp)).off (Off.alloc [] w2 _) (by simp)).bump p hpL
  ·exact hr.off (oV w2 b2) hra
  ·have hpl:=h.lt p.k (hV ▸ hpV)
   have:=b2.size
   exact ((Off.setCell p.k 0 (w2.alloc (.cells #[.pointer (some ⟨p.d,0,none⟩),.pointer (some ⟨p.k,0,none⟩)] 122)) (.int .u64 ((p.n+1:Nat):Int))).block w2.heap.size (by simp) (by simp;omega)).trans (heap_alloc_new w2 _)
 have hC0:=fun w2 b2=>(h.off (o:=[]) (Off.of_below (w':=w2) b2) (by simp)).off (Off.alloc [] w2 (.cells #[.pointer (some ⟨p.d,0,none⟩),.pointer (some ⟨p.k,0,none⟩)] 122)) (by simp)
 have hUl:∀ k,k ∈ U→k<w.heap.size:=fun k hk=>hD.ult k hk
 have hVl:∀ k,k ∈ V→k<w.heap.size:=fun k hk=>h.lt k (hV ▸ hk)
 have H:Hid (_):=And.intro hT (And.intro hC0 (And.intro hpL (And.intro hV (And.intro hUV (And.intro hP (And.intro hsn (And.intro ho (And.intro hL (And.intro ht (And.intro hUl hVl))))))))))
 clear hT hC0 hV hUV hP hsn ho hL ht h hr hra hD hE hf oV h1 h2 hpV hUl hVl hpL
 go_enter Tryz.func17,Tryz.ntmps17
 go_upto_region 3 with (go_at_call 55;refine hq.mono ?_;rintro e w' ⟨rfl,hw⟩;have hw:=hw.symm;subst hw)
 go_wp2_with (first
  | (go_at_call 61;refine hQ.mono ?_;rintro e w2 ⟨rfl,b2⟩;have hM2:=H.out.2.1 w2 b2;have hA:=add_any p.n 1 p.k none none 0 0 _ (by omega) (by omega) (hM2.met p H.out.2.2.1).1;rw[sat_one p.n hpn]at hA;obtain⟨W,hW,hX⟩:=H.out.1 w2 b2;rw[← hW]at hA;have HX:Hid (_):=And.intro b2 hX;have q0:W.cell? ⟨w2.heap.size,0,none⟩=some (.pointer (some ⟨p.d,0,none⟩)):=cell_of_row W _ 0 _ _ _ hX.2.2.2.2;have hR:=receive4_any p.d m g n mx P U s a len cap bs W hX.2.1 hX.2.2.2.1 H.out.2.2.2.2.2.2.1 H.out.2.2.2.2.2.2.2.1 H.out.2.2.2.2.2.2.2.2.1 H.out.2.2.2.2.2.2.2.2.2.1;clear hM2 hX hW hQ hq b2)
  | (go_at_call 62;refine hA.mono ?_;rintro e w3 ⟨rfl,hw⟩;have hw:=hw.symm;subst hw;clear hA)
  | (go_at_call 18;refine hR.mono ?_;rintro e w4 ⟨v,rfl,h4⟩;obtain⟨cd,q1⟩:=mrecv_end H.out.2.2.2.2.2.2.2.2.2.2.1 HX.out.1 HX.out.2.2.2.2.2 h4.out;have hC:=mcode_any p.d P.c w4 cd;clear cd hR)
  | (go_at_call 63;refine hC.mono ?_;rintro e w5 ⟨rfl,hw⟩;have hw:=hw.symm;subst hw;clear hC))
 refine bodyPost_ret (v:=.tuple #[.int .u32 (P.c:Nat),v,.int .i64 (drecv P mx n s len bs).e]) (by simp[results,Tryz.results17,go_sem]) rfl ?_
 obtain⟨b2,o1,D1,M1,r1,n1⟩:=HX.out
 refine⟨v,by rw[H.out.2.2.2.2.2.1],W,o1,D1,h4.out,?_⟩
 obtain⟨U',G,_⟩:=h4.out
 refine⟨⟨l,mb,nn,D,M1.off G.off (fun k hk hm=>?_),by rw[MXU_bump];exact H.out.2.2.2.1⟩,⟨l,mb,nn,D,M1,by rw[MXU_bump];exact H.out.2.2.2.1⟩⟩
 rw[MXU_bump,← H.out.2.2.2.1]at hk
 exact H.out.2.2.2.2.1 k hm hk
open Go.RowKit
def dvT (x:Dr) (U:List Nat):Thing:=⟨U,fun w=>DV w x.d x.m x.g x.n x.mx x.P U x.s,fun _ _ _ h o hl=>DV.off h o hl⟩
def rwT (x:Dr) (U:List Nat):Thing:=⟨U,fun w=>RW w x.d x.m x.g x.n x.mx x.P U x.s,fun _ _ _ h o hl=>RW.off h o hl⟩
theorem Mxx.off {w w':World} {b:Nat} {L:List Prt} {lost:Nat} {V l:List Nat} (h:Mxx w b L lost V) (o:Off l w w') (hl:∀ k,k ∈ V→k ∉ l):Mxx w' b L lost V:=by
 obtain⟨l,mb,nn,D,h,e⟩:=h
 subst e
 exact⟨l,mb,nn,D,h.off o hl,rfl⟩
theorem Mxx.lt {w:World} {b:Nat} {L:List Prt} {lost:Nat} {V:List Nat} (h:Mxx w b L lost V):∀ k,k ∈ V→k<w.heap.size:=by
 obtain⟨l,mb,nn,D,h,e⟩:=h
 subst e
 exact h.lt
def mxT (b:Nat) (L:List Prt) (lost:Nat) (V:List Nat):Thing:=⟨V,fun w=>Mxx w b L lost V,fun _ _ _ h o hl=>h.off o hl⟩
def r8T (a:Option Addr) (len cap:Nat) (bs:Nat→Nat):Thing:=⟨a.toList.map (·.block),fun w=>Row8 w a len cap bs,fun _ _ _ h o hl=>h.off o (fun x hx=>hl _ (by rw[hx];simp))⟩
section
variable {w0 w w':World} {t:Nat→Thing} {i:Nat}
theorem Al.dv (h:Al w0 w t) {x:Dr} {U:List Nat} (e:t i=dvT x U):DV w x.d x.m x.g x.n x.mx x.P U x.s:=h.get e
theorem Al.rw (h:Al w0 w t) {x:Dr} {U:List Nat} (e:t i=rwT x U):RW w x.d x.m x.g x.n x.mx x.P U x.s:=h.get e
theorem Al.mx (h:Al w0 w t) {b:Nat} {L:List Prt} {lost:Nat} {V:List Nat} (e:t i=mxT b L lost V):Mxx w b L lost V:=h.get e
theorem Al.stepD (h:Al w0 w t) {x:Dr} {U U':List Nat} (e:t i=dvT x U) (g:Gr U w U' w') {s':Sd} (hx:DV w' x.d x.m x.g x.n x.mx x.P U' s'):Al w0 w' (putT t i (dvT { x with s:=s' } U')):=
 h.step i (dvT { x with s:=s' } U') (by rw[e];rfl) g hx (fun k hk=>hx.ult k hk)
theorem Al.stepR (h:Al w0 w t) {x:Dr} {U U':List Nat} (e:t i=rwT x U) (g:Gr U w U' w') {s':Sd} (hx:RW w' x.d x.m x.g x.n x.mx x.P U' s'):Al w0 w' (putT t i (rwT { x with s:=s' } U')):=
 h.step i (rwT { x with s:=s' } U') (by rw[e];rfl) g hx (fun k hk=>hx.ult k hk)
theorem Al.apart (h:Al w0 w t) {j:Nat} (hij:i≠j) {x y:Thing} (ei:t i=x) (ej:t j=y):∀ k,k ∈ x.U→k ∉ y.U:=by
 subst ei;subst ej
 exact h.dis i j hij
end
def Pl.dr (L:Pl) (s:Sd):Dr:=⟨L.d,L.m,L.g,L.n,L.mx,L.P,s⟩
def Pl.rr (L:Pl) (s:Sd):Dr:=⟨L.e,L.r,L.q,L.n,L.mx,L.P,s⟩
theorem Al.two {w0 w w':World} {t:Nat→Thing} (h:Al w0 w t) {L:Pl} {s:Sd} (T:Two w w' L s) (i j:Nat):∃ U V,Al w0 w' (putT (putT t i (dvT (L.dr s) U)) j (rwT (L.rr s) V)):=by
 obtain⟨U,V,T⟩:=T
 have h1:=h.below T.bel
 have sz:=T.bel.size
 have s0:=h.size
 have hn:∀ k,w.heap.size≤k→∀ j,k ∉ (t j).U:=fun k hk j hm=>by have:=(h.lt j k hm).2;omega
 have h2:Al w0 w' (putT t i (dvT (L.dr s) U)):=h1.turn i _ (Off.refl _ _) T.dv (fun k hk=>⟨by have:=(T.uv k hk).1;omega,T.dv.ult k hk⟩) (fun k hk j _=>hn k (T.uv k hk).1 j)
 refine⟨U,V,h2.turn j _ (Off.refl _ _) T.rw (fun k hk=>⟨by have:=T.vb k hk;omega,T.rw.ult k hk⟩) (fun k hk q _ hm=>?_)⟩
 by_cases e:q=i
 ·subst e
  rw[putT_same]at hm
  exact (T.uv k hm).2 hk
 ·rw[putT_ne _ _ e]at hm
  exact hn k (T.vb k hk) q hm
end Go.Proofs.YtffehehghpafdaaGreat
namespace Go.Proofs.YtffehehghpafdaaGreat
set_option maxRecDepth 100000
open Go.RowKit Go.Maps Go.Sort Go.Shelf
structure WD (w:World) (x b r:Nat) (va vm vr:Value) (ds ms rs:List Nat):Prop where
 blk:w.heap[x]?=some (.cells #[ptV b,ptV r,va,vm,vr] 42 (0,0))
 ra:w.ownsRow 0 43 1 va ds.length (ds.map ptV)
 rm:w.ownsRow 0 44 1 vm ms.length (ms.map ptV)
 rr:w.ownsRow 0 45 1 vr rs.length (rs.map ptV)
def WDU (x:Nat) (va vm vr:Value):List Nat:=x :: (va.ownBlock.toList ++ (vm.ownBlock.toList ++ vr.ownBlock.toList))
section
variable {w w':World} {x b r:Nat} {va vm vr:Value} {ds ms rs:List Nat}
theorem WD.lt (h:WD w x b r va vm vr ds ms rs):∀ k,k ∈ WDU x va vm vr→k<w.heap.size:=by
 intro k hk
 simp[WDU]at hk
 rcases hk with rfl | hk | hk | hk
 ·exact (Array.getElem?_eq_some_iff.1 h.blk).1
 ·obtain⟨c,hc⟩:=own_blkM h.ra hk
  exact (Array.getElem?_eq_some_iff.1 hc).1
 ·obtain⟨c,hc⟩:=own_blkM h.rm hk
  exact (Array.getElem?_eq_some_iff.1 hc).1
 ·obtain⟨c,hc⟩:=own_blkM h.rr hk
  exact (Array.getElem?_eq_some_iff.1 hc).1
theorem WD.off {l:List Nat} (h:WD w x b r va vm vr ds ms rs) (o:Off l w w') (hl:∀ k,k ∈ WDU x va vm vr→k ∉ l):WD w' x b r va vm vr ds ms rs:=
 ⟨(o.block x (h.lt x (by simp[WDU])) (hl x (by simp[WDU]))).trans h.blk,own_offM h.ra o (fun k hk=>hl k (by simp[WDU,hk])),own_offM h.rm o (fun k hk=>hl k (by simp[WDU,hk])),own_offM h.rr o (fun k hk=>hl k (by simp[WDU,hk]))⟩
end
def wdT (x b r:Nat) (va vm vr:Value) (ds ms rs:List Nat):Thing:=⟨WDU x va vm vr,fun w=>WD w x b r va vm vr ds ms rs,fun _ _ _ h o hl=>h.off o hl⟩
theorem own_keepM {w w1:World} {ob:Obj} {row:Option Nat} {B e size n x i:Nat} {v y:Value} {xs:List Value} (h:w.ownsRow B e size v n xs) (g:(w.alloc ob).grownBy w1 row) (h1:∀ k,v.ownBlock=some k→row≠some k) (h2:v.ownBlock≠some x):(w1.setCell ⟨x,i,none⟩ y).ownsRow B e size v n xs:=by
 refine own_offM (own_offM (own_offM h (Off.alloc [] w ob) (by simp)) (Off.grownO g) (fun k hk hm=>?_)) (Off.setCell x i w1 y) (fun k hk hm=>?_)
 ·simp at hm
  exact h1 k hk hm
 ·simp at hm
  subst hm
  exact h2 hk
section
variable {w w1:World} {x b r:Nat} {va vm vr v':Value} {ds ms rs:List Nat} {ob:Obj}
theorem WD.app_a (h:WD w x b r va vm vr ds ms rs) (d:Nat) (o1:w1.ownsRow 0 43 1 v' (ds.length+1) (ds.map ptV ++ [ptV d])) (g1:(w.alloc ob).grownBy w1 va.ownBlock) (hb:v'.ownBlock=va.ownBlock∨v'.ownBlock=some (w.heap.size+1)) :
  w1.heap[x]?=some (.cells #[ptV b,ptV r,va,vm,vr] 42 (0,0))∧WD (w1.setCell ⟨x,2,none⟩ v') x b r v' vm vr (ds ++ [d]) ms rs∧Gr (WDU x va vm vr) w (WDU x v' vm vr) (w1.setCell ⟨x,2,none⟩ v'):=by
 have hxl:=h.lt x (by simp[WDU])
 have nx:va.ownBlock≠some x:=fun e=>by
  obtain⟨c,hc⟩:=own_blkM h.ra e
  exact tdiffM h.blk hc (by decide) rfl
 have e1:w1.heap[x]?=some (.cells #[ptV b,ptV r,va,vm,vr] 42 (0,0)):=grown_blk g1 ((old_allocU hxl).trans h.blk) nx
 have oA:Off (WDU x va vm vr) w w1:=((Off.alloc _ w ob).trans ((Off.grownO g1).more (fun k hk=>by simp at hk;simp[WDU,hk])))
 have oB:Off (WDU x va vm vr) w (w1.setCell ⟨x,2,none⟩ v'):=oA.trans ((Off.setCell x 2 w1 v').more (fun k hk=>by simp at hk;simp[WDU,hk]))
 refine⟨e1,⟨?_,?_,?_,?_⟩,oB,fun k hk=>?_⟩
 ·exact heap_setCell_same _ _ _ _ _ _ e1
 ·rw[List.length_append,List.map_append]
  refine own_offM o1 (Off.setCell x 2 w1 v') (fun k hk hm=>?_)
  simp at hm
  subst hm
  rcases hb with hb | hb
  ·exact nx (hb ▸ hk)
  ·rw[hb]at hk
   simp at hk
   omega
 ·exact own_keepM h.rm g1 (fun k hk e=>by
   obtain⟨c,hc⟩:=own_blkM h.ra e
   obtain⟨c',hc'⟩:=own_blkM h.rm hk
   exact tdiffM hc hc' (by decide) rfl) (fun e=>by
   obtain⟨c,hc⟩:=own_blkM h.rm e
   exact tdiffM h.blk hc (by decide) rfl)
 ·exact own_keepM h.rr g1 (fun k hk e=>by
   obtain⟨c,hc⟩:=own_blkM h.ra e
   obtain⟨c',hc'⟩:=own_blkM h.rr hk
   exact tdiffM hc hc' (by decide) rfl) (fun e=>by
   obtain⟨c,hc⟩:=own_blkM h.rr e
   exact tdiffM h.blk hc (by decide) rfl)
 ·simp[WDU]at hk
  rcases hk with rfl | hk | hk | hk
  ·exact .inl (by simp[WDU])
  ·rcases hb with hb | hb
   ·exact .inl (by simp[WDU,← hb,hk])
   ·rw[hb]at hk
    simp at hk
    exact .inr (by omega)
  ·exact .inl (by simp[WDU,hk])
  ·exact .inl (by simp[WDU,hk])
theorem WD.app_m (h:WD w x b r va vm vr ds ms rs) (d:Nat) (o1:w1.ownsRow 0 44 1 v' (ms.length+1) (ms.map ptV ++ [ptV d])) (g1:(w.alloc ob).grownBy w1 vm.ownBlock) (hb:v'.ownBlock=vm.ownBlock∨v'.ownBlock=some (w.heap.size+1)) :
  w1.heap[x]?=some (.cells #[ptV b,ptV r,va,vm,vr] 42 (0,0))∧WD (w1.setCell ⟨x,3,none⟩ v') x b r va v' vr ds (ms ++ [d]) rs∧Gr (WDU x va vm vr) w (WDU x va v' vr) (w1.setCell ⟨x,3,none⟩ v'):=by
 have hxl:=h.lt x (by simp[WDU])
 have nx:vm.ownBlock≠some x:=fun e=>by
  obtain⟨c,hc⟩:=own_blkM h.rm e
  exact tdiffM h.blk hc (by decide) rfl
 have e1:w1.heap[x]?=some (.cells #[ptV b,ptV r,va,vm,vr] 42 (0,0)):=grown_blk g1 ((old_allocU hxl).trans h.blk) nx
 have oA:Off (WDU x va vm vr) w w1:=((Off.alloc _ w ob).trans ((Off.grownO g1).more (fun k hk=>by simp at hk;simp[WDU,hk])))
 have oB:Off (WDU x va vm vr) w (w1.setCell ⟨x,3,none⟩ v'):=oA.trans ((Off.setCell x 3 w1 v').more (fun k hk=>by simp at hk;simp[WDU,hk]))
 refine⟨e1,⟨?_,?_,?_,?_⟩,oB,fun k hk=>?_⟩
 ·exact heap_setCell_same _ _ _ _ _ _ e1
 ·exact own_keepM h.ra g1 (fun k hk e=>by
   obtain⟨c,hc⟩:=own_blkM h.rm e
   obtain⟨c',hc'⟩:=own_blkM h.ra hk
   exact tdiffM hc hc' (by decide) rfl) (fun e=>by
   obtain⟨c,hc⟩:=own_blkM h.ra e
   exact tdiffM h.blk hc (by decide) rfl)
 ·rw[List.length_append,List.map_append]
  refine own_offM o1 (Off.setCell x 3 w1 v') (fun k hk hm=>?_)
  simp at hm
  subst hm
  rcases hb with hb | hb
  ·exact nx (hb ▸ hk)
  ·rw[hb]at hk
   simp at hk
   omega
 ·exact own_keepM h.rr g1 (fun k hk e=>by
   obtain⟨c,hc⟩:=own_blkM h.rm e
   obtain⟨c',hc'⟩:=own_blkM h.rr hk
   exact tdiffM hc hc' (by decide) rfl) (fun e=>by
   obtain⟨c,hc⟩:=own_blkM h.rr e
   exact tdiffM h.blk hc (by decide) rfl)
 ·simp[WDU]at hk
  rcases hk with rfl | hk | hk | hk
  ·exact .inl (by simp[WDU])
  ·exact .inl (by simp[WDU,hk])
  ·rcases hb with hb | hb
   ·exact .inl (by simp[WDU,← hb,hk])
   ·rw[hb]at hk
    simp at hk
    exact .inr (by omega)
  ·exact .inl (by simp[WDU,hk])
theorem WD.app_r (h:WD w x b r va vm vr ds ms rs) (d:Nat) (o1:w1.ownsRow 0 45 1 v' (rs.length+1) (rs.map ptV ++ [ptV d])) (g1:(w.alloc ob).grownBy w1 vr.ownBlock) (hb:v'.ownBlock=vr.ownBlock∨v'.ownBlock=some (w.heap.size+1)) :
  w1.heap[x]?=some (.cells #[ptV b,ptV r,va,vm,vr] 42 (0,0))∧WD (w1.setCell ⟨x,4,none⟩ v') x b r va vm v' ds ms (rs ++ [d])∧Gr (WDU x va vm vr) w (WDU x va vm v') (w1.setCell ⟨x,4,none⟩ v'):=by
 have hxl:=h.lt x (by simp[WDU])
 have nx:vr.ownBlock≠some x:=fun e=>by
  obtain⟨c,hc⟩:=own_blkM h.rr e
  exact tdiffM h.blk hc (by decide) rfl
 have e1:w1.heap[x]?=some (.cells #[ptV b,ptV r,va,vm,vr] 42 (0,0)):=grown_blk g1 ((old_allocU hxl).trans h.blk) nx
 have oA:Off (WDU x va vm vr) w w1:=((Off.alloc _ w ob).trans ((Off.grownO g1).more (fun k hk=>by simp at hk;simp[WDU,hk])))
 have oB:Off (WDU x va vm vr) w (w1.setCell ⟨x,4,none⟩ v'):=oA.trans ((Off.setCell x 4 w1 v').more (fun k hk=>by simp at hk;simp[WDU,hk]))
 refine⟨e1,⟨?_,?_,?_,?_⟩,oB,fun k hk=>?_⟩
 ·exact heap_setCell_same _ _ _ _ _ _ e1
 ·exact own_keepM h.ra g1 (fun k hk e=>by
   obtain⟨c,hc⟩:=own_blkM h.rr e
   obtain⟨c',hc'⟩:=own_blkM h.ra hk
   exact tdiffM hc hc' (by decide) rfl) (fun e=>by
   obtain⟨c,hc⟩:=own_blkM h.ra e
   exact tdiffM h.blk hc (by decide) rfl)
 ·exact own_keepM h.rm g1 (fun k hk e=>by
   obtain⟨c,hc⟩:=own_blkM h.rr e
   obtain⟨c',hc'⟩:=own_blkM h.rm hk
   exact tdiffM hc hc' (by decide) rfl) (fun e=>by
   obtain⟨c,hc⟩:=own_blkM h.rm e
   exact tdiffM h.blk hc (by decide) rfl)
 ·rw[List.length_append,List.map_append]
  refine own_offM o1 (Off.setCell x 4 w1 v') (fun k hk hm=>?_)
  simp at hm
  subst hm
  rcases hb with hb | hb
  ·exact nx (hb ▸ hk)
  ·rw[hb]at hk
   simp at hk
   omega
 ·simp[WDU]at hk
  rcases hk with rfl | hk | hk | hk
  ·exact .inl (by simp[WDU])
  ·exact .inl (by simp[WDU,hk])
  ·exact .inl (by simp[WDU,hk])
  ·rcases hb with hb | hb
   ·exact .inl (by simp[WDU,← hb,hk])
   ·rw[hb]at hk
    simp at hk
    exact .inr (by omega)
end
structure Ent where
 L:Pl
 s:Sd
 n:Nat
 k:Nat
def prts (E:List Ent):List Prt:=E.map fun e=>⟨e.L.P.c,e.L.d,e.k,e.n⟩
structure Wo (w0 w:World) (x b r:Nat) (E:List Ent) (lost:Nat) (t:Nat→Thing):Prop where
 al:Al w0 w t
 mx:∃ V,t 0=mxT b (prts E) lost V
 rm:∃ v1 v2,t 1=rmT r v1 v2 (E.map (·.L.e)) (E.map (·.n)) lost
 wd:∃ va vm vr,t 2=wdT x b r va vm vr (E.map (·.L.d)) (E.map (·.L.m)) (E.map (·.L.e))
 dv:∀ j (hj:j<E.length),∃ U,t (10+2*j)=dvT ((E[j]).L.dr (E[j]).s) U
 rw:∀ j (hj:j<E.length),∃ U,t (11+2*j)=rwT ((E[j]).L.rr (E[j]).s) U
 le:E.length≤8
 pc:∀ e,e ∈ E→e.L.n=16∧e.L.mx=99∧e.L.P.c≠0∧e.L.P.c<4294967296∧e.L.P=Pc e.L.P.c
section
variable {w0 w w':World} {x b r lost:Nat} {E:List Ent} {t:Nat→Thing}
theorem prts_len (E:List Ent):(prts E).length=E.length:=by simp[prts]
theorem prts_get (E:List Ent) (j:Nat) (hj:j < (prts E).length):(prts E)[j]=⟨(E[j]'(by simpa [prts] using hj)).L.P.c,(E[j]'(by simpa [prts] using hj)).L.d,(E[j]'(by simpa [prts] using hj)).k,(E[j]'(by simpa [prts] using hj)).n⟩:=by simp[prts]
theorem Wo.below (h:Wo w0 w x b r E lost t) (q:Below w.heap.size w w'):Wo w0 w' x b r E lost t:=⟨h.al.below q,h.mx,h.rm,h.wd,h.dv,h.rw,h.le,h.pc⟩
def cdE (E:List Ent) (i:Nat):Nat:=match E[i]? with | some e=>e.L.P.c | none=>0
theorem cdE_get (E:List Ent) (i:Nat) (hi:i<E.length):cdE E i=(E[i]).L.P.c:=by unfold cdE;rw[List.getElem?_eq_getElem hi]
theorem Wo.codes (h:Wo w0 w x b r E lost t):∀ i (hi:i < (E.map (·.L.e)).length),w.cell? ⟨(E.map (·.L.e))[i],0,none⟩=some (.int .u32 (cdE E i:Nat)):=by
 intro i hi
 have hi':i<E.length:=by simpa using hi
 obtain⟨U,e⟩:=h.rw i hi'
 have:=(h.al.rw e).code
 rw[cdE_get E i hi']
 simpa [Pl.rr] using this
end
end Go.Proofs.YtffehehghpafdaaGreat
