/- Part 36 of the texts on which the proofs of layer 13 rest: contracts of Go functions. -/
import Derived.Test.YthbogkaoidbpgaaGreatPkB34
namespace Go.Proofs.YthbogkaoidbpgaaGreat
set_option maxRecDepth 100000
open Go.RowKit Go.Maps Go.Sort Go.Shelf
theorem pfE_none (L:List Prt) (bs:Nat→Nat):pfE L bs 0=40:=by
 have:DE bs 0=40:=by unfold DE;rw[if_pos (by omega)]
 unfold pfE
 rw[this,if_pos (by omega)]
section
variable {w0 w w':World} {x b lost:Nat} {E:List Ent} {t:Nat→Thing} {ls:List Nat} {lv:Value} {a:Option Addr} {len cap:Nat} {bs:Nat→Nat}
theorem recvL (A:Al w0 w t) {k:Nat} {D:Dr} {U:List Nat} (ed:t k=dvT D U) (hk:k≠7) (hr:Row8 w a len cap bs) (hv:Iv D.P D.s) (hL:D.s.L.length<800000) (ht:D.s.ms.t<9223372036854774000) :
  Calls Tryz.prog 13 #[.pointer (some ⟨D.d,0,none⟩),.slice a len cap] w fun e w'=>∃ ax cx,e=.returned (.tuple #[.slice ax (drecv D.P D.mx D.n D.s len bs).f.1 cx,.int .i64 (drecv D.P D.mx D.n D.s len bs).e])∧Hid (∃ t' U',Al w0 w' t'∧t' k=dvT { D with s:=(drecv D.P D.mx D.n D.s len bs).s } U'∧t' 7=r8T ax (drecv D.P D.mx D.n D.s len bs).f.1 cx (drecv D.P D.mx D.n D.s len bs).f.2∧∀ i,i≠k→i≠7→t' i=t i):=by
 have hDV:=A.dv ed
 obtain⟨B,y⟩:=id hDV
 refine (receive4_any D.d D.m D.g D.n D.mx D.P U D.s a len cap bs w hDV hr (hv.sent y.pok) hv.od hL ht).mono ?_
 rintro e w' ⟨v,rfl,h⟩
 obtain⟨U',G,D2,F,kF⟩:=h.out
 have hby:=drecv_byte D.P D.mx D.n D.s y.apb len bs
 obtain⟨ax,cx,rfl,rx⟩:=F.row hby
 have A2:=A.stepD ed G D2
 have A3:=A2.turn 7 (r8T ax (drecv D.P D.mx D.n D.s len bs).f.1 cx (drecv D.P D.mx D.n D.s len bs).f.2) (Off.refl _ _) rx (fun q hq=>?_) (fun q hq i hi hm=>?_)
 ·refine⟨ax,cx,rfl,_,U',A3,?_,putT_same _ _ _,fun i h1 h2=>?_⟩
  ·rw[putT_ne _ _ hk,putT_same]
  ·rw[putT_ne _ _ h2,putT_ne _ _ h1]
 ·simp[r8T]at hq
  obtain⟨z,hz,rfl⟩:=hq
  have h1:=own_far F z hz
  have:=A.size
  omega
 ·simp[r8T]at hq
  obtain⟨z,hz,rfl⟩:=hq
  have h1:=own_far F z hz
  by_cases ej:i=k
  ·subst ej
   rw[putT_same]at hm
   exact kF z.block (by rw[hz];rfl) hm
  ·rw[putT_ne _ _ ej]at hm
   have:=(A.lt i _ hm).2
   omega
theorem recvQ (A:Al w0 w t) {k:Nat} {D:Dr} {U:List Nat} (ed:t k=rwT D U) (hr:Row8 w a len cap bs) (hv:Iv D.P D.s) (hL:D.s.L.length<800000) (ht:D.s.ms.t<9223372036854774000) :
  Calls Tryz.prog 14 #[.pointer (some ⟨D.d,0,none⟩),.slice a len cap] w fun e w'=>∃ v,e=.returned (.tuple #[v,.int .i64 (drecv D.P D.mx D.n D.s len bs).e])∧Hid (∃ t' U',Al w0 w' t'∧t' k=rwT { D with s:=(drecv D.P D.mx D.n D.s len bs).s } U'∧∀ i,i≠k→t' i=t i):=by
 have hRW:=A.rw ed
 obtain⟨B,y⟩:=id hRW
 refine (rreceive_any D.d D.m D.g D.n D.mx D.P U D.s a len cap bs w hRW hr (hv.sent y.pok) hv.od hL ht hv.ss).mono ?_
 rintro e w' ⟨v,rfl,h⟩
 obtain⟨U',G,D2,F,kF⟩:=h.out
 exact⟨v,rfl,_,U',A.stepR ed G D2,putT_same _ _ _,fun i hi=>putT_ne _ _ hi⟩
theorem Wa.lostA (h:Wa w0 w x b E lost lv ls t) {t1:Nat→Thing} {V:List Nat} (A:Al w0 w' t1) (h0:t1 0=mxT b (prts E) (lost+1) V) (ho:∀ i,i≠0→i≠3→i≠4→i≠5→t1 i=t i):Wa w0 w' x b E (lost+1) lv ls t1:=by
 refine⟨A,⟨V,h0⟩,?_,?_,h.ll,fun j hj=>?_,fun j hj=>?_,fun j hj=>?_,h.le,h.pc⟩
 ·rw[ho 2 (by omega) (by omega) (by omega) (by omega)];exact h.wd
 ·rw[ho 6 (by omega) (by omega) (by omega) (by omega)];exact h.ln
 ·rw[ho _ (by omega) (by omega) (by omega) (by omega)];exact h.dv j hj
 ·rw[ho _ (by omega) (by omega) (by omega) (by omega)];exact h.rw j hj
 ·rw[ho _ (by omega) (by omega) (by omega) (by omega)];exact h.lo j hj
theorem Wa.foundA (h:Wa w0 w x b E lost lv ls t) (hu:One E) {t3:Nat→Thing} {V U U1 U2:List Nat} {j d:Nat} {en:Ent} {D:Dr} {s':Sd} (he:E[j]?=some en) (hd:ls[j]?=some d) (A:Al w0 w' t3) (h0:t3 0=mxT b (bump (prts E) en.L.P.c) lost V) (h1:t3 (10+2*j)=dvT (en.L.dr s') U) (h2:t3 (11+2*j)=rwT (en.L.rr s') U1) (h3:t3 (100+j)=dvT D U2) (hk:Lk { en with s:=s' } d D) (ho:∀ i,i≠0→i≠3→i≠4→i≠5→i≠7→i≠10+2*j→i≠11+2*j→i≠100+j→t3 i=t i):Wa w0 w' x b (setN E j s') lost lv ls t3:=by
 obtain⟨hj,hje⟩:=List.getElem?_eq_some_iff.1 he
 obtain⟨hjl,hjd⟩:=List.getElem?_eq_some_iff.1 hd
 have h8:=h.le
 have l:(setN E j s').length=E.length:=setN_len E j s'
 have hg:∀ i (hi:i < (setN E j s').length),(i=j∧(setN E j s')[i].L=en.L∧(setN E j s')[i].s=s')∨(i≠j∧∃ hi':i<E.length,(setN E j s')[i]=E[i]):=by
  intro i hi
  rw[setN_get]
  by_cases e:i=j
  ·subst e
   rw[if_pos rfl]
   exact .inl ⟨rfl,by rw[hje],rfl⟩
  ·exact .inr ⟨e,by simpa [setN] using hi,if_neg e⟩
 refine⟨A,⟨V,by rw[h0,prts_setN hu he]⟩,?_,?_,by rw[l];exact h.ll,fun i hi=>?_,fun i hi=>?_,fun i hi=>?_,by rw[l];exact h.le,fun e he'=>?_⟩
 ·obtain⟨r,va,vm,vr,e⟩:=h.wd
  exact⟨r,va,vm,vr,by rw[ho 2 (by omega) (by omega) (by omega) (by omega) (by omega) (by omega) (by omega) (by omega),e,setN_map E j s' _ (fun _ _ _=>rfl),setN_map E j s' _ (fun _ _ _=>rfl),setN_map E j s' _ (fun _ _ _=>rfl)]⟩
 ·rw[ho 6 (by omega) (by omega) (by omega) (by omega) (by omega) (by omega) (by omega) (by omega)];exact h.ln
 ·rcases hg i hi with ⟨rfl,e1,e2⟩ | ⟨hne,hi',e⟩
  ·rw[e1,e2];exact⟨U,h1⟩
  ·rw[e,ho _ (by omega) (by omega) (by omega) (by omega) (by omega) (by omega) (by omega) (by omega)];exact h.dv i hi'
 ·rcases hg i hi with ⟨rfl,e1,e2⟩ | ⟨hne,hi',e⟩
  ·rw[e1,e2];exact⟨U1,h2⟩
  ·rw[e,ho _ (by omega) (by omega) (by omega) (by omega) (by omega) (by omega) (by omega) (by omega)];exact h.rw i hi'
 ·rcases hg i hi with ⟨rfl,e1,e2⟩ | ⟨hne,hi',e⟩
  ·refine⟨D,U2,h3,?_⟩
   unfold Lk
   rw[e1,e2]
   obtain⟨k1,k2,k3,k4,k5⟩:=hk
   exact⟨k1.trans hjd.symm,k2,k3,k4,k5⟩
  ·rw[ho _ (by omega) (by omega) (by omega) (by omega) (by omega) (by omega) (by omega) (by omega)]
   unfold Lk
   rw[e]
   exact h.lo i hi'
 ·obtain⟨i,hi,rfl⟩:=List.getElem_of_mem he'
  rcases hg i hi with ⟨rfl,e1,e2⟩ | ⟨hne,hi',e⟩
  ·have:=h.pc _ (List.getElem_mem hj)
   rw[hje]at this
   rw[e1];exact this
  ·rw[e];exact h.pc _ (List.getElem_mem hi')
end
end Go.Proofs.YthbogkaoidbpgaaGreat
namespace Go.Proofs.YthbogkaoidbpgaaGreat
set_option maxRecDepth 100000
open Go.RowKit Go.Maps Go.Sort Go.Shelf
structure Xa (w:World) (x b n ga ca gr cr gl q:Nat) (O:Array Value) (E:List Ent) (ls:List Nat):Prop where
 c0:w.cell? ⟨x,0,none⟩=some (.pointer (some ⟨b,0,none⟩))
 c2:w.cell? ⟨x,2,none⟩=some (.slice (some ⟨ga,0,none⟩) n ca)
 c4:w.cell? ⟨x,4,none⟩=some (.slice (some ⟨gr,0,none⟩) n cr)
 rs:∀ j e d,E[j]?=some e→ls[j]?=some d→w.cell? ⟨ga,j,none⟩=some (.pointer (some ⟨e.L.d,0,none⟩))∧w.cell? ⟨gr,j,none⟩=some (.pointer (some ⟨e.L.e,0,none⟩))∧w.cell? ⟨gl,j,none⟩=some (.pointer (some ⟨d,0,none⟩))
 bx:w.heap[q]?=some (.cells O 58 (0,0))
section
variable {w0 w w':World} {x b lost:Nat} {E:List Ent} {t:Nat→Thing} {ls:List Nat} {lv:Value}
theorem Wa.box (h:Wa w0 w x b E lost lv ls t) (O:Array Value):Wa w0 (w.alloc (.cells O 58)) x b E lost lv ls (putT t 3 (bxT w.heap.size O)):=by
 have bb:Below w.heap.size w (w.alloc (.cells O 58)):=(Below.refl _ _).alloc (Nat.le_refl _) _
 have sz:=h.al.size
 refine (h.below bb).put ((h.al.below bb).turn 3 _ (Off.refl _ _) (heap_alloc_new w _) (fun k hk=>?_) (fun k hk i _ hm=>?_)) (.inr (.inl rfl))
 ·simp[bxT]at hk;subst hk;simp;omega
 ·simp[bxT]at hk;subst hk;have:=(h.al.lt i _ hm).2;omega
theorem Wa.reads (h:Wa w0 w x b E lost lv ls t) {n:Nat} (hn:E.length=n) (h0:0<n) {q:Nat} {O:Array Value} (hq:t 3=bxT q O):∃ ga ca gr cr gl cl,lv=.slice (some ⟨gl,0,none⟩) n cl∧∀ w' t',Al w0 w' t'→t' 2=t 2→t' 3=t 3→t' 6=t 6→Xa w' x b n ga ca gr cr gl q O E ls:=by
 subst hn
 obtain⟨r,va,vm,vr,e⟩:=h.wd
 have hw0:WD w x b r va vm vr _ _ _:=h.al.get e
 have hl0:w.ownsRow 0 35 1 lv ls.length (ls.map ptV):=h.al.get h.ln
 have l1:(E.map (·.L.d)).length=E.length:=by simp
 have l3:(E.map (·.L.e)).length=E.length:=by simp
 have l4:=h.ll
 have g1:(E.map (·.L.d))[0]?=some (E[0]).L.d:=by simp[h0]
 have g3:(E.map (·.L.e))[0]?=some (E[0]).L.e:=by simp[h0]
 have g4:ls[0]?=some (ls[0]'(by omega)):=List.getElem?_eq_getElem _
 obtain⟨ga,ca,ea,_⟩:=row_at hw0.ra g1
 obtain⟨gr,cr,er,_⟩:=row_at hw0.rr g3
 obtain⟨gl,cl,el,_⟩:=row_at hl0 g4
 rw[l1]at ea
 rw[l3]at er
 rw[l4]at el
 refine⟨ga,ca,gr,cr,gl,cl,el,fun w' t' A e2 e3 e6=>?_⟩
 have hw:WD w' x b r va vm vr _ _ _:=A.get (e2.trans e)
 have hb:w'.heap[q]?=_:=A.get (e3.trans hq)
 have hl:w'.ownsRow 0 35 1 lv ls.length (ls.map ptV):=A.get (e6.trans h.ln)
 refine⟨cell_of_row w' x 0 _ _ _ hw.blk,by rw[← ea];exact cell_of_row w' x 2 _ _ _ hw.blk,by rw[← er];exact cell_of_row w' x 4 _ _ _ hw.blk,fun j en d he hd=>?_,hb⟩
 obtain⟨ga',ca',ea',k1⟩:=row_at hw.ra (j:=j) (d:=en.L.d) (by simp[he])
 obtain⟨gr',cr',er',k3⟩:=row_at hw.rr (j:=j) (d:=en.L.e) (by simp[he])
 obtain⟨gl',cl',el',k4⟩:=row_at hl hd
 rw[l1]at ea'
 rw[l3]at er'
 rw[l4]at el'
 obtain⟨rfl,rfl⟩:ga=ga'∧ca=ca':=by rw[ea]at ea';simpa using ea'
 obtain⟨rfl,rfl⟩:gr=gr'∧cr=cr':=by rw[er]at er';simpa using er'
 obtain⟨rfl,rfl⟩:gl=gl'∧cl=cl':=by rw[el]at el';simpa using el'
 exact⟨k1,k3,k4⟩
end
end Go.Proofs.YthbogkaoidbpgaaGreat
