/- Part 38 of the texts on which the proofs of layer 13 rest: contracts of Go functions. -/
import Derived.Test.YthbogkaoidbpgaaGreatPkB18
import Derived.Test.YthbogkaoidbpgaaGreatPkB19
import Derived.Test.YthbogkaoidbpgaaGreatPkB20
import Derived.Test.YthbogkaoidbpgaaGreatPkB21
import Derived.Test.YthbogkaoidbpgaaGreatPkB22
import Derived.Test.YthbogkaoidbpgaaGreatPkB34
import Derived.Test.YthbogkaoidbpgaaGreatPkB35
import Derived.Test.YthbogkaoidbpgaaGreatPkB36
namespace Go.Proofs.YthbogkaoidbpgaaGreat
set_option maxRecDepth 100000
open Go.RowKit Go.Maps Go.Sort Go.Shelf
section
variable {w0 w w':World} {x b lost:Nat} {E:List Ent} {t:Nat→Thing} {ls:List Nat} {lv:Value}
theorem Wa.put4 (h:Wa w0 w x b E lost lv ls t) (bb:Below w.heap.size w w') {a:Option Addr} {len cap:Nat} {bs:Nat→Nat} (hr:Row8 w' a len cap bs) (hf:∀ z,a=some z→w.heap.size≤z.block∧z.block<w'.heap.size):Wa w0 w' x b E lost lv ls (putT t 4 (r8T a len cap bs)):=by
 have sz:=h.al.size
 refine (h.below bb).put ((h.al.below bb).turn 4 _ (Off.refl _ _) hr (fun k hk=>?_) (fun k hk i _ hm=>?_)) (.inr (.inr (.inl rfl)))
 ·simp[r8T]at hk
  obtain⟨z,hz,rfl⟩:=hk
  have:=hf z hz
  omega
 ·simp[r8T]at hk
  obtain⟨z,hz,rfl⟩:=hk
  have:=hf z hz
  have:=(h.al.lt i _ hm).2
  omega
def Fra (w w':World) (P:Pm) (K:Int) (av:Option Addr) (cv:Nat) (f:Fm) (is:Bool):Prop:=
 Below w.heap.size w w'∧Row8 w' av f.1 cv f.2∧(∀ z,av=some z→w.heap.size≤z.block∧z.block<w'.heap.size)∧(∀ i,i<f.1→f.2 i<256)∧f.1≤140737488351232∧is=decide (1≤K∧K≤7)∧(1≤K→K≤5→f.1=0∨(DE f.2 f.1=0∧w4v f.2 1=P.c))
theorem Fra.mk' {w w':World} {P:Pm} {K:Int} {v:Value} (hK:1≤K∧K≤7) (f:Fm) (hb:Below w.heap.size w w') (hF:Fr w' w.heap.size v f) (hy:∀ i,i<f.1→f.2 i<256) (hl:f.1≤140737488351232) (hc:1≤K→K≤5→f.1=0∨(DE f.2 f.1=0∧w4v f.2 1=P.c)):∃ av cv f is,(Ending.returned (.tuple #[v,.bool true]))=.returned (.tuple #[.slice av f.1 cv,.bool is])∧Hid (Fra w w' P K av cv f is):=by
 obtain⟨av,cv,rfl,rv⟩:=hF.row hy
 exact⟨av,cv,f,true,rfl,hb,rv,fun z hz=>own_far hF z hz,hy,hl,by simp[hK],hc⟩
theorem frameA (d m g n mx:Nat) (P:Pm) (U:List Nat) (s:Sd) (K N fl:Int) (odd:Bool) (a:Option Addr) (len cap:Nat) (bs:Nat→Nat) (p:Int) (y:Nat) (w:World) (h:RW w d m g n mx P U s) (hr:Row8 w a len cap bs) (ha:∀ y,a=some y→0<len→y.block<w.heap.size) (hss:s.ss<4294967296) (hx:y<4294967296) (hlen:len≤140737488351232) (hP:Pok P) :
  Calls Tryz.prog 8 #[.pointer (some ⟨d,0,none⟩),.agg #[.int .i64 K,.int .i64 N,.int .i64 fl,.bool odd,.slice a len cap,.int .i64 p,.int .u32 (y:Nat)]] w fun e w'=>∃ av cv f is,e=.returned (.tuple #[.slice av f.1 cv,.bool is])∧Hid (Fra w w' P K av cv f is):=by
 by_cases hK:1≤K∧K≤7
 ·have:K=1∨K=2∨K=3∨K=4∨K=5∨K=6∨K=7:=by omega
  have hn:onum s N<4294967296:=by unfold onum;omega
  rcases this with rfl | rfl | rfl | rfl | rfl | rfl | rfl
  ·refine (frame1_any d m g n mx P U s N fl odd a len cap bs p y w h hr ha hss).mono ?_
   rintro e w' ⟨v,rfl,h2⟩
   obtain⟨b2,f,F2,y2,l2,fo⟩:=h2.out
   exact Fra.mk' hK f b2 F2 y2 l2 (fun _ _=>by rw[fo.1 rfl];exact encI_code _ _ _ _ _ _ _ hP.c (by omega) (by omega))
  ·refine (frame2b_any d m g n mx P U s N fl odd a len cap bs p y w h hr ha hss).mono ?_
   rintro e w' ⟨v,rfl,h2⟩
   obtain⟨b2,f,F2,y2,l2,so,sg,hso,rfl⟩:=h2.out
   exact Fra.mk' hK _ b2 F2 y2 l2 (fun _ _=>encI_code _ _ _ _ _ _ _ hP.c hso (by omega))
  ·refine (frame3_any d m g n mx P U s N fl odd a len cap bs p y w h hr ha hss).mono ?_
   rintro e w' ⟨v,rfl,h2⟩
   obtain⟨b2,f,F2,y2,l2,fo⟩:=h2.out
   exact Fra.mk' hK f b2 F2 y2 l2 (fun _ _=>by rw[fo.2.2.1 rfl];exact encI_code _ _ _ _ _ _ _ hP.c (oses_lt hss _) (by omega))
  ·refine (frame4_any d m g n mx P U s N fl odd a len cap bs p y w h hr ha hss).mono ?_
   rintro e w' ⟨v,rfl,h2⟩
   obtain⟨b2,f,F2,y2,l2,fo⟩:=h2.out
   exact Fra.mk' hK f b2 F2 y2 l2 (fun _ _=>by rw[fo.2.2.2.1 rfl];exact encI_code _ _ _ _ _ _ _ hP.c (oses_lt hss _) hn)
  ·refine (frame5_any d m g n mx P U s N fl odd a len cap bs p y w h hr ha hss).mono ?_
   rintro e w' ⟨v,rfl,h2⟩
   obtain⟨b2,f,F2,y2,l2,fo⟩:=h2.out
   exact Fra.mk' hK f b2 F2 y2 l2 (fun _ _=>by rw[fo.2.2.2.2.1 rfl];exact encI_code _ _ _ _ _ _ _ hP.c (oses_lt hss _) hP.n)
  ·refine (frame6_any d m g n mx P U s N fl odd a len cap bs p y w h hr ha hss hlen).mono ?_
   rintro e w' ⟨v,rfl,h2⟩
   obtain⟨b2,f,F2,y2,l2,fo⟩:=h2.out
   exact Fra.mk' hK f b2 F2 y2 l2 (fun _ h=>by omega)
  ·refine (frame7_any d m g n mx P U s N fl odd a len cap bs p y w h hr ha hss hx).mono ?_
   rintro e w' ⟨v,rfl,h2⟩
   obtain⟨b2,f,F2,y2,l2,fo⟩:=h2.out
   exact Fra.mk' hK f b2 F2 y2 l2 (fun _ h=>by omega)
 ·refine (frameN_any d m g n mx P U s K N fl odd a len cap bs p y w h hr ha hss hK).mono ?_
  rintro e w' ⟨rfl,b2⟩
  exact⟨none,0,fm0,false,rfl,b2,row_nilX _ _,(fun z hz=>by cases hz),(fun i hi=>absurd hi (Nat.not_lt_zero i)),(Nat.zero_le _),(by simp only[hK,decide_false]),fun h1 h2=>absurd ⟨h1,by omega⟩ hK⟩
end
end Go.Proofs.YthbogkaoidbpgaaGreat
namespace Go.Proofs.YthbogkaoidbpgaaGreat
set_option maxRecDepth 100000
open Go.RowKit Go.Maps Go.Sort Go.Shelf
section
variable {w0 w w':World} {x b lost:Nat} {E:List Ent} {t:Nat→Thing} {ls:List Nat} {lv:Value}
theorem Tka.al {N:Int} {i j:Nat} (h:Tka w0 w t E ls N i j):∃ t',Al w0 w t'∧t' 2=t 2∧t' 3=t 3∧t' 6=t 6:=by
 obtain⟨t',A,o,_⟩:=h.ex
 exact⟨t',A,o 2 (fun m _=>by omega) (fun m _=>by omega),o 3 (fun m _=>by omega) (fun m _=>by omega),o 6 (fun m _=>by omega) (fun m _=>by omega)⟩
theorem Wa.tickM (h:Wa w0 w x b E lost lv ls t) (N:Int) (hN:N≤9223372036854775807) (hL:∀ e,e ∈ E→e.s.L.length<800000) :
  Calls Tryz.prog 9 #[.pointer (some ⟨b,0,none⟩),.int .i64 N] w fun e w'=>∃ v,e=.returned (.int .i64 v)∧Hid (∃ t' V,Al w0 w' t'∧t' 0=mxT b (prts E) lost V∧(∀ i,i≠0→(∀ j,j<E.length→i≠10+2*j)→t' i=t i)∧∀ j (hj:j<E.length),∃ U,t' (10+2*j)=dvT ((E[j]).L.dr (dtickS (E[j]).L.P (E[j]).s N)) U):=by
 obtain⟨V,e0⟩:=h.mx
 by_cases hN0:0≤N
 ·refine (mtick_any w0 w t b (prts E) lost V N hN0 hN h.al e0 (xD E) (fun j=>10+2*j) (fun j _=>by omega) (fun i j _ _ e=>by omega) (fun j hj=>by
   have hj':j<E.length:=by rw[← prts_len];exact hj
   obtain⟨U,eU⟩:=h.dv j hj'
   refine⟨⟨U,?_⟩,?_,?_⟩
   ·rw[eU,xD_get E j hj']
   ·rw[xD_get E j hj',prts_get];rfl
   ·rw[xD_get E j hj'];exact hL _ (List.getElem_mem hj'))).mono ?_
  rintro e w' ⟨rfl,h4⟩
  obtain⟨t4,A4,z4,o4,d4⟩:=h4.out
  refine⟨0,rfl,t4,V,A4,z4,fun i hi hj=>o4 i hi (fun j hj'=>hj j (by rw[← prts_len];exact hj')),fun j hj=>?_⟩
  have:=d4 j (by rw[prts_len];exact hj)
  rw[xD_get E j hj]at this
  exact this
 ·obtain⟨l,mb,nn,D,hM,_⟩:=h.al.mx e0
  refine (mtick_neg b mb N w hM.c0 (by omega)).mono ?_
  rintro e w' ⟨rfl,hw⟩
  subst hw
  refine⟨2,rfl,t,V,h.al,e0,fun i _ _=>rfl,fun j hj=>?_⟩
  rw[dtickS_neg _ _ _ (by omega)]
  exact h.dv j hj
theorem Wa.los (h:Wa w0 w x b E lost lv ls t):∀ m e d,E[m]?=some e→ls[m]?=some d→∃ D U,t (100+m)=dvT D U∧Lk e d D:=by
 intro m e d he hd
 obtain⟨hm,rfl⟩:=List.getElem?_eq_some_iff.1 he
 obtain⟨hm',rfl⟩:=List.getElem?_eq_some_iff.1 hd
 exact h.lo m hm
theorem Wa.rws (h:Wa w0 w x b E lost lv ls t):∀ m e,E[m]?=some e→∃ U,t (11+2*m)=rwT (e.L.rr e.s) U:=by
 intro m e he
 obtain⟨hm,rfl⟩:=List.getElem?_eq_some_iff.1 he
 exact h.rw m hm
end
end Go.Proofs.YthbogkaoidbpgaaGreat
namespace Go.Proofs.YthbogkaoidbpgaaGreat
set_option maxRecDepth 100000
open Go.RowKit Go.Maps Go.Sort Go.Shelf
def Bd (N:Nat) (E:List Ent) (lost:Nat):Prop:=lost≤N∧∀ e,e ∈ E→Iv e.L.P e.s∧e.s.L.length≤3*N∧e.s.ms.t≤6*N∧e.n≤N
theorem Bd.same {N:Nat} {E:List Ent} {lost:Nat} (h:Bd N E lost):Bd (N+1) E lost:=⟨by have:=h.1;omega,fun e he=>by
 obtain⟨a,b,c,d⟩:=h.2 e he
 exact⟨a,by omega,by omega,by omega⟩⟩
theorem Bd.setN {N:Nat} {E:List Ent} {lost j:Nat} {en:Ent} {s:Sd} (h:Bd N E lost) (he:E[j]?=some en) (hv:Iv en.L.P s) (hg:Gw en.s s):Bd (N+1) (Go.Proofs.YthbogkaoidbpgaaGreat.setN E j s) lost:=by
 refine⟨by have:=h.1;omega,fun e hm=>?_⟩
 obtain⟨i,hi,rfl⟩:=List.getElem_of_mem hm
 obtain⟨hj,hje⟩:=List.getElem?_eq_some_iff.1 he
 rw[setN_get]
 by_cases e:i=j
 ·subst e
  rw[if_pos rfl]
  obtain⟨a,b,c,d⟩:=h.2 _ (List.getElem_mem hj)
  rw[hje]at a b c d ⊢
  obtain⟨g1,g2⟩:=hg
  exact⟨hv,by show s.L.length≤_;omega,by show s.ms.t≤_;omega,by show en.n+1≤_;omega⟩
 ·rw[if_neg e]
  exact h.same.2 _ (List.getElem_mem _)
theorem Bd.tkE {M:Nat} {E:List Ent} {lost:Nat} (h:Bd M E lost) (N:Int):Bd (M+1) (Go.Proofs.YthbogkaoidbpgaaGreat.tkE E N) lost:=by
 refine⟨by have:=h.1;omega,fun e hm=>?_⟩
 obtain⟨e0,he0,rfl⟩:=List.mem_map.1 hm
 obtain⟨a,b,c,d⟩:=h.2 e0 he0
 obtain⟨g1,g2⟩:=gw_tick (P:=e0.L.P) (s:=e0.s) N
 exact⟨a.tick N,by show (dtickS e0.L.P e0.s N).L.length≤_;omega,by show (dtickS e0.L.P e0.s N).ms.t≤_;omega,by show e0.n≤_;omega⟩
end Go.Proofs.YthbogkaoidbpgaaGreat
