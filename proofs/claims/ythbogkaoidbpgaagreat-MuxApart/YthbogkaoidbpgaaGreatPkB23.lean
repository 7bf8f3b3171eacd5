/- Part 24 of the texts on which the proofs of layer 13 rest: contracts of Go functions. -/
import Derived.Test.YthbogkaoidbpgaaGreatPkB00
import Derived.Test.YthbogkaoidbpgaaGreatPkB15
import Derived.Test.YthbogkaoidbpgaaGreatPkB16
import Derived.Test.YthbogkaoidbpgaaGreatPkB17
import Derived.Test.YthbogkaoidbpgaaGreatPkB18
import Derived.Test.YthbogkaoidbpgaaGreatPkB19
import Derived.Test.YthbogkaoidbpgaaGreatPkB20
import Derived.Test.YthbogkaoidbpgaaGreatPkB21
import Derived.Test.YthbogkaoidbpgaaGreatPkB22
namespace Go.Proofs.YthbogkaoidbpgaaGreat
set_option maxRecDepth 100000
open Go.RowKit
theorem frame_op (d m g n mx:Nat) (P:Pm) (U:List Nat) (s:Sd) (K N fl:Int) (odd:Bool) (a:Option Addr) (len cap:Nat) (bs:Nat→Nat) (p:Int) (x:Nat) (w:World) (h:RW w d m g n mx P U s) (hr:Row8 w a len cap bs) (ha:∀ y,a=some y→0<len→y.block<w.heap.size) (hss:s.ss<4294967296) (hx:x<4294967296) (hlen:len≤140737488351232) (hk:1≤K∧K≤7) :
  Calls Tryz.prog 8 #[.pointer (some ⟨d,0,none⟩),.agg #[.int .i64 K,.int .i64 N,.int .i64 fl,.bool odd,.slice a len cap,.int .i64 p,.int .u32 (x:Nat)]] w fun e w'=>∃ v,e=.returned (.tuple #[v,.bool true])∧Hid (Below w.heap.size w w'∧∃ f,Fr w' w.heap.size v f∧(∀ i,i<f.1→f.2 i<256)∧f.1≤140737488351232∧Fo P s K N fl odd len bs x f):=by
 have:K=1∨K=2∨K=3∨K=4∨K=5∨K=6∨K=7:=by omega
 rcases this with rfl | rfl | rfl | rfl | rfl | rfl | rfl
 ·exact frame1_any d m g n mx P U s N fl odd a len cap bs p x w h hr ha hss
 ·exact frame2_any d m g n mx P U s N fl odd a len cap bs p x w h hr ha hss
 ·exact frame3_any d m g n mx P U s N fl odd a len cap bs p x w h hr ha hss
 ·exact frame4_any d m g n mx P U s N fl odd a len cap bs p x w h hr ha hss
 ·exact frame5_any d m g n mx P U s N fl odd a len cap bs p x w h hr ha hss
 ·exact frame6_any d m g n mx P U s N fl odd a len cap bs p x w h hr ha hss hlen
 ·exact frame7_any d m g n mx P U s N fl odd a len cap bs p x w h hr ha hss hx
open Go.RowKit Go.Maps Go.Sort Go.Shelf
theorem Al.put0 {w0 w w':World} {t:Nat→Thing} {b:Nat} {L L':List Prt} {lost lost':Nat} {V V':List Nat} (h:Al w0 w t) (e:t 0=mxT b L lost V) (o:Off V w w') (hm:Mxx w' b L' lost' V') (hV:∀ k,k ∈ V'→k ∈ V∨w.heap.size≤k):Al w0 w' (putT t 0 (mxT b L' lost' V')):=
 h.step 0 (mxT b L' lost' V') (by rw[e];rfl) ⟨o,hV⟩ hm (fun k hk=>hm.lt k hk)
theorem DV.code {w:World} {d m g n mx:Nat} {P:Pm} {U:List Nat} {s:Sd} (h:DV w d m g n mx P U s):w.cell? ⟨d,0,none⟩=some (.int .u32 (P.c:Nat))∧d<w.heap.size∧d ∈ U:=by
 obtain⟨B,x⟩:=h
 exact⟨x.cells.1,x.dlt,x.kd.2⟩
theorem wish7:encI 1 7 0 0 0 4 (osig (Pc 7) false)=wishF (Pc 7):=by
 rw[osig_f]
 exact wish_enc (Pc 7) (Pc_ok 7 (by omega) (by omega))
theorem row1U (w:World):RowU (w.alloc (.cells #[.int .u32 7] 40)) (some ⟨w.heap.size,0,none⟩) [7]:=fun i hi=>by
 have h0:i=0:=by simp at hi;exact hi
 subst h0
 exact⟨w.heap.size,0,rfl,(cell_of_row _ _ 0 _ _ _ (heap_alloc_new w _)).trans rfl⟩
theorem below_drewNB' {B:Nat} {w0 w:World} (h:Below B w0 w) (n:Nat):Below B w0 (w.drewN n):=⟨h.os,h.tape,h.output,h.size,h.block⟩
set_option maxHeartbeats 8000000 in
theorem awake16 (w:World):Calls Tryz.prog 5 #[] w fun e w'=>e=.returned (.bool true)∧Below w.heap.size w w':=by
 have hN:=mnew_any w
 go_enter Tryz.func5,Tryz.ntmps5
 go_wp2_with (go_at_call 17;refine hN.mono ?_;rintro e w1 ⟨rfl,h1⟩)
 have A1:Al w w1 (putT (fun _=>noT) 0 (mxT (w.heap.size+2) [] 0 [w.heap.size+2,w.heap.size+1,w.heap.size])):=by
  obtain⟨b1,s1,m1⟩:=h1.out
  exact (Al.start w).step 0 _ rfl ⟨Off.of_below b1,fun k hk=>.inr (by simp[mxT]at hk;omega)⟩ m1 (fun k hk=>m1.lt k hk)
 have M1:Calls Tryz.prog 7 #[.int .u32 7] w1 _:=made16 7 (by omega) (by omega) w1
 refine M1.mono ?_
 rintro e w2 ⟨L,rfl,h2⟩
 obtain⟨n1,x1,p1,T1⟩:=h2.out
 obtain⟨U1,V1,A2⟩:=A1.two T1 1 2
 have HA2:Hid (_):=A2
 have HL:Hid (L.n=16∧L.mx=99∧L.P=Pc 7):=⟨n1,x1,p1⟩
 have M2:Calls Tryz.prog 7 #[.int .u32 7] w2 _:=made16 7 (by omega) (by omega) w2
 clear hN h1 A1 M1 h2 n1 x1 p1 T1 A2
 go_wp2_with (go_at_call 7;refine M2.mono ?_;rintro e w3 ⟨K,rfl,h3⟩)
 obtain⟨_,_,pk,T2⟩:=h3.out
 obtain⟨U2,V2,A3⟩:=HA2.out.two T2 3 4
 have D1:=A3.dv (i:=1) (x:=L.dr (dnew M0)) (U:=U1) rfl
 have D2:=A3.dv (i:=3) (x:=K.dr (dnew M0)) (U:=U2) rfl
 have c1:=D1.code
 have c2:=D2.code
 rw[show (L.dr (dnew M0)).P.c=7 by show L.P.c=7;rw[HL.out.2.2];rfl]at c1
 rw[show (K.dr (dnew M0)).P.c=7 by show K.P.c=7;rw[pk];rfl]at c2
 have Q1:=madd_any (w.heap.size+2) L.d 7 [] 0 _ w3 (A3.mx (i:=0) rfl) (by omega) c1.1 c1.2.1 (by simp)
 rw[show addE [] 7=0 from rfl,show addL [] 7 L.d w3.heap.size=[⟨7,L.d,w3.heap.size,0⟩] from rfl]at Q1
 have HA3:Hid (_):=A3
 have HPk:Hid (K.P.c=7):=by show K.P.c=7;rw[pk];rfl
 clear M2 h3 pk T2 HA2 D1 D2 c1 c2 A3
 go_wp2_with fail
 refine Q1.mono ?_
 rintro e w4 ⟨rfl,h4⟩
 have A3:=HA3.out
 obtain⟨V4,o4,m4,v4⟩:=h4.out
 have A4:=A3.put0 (by rfl) o4 m4 (fun k hk=>by rcases v4 k hk with e | e;(exact .inl e);exact .inr (by omega))
 have D4:=A4.dv (i:=3) (x:=K.dr (dnew M0)) (U:=U2) rfl
 have c4:=D4.code
 have hK7:(K.dr (dnew M0)).P.c=7:=HPk.out
 rw[hK7]at c4
 have Q2:=madd_any (w.heap.size+2) K.d 7 [⟨7,L.d,w3.heap.size,0⟩] 0 V4 w4 m4 (by omega) c4.1 c4.2.1 (by simp)
 rw[show addE [⟨7,L.d,w3.heap.size,0⟩] 7=160 from rfl,show addL [⟨7,L.d,w3.heap.size,0⟩] 7 K.d w4.heap.size=[⟨7,L.d,w3.heap.size,0⟩] from rfl]at Q2
 have HA4:Hid (_):=A4
 clear Q1 h4 A3 HA3 o4 m4 v4 A4 D4 c4 hK7
 go_wp2_with fail
 refine Q2.mono ?_
 rintro e w5 ⟨rfl,h5⟩
 obtain⟨V5,o5,m5,v5⟩:=h5.out
 have A5:=HA4.out.put0 (by rfl) o5 m5 (fun k hk=>by rcases v5 k hk with e | e;(exact .inl e);exact .inr (by omega))
 have R5:=A5.rw (i:=2) (x:=L.rr (dnew M0)) (U:=V1) rfl
 have Q3:=frame_op L.e L.r L.q L.n L.mx L.P V1 (dnew M0) 1 0 0 false none 0 0 (fun _=>0) 0 0 w5 R5 (row_nilX _ _) (by simp) (by decide) (by omega) (by omega) (by omega)
 have HA5:Hid (_):=A5
 clear Q2 h5 HA4 o5 m5 v5 A5 R5
 go_wp2_with fail
 refine Q3.mono ?_
 rintro e w6 ⟨v6,rfl,h6⟩
 obtain⟨b6,f,F6,y6,_,fo⟩:=h6.out
 have ef:f=wishF (Pc 7):=by
  have e1:=fo.1 rfl
  rw[HL.out.2.2]at e1
  rw[e1]
  exact wish7
 subst ef
 obtain⟨a6,k6,rfl,r6⟩:=F6.row y6
 have A6:=HA5.out.below b6
 have D6:=A6.dv (i:=1) (x:=L.dr (dnew M0)) (U:=U1) rfl
 have hP7:Pok (Pc 7):=Pc_ok 7 (by omega) (by omega)
 obtain⟨e1,e2,e3,_,_,_,_⟩:=DE_back 1 7 0 0 0 4 (dsg (Pc 7)) (by omega) (by omega) (by omega) (by omega) (LW_wish (by omega))
 have hE:DE (wishF (Pc 7)).2 (wishF (Pc 7)).1=0:=e1
 have hC:w4v (wishF (Pc 7)).2 1=7:=e3
 obtain⟨f1,_,f3⟩:=first_wish (Pc 7) hP7 99 (by omega)
 have D6':DV w6 L.d L.m L.g 16 99 (Pc 7) U1 (dnew M0):=by
  have:=D6
  rw[← HL.out.1,← HL.out.2.1,← HL.out.2.2]
  exact this
 have hge:∀ x,a6=some x→x.block ∉ V5:=by
  intro x hx hm
  have h1:=(HA5.out.lt 0 x.block hm).2
  have h2:=F6.ge x.block (by rw[hx];rfl)
  omega
 have Q4:=mrecv_any (w.heap.size+2) [⟨7,L.d,w3.heap.size,0⟩] 0 V5 ⟨7,L.d,w3.heap.size,0⟩ L.m L.g 16 99 (Pc 7) U1 (dnew M0) a6 _ k6 _ w6 (A6.mx (i:=0) rfl) D6' (A6.apart (i:=1) (j:=0) (by omega) rfl rfl) r6 hE (by rw[hC];rfl) rfl (by show 0<1000000;omega) (by decide) (by decide) (by decide) (by decide) hge
 rw[f1,f3]at Q4
 have HA6:Hid (_):=A6
 clear Q3 h6 F6 y6 fo r6 A6 D6 hP7 e1 e2 e3 hE hC f1 f3 D6' hge HA5 b6
 generalize (drecv (Pc 7) 99 16 (dnew M0) (wishF (Pc 7)).1 (wishF (Pc 7)).2).s=S at *
 go_wp2_with fail
 refine Q4.mono ?_
 rintro e w7 ⟨v7,rfl,h7⟩
 obtain⟨W,oW,DW,⟨U7,G7,D7,F7,_⟩,m7,_⟩:=h7.out
 have ef:encF 17 (Pc 7).c 1 0 0 4 (dsg (Pc 7))=(23,PM.sl (fr 17 7 1 0 0 4 (dsg (Pc 7))) 19):=if_pos (LW_offer (c:=7) (s:=1) (by omega) (by omega))
 rw[ef]at F7
 obtain⟨a7,c7,hv7,r7⟩:=F7.row (by rw[← ef];exact encF_byte _ _ _ _ _ _ _ (dsg_byte (Pc 7)))
 replace hv7:v7=Value.slice a7 23 c7:=hv7
 subst hv7
 have B7:Below w.heap.size w w7:=by
  have b1:=HA6.out.bel
  have b2:=oW.below b1 (fun k hk=>(HA6.out.lt 0 k hk).1) b1.size
  exact G7.off.below b2 (fun k hk=>(HA6.out.lt 1 k hk).1) b2.size
 have Q5:Calls Tryz.prog 28 #[.pointer (some ⟨w.heap.size+2,0,none⟩),.int .u32 7] w7 fun e w'=>e=.returned (.int .i64 1)∧w'=w7:=mseen_any (w.heap.size+2) _ 0 V5 7 w7 m7 (by omega) (by show (1:Nat)<1000000;omega)
 have Q6:=mcodes_any (w.heap.size+2) _ 0 V5 w7 m7 (by show (1:Nat)≤12;omega)
 have H7:Hid (_):=B7
 clear Q4 h7 oW DW G7 D7 F7 m7 ef r7 HA6 B7
 go_wp2_with (first
  | (go_at_call 28;refine Q5.mono ?_;rintro e w' ⟨rfl,hw⟩;have hw:=hw.symm;subst hw)
  | (go_at_call 32;refine Q6.mono ?_;rintro e w8 ⟨v8,ls,rfl,h8⟩;obtain⟨a8,c8,rfl,r8,_⟩:=own_rowU h8.out.2.2.1;have hls:ls=[7]:=List.perm_singleton.1 h8.out.1;subst hls;have b8:=h8.out.2.2.2.2;have bA:Below w8.heap.size w8 (w8.alloc (.cells #[.int .u32 7] 40)):=(Below.refl _ _).alloc (Nat.le_refl _) _;have Q7:=equalU a8 (some ⟨w8.heap.size,0,none⟩) c8 1 [7] _ (r8.below bA) (row1U w8) (by simp);clear Q5 Q6 h8 r8)
  | (go_at_call 31;refine Q7.mono ?_;rintro e w9 ⟨rfl,m9,rfl⟩))
 go_ret
 exact⟨rfl,below_drewNB' ((H7.out.trans (b8.mono H7.out.size)).alloc (Nat.le_trans H7.out.size b8.size) _) m9⟩
theorem BRow.nums {k:IntKind} {w:World} {a:Option Addr} {len cap:Nat} {zs:List Int} (h:BRow k w a len cap zs) (hp:0<len) :
  ∃ b off,a=some ⟨b,off,none⟩∧b<w.heap.size∧∀ i,i<len→w.cell? ⟨b,off+i,none⟩=some (.int k (zs.getD i 0))∧(Lit.int k (zs.getD i 0)).wf=true:=by
 rcases h with ⟨_,rfl,_,_⟩ | ⟨x,rfl,hl,_,hz,hc,hw⟩
 ·omega
 ·obtain⟨b,off,spot⟩:=x
  have h0:=hc 0 (by omega)
  have hspot:spot=none:=by simpa [Addr.add] using World.cell?_spot h0
  subst hspot
  rw[Go.WideShapes.add_plain]at h0
  refine⟨b,off,rfl,World.block_lt_of_cell? w _ h0,fun i hi=>⟨?_,hw _ ?_⟩⟩
  ·have h1:=hc i (by omega)
   rw[Go.WideShapes.add_plain]at h1
   exact h1
  ·have:i<zs.length:=by omega
   rw[List.getD_eq_getElem?_getD,List.getElem?_eq_getElem this]
   exact List.getElem_mem this
def Es (t:Nat→Thing) (E:List Ent):Prop:=∀ j (hj:j<E.length),(∃ U,t (10+2*j)=dvT ((E[j]).L.dr (E[j]).s) U)∧∃ U,t (11+2*j)=rwT ((E[j]).L.rr (E[j]).s) U
section
variable {w0 w w':World} {x b r lost:Nat} {E:List Ent} {t:Nat→Thing}
theorem Wo.es (h:Wo w0 w x b r E lost t):Es t E:=fun j hj=>⟨h.dv j hj,h.rw j hj⟩
theorem Es.put (h:Es t E) (i:Nat) (y:Thing) (hi:i<10∨10+2*E.length≤i):Es (putT t i y) E:=fun j hj=>by
 rw[putT_ne t y (by omega),putT_ne t y (by omega)]
 exact h j hj
theorem Al.codesE (A:Al w0 w t) (h:Es t E):∀ i (hi:i < (E.map (·.L.e)).length),w.cell? ⟨(E.map (·.L.e))[i],0,none⟩=some (.int .u32 (cdE E i:Nat)):=by
 intro i hi
 have hi':i<E.length:=by simpa using hi
 obtain⟨U,e⟩:=(h i hi').2
 have:=(A.rw e).code
 rw[cdE_get E i hi']
 simpa [Pl.rr] using this
theorem fnd_prts (E:List Ent) (c:Nat):(fnd (prts E) c).isSome=true ↔ ∃ i,i<E.length∧cdE E i=c:=by
 constructor
 ·intro h
  cases hq:fnd (prts E) c with
  | none=>rw[hq]at h;cases h
  | some p=>
   obtain⟨hm,hc⟩:=fnd_mem hq
   obtain⟨i,hi,rfl⟩:=List.getElem_of_mem hm
   have hi':i<E.length:=by simpa [prts] using hi
   refine⟨i,hi',?_⟩
   rw[cdE_get E i hi',← hc,prts_get]
 ·rintro ⟨i,hi,hc⟩
  cases hq:fnd (prts E) c with
  | some p=>rfl
  | none=>
   have:=fnd_none hq ((prts E)[i]'(by simpa [prts] using hi)) (List.getElem_mem _)
   rw[prts_get,← cdE_get E i hi]at this
   exact absurd hc this
theorem Wo.grow (h:Wo w0 w x b r E lost t) {t':Nat→Thing} {L:Pl} {s:Sd} {k:Nat} (A:Al w0 w' t') (h0:∃ V,t' 0=mxT b (prts (E ++ [⟨L,s,0,k⟩])) lost V) (h1:∃ v1 v2,t' 1=rmT r v1 v2 (E.map (·.L.e) ++ [L.e]) (E.map (·.n) ++ [0]) lost) (h2:∃ va vm vr,t' 2=wdT x b r va vm vr (E.map (·.L.d) ++ [L.d]) (E.map (·.L.m) ++ [L.m]) (E.map (·.L.e) ++ [L.e]))
  (he:Es t' E) (hd:∃ U,t' (10+2*E.length)=dvT (L.dr s) U) (hr:∃ U,t' (11+2*E.length)=rwT (L.rr s) U) (hle:E.length<8) (hp:L.n=16∧L.mx=99∧L.P.c≠0∧L.P.c<4294967296∧L.P=Pc L.P.c):Wo w0 w' x b r (E ++ [⟨L,s,0,k⟩]) lost t':=by
 have hg:∀ j (hj:j < (E ++ [(⟨L,s,0,k⟩:Ent)]).length),(j<E.length∧∃ hj':j<E.length,(E ++ [(⟨L,s,0,k⟩:Ent)])[j]=E[j])∨(j=E.length∧(E ++ [(⟨L,s,0,k⟩:Ent)])[j]=⟨L,s,0,k⟩):=by
  intro j hj
  by_cases e:j<E.length
  ·exact .inl ⟨e,e,List.getElem_append_left e⟩
  ·have:j=E.length:=by simp at hj;omega
   subst this
   exact .inr ⟨rfl,by simp⟩
 refine⟨A,h0,?_,?_,fun j hj=>?_,fun j hj=>?_,by simp;omega,fun e he'=>?_⟩
 ·obtain⟨v1,v2,e⟩:=h1
  exact⟨v1,v2,by rw[e,List.map_append,List.map_append];rfl⟩
 ·obtain⟨va,vm,vr,e⟩:=h2
  exact⟨va,vm,vr,by rw[e,List.map_append,List.map_append,List.map_append];rfl⟩
 ·rcases hg j hj with ⟨_,hj',e⟩ | ⟨rfl,e⟩
  ·rw[e];exact (he j hj').1
  ·rw[e];exact hd
 ·rcases hg j hj with ⟨_,hj',e⟩ | ⟨rfl,e⟩
  ·rw[e];exact (he j hj').2
  ·rw[e];exact hr
 ·rcases List.mem_append.1 he' with he' | he'
  ·exact h.pc e he'
  ·simp at he'
   subst he'
   exact hp
end
set_option maxHeartbeats 2000000 in
theorem made16_no (w:World) :
  Calls Tryz.prog 7 #[.int .u32 0] w fun e w'=>∃ m,e=.returned (.tuple #[.pointer none,.pointer (some ⟨m,0,none⟩),.pointer none])∧Below w.heap.size w w':=by
 have hS:Calls Tryz.prog 18 #[] w fun e w'=>e=.returned (.agg #[.int .u32 7,.int .i64 2,.int .i64 1,.int .i64 10,.int .u32 9])∧Below w.heap.size w w':=small_any w
 have hbad:¬ okP 0 2 1 10 9:=by unfold okP;omega
 go_enter Tryz.func7,Tryz.ntmps7
 go_wp2_with (go_at_call 18;refine hS.mono ?_;rintro e w1 ⟨rfl,b1⟩)
 obtain⟨W,hW,bW,pW⟩:=pset w1 0
 rw[hW]
 have hM:=new_ok 16 W (by omega)
 refine hM.mono ?_
 rintro e w3 ⟨m,g,rfl,h3⟩
 have hR:=rnew_ok 16 w3 (by omega)
 clear hM hS hW
 go_wp2_with fail
 refine hR.mono ?_
 rintro e w4 ⟨r,q,rfl,h4⟩
 obtain⟨m1,g1,o3,x3⟩:=h3.out
 obtain⟨r1,q1,o4,x4⟩:=h4.out
 have lp:w1.heap.size<W.heap.size:=(Array.getElem?_eq_some_iff.1 pW).1
 have s3:=o3.size
 have s4:=o4.size
 have p4:w4.heap[w1.heap.size]?=_:=(o4.block _ (by omega) (by simp)).trans ((o3.block _ lp (by simp)).trans pW)
 have hN:=newD_bad 0 2 1 10 9 (some ⟨m,0,none⟩) 99 w4 hbad
 have k0:=cell_of_row w4 w1.heap.size 0 _ _ _ p4
 have k1:=cell_of_row w4 w1.heap.size 1 _ _ _ p4
 have k2:=cell_of_row w4 w1.heap.size 2 _ _ _ p4
 have k3:=cell_of_row w4 w1.heap.size 3 _ _ _ p4
 have k4:=cell_of_row w4 w1.heap.size 4 _ _ _ p4
 have bel:Below w.heap.size w w4:=o4.below (o3.below (b1.trans (bW.mono b1.size)) (by simp) (Nat.le_trans b1.size bW.size)) (by simp) (Nat.le_trans (Nat.le_trans b1.size bW.size) s3)
 have HA:Hid (_):=And.intro bel (And.intro p4 (by omega:w1.heap.size<w4.heap.size))
 clear hR h3 h4 m1 g1 r1 q1 o3 o4 x3 x4 b1 bW pW bel p4
 go_wp2_with fail
 refine hN.mono ?_
 rintro e w5 ⟨rfl,b5⟩
 obtain⟨bel,p4,lp'⟩:=HA.out
 have p5:w5.heap[w1.heap.size]?=_:=(b5.block _ lp').trans p4
 have k0:=cell_of_row w5 w1.heap.size 0 _ _ _ p5
 have k1:=cell_of_row w5 w1.heap.size 1 _ _ _ p5
 have k2:=cell_of_row w5 w1.heap.size 2 _ _ _ p5
 have k3:=cell_of_row w5 w1.heap.size 3 _ _ _ p5
 have k4:=cell_of_row w5 w1.heap.size 4 _ _ _ p5
 have hQ:=rnew_bad 0 2 1 10 9 (some ⟨r,0,none⟩) 99 w5 hbad
 have HB:Hid (_):=bel.trans (b5.mono bel.size)
 clear hN b5 bel p4 p5 HA
 go_wp2_with fail
 refine hQ.mono ?_
 rintro e w6 ⟨rfl,b6⟩
 have HC:Hid (_):=HB.out.trans (b6.mono HB.out.size)
 clear hQ b6 HB
 go_wp2_with fail
 refine bodyPost_ret (v:=.tuple #[.pointer none,.pointer (some ⟨m,0,none⟩),.pointer none]) (by simp[results,Tryz.results7,go_sem]) rfl ?_
 exact⟨m,rfl,HC.out⟩
end Go.Proofs.YthbogkaoidbpgaaGreat
namespace Go.Proofs.YthbogkaoidbpgaaGreat
set_option maxRecDepth 100000
open Go.RowKit Go.Maps Go.Sort Go.Shelf
theorem info_pA:(Tryz.prog.info? 35).map (fun i=>(i.zero,i.size,i.bytes))=some (some (.pointer none),1,8):=by kernel_rfl
theorem info_pM:(Tryz.prog.info? 36).map (fun i=>(i.zero,i.size,i.bytes))=some (some (.pointer none),1,8):=by kernel_rfl
section
variable {w0 w w':World} {x b r lost:Nat} {E:List Ent} {t:Nat→Thing}
theorem Wo.two (h:Wo w0 w x b r E lost t) {L:Pl} {s:Sd} (T:Two w w' L s):∃ t2,Al w0 w' t2∧t2 0=t 0∧t2 1=t 1∧t2 2=t 2∧Es t2 E∧(∃ U,t2 (10+2*E.length)=dvT (L.dr s) U)∧∃ U,t2 (11+2*E.length)=rwT (L.rr s) U:=by
 obtain⟨U,V,A⟩:=h.al.two T (10+2*E.length) (11+2*E.length)
 refine⟨_,A,?_,?_,?_,?_,⟨U,?_⟩,⟨V,?_⟩⟩
 ·rw[putT_ne _ _ (by omega),putT_ne _ _ (by omega)]
 ·rw[putT_ne _ _ (by omega),putT_ne _ _ (by omega)]
 ·rw[putT_ne _ _ (by omega),putT_ne _ _ (by omega)]
 ·exact (h.es.put _ _ (by omega)).put _ _ (by omega)
 ·rw[putT_ne _ _ (by omega),putT_same]
 ·rw[putT_same]
theorem Wo.refused (h:Wo w0 w x b r E lost t) {V V':List Nat} (e0:t 0=mxT b (prts E) lost V) (o:Off V w w') (hm:Mxx w' b (prts E) lost V') (hV:∀ k,k ∈ V'→k ∈ V∨k=w.heap.size):Wo w0 w' x b r E lost (putT t 0 (mxT b (prts E) lost V')):=by
 have es:=h.es.put 0 (mxT b (prts E) lost V') (by omega)
 refine⟨h.al.put0 e0 o hm (fun k hk=>(hV k hk).imp id (fun e=>by omega)),⟨V',putT_same _ _ _⟩,?_,?_,fun j hj=>(es j hj).1,fun j hj=>(es j hj).2,h.le,h.pc⟩
 ·rw[putT_ne _ _ (by omega)];exact h.rm
 ·rw[putT_ne _ _ (by omega)];exact h.wd
end
def Wb (w0 w:World) (x b r:Nat):Prop:=∃ E t,Wo w0 w x b r E 0 t∧∀ e,e ∈ E→e.n=0∧e.s=dnew M0
theorem addE_refuse {E:List Ent} {c:Nat} (h:addE (prts E) c≠0):((∃ i,i < (E.map (·.L.e)).length∧cdE E i=c)∧addE (prts E) c=160)∨((∀ i,i < (E.map (·.L.e)).length→cdE E i≠c)∧8 ≤ (E.map (·.L.e)).length∧addE (prts E) c=150):=by
 unfold addE at *
 rw[prts_len]at *
 by_cases hf:(fnd (prts E) c).isSome=true
 ·rw[if_pos hf]
  left
  have:=(fnd_prts E c).1 hf
  simpa using this
 ·rw[if_neg hf]at h ⊢
  by_cases h8:8≤E.length
  ·rw[if_pos h8]
   refine .inr ⟨fun i hi e=>hf ((fnd_prts E c).2 ⟨i,by simpa using hi,e⟩),by simpa using h8,rfl⟩
  ·rw[if_neg h8]at h
   exact absurd rfl h
theorem addE_ok {E:List Ent} {c d k:Nat} (h:addE (prts E) c=0):(∀ i,i < (E.map (·.L.e)).length→cdE E i≠c)∧E.length<8∧addL (prts E) c d k=prts E ++ [⟨c,d,k,0⟩]:=by
 unfold addE at h
 unfold addL
 rw[prts_len]at *
 by_cases hf:(fnd (prts E) c).isSome=true
 ·rw[if_pos hf]at h;omega
 ·rw[if_neg hf]at h ⊢
  by_cases h8:8≤E.length
  ·rw[if_pos h8]at h;omega
  ·rw[if_neg h8]
   exact⟨fun i hi e=>hf ((fnd_prts E c).2 ⟨i,by simpa using hi,e⟩),by omega,rfl⟩
theorem addL_refuse {E:List Ent} {c d k:Nat} (h:addE (prts E) c≠0):addL (prts E) c d k=prts E:=by
 unfold addE at h
 unfold addL
 rw[prts_len]at *
 by_cases hf:(fnd (prts E) c).isSome=true
 ·rw[if_pos hf]
 ·rw[if_neg hf]at h ⊢
  by_cases h8:8≤E.length
  ·rw[if_pos h8]
  ·rw[if_neg h8]at h
   exact absurd rfl h
theorem Wb.start {w w1 w2 w3:World} {b:Nat} (b1:Below w.heap.size w w1) (hb:Mxx w1 b [] 0 [b,b-1,b-2]) (h2:2≤b) (hbw:w.heap.size+2=b) (e2:w2=w1.alloc (.cells #[.slice none 0 0,.slice none 0 0,.int .i64 0] 98)) (e3:w3=w2.alloc (.cells #[.pointer (some ⟨b,0,none⟩),.pointer (some ⟨w1.heap.size,0,none⟩),.slice none 0 0,.slice none 0 0,.slice none 0 0] 34)):Wb w w3 w2.heap.size b w1.heap.size:=by
 have s2:w2.heap.size=w1.heap.size+1:=by rw[e2];simp
 have bb2:Below w1.heap.size w1 w2:=by rw[e2];exact (Below.refl _ _).alloc (Nat.le_refl _) _
 have bb3:Below w2.heap.size w2 w3:=by rw[e3];exact (Below.refl _ _).alloc (Nat.le_refl _) _
 have A1:Al w w1 (putT (fun _=>noT) 0 (mxT b [] 0 [b,b-1,b-2])):=(Al.start w).step 0 _ rfl ⟨Off.of_below b1,fun k hk=>.inr (by simp[mxT]at hk;omega)⟩ hb (fun k hk=>hb.lt k hk)
 have r2:RMx w2 w1.heap.size (.slice none 0 0) (.slice none 0 0) [] [] 0:=⟨by rw[e2];exact heap_alloc_new w1 _,World.ownsRow_nil _ _ _ _,World.ownsRow_nil _ _ _ _⟩
 have A2:=A1.step 1 (rmT w1.heap.size (.slice none 0 0) (.slice none 0 0) [] [] 0) (U:=[]) rfl ⟨Off.of_below bb2,fun k hk=>.inr (by simp[rmT,RMU,Value.ownBlock]at hk;omega)⟩ r2 (fun k hk=>r2.lt k hk)
 have r3:WD w3 w2.heap.size b w1.heap.size (.slice none 0 0) (.slice none 0 0) (.slice none 0 0) [] [] []:=⟨by rw[e3];exact heap_alloc_new w2 _,World.ownsRow_nil _ _ _ _,World.ownsRow_nil _ _ _ _,World.ownsRow_nil _ _ _ _⟩
 have A3:=A2.step 2 (wdT w2.heap.size b w1.heap.size (.slice none 0 0) (.slice none 0 0) (.slice none 0 0) [] [] []) (U:=[]) rfl ⟨Off.of_below bb3,fun k hk=>.inr (by simp[wdT,WDU,Value.ownBlock]at hk;omega)⟩ r3 (fun k hk=>r3.lt k hk)
 exact⟨[],_,⟨A3,⟨_,rfl⟩,⟨_,_,rfl⟩,⟨_,_,_,rfl⟩,fun j hj=>by simp at hj,fun j hj=>by simp at hj,by simp,fun e he=>by simp at he⟩,fun e he=>by simp at he⟩
end Go.Proofs.YthbogkaoidbpgaaGreat
