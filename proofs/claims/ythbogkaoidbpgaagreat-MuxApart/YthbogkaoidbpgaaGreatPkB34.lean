/- Part 35 of the texts on which the proofs of layer 13 rest: contracts of Go functions. -/
import Derived.Deep.RegionHeld3
import Derived.Test.YthbogkaoidbpgaaGreatPkB14
import Derived.Test.YthbogkaoidbpgaaGreatPkB15
import Derived.Test.YthbogkaoidbpgaaGreatPkB23
import Derived.Test.YthbogkaoidbpgaaGreatPkB33
namespace Go.Proofs.YthbogkaoidbpgaaGreat
set_option maxRecDepth 100000
open Go.RowKit
theorem step_append8L {ops:Array Oper} {o:Oper} {a:Act} {w:World} {K:Act→World→Prop} {Q:Exit→Act→World→Prop} {E:Prop}
  (hg:o.guard=none) (s x:Operand) (hop:o.op=Op.call { callee:=Callee.builtin Builtin.append,args:=#[s,x],argTypes:=#[50,50] })
  (B:Nat) (v:Value) (hs:a.eval s=v) (hown:w.ownsRow B 5 1 v 0 [])
  (ao:Option Addr) (m c:Nat) (bs:Nat→Nat) (hx:a.eval x=.slice ao m c) (hrow:Row8 w ao m c bs) (hm:m≤140737488351232)
  (w0:World) (hb:Below B w0 w) (hB0:B≤w0.heap.size)
  (hK:∀ a' c' w',Hid (w'.ownsRow B 5 1 (.slice a' m c') m (CB bs m))→Below B w0 w'→K (a.put o.dst (.slice a' m c')) w') :
  if Region.wanted o (yielded ops a.tmps)=true then Oper.wp Tryz.prog o a w K Q else E:=by
 obtain⟨i0,hi,hz0,hz1,hz2⟩:=info_parts info_u8
 have hw:Region.wanted o (yielded ops a.tmps)=true:=by simp[Region.wanted,hg]
 rw[if_pos hw]
 have hBw:B≤w.heap.size:=Nat.le_trans hB0 hb.size
 have fin:∀ v' w',w'.ownsRow B 5 1 v' m (CB bs m)→w.grownBy w' v.ownBlock→K (a.put o.dst v') w':=by
  intro v' w' h1 h2
  have h3:=hb.grown h2 hBw (fun j hj=>(hown.lt j hj).1)
  obtain⟨a',c',rfl,_⟩:=own_row8 h1 hrow.byte
  exact hK a' c' w' h1 h3
 cases ao with
 | none=>
  obtain⟨rfl,rfl⟩:=hrow.nil rfl
  have hrun:=run_append_owned_none (P:=Tryz.prog) (w:=w) B 50 o.type 5 i0 1 Tryz.underlying50 hi v 0 [] hown
  have hk:=fin v w hown ⟨rfl,rfl,rfl,Nat.le_refl _,fun _ _ _=>rfl⟩
  unfold Oper.wp
  simp[execOp,hop,resolve,invoke,builtin,hs,hx,hrun,Result.andThen]
  exact hk
 | some ad=>
  refine wp_append_own w s x _ hop B 5 i0 (.int .u8 0) 1 1 Tryz.underlying50 hi hz0 hz1 hz2 rfl (by decide) v 0 [] hs hown ad m c (CB bs m) hx (by rw[CB_length,Nat.mul_one]) ?_ (CB_one bs m) (by unfold maxLen;omega) (by omega) hBw (fun v' w' h1 h2 _=>fin v' w' (by simpa using h1) h2)
  intro j u hj
  by_cases hlt:j<m
  ·rw[CB_get bs m j hlt]at hj
   cases hj
   exact hrow.src ad rfl j hlt
  ·rw[CB_none bs m j (by omega)]at hj;cases hj
theorem own0L (B:Nat) (w:World) (h:B≤w.heap.size):(w.alloc (.cells #[] 5)).ownsRow B 5 1 (.slice (some ⟨w.heap.size,0,none⟩) 0 0) 0 []:=World.ownsRow_made w #[] 0 h (Nat.zero_le _) rfl
theorem own0Ld (B:Nat) (w:World) (h:B≤w.heap.size):(w.alloc (.cells #[] 5)).drew.ownsRow B 5 1 (.slice (some ⟨w.heap.size,0,none⟩) 0 0) 0 []:=own0L B w h
open Go.RowKit Go.Maps Go.Sort Go.Shelf
section
variable {w0 w w':World} {x b r lost:Nat} {E:List Ent} {t:Nat→Thing}
end
end Go.Proofs.YthbogkaoidbpgaaGreat
namespace Go.Proofs.YthbogkaoidbpgaaGreat
set_option maxRecDepth 100000
open Go.RowKit Go.Maps Go.Sort Go.Shelf
theorem mtick_neg (b mb:Nat) (n:Int) (w:World) (c0:w.cell? ⟨b,0,none⟩=some (.map (some mb))) (hn:n<0):Calls Tryz.prog 9 #[.pointer (some ⟨b,0,none⟩),.int .i64 n] w fun e w'=>e=.returned (.int .i64 2)∧w'=w:=by
 have hq:=mnone_any b mb w c0
 go_enter Tryz.func9,Tryz.ntmps9
 go_wp2_with (go_at_call 39;refine hq.mono ?_;rintro e w' ⟨rfl,hw⟩;have hw:=hw.symm;subst hw)
 go_ret
 exact⟨rfl,rfl⟩
def tkE (E:List Ent) (N:Int):List Ent:=E.map fun e=>{ e with s:=dtickS e.L.P e.s N }
def xD (E:List Ent) (j:Nat):Dr:=if h:j<E.length then (E[j]).L.dr (E[j]).s else ⟨0,0,0,0,0,P0,dnew M0⟩
theorem xD_get (E:List Ent) (j:Nat) (h:j<E.length):xD E j=(E[j]).L.dr (E[j]).s:=dif_pos h
section
variable {w0 w w':World} {x b r lost:Nat} {E:List Ent} {t:Nat→Thing} {N:Int}
end
end Go.Proofs.YthbogkaoidbpgaaGreat
namespace Go.Proofs.YthbogkaoidbpgaaGreat
set_option maxRecDepth 100000
open Go.RowKit Go.Maps Go.Sort Go.Shelf
def lnT (v:Value) (ds:List Nat):Thing:=⟨v.ownBlock.toList,fun w=>w.ownsRow 0 35 1 v ds.length (ds.map ptV),fun _ _ _ h o hl=>own_offM h o (fun k hk=>hl k (by simp[hk]))⟩
def Lk (e:Ent) (d:Nat) (D:Dr):Prop:=D.d=d∧D.P=e.L.P∧D.n=e.L.n∧D.mx=e.L.mx∧D.s=e.s
structure Wa (w0 w:World) (x b:Nat) (E:List Ent) (lost:Nat) (lv:Value) (ls:List Nat) (t:Nat→Thing):Prop where
 al:Al w0 w t
 mx:∃ V,t 0=mxT b (prts E) lost V
 wd:∃ r va vm vr,t 2=wdT x b r va vm vr (E.map (·.L.d)) (E.map (·.L.m)) (E.map (·.L.e))
 ln:t 6=lnT lv ls
 ll:ls.length=E.length
 dv:∀ j (hj:j<E.length),∃ U,t (10+2*j)=dvT ((E[j]).L.dr (E[j]).s) U
 rw:∀ j (hj:j<E.length),∃ U,t (11+2*j)=rwT ((E[j]).L.rr (E[j]).s) U
 lo:∀ j (hj:j<E.length),∃ D U,t (100+j)=dvT D U∧Lk (E[j]) (ls[j]'(by omega)) D
 le:E.length≤8
 pc:∀ e,e ∈ E→e.L.n=16∧e.L.mx=99∧e.L.P.c≠0∧e.L.P.c<4294967296∧e.L.P=Pc e.L.P.c
section
variable {w0 w w':World} {x b lost:Nat} {E:List Ent} {lv:Value} {ls:List Nat} {t:Nat→Thing}
theorem Wa.below (h:Wa w0 w x b E lost lv ls t) (q:Below w.heap.size w w'):Wa w0 w' x b E lost lv ls t:=⟨h.al.below q,h.mx,h.wd,h.ln,h.ll,h.dv,h.rw,h.lo,h.le,h.pc⟩
theorem Wa.put (h:Wa w0 w x b E lost lv ls t) {i:Nat} {y:Thing} (A:Al w0 w' (putT t i y)) (hi:i=1∨i=3∨i=4∨i=5):Wa w0 w' x b E lost lv ls (putT t i y):=by
 have ho:∀ k,k≠1→k≠3→k≠4→k≠5→putT t i y k=t k:=fun k a b c d=>putT_ne _ _ (by omega)
 refine⟨A,?_,?_,?_,h.ll,fun j hj=>?_,fun j hj=>?_,fun j hj=>?_,h.le,h.pc⟩
 ·rw[ho 0 (by omega) (by omega) (by omega) (by omega)];exact h.mx
 ·rw[ho 2 (by omega) (by omega) (by omega) (by omega)];exact h.wd
 ·rw[ho 6 (by omega) (by omega) (by omega) (by omega)];exact h.ln
 ·rw[ho _ (by omega) (by omega) (by omega) (by omega)];exact h.dv j hj
 ·rw[ho _ (by omega) (by omega) (by omega) (by omega)];exact h.rw j hj
 ·rw[ho _ (by omega) (by omega) (by omega) (by omega)];exact h.lo j hj
end
theorem encI_code (k c s n:Nat) (fl:Int) (len:Nat) (bs:Nat→Nat) (hc:c<4294967296) (hs:s<4294967296) (hn:n<4294967296):(encI k c s n fl len bs).1=0∨(DE (encI k c s n fl len bs).2 (encI k c s n fl len bs).1=0∧w4v (encI k c s n fl len bs).2 1=c):=by
 unfold encI
 by_cases hE:LW k c s n fl len len=0
 ·rw[if_pos hE]
  have hf:=(LW_zero hE).2.2.2.2
  obtain⟨F,rfl⟩:∃ F:Nat,fl=(F:Int):=⟨fl.toNat,by omega⟩
  have hk:=(LW_zero hE).2.2.2.1
  obtain⟨e1,_,e3,_⟩:=DE_back k c s n F len bs hc hs hn (by omega) hE
  exact .inr ⟨e1,e3⟩
 ·rw[if_neg hE]
  exact .inl rfl
end Go.Proofs.YthbogkaoidbpgaaGreat
namespace Go.Proofs.YthbogkaoidbpgaaGreat
set_option maxRecDepth 100000
open Go.RowKit Go.Maps Go.Sort Go.Shelf
structure Wl (w0 w:World) (t0:Nat→Thing) (E:List Ent) (lv:Value) (i:Nat):Prop where
 ex:∃ t ls,Al w0 w t∧(∀ k,k<100→k≠6→k≠7→t k=t0 k)∧t 6=lnT lv ls∧ls.length=i∧∀ j e d,j<i→E[j]?=some e→ls[j]?=some d→∃ D U,t (100+j)=dvT D U∧Lk e d D
section
variable {w0 w w':World} {x b r lost:Nat} {E:List Ent} {t0:Nat→Thing} {lv:Value} {i:Nat}
theorem Wl.start (h:Al w0 w t0):Wl w0 w t0 E (.slice none 0 0) 0:=
 ⟨_,[],h.turn 6 (lnT (.slice none 0 0) []) (Off.refl _ _) (World.ownsRow_nil _ _ _ _) (fun k hk=>by simp[lnT,Value.ownBlock]at hk) (fun k hk=>by simp[lnT,Value.ownBlock]at hk),fun k _ h6 _=>putT_ne _ _ h6,putT_same _ _ _,rfl,fun j e d hj=>by omega⟩
theorem Wl.get (h:Wl w0 w t0 E lv i) {k:Nat} (hk:k<100) (h6:k≠6) (h7:k≠7) {X:Thing} (e:t0 k=X):X.T w:=by
 obtain⟨t,ls,A,o,_⟩:=h.ex
 exact A.get ((o k hk h6 h7).trans e)
theorem Wl.row (h:Wl w0 w t0 E lv i):∃ ls:List Nat,ls.length=i∧w.ownsRow 0 35 1 lv ls.length (ls.map ptV)∧∀ (w2 w3:World) (ob:Obj) (lv':Value) (L:Pl) (s:Sd) (e:Ent),Two w w2 L s→E[i]?=some e→Lk e L.d (L.dr s)→w3.ownsRow 0 35 1 lv' (ls.length+1) (ls.map ptV ++ [ptV L.d])→(w2.alloc ob).grownBy w3 lv.ownBlock→(lv'.ownBlock=lv.ownBlock∨lv'.ownBlock=some (w2.heap.size+1))→Wl w0 w3 t0 E lv' (i+1):=by
 obtain⟨t,ls,A,o,e6,hl,hd⟩:=h.ex
 refine⟨ls,hl,A.get e6,fun w2 w3 ob lv' L s e T he hk hr g hb=>?_⟩
 obtain⟨U,V,A2⟩:=A.two T (100+i) 7
 have f6:putT (putT t (100+i) (dvT (L.dr s) U)) 7 (rwT (L.rr s) V) 6=lnT lv ls:=by
  rw[putT_ne _ _ (by omega),putT_ne _ _ (by omega)];exact e6
 have hr':w3.ownsRow 0 35 1 lv' (ls ++ [L.d]).length ((ls ++ [L.d]).map ptV):=by
  rw[List.length_append,List.map_append]
  exact hr
 have oG:Off lv.ownBlock.toList w2 w3:=(Off.alloc _ w2 ob).trans (Off.grownO g)
 have A3:=A2.step 6 (lnT lv' (ls ++ [L.d])) (U:=lv.ownBlock.toList) (by rw[f6];rfl) ⟨oG,fun k hk=>by
  simp[lnT]at hk
  rcases hb with hb | hb
  ·exact .inl (by simp[← hb,hk])
  ·rw[hb]at hk
   simp at hk
   exact .inr (by omega)⟩ hr' (fun k hk=>by
  simp[lnT]at hk
  obtain⟨c,hc⟩:=own_blkM hr' hk
  exact (Array.getElem?_eq_some_iff.1 hc).1)
 refine⟨_,ls ++ [L.d],A3,fun k h1 h2 h3=>?_,putT_same _ _ _,by simp[hl],fun j e' d hj hj1 hj2=>?_⟩
 ·rw[putT_ne _ _ h2,putT_ne _ _ h3,putT_ne _ _ (by omega)]
  exact o k h1 h2 h3
 ·by_cases ej:j=i
  ·subst ej
   refine⟨L.dr s,U,?_,?_⟩
   ·rw[putT_ne _ _ (by omega),putT_ne _ _ (by omega),putT_same]
   ·rw[List.getElem?_append_right (by omega)]at hj2
    rw[hl]at hj2
    simp at hj2
    rw[he]at hj1
    cases hj1
    rw[← hj2]
    exact hk
  ·rw[List.getElem?_append_left (by omega)]at hj2
   obtain⟨D,U',e1,e2⟩:=hd j e' d (by omega) hj1 hj2
   refine⟨D,U',?_,e2⟩
   rw[putT_ne _ _ (by omega),putT_ne _ _ (by omega),putT_ne _ _ (by omega)]
   exact e1
theorem Wl.done {w1:World} (h:Wl w0 w t0 E lv E.length) (hW:Wo w0 w1 x b r E lost t0):∃ ls t,Wa w0 w x b E lost lv ls t:=by
 obtain⟨t,ls,A,o,e6,hl,hd⟩:=h.ex
 have h8:=hW.le
 refine⟨ls,t,A,?_,?_,e6,hl,fun j hj=>?_,fun j hj=>?_,fun j hj=>?_,hW.le,hW.pc⟩
 ·rw[o 0 (by omega) (by omega) (by omega)];exact hW.mx
 ·rw[o 2 (by omega) (by omega) (by omega)]
  obtain⟨va,vm,vr,e⟩:=hW.wd
  exact⟨r,va,vm,vr,e⟩
 ·rw[o _ (by omega) (by omega) (by omega)];exact hW.dv j hj
 ·rw[o _ (by omega) (by omega) (by omega)];exact hW.rw j hj
 ·exact hd j _ _ hj (List.getElem?_eq_getElem hj) (List.getElem?_eq_getElem (by omega))
end
end Go.Proofs.YthbogkaoidbpgaaGreat
namespace Go.Proofs.YthbogkaoidbpgaaGreat
set_option maxRecDepth 100000
open Go.RowKit Go.Maps Go.Sort Go.Shelf
theorem dtickS_neg (P:Pm) (s:Sd) (k:Int) (h:k<0):dtickS P s k=s:=by
 by_cases h6:s.st=6
 ·rw[dtickS,if_pos h6]
 ·rw[dtickS,if_neg h6,if_pos h]
structure Tka (w0 w:World) (t0:Nat→Thing) (E:List Ent) (ls:List Nat) (N:Int) (i j:Nat):Prop where
 ex:∃ t,Al w0 w t∧(∀ k,(∀ m,m<i→k≠100+m)→(∀ m,m<j→k≠11+2*m)→t k=t0 k)∧(∀ m e,m<j→E[m]?=some e→∃ U,t (11+2*m)=rwT (e.L.rr (dtickS e.L.P e.s N)) U)∧∀ m e d,m<i→E[m]?=some e→ls[m]?=some d→∃ D U,t (100+m)=dvT D U∧Lk { e with s:=dtickS e.L.P e.s N } d D
section
variable {w0 w w':World} {x b lost:Nat} {E:List Ent} {t:Nat→Thing} {ls:List Nat} {N:Int} {lv:Value} {i j:Nat}
theorem Tka.start (A:Al w0 w t):Tka w0 w t E ls N 0 0:=⟨t,A,fun _ _ _=>rfl,fun m _ hm=>by omega,fun m _ _ hm=>by omega⟩
theorem Tka.below (h:Tka w0 w t E ls N i j) (q:Below w.heap.size w w'):Tka w0 w' t E ls N i j:=by
 obtain⟨t',A,r⟩:=h.ex
 exact⟨t',A.below q,r⟩
theorem Tka.lone (h:Tka w0 w t E ls N i j) (hl:∀ m e d,E[m]?=some e→ls[m]?=some d→∃ D U,t (100+m)=dvT D U∧Lk e d D) (h8:E.length≤8) (hj:j≤E.length) {e:Ent} {d:Nat} (he:E[i]?=some e) (hd:ls[i]?=some d):∃ m g n mx U,DV w d m g n mx e.L.P U e.s∧∀ U' w',Gr U w U' w'→DV w' d m g n mx e.L.P U' (dtickS e.L.P e.s N)→Tka w0 w' t E ls N (i+1) j:=by
 obtain⟨t',A,o,dr,dl⟩:=h.ex
 obtain⟨D,U,eD,k1,k2,k3,k4,k5⟩:=hl i e d he hd
 have e':=(o (100+i) (fun m hm=>by omega) (fun m hm=>by omega)).trans eD
 have hD:=A.dv e'
 rw[k1,k2,k5]at hD
 refine⟨D.m,D.g,D.n,D.mx,U,hD,fun U' w' g y=>?_⟩
 have y':DV w' D.d D.m D.g D.n D.mx D.P U' (dtickS e.L.P e.s N):=by rw[k1,k2];exact y
 refine⟨_,A.stepD e' g y',fun k h1 h2=>?_,fun m e1 hm he1=>?_,fun m e1 d1 hm he1 hd1=>?_⟩
 ·rw[putT_ne _ _ (h1 i (by omega))]
  exact o k (fun m hm=>h1 m (by omega)) h2
 ·rw[putT_ne _ _ (by omega)]
  exact dr m e1 hm he1
 ·by_cases em:m=i
  ·subst em
   rw[he]at he1
   rw[hd]at hd1
   cases he1
   cases hd1
   exact⟨_,U',putT_same _ _ _,k1,k2,k3,k4,rfl⟩
  ·rw[putT_ne _ _ (by omega)]
   exact dl m e1 d1 (by omega) he1 hd1
theorem Tka.ref (h:Tka w0 w t E ls N i j) (hr:∀ m e,E[m]?=some e→∃ U,t (11+2*m)=rwT (e.L.rr e.s) U) (h8:E.length≤8) {e:Ent} (he:E[j]?=some e):∃ U,RW w e.L.e e.L.r e.L.q e.L.n e.L.mx e.L.P U e.s∧∀ U' w',Gr U w U' w'→RW w' e.L.e e.L.r e.L.q e.L.n e.L.mx e.L.P U' (dtickS e.L.P e.s N)→Tka w0 w' t E ls N i (j+1):=by
 obtain⟨t',A,o,dr,dl⟩:=h.ex
 obtain⟨U,e1⟩:=hr j e he
 obtain⟨hj,_⟩:=List.getElem?_eq_some_iff.1 he
 have e':=(o (11+2*j) (fun m hm=>by omega) (fun m hm=>by omega)).trans e1
 refine⟨U,A.rw e',fun U' w' g y=>⟨_,A.stepR e' g y,fun k h1 h2=>?_,fun m e2 hm he2=>?_,fun m e2 d2 hm he2 hd2=>?_⟩⟩
 ·rw[putT_ne _ _ (h2 j (by omega))]
  exact o k h1 (fun m hm=>h2 m (by omega))
 ·by_cases em:m=j
  ·subst em
   rw[he]at he2
   cases he2
   exact⟨U',by rw[putT_same];rfl⟩
  ·rw[putT_ne _ _ (by omega)]
   exact dr m e2 (by omega) he2
 ·rw[putT_ne _ _ (by omega)]
  exact dl m e2 d2 hm he2 hd2
theorem tkE_get (E:List Ent) (N:Int) (j:Nat) (hj:j < (tkE E N).length):(tkE E N)[j]={ E[j]'(by simpa [tkE] using hj) with s:=dtickS (E[j]'(by simpa [tkE] using hj)).L.P (E[j]'(by simpa [tkE] using hj)).s N }:=by simp[tkE]
theorem Tka.done {w1:World} {t1:Nat→Thing} {V:List Nat} (h:Tka w0 w' t1 E ls N E.length E.length) (hW:Wa w0 w1 x b E lost lv ls t) (z0:t1 0=mxT b (prts E) lost V) (o2:∀ i,i≠0→(∀ j,j<E.length→i≠10+2*j)→t1 i=t i) (d2:∀ j (hj:j<E.length),∃ U,t1 (10+2*j)=dvT ((E[j]).L.dr (dtickS (E[j]).L.P (E[j]).s N)) U):∃ t',Wa w0 w' x b (tkE E N) lost lv ls t':=by
 obtain⟨t',A,o,dr,dl⟩:=h.ex
 have h8:=hW.le
 have l:(tkE E N).length=E.length:=by simp[tkE]
 have m1:prts (tkE E N)=prts E:=by simp[prts,tkE]
 refine⟨t',A,⟨V,?_⟩,?_,?_,by rw[l];exact hW.ll,fun j hj=>?_,fun j hj=>?_,fun j hj=>?_,by rw[l];exact hW.le,fun e he=>?_⟩
 ·rw[o 0 (fun m _=>by omega) (fun m _=>by omega),z0,m1]
 ·obtain⟨r,va,vm,vr,e⟩:=hW.wd
  refine⟨r,va,vm,vr,?_⟩
  rw[o 2 (fun m _=>by omega) (fun m _=>by omega),o2 2 (by omega) (fun j _=>by omega),e]
  simp[tkE,Function.comp_def]
 ·rw[o 6 (fun m _=>by omega) (fun m _=>by omega),o2 6 (by omega) (fun j _=>by omega)]
  exact hW.ln
 ·rw[tkE_get,o _ (fun m _=>by omega) (fun m _=>by omega)]
  exact d2 j (by rw[← l];exact hj)
 ·rw[tkE_get]
  exact dr j _ (by omega) (List.getElem?_eq_getElem _)
 ·have hj':j<ls.length:=by rw[hW.ll];omega
  rw[tkE_get]
  exact dl j _ _ (by omega) (List.getElem?_eq_getElem _) (List.getElem?_eq_getElem hj')
 ·obtain⟨j,hj,rfl⟩:=List.getElem_of_mem he
  rw[tkE_get]
  have:=hW.pc _ (List.getElem_mem (by rw[← l];exact hj:j<E.length))
  exact this
end
end Go.Proofs.YthbogkaoidbpgaaGreat
