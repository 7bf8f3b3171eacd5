/- Part 40: contracts that the proof rests on. -/
import Derived.Test.YtddahhlbpcbddaaGreatPkX38
set_option maxHeartbeats 64000000
set_option maxRecDepth 100000
namespace Go.Proofs.YtddahhlbpcbddaaGreat
open Tryz
open Go.RowKit Go.Maps
set_option linter.unusedVariables false
def lP (T size:Nat) (v:Value) (n:Nat) (xs:List Value):Thing:=⟨v.ownBlock.toList,fun w=>w.ownsRow 0 T size v n xs,fun _ _ _ h o hl=>bG h o (fun k hk=>hl k (by rw[hk];simp))⟩
def nS (h d m:Nat):List Value:=[ac h 0,ac d 0,ac m 0]
theorem kV (n:Nat) (h d m:Nat→Nat):io (n+1) h d m=io n h d m ++ nS (h n) (d n) (m n):=by
 unfold io nS
 rw[List.range_succ,List.flatMap_append]
 simp
theorem yh (n x y z:Nat) (h d m:Nat→Nat):∀ i,i≤n→io i (cj h n x) (cj d n y) (cj m n z)=io i h d m:=by
 intro i hi
 induction i with
 | zero=>rfl
 | succ i ih=>rw[kV,kV,ih (by omega),cN _ _ (by omega),cN _ _ (by omega),cN _ _ (by omega)]
structure Ng where
 X:Nat
 b:Nat
 m:Nat
 x:Nat
 v0:Value
 v1:Value
 vc:Value
 n:Nat
 i:Nat
 mx:Nat
 PH:Nat→Pm
 PD:Nat→Pm
 h:Nat→Nat
 d:Nat→Nat
 dm:Nat→Nat
 g:Nat→Nat
 hU:Nat→List Nat
 dU:Nat→List Nat
 ob:Obj
def Ng.blk (G:Ng):Obj:=.cells #[G.v0,G.v1,.int .u32 (G.mx:Nat),G.vc,ac G.b 0,.int .i64 0,.slice none 0 0] 82 (0,0)
def Ng.t (G:Ng) (q:Nat):Thing:=
 if q=0 then fI [(G.X,G.blk)] else if q=1 then lP 90 5 G.v0 G.n (zl G.n G.PH) else if q=2 then lP 90 5 G.v1 G.n (zl G.n G.PD)
 else if q=3 then lP 87 3 G.vc G.i (io G.i G.h G.d G.dm) else if q=4 then bgT G.b G.m (.slice none 0 0) [] none [] else if q=5 then fI [(G.x,G.ob)]
 else if q-6<2*G.i then (if q % 2=0 then sK ⟨G.h ((q-6) / 2),G.PH ((q-6) / 2),bY⟩ (G.hU ((q-6) / 2)) else tW ⟨G.d ((q-6) / 2),G.dm ((q-6) / 2),G.g ((q-6) / 2),16,G.mx,G.PD ((q-6) / 2),dD M0⟩ (G.dU ((q-6) / 2)))
 else oF
def Ng.more (G:Ng) (vc:Value) (h d dm g:Nat) (hU dU:List Nat):Ng:={ G with vc:=vc,i:=G.i+1,h:=cj G.h G.i h,d:=cj G.d G.i d,dm:=cj G.dm G.i dm,g:=cj G.g G.i g,hU:=cj G.hU G.i hU,dU:=cj G.dU G.i dU }
theorem Ng.more_t (G:Ng) (vc:Value) (h d dm g:Nat) (hU dU:List Nat):∀ q,(G.more vc h d dm g hU dU).t q=aV (aV (aV (aV G.t (6+2*G.i) (sK ⟨h,G.PH G.i,bY⟩ hU)) (7+2*G.i) (tW ⟨d,dm,g,16,G.mx,G.PD G.i,dD M0⟩ dU)) 3 (lP 87 3 vc (G.i+1) (io G.i G.h G.d G.dm ++ nS h d dm))) 0 (fI [(G.X,(G.more vc h d dm g hU dU).blk)]) q:=by
 intro q
 by_cases q0:q=0
 ·subst q0
  rw[al]
  rfl
 rw[ak _ _ q0]
 by_cases q3:q=3
 ·subst q3
  rw[al]
  show lP _ 3 vc (G.i+1) (io (G.i+1) (cj G.h G.i h) (cj G.d G.i d) (cj G.dm G.i dm))=_
  rw[kV,yh _ _ _ _ _ _ _ _ (Nat.le_refl _),ai,ai,ai]
 rw[ak _ _ q3]
 by_cases q7:q=7+2*G.i
 ·subst q7
  rw[al]
  unfold Ng.t
  rw[if_neg q0,if_neg (by omega),if_neg (by omega),if_neg q3,if_neg (by omega),if_neg (by omega),if_pos (show 7+2*G.i-6<2 * (G.more vc h d dm g hU dU).i by show 7+2*G.i-6<2 * (G.i+1);omega),if_neg (by omega),show (7+2*G.i-6) / 2=G.i by omega]
  show tW ⟨cj G.d G.i d G.i,cj G.dm G.i dm G.i,cj G.g G.i g G.i,16,G.mx,G.PD G.i,dD M0⟩ (cj G.dU G.i dU G.i)=_
  rw[ai,ai,ai,ai]
 rw[ak _ _ q7]
 by_cases q6:q=6+2*G.i
 ·subst q6
  rw[al]
  unfold Ng.t
  rw[if_neg q0,if_neg (by omega),if_neg (by omega),if_neg q3,if_neg (by omega),if_neg (by omega),if_pos (show 6+2*G.i-6<2 * (G.more vc h d dm g hU dU).i by show 6+2*G.i-6<2 * (G.i+1);omega),if_pos (by omega),show (6+2*G.i-6) / 2=G.i by omega]
  show sK ⟨cj G.h G.i h G.i,G.PH G.i,bY⟩ (cj G.hU G.i hU G.i)=_
  rw[ai,ai]
 rw[ak _ _ q6]
 unfold Ng.t
 rw[if_neg q0,if_neg q0]
 by_cases q1:q=1
 ·rw[if_pos q1,if_pos q1]
  rfl
 rw[if_neg q1,if_neg q1]
 by_cases q2:q=2
 ·rw[if_pos q2,if_pos q2]
  rfl
 rw[if_neg q2,if_neg q2,if_neg q3,if_neg q3]
 by_cases q4:q=4
 ·rw[if_pos q4,if_pos q4]
  rfl
 rw[if_neg q4,if_neg q4]
 by_cases q5:q=5
 ·rw[if_pos q5,if_pos q5]
  rfl
 rw[if_neg q5,if_neg q5]
 by_cases hl:q-6<2*G.i
 ·have hne:(q-6) / 2≠G.i:=by omega
  rw[if_pos hl,if_pos (show q-6<2 * (G.more vc h d dm g hU dU).i by show q-6<2 * (G.i+1);omega)]
  by_cases he:q % 2=0
  ·rw[if_pos he,if_pos he]
   show sK ⟨cj G.h G.i h ((q-6) / 2),G.PH ((q-6) / 2),bY⟩ (cj G.hU G.i hU ((q-6) / 2))=_
   rw[cN _ _ hne,cN _ _ hne]
  ·rw[if_neg he,if_neg he]
   show tW ⟨cj G.d G.i d ((q-6) / 2),cj G.dm G.i dm ((q-6) / 2),cj G.g G.i g ((q-6) / 2),16,G.mx,G.PD ((q-6) / 2),dD M0⟩ (cj G.dU G.i dU ((q-6) / 2))=_
   rw[cN _ _ hne,cN _ _ hne,cN _ _ hne,cN _ _ hne]
 ·rw[if_neg hl,if_neg (show ¬ q-6<2 * (G.more vc h d dm g hU dU).i by show ¬ q-6<2 * (G.i+1);omega)]
theorem Ng.step {w0 w w5 w6 w7 w8:World} {G:Ng} (A:Al w0 w G.t) (b5:Below w.heap.size w w5) {h d dm g:Nat} {hU dU:List Nat} (hv:HV w5 h (G.PH G.i) hU bY) (dv:DV w5 d dm g 16 G.mx (G.PD G.i) dU (dD M0)) (hUg:∀ k,k ∈ hU→w.heap.size≤k) (dUg:∀ k,k ∈ dU→w.heap.size≤k) (hd:∀ k,k ∈ hU→k ∉ dU)
  (b6:Below w5.heap.size w5 w6) {vc:Value} (o7:w7.ownsRow 0 87 3 vc (G.i+1) (io G.i G.h G.d G.dm ++ nS h d dm)) (g7:w6.grownBy w7 G.vc.ownBlock) (p7:vc.ownBlock=G.vc.ownBlock∨vc.ownBlock=some w6.heap.size)
  (o8:Off [G.X] w7 w8) (k8:w8.heap[G.X]?=some (G.more vc h d dm g hU dU).blk):Al w0 w8 (G.more vc h d dm g hU dU).t:=by
 refine Al.same ?_ (G.more_t vc h d dm g hU dU)
 have sz:=A.size
 have s5:=b5.size
 have A5:=A.below b5
 have A5h:Al w0 w5 (aV G.t (6+2*G.i) (sK ⟨h,G.PH G.i,bY⟩ hU)):=A5.turn _ _ (Off.refl _ _) hv (fun k hk=>⟨Nat.le_trans sz (hUg k hk),HV.ult hv k hk⟩) (fun k hk j hj hm=>by
  have:=(A.lt j k hm).2
  have:=hUg k hk
  omega)
 have A5d:Al w0 w5 (aV (aV G.t (6+2*G.i) (sK ⟨h,G.PH G.i,bY⟩ hU)) (7+2*G.i) (tW ⟨d,dm,g,16,G.mx,G.PD G.i,dD M0⟩ dU)):=A5h.turn _ _ (Off.refl _ _) dv (fun k hk=>⟨Nat.le_trans sz (dUg k hk),DV.ult dv k hk⟩) (fun k hk j hj hm=>by
  by_cases z:j=6+2*G.i
  ·subst z
   rw[al]at hm
   exact hd k hm hk
  ·rw[ak _ _ z]at hm
   have:=(A.lt j k hm).2
   have:=dUg k hk
   omega)
 have A6:=A5d.below b6
 have A7:=A6.step 3 (lP 87 3 vc (G.i+1) (io G.i G.h G.d G.dm ++ nS h d dm)) (U:=G.vc.ownBlock.toList) (by rw[ak _ _ (by omega),ak _ _ (by omega)];rfl) (w':=w7) ⟨⟨g7.os,g7.tape,g7.output,g7.size,fun k hk hb=>g7.block k hk (fun e=>hb (by rw[← e];simp))⟩,fun k hk=>by
  have hk:k ∈ vc.ownBlock.toList:=hk
  rw[Option.mem_toList]at hk
  rcases p7 with p | p
  ·exact .inl (by rw[← p,hk];simp)
  ·rw[hk]at p
   injection p with p
   exact .inr (by omega)⟩ o7 (fun k hk=>by
  have hk:k ∈ vc.ownBlock.toList:=hk
  rw[Option.mem_toList]at hk
  exact (o7.lt k hk).2)
 refine A7.step 0 (fI [(G.X,(G.more vc h d dm g hU dU).blk)]) (U:=[G.X]) (by rw[ak _ _ (by omega),ak _ _ (by omega),ak _ _ (by omega)];rfl) ⟨o8,fun k hk=>.inl hk⟩ (fun p hp=>?_) (fun k hk=>?_)
 ·simp only[List.mem_cons,List.not_mem_nil,or_false]at hp
  subst hp
  exact k8
 ·have hk:k=G.X:=by
   have hk:k ∈ [G.X]:=hk
   simpa using hk
  subst hk
  exact (Array.getElem?_eq_some_iff.1 k8).1
open Go.RowKit
structure Vok (s:Vs):Prop where
 fr:s.lat=0→s.fr=false
 sm:s.sm=true→s.lat=0
theorem Vok.new:Vok pj:=⟨fun _=>rfl,fun h=>by cases h⟩
theorem Vok.trip {s:Vs} (h:Vok s) (x:Int):Vok (dW s x):=by
 unfold dW
 split
 ·exact h
 ·exact⟨fun _=>rfl,fun h=>by cases h⟩
theorem Vok.run {s:Vs} (h:Vok s) (o:Bool):Vok (eQ s o):=by
 unfold eQ
 split
 ·exact h
 ·exact⟨h.fr,fun h=>by cases h⟩
theorem Vok.hold {s:Vs} (h:Vok s) (o:Bool):Vok (ir s o):=⟨h.fr,h.sm⟩
theorem Vok.fresh {s:Vs} (h:Vok s):Vok (fJ s):=⟨fun e=>by show (s.lat != 0)=false;rw[show s.lat=0 from e];rfl,h.sm⟩
theorem Vok.take {s:Vs} (h:Vok s) (bs:Nat→Nat):Vok (fO s bs):=by
 unfold fO
 split
 ·rename_i k
  exact⟨h.fr,fun _=>k.2⟩
 ·exact h
theorem Vok.ack {s:Vs} (h:Vok s):Vok (jN s):=by
 unfold jN
 split
 ·exact⟨fun _=>rfl,fun _=>rfl⟩
 ·exact h
structure Bk2 where
 c:Nat
 M:List Nat
 cp:Value
 lv:Value
 vv:Value
 av:Value
 col:Nat→Nat
section
variable {w w':World} {d m g n mx:Nat} {P:Pm} {U:List Nat} {s s':Sd} {B:Bk2} {A A':Prop}
end
end Go.Proofs.YtddahhlbpcbddaaGreat
namespace Go.Proofs.YtddahhlbpcbddaaGreat
open Tryz
open Go.RowKit
structure Iv (P:Pm) (s:Sd):Prop where
 st1:1≤s.st
 st6:s.st≤6
 ss:s.ss<4294967296
 nm:s.nm<4294967296
 sn:s.sn<4294967296
 hs:s.st=2∨s.st=3→s.sn=0∧s.nm=0∧s.ss≠0
 run:s.st=4→s.sn≤s.nm∧s.nm<P.n∧s.ss≠0
 od:s.od<4
 vr:s.v.run=decide (s.st=4)
 vok:Vok s.v
 s0:s.ss=0→s.nm=0
 z:s.ss=0∨s.ss=vz s.ms.bs
 d6:s.st=6→s.ap=(fun _=>0)∧s.hd=false
structure Mo (mx n:Nat) (s:Sd):Prop where
 n10:10≤n
 mx0:mx≠0
 mxl:mx<4294967296
 l0:0≤s.ms.l
 bz:Bz s.ms.bs
 off:s.st≠6→s.ms.off=false
theorem Mo.of {w:World} {d m g n mx:Nat} {P:Pm} {U:List Nat} {s:Sd} (h:DV w d m g n mx P U s):Mo mx n s:=by
 obtain⟨a,b,c,e,f,g⟩:=h.facts
 exact⟨c,e,f,b,a,g⟩
section
variable {P:Pm} {mx n:Nat} {s:Sd}
theorem ij (v:Vs) (x:Int):(dW v x).run=v.run:=by unfold dW;split <;> rfl
theorem eu (v:Vs) (o:Bool):(eQ v o).run=o:=by
 unfold eQ
 split
 ·assumption
 ·rfl
theorem mD (v:Vs) (bs:Nat→Nat):(fO v bs).run=v.run:=by unfold fO;split <;> rfl
theorem oE (v:Vs):(jN v).run=v.run:=by unfold jN;split <;> rfl
theorem gA (s:Sd) (x:Int):(aG s x).v=dW s.v x:=by unfold aG gv;split <;> rfl
theorem ej (s:Sd) (x:Int):(aG s x).st=s.st∧(aG s x).ss=s.ss∧(aG s x).nm=s.nm∧(aG s x).sn=s.sn∧(aG s x).od=s.od∧(aG s x).ms=s.ms∧(aG s x).ap=s.ap∧(aG s x).hd=s.hd:=by unfold aG gv;split <;> exact⟨rfl,rfl,rfl,rfl,rfl,rfl,rfl,rfl⟩
theorem Iv.latch (h:Iv P s) (x:Int):Iv P (aG s x):=by
 unfold aG gv
 split
 ·exact⟨h.st1,h.st6,h.ss,h.nm,h.sn,h.hs,h.run,h.od,(ij _ _).trans h.vr,h.vok.trip x,h.s0,h.z,h.d6⟩
 ·exact⟨h.st1,h.st6,h.ss,h.nm,h.sn,h.hs,h.run,h.od,(ij _ _).trans h.vr,h.vok.trip x,h.s0,h.z,h.d6⟩
theorem Iv.note (h:Iv P s) (x:Int):Iv P (gv s x):=⟨h.st1,h.st6,h.ss,h.nm,h.sn,h.hs,h.run,h.od,h.vr,h.vok,h.s0,h.z,h.d6⟩
theorem Iv.leave (hv:Vok s.v) {k:Nat} (h1:1≤k) (h5:k≤5) (h4:k≠4) (h2:k≠2) (h3:k≠3):Iv P (d8 s k):=
 ⟨h1,Nat.le_succ_of_le h5,by show (0:Nat)<_;omega,by show (0:Nat)<_;omega,by show (0:Nat)<_;omega,fun e=>by have e:k=2∨k=3:=e;omega,fun e=>absurd e h4,by show (0:Nat)<4;omega,by
  show (eQ s.v false).run=decide (k=4)
  rw[eu,decide_eq_false h4],hv.run false,fun _=>rfl,.inl rfl,fun e=>by have e:k=6:=e;omega⟩
theorem Iv.life {k:Nat} (h1:1≤k) (h6:k≤6) (h4:k≠4) (h2:k≠2) (h3:k≠3):Iv P (jH s k):=
 ⟨h1,h6,by show (0:Nat)<_;omega,by show (0:Nat)<_;omega,by show (0:Nat)<_;omega,fun e=>by have e:k=2∨k=3:=e;omega,fun e=>absurd e h4,by show (0:Nat)<4;omega,(decide_eq_false h4).symm,Vok.new,fun _=>rfl,.inl rfl,fun _=>⟨rfl,rfl⟩⟩
theorem Iv.odd (h:Iv P s):Iv P (bP s):=by
 unfold bP
 split
 ·split
  ·rename_i h4
   exact⟨h.st1,h.st6,h.ss,h.nm,h.sn,h.hs,h.run,h4,h.vr,h.vok,h.s0,h.z,h.d6⟩
  ·refine Iv.leave ?_ (by omega) (by omega) (by omega) (by omega) (by omega)
   split
   ·rw[gA];exact h.vok.trip _
   ·exact h.vok
 ·exact h
theorem Iv.begin_ (h:Iv P s) (M:Mo mx n s) (hu:s.st≠6):Iv P (bj P mx n s).s:=by
 have hv:=t7 (mx:=mx) (n:=n) (s:=s.ms) M.n10 (M.off hu) M.l0 M.mxl
 unfold bj
 generalize nx mx n s.ms.bs false s.ms=X at *
 have hm:=M.mxl
 split
 ·refine Iv.leave ?_ (by omega) (by omega) (by omega) (by omega) (by omega)
  rw[gA];exact h.vok.trip _
 ·split
  ·exact Iv.life (by omega) (by omega) (by omega) (by omega) (by omega)
  ·rename_i e0
   have e0:X.e=0:=by simpa using e0
   obtain⟨v1,v2,v3⟩:=hv.1 e0
   refine⟨by show 1≤2;omega,by show 2≤6;omega,by show X.v<_;omega,by show (0:Nat)<_;omega,by show (0:Nat)<_;omega,fun _=>⟨rfl,rfl,by show X.v≠0;omega⟩,fun e=>by have e:(2:Nat)=4:=e;omega,by show (0:Nat)<4;omega,?_,h.vok.run false,fun _=>rfl,.inr ?_,fun e=>by have e:(2:Nat)=6:=e;omega⟩
   ·show (eQ s.v false).run=decide ((2:Nat)=4)
    rw[eu];rfl
   ·show X.v=vz X.s.bs
    omega
theorem Mo.odd (M:Mo mx n s):Mo mx n (bP s):=by
 refine⟨M.n10,M.mx0,M.mxl,by rw[gZ];exact M.l0,by rw[gZ];exact M.bz,fun _=>?_⟩
 rw[gZ]
 by_cases h6:s.st=6
 ·exfalso
  have:bP s=s:=by unfold bP rR;rw[h6];rfl
  rename_i hh
  rw[this]at hh
  exact hh h6
 ·exact M.off h6
theorem Iv.wish (h:Iv P s) (M:Mo mx n s) (hu:s.st≠6):Iv P (bV P mx n s).s:=by
 unfold bV
 split
 ·exact h.odd
 ·split
  ·exact h.odd
  ·exact h.odd.begin_ M.odd (j3 hu)
theorem Iv.echo (h:Iv P s):Iv P (bI s):=by
 unfold bI
 split
 ·rename_i h2
  have hq:=h.hs (.inl h2)
  refine⟨by show 1≤3;omega,by show 3≤6;omega,h.ss,h.nm,h.sn,fun _=>hq,fun e=>by have e:(3:Nat)=4:=e;omega,by show (0:Nat)<4;omega,?_,h.vok.fresh,h.s0,h.z,fun e=>by have e:(3:Nat)=6:=e;omega⟩
  show s.v.run=decide ((3:Nat)=4)
  rw[h.vr,h2];rfl
 ·exact h
theorem Iv.start (h:Iv P s) (hP:Pok P):Iv P (cz s):=by
 unfold cz
 split
 ·rename_i h3
  have hq:=h.hs (.inr h3)
  have:=hP.n2
  refine⟨by show 1≤4;omega,by show 4≤6;omega,h.ss,h.nm,h.sn,fun e=>by have e:(4:Nat)=2∨(4:Nat)=3:=e;omega,fun _=>⟨by show s.sn≤s.nm;omega,by show s.nm<_;omega,hq.2.2⟩,by show (0:Nat)<4;omega,?_,(h.vok.run true).fresh,h.s0,h.z,fun e=>by have e:(4:Nat)=6:=e;omega⟩
  show (eQ s.v true).run=decide ((4:Nat)=4)
  rw[eu];rfl
 ·exact h
theorem Iv.data (h:Iv P s) (hP:Pok P) {num fl:Nat} {bs:Nat→Nat} (h4:s.st=4) (hn:s.nm<num) (hc:num<P.n):Iv P (cW s num fl bs):=by
 have hq:=h.run h4
 have hp:=hP.n
 refine⟨h.st1,h.st6,h.ss,by show num<_;omega,by show s.sn+1<_;omega,fun e=>by have e:s.st=2∨s.st=3:=e;omega,fun _=>⟨by show s.sn+1≤num;omega,hc,hq.2.2⟩,by show (0:Nat)<4;omega,?_,(h.vok.fresh.hold _).take _,fun e=>absurd e hq.2.2,h.z,fun e=>by have e:s.st=6:=e;omega⟩
 show (fO (ir (fJ s.v) (decide (8≤fl))) bs).run=decide (s.st=4)
 rw[mD];exact h.vr
theorem Iv.last (h:Iv P s) (hP:Pok P) (h4:s.st=4):Iv P (ld (eO P s)):=by
 have hq:=h.run h4
 have hp:=hP.n
 obtain⟨l1,l2,l3,l4,l5,l6,l7,l8⟩:=ej (jh { s with nm:=P.n }) 80
 refine⟨by show 1≤5;omega,by show 5≤6;omega,?_,?_,hp,fun e=>by have e:(5:Nat)=2∨(5:Nat)=3:=e;omega,fun e=>by have e:(5:Nat)=4:=e;omega,?_,?_,?_,?_,?_,fun e=>by have e:(5:Nat)=6:=e;omega⟩
 ·show (aG (jh { s with nm:=P.n }) 80).ss<_
  rw[l2];exact h.ss
 ·show (aG (jh { s with nm:=P.n }) 80).nm<_
  rw[l3];exact hp
 ·show (aG (jh { s with nm:=P.n }) 80).od<4
  rw[l5];show (0:Nat)<4;omega
 ·show (eQ (aG (jh { s with nm:=P.n }) 80).v false).run=decide ((5:Nat)=4)
  rw[eu];rfl
 ·show Vok (eQ (aG (jh { s with nm:=P.n }) 80).v false)
  rw[gA]
  exact (h.vok.fresh.trip _).run _
 ·intro e
  have e:(aG (jh { s with nm:=P.n }) 80).ss=0:=e
  rw[l2]at e
  exact absurd e hq.2.2
 ·show (aG (jh { s with nm:=P.n }) 80).ss=0∨(aG (jh { s with nm:=P.n }) 80).ss=vz (aG (jh { s with nm:=P.n }) 80).ms.bs
  rw[l2,l6];exact h.z
theorem Iv.take (h:Iv P s) (hP:Pok P) (M:Mo mx n s) (hu:s.st≠6) (k ss num fl len:Nat) (bs:Nat→Nat):Iv P (aR P mx n s k ss num fl len bs).s:=by
 unfold aR
 split
 ·split
  ·exact h.wish M hu
  ·exact h.odd
 ·split
  ·split
   ·exact h.echo
   ·exact h.odd
  ·split
   ·exact h.start hP
   ·split
    ·rename_i hh
     exact h.data hP hh.2.1.2.1 hh.2.1.2.2 hh.2.2.1
    ·split
     ·rename_i hh
      exact h.last hP hh.2.1.2.1
     ·exact h.odd
theorem Iv.hear (h:Iv P s) (hP:Pok P) (M:Mo mx n s) (hu:s.st≠6) (len:Nat) (bs:Nat→Nat):Iv P (bF P mx n s len bs).s:=by
 unfold bF
 split
 ·exact h
 ·split
  ·exact h
  ·split
   ·exact h
   ·exact h.take hP M hu _ _ _ _ _ _
theorem Iv.recv (h:Iv P s) (hP:Pok P) (M:Mo mx n s) (len:Nat) (bs:Nat→Nat):Iv P (au P mx n s len bs).s:=by
 unfold au
 split
 ·exact h
 ·rename_i hu
  split
  ·exact (h.hear hP M hu len bs).note _
  ·exact h.hear hP M hu len bs
theorem Iv.write (h:Iv P s) (len:Nat) (bs:Nat→Nat) (o:Bool):Iv P (dP P s len bs o):=by
 unfold dP
 split
 ·exact h
 ·rename_i h6
  split
  ·exact⟨h.st1,h.st6,h.ss,h.nm,h.sn,h.hs,h.run,h.od,h.vr,h.vok,h.s0,h.z,fun e=>absurd e h6⟩
  ·exact h
theorem Iv.tick (h:Iv P s) (k:Int):Iv P (eK P s k):=by
 unfold eK
 split
 ·exact h
 ·split
  ·exact h
  ·have h':Iv P { s with dc:=tk P.t s.dc k.toNat }:=⟨h.st1,h.st6,h.ss,h.nm,h.sn,h.hs,h.run,h.od,h.vr,h.vok,h.s0,h.z,h.d6⟩
   split
   ·exact h'.latch _
   ·exact h'
theorem Iv.ack (h:Iv P s):Iv P (gq s):=by
 unfold gq
 split
 ·exact h
 ·exact⟨h.st1,h.st6,h.ss,h.nm,h.sn,h.hs,h.run,h.od,(oE _).trans h.vr,h.vok.ack,h.s0,h.z,h.d6⟩
theorem Iv.reset (h:Iv P s) (k:Int):Iv P (cG mx n s k):=by
 unfold cG
 split
 ·exact h
 ·split
  ·exact Iv.life (by omega) (by omega) (by omega) (by omega) (by omega)
  ·exact Iv.life (by omega) (by omega) (by omega) (by omega) (by omega)
theorem Iv.arm (h:Iv P s) (p:Int):Iv P { s with ms:=lG s.ms p }:=
 ⟨h.st1,h.st6,h.ss,h.nm,h.sn,h.hs,h.run,h.od,h.vr,h.vok,h.s0,by
  have:(lG s.ms p).bs=s.ms.bs:=by unfold lG;split <;> rfl
  show s.ss=0∨s.ss=vz (lG s.ms p).bs
  rw[this];exact h.z,h.d6⟩
theorem Iv.new_ (ms:Ms):Iv P (dD ms):=
 ⟨by show 1≤1;omega,by show 1≤6;omega,by show (0:Nat)<_;omega,by show (0:Nat)<_;omega,by show (0:Nat)<_;omega,fun e=>by have e:(1:Nat)=2∨(1:Nat)=3:=e;omega,fun e=>by have e:(1:Nat)=4:=e;omega,by show (0:Nat)<4;omega,rfl,Vok.new,fun _=>rfl,.inl rfl,fun e=>by have e:(1:Nat)=6:=e;omega⟩
theorem Iv.sent (h:Iv P s) (hP:Pok P):s.st=4→s.sn+1<4294967296:=fun e=>by
 have:=h.run e
 have:=hP.n
 omega
def Gw (a b:Sd):Prop:=b.L.length≤a.L.length+3∧b.ms.t≤a.ms.t+6
theorem vu (M:Mo mx n s):(bj P mx n s).s.ms.t≤s.ms.t+6:=by
 have ht:=ab6 mx n s.ms.bs false s.ms M.n10 M.l0
 unfold bj
 generalize nx mx n s.ms.bs false s.ms=X at *
 split
 ·show (aG { s with ms:=X.s } 80).ms.t≤_
  rw[ia];exact ht
 ·split
  ·exact ht
  ·exact ht
theorem xm (M:Mo mx n s):(bV P mx n s).s.ms.t≤s.ms.t+6:=by
 have e:=gZ s
 unfold bV
 split
 ·show (bP s).ms.t≤_;rw[e];omega
 ·split
  ·show (bP s).ms.t≤_;rw[e];omega
  ·have:=vu (P:=P) M.odd
   rw[e]at this;exact this
theorem yk (M:Mo mx n s) (k ss num fl len:Nat) (bs:Nat→Nat):(aR P mx n s k ss num fl len bs).s.ms.t≤s.ms.t+6:=by
 have e:=gZ s
 have r:∀ x:Int,(aN P s x).s.ms.t≤s.ms.t+6:=fun x=>by show (bP s).ms.t≤_;rw[e];omega
 unfold aR
 split
 ·split
  ·exact xm M
  ·exact r _
 ·split
  ·split
   ·show (bI s).ms.t≤_;unfold bI;split <;> (show s.ms.t≤_;omega)
   ·exact r _
  ·split
   ·show (cz s).ms.t≤_;unfold cz;split <;> (show s.ms.t≤_;omega)
   ·split
    ·show s.ms.t≤_;omega
    ·split
     ·show (aG (jh { s with nm:=P.n }) 80).ms.t≤_
      rw[ia];show s.ms.t≤_;omega
     ·exact r _
theorem yu (M:Mo mx n s) (len:Nat) (bs:Nat→Nat):Gw s (au P mx n s len bs).s:=by
 have h1:=mg P mx n s len bs
 have h2:(bF P mx n s len bs).s.ms.t≤s.ms.t+6:=by
  unfold bF
  split
  ·show s.ms.t≤_;omega
  ·split
   ·show s.ms.t≤_;omega
   ·split
    ·show s.ms.t≤_;omega
    ·exact yk M _ _ _ _ _ _
 unfold au
 split
 ·exact⟨by show s.L.length≤_;omega,by show s.ms.t≤_;omega⟩
 ·split
  ·exact⟨by show ((bF P mx n s len bs).s.L ++ [_]).length≤_;simp;omega,h2⟩
  ·exact⟨by omega,h2⟩
theorem yn (k:Int):Gw s (eK P s k):=by
 unfold eK
 split
 ·exact⟨by omega,by omega⟩
 ·split
  ·exact⟨by omega,by omega⟩
  ·split
   ·refine⟨?_,?_⟩
    ·have:=gf { s with dc:=tk P.t s.dc k.toNat } 100
     have e:({ s with dc:=tk P.t s.dc k.toNat }:Sd).L.length=s.L.length:=rfl
     omega
    ·rw[ia];show s.ms.t≤_;omega
   ·exact⟨by show s.L.length≤_;omega,by show s.ms.t≤_;omega⟩
theorem aaC:Gw s (gq s):=by
 unfold gq
 split <;> exact⟨by show s.L.length≤_;omega,by show s.ms.t≤_;omega⟩
theorem uY (len:Nat) (bs:Nat→Nat) (o:Bool):Gw s (dP P s len bs o):=by
 unfold dP
 split
 ·exact⟨by omega,by omega⟩
 ·split <;> exact⟨by show s.L.length≤_;omega,by show s.ms.t≤_;omega⟩
theorem uA (M:Mo mx n s) (k:Int):Gw s (cG mx n s k):=by
 obtain⟨_,h2,h3⟩:=vR (mx:=mx) (n:=n) s k M.bz M.l0
 exact⟨by rw[h3];omega,h2⟩
theorem zR (p:Int):Gw s { s with ms:=lG s.ms p }:=⟨by show s.L.length≤_;omega,by
 have:(lG s.ms p).t=s.ms.t:=by unfold lG;split <;> rfl
 show (lG s.ms p).t≤_;omega⟩
end
end Go.Proofs.YtddahhlbpcbddaaGreat
namespace Go.Proofs.YtddahhlbpcbddaaGreat
open Tryz
open Go.RowKit
section
variable {P:Pm} {s:Sh}
theorem pq (s:Sh) (x:Int):(bf s x).v=dW s.v x:=by unfold bf fh;split <;> rfl
theorem cX (s:Sh) (x:Int):(bf s x).st=s.st∧(bf s x).ss=s.ss∧(bf s x).nm=s.nm∧(bf s x).sn=s.sn∧(bf s x).wt=s.wt∧(bf s x).ms=s.ms∧(bf s x).ap=s.ap∧(bf s x).hd=s.hd∧(bf s x).dc=s.dc:=by unfold bf fh;split <;> exact⟨rfl,rfl,rfl,rfl,rfl,rfl,rfl,rfl,rfl⟩
theorem iF (s:Sh) (x:Int):(bf s x).L.length≤s.L.length+1:=by unfold bf fh;split <;> simp
theorem jE {v:Vs} {x:Int} (hx:x≠0):(dW v x).lat≠0:=by
 unfold dW
 rw[if_neg hx]
 show (if v.lat=0 then x else v.lat)≠0
 split <;> assumption
theorem iI {v:Vs} {x:Int} (h:v.lat≠0):(dW v x).lat≠0:=by
 unfold dW
 by_cases hx:x=0
 ·rw[if_pos hx];exact h
 ·rw[if_neg hx]
  show (if v.lat=0 then x else v.lat)≠0
  rw[if_neg h];exact h
theorem ju (v:Vs) (o:Bool):(eQ v o).lat=v.lat:=by unfold eQ;split <;> rfl
theorem Ih.new_ (P:Pm):Ih P bY:=⟨by show 1≤1;omega,by show 1≤5;omega,by show 0<_;omega,by show 0<_;omega,by show 0<_;omega,by show 0<4;omega,fun e=>by have e:(1:Nat)=2∨(1:Nat)=3∨(1:Nat)=4:=e;omega,fun _ _=>⟨rfl,rfl⟩,fun e=>by have e:(1:Nat)=4:=e;omega,rfl,fun e=>by have e:(1:Nat)=5:=e;omega⟩
theorem Ih.life (P:Pm) (s:Sh):Ih P (gp s):=⟨by show 1≤1;omega,by show 1≤5;omega,by show 0<_;omega,by show 0<_;omega,by show 0<_;omega,by show 0<4;omega,fun e=>by have e:(1:Nat)=2∨(1:Nat)=3∨(1:Nat)=4:=e;omega,fun _ _=>⟨rfl,rfl⟩,fun e=>by have e:(1:Nat)=4:=e;omega,rfl,fun e=>by have e:(1:Nat)=5:=e;omega⟩
theorem Ih.note (h:Ih P s) (x:Int):Ih P (fh s x):=⟨h.st1,h.st5,h.ss,h.nm,h.sn,h.ms,h.s4,h.hs,h.run,h.vr,h.lat5⟩
theorem Ih.latch (h:Ih P s) (x:Int):Ih P (bf s x):=by
 unfold bf fh
 split
 ·exact⟨h.st1,h.st5,h.ss,h.nm,h.sn,h.ms,h.s4,h.hs,h.run,(ij _ _).trans h.vr,fun e=>iI (h.lat5 e)⟩
 ·exact⟨h.st1,h.st5,h.ss,h.nm,h.sn,h.ms,h.s4,h.hs,h.run,(ij _ _).trans h.vr,fun e=>iI (h.lat5 e)⟩
theorem Ih.give_of (h:s.ss<4294967296):Ih P (iK s):=⟨by show 1≤1;omega,by show 1≤5;omega,h,by show 0<_;omega,by show 0<_;omega,by show 0<4;omega,fun e=>by have e:(1:Nat)=2∨(1:Nat)=3∨(1:Nat)=4:=e;omega,fun _ _=>⟨rfl,rfl⟩,fun e=>by have e:(1:Nat)=4:=e;omega,eu _ _,fun e=>by have e:(1:Nat)=5:=e;omega⟩
theorem Ih.miss (h:Ih P s):Ih P (aY s):=by
 unfold aY
 split
 ·exact h
 ·split
  ·rename_i h4
   exact⟨h.st1,h.st5,h.ss,h.nm,h.sn,h4,h.s4,h.hs,h.run,h.vr,h.lat5⟩
  ·refine Ih.give_of ?_
   split
   ·rw[(cX _ _).2.1];exact h.ss
   ·exact h.ss
theorem Ih.exh (h1:s.ss<4294967296) (h2:s.nm<4294967296) (h3:s.sn<4294967296) (h4:s.ms<4):Ih P (jq s):=by
 obtain⟨_,f2,f3,f4,_,f6,_⟩:=cX s 80
 refine⟨by show 1≤5;omega,by show 5≤5;omega,by show (bf s 80).ss<_;omega,by show (bf s 80).nm<_;omega,by show (bf s 80).sn<_;omega,by show (bf s 80).ms<4;omega,fun e=>by have e:(5:Nat)=2∨(5:Nat)=3∨(5:Nat)=4:=e;omega,fun _ e=>absurd rfl e,fun e=>by have e:(5:Nat)=4:=e;omega,eu _ _,fun _=>?_⟩
 show (eQ (bf s 80).v false).lat≠0
 rw[ju,pq]
 exact jE (by omega)
theorem Ih.next (hP:Pok P) (h:Ih P s) (h5:s.st≠5):Ih P (bD P s).1:=by
 unfold bD
 by_cases c1:s.st=1
 ·rw[if_pos c1];exact h
 ·rw[if_neg c1]
  by_cases c2:s.st=2
  ·rw[if_pos c2];exact h
  ·rw[if_neg c2]
   by_cases c3:s.st=3
   ·rw[if_pos c3];exact h
   ·rw[if_neg c3]
    have h4:s.st=4:=by have:=h.st1;have:=h.st5;omega
    have hr:=h.run h4
    have hn:=hP.n
    by_cases c4:s.sn+1=P.n
    ·rw[if_pos c4]
     exact Ih.exh (s:={ s with sn:=s.sn+1 }) h.ss h.nm (by show s.sn+1<_;omega) h.ms
    ·rw[if_neg c4]
     exact⟨h.st1,h.st5,h.ss,h.nm,by show s.sn+1<_;omega,h.ms,h.s4,fun e=>absurd h4 e,fun _=>⟨by show s.sn+1<P.n;omega,hr.2⟩,h.vr,h.lat5⟩
theorem lZ (h:s.st≠5):(aY s).st≠5:=by
 unfold aY
 split
 ·exact h
 ·split
  ·exact h
  ·show (1:Nat)≠5;omega
theorem Ih.wait (h:Ih P s):Ih P { s with wt:=true }:=⟨h.st1,h.st5,h.ss,h.nm,h.sn,h.ms,h.s4,h.hs,h.run,h.vr,h.lat5⟩
theorem Ih.send (hP:Pok P) (h:Ih P s):Ih P (aZ P s):=by
 unfold aZ
 by_cases c:s.st=5
 ·rw[if_pos c];exact h
 ·rw[if_neg c];exact (h.miss.next hP (lZ c)).wait
theorem Ih.on_ (h:Ih P s):Ih P (oG s):=⟨h.st1,h.st5,h.ss,h.nm,h.sn,by show 0<4;omega,h.s4,h.hs,h.run,h.vr,h.lat5⟩
theorem Ih.recv (hP:Pok P) (h:Ih P s) (len:Nat) (bs:Nat→Nat) (hb:∀ i,i<len→bs i<256):Ih P (bT P s len bs):=by
 unfold bT
 by_cases hE:cI P s len bs≠0
 ·rw[if_pos hE];exact h.note _
 ·rw[if_neg hE]
  have hE:cI P s len bs=0:=by omega
  unfold cI at hE
  by_cases hD:DE bs len≠0
  ·rw[if_pos hD]at hE;exact absurd hE hD
  ·rw[if_neg hD]at hE
   have hD:DE bs len=0:=by omega
   have hl:19≤len:=(ig hD).1
   have hs5:aC bs 5<4294967296:=wI fun j hj=>hb _ (by omega)
   have hs9:aC bs 9<4294967296:=wI fun j hj=>hb _ (by omega)
   generalize aC bs 5=ss at *
   generalize aC bs 9=num at *
   generalize (fun i=>bs (15+i))=ds at *
   generalize bs 13=fl at *
   generalize bs 0=k at *
   have hn2:2≤P.n:=by have:=hP.ok.2.2.2.2;omega
   have hn:=hP.n
   unfold fw at hE
   by_cases hK:fd (k:Int)=false
   ·rw[if_pos hK]at hE;omega
   ·rw[if_neg hK]at hE
    by_cases hC:aC bs 1≠P.c
    ·rw[if_pos hC]at hE;omega
    ·rw[if_neg hC]at hE
     by_cases h1:s.st=1
     ·rw[if_pos h1]at hE
      unfold iN at hE
      by_cases hk:k≠17∨ss≤s.ss
      ·rw[if_pos hk]at hE;omega
      ·obtain rfl:k=17:=by omega
       have h0:=h.hs (by omega) (by omega)
       unfold cC
       rw[if_pos rfl]
       refine Ih.on_ ⟨by show 1≤2;omega,by show 2≤5;omega,hs5,h.nm,h.sn,h.ms,fun _=>by show ss≠0;omega,fun _ _=>h0,fun e=>by have e:(2:Nat)=4:=e;omega,?_,fun e=>by have e:(2:Nat)=5:=e;omega⟩
       show s.v.run=decide ((2:Nat)=4)
       rw[h.vr,h1];rfl
     ·rw[if_neg h1]at hE
      by_cases ha:ss≠s.ss∨bZ P s k num (len-19)=false
      ·rw[if_pos ha]at hE;omega
      ·have ha2:bZ P s k num (len-19)=true:=by
        cases hh:bZ P s k num (len-19) with
        | true=>rfl
        | false=>exact absurd (.inr hh) ha
       unfold bZ at ha2
       have ha3:=of_decide_eq_true ha2
       unfold cC
       rcases ha3 with ⟨rfl,h2⟩ | ⟨rfl,h3⟩ | ⟨rfl,⟨⟨h4,hm⟩,hp⟩,_⟩ | ⟨rfl,⟨h4,hm⟩,rfl⟩
       ·rw[if_neg (by omega),if_pos rfl]
        have h0:=h.hs (by omega) (by omega)
        refine Ih.on_ ⟨by show 1≤3;omega,by show 3≤5;omega,h.ss,h.nm,h.sn,h.ms,fun _=>h.s4 (.inl h2),fun _ _=>h0,fun e=>by have e:(3:Nat)=4:=e;omega,?_,fun e=>by have e:(3:Nat)=5:=e;omega⟩
        show s.v.run=decide ((3:Nat)=4)
        rw[h.vr,h2];rfl
       ·rw[if_neg (by omega),if_neg (by omega),if_pos rfl]
        have h0:=h.hs (by omega) (by omega)
        refine Ih.on_ ⟨by show 1≤4;omega,by show 4≤5;omega,h.ss,h.nm,h.sn,h.ms,fun _=>h.s4 (.inr (.inl h3)),fun e=>absurd rfl e,fun _=>⟨by show s.sn<P.n;omega,by show s.nm<P.n;omega⟩,eu _ _,fun e=>by have e:(4:Nat)=5:=e;omega⟩
       ·rw[if_neg (by omega),if_neg (by omega),if_neg (by omega),if_pos rfl]
        have hr:=h.run h4
        refine⟨h.st1,h.st5,h.ss,hs9,h.sn,by show 0<4;omega,h.s4,fun e=>absurd h4 e,fun _=>⟨hr.1,hp⟩,?_,fun e=>by have e:s.st=5:=e;omega⟩
        show (fO (ir (fJ s.v) (decide (8≤fl))) ds).run=decide (s.st=4)
        rw[mD];exact h.vr
       ·rw[if_neg (by omega),if_neg (by omega),if_neg (by omega),if_neg (by omega),if_pos rfl]
        exact Ih.exh (s:=oG { s with nm:=P.n }) h.ss (by show P.n<_;omega) h.sn (by show 0<4;omega)
theorem Ih.tick (h:Ih P s) (k:Int):Ih P (eM P s k):=by
 unfold eM
 by_cases c:k<0
 ·rw[if_pos c];exact h
 ·rw[if_neg c]
  have h':Ih P { s with dc:=tk P.t s.dc k.toNat }:=⟨h.st1,h.st5,h.ss,h.nm,h.sn,h.ms,h.s4,h.hs,h.run,h.vr,h.lat5⟩
  split
  ·exact h'.latch 100
  ·exact h'
theorem Ih.ack (h:Ih P s):Ih P (jG s):=by
 refine⟨h.st1,h.st5,h.ss,h.nm,h.sn,h.ms,h.s4,h.hs,h.run,(oE _).trans h.vr,fun e=>?_⟩
 have e:s.st=5:=e
 have hr:s.v.run=false:=by rw[h.vr,e];rfl
 show (jN s.v).lat≠0
 unfold jN aq
 rw[hr,if_neg (by simp)]
 exact h.lat5 e
theorem Ih.write (h:Ih P s) (len:Nat) (bs:Nat→Nat) (o:Bool):Ih P (dK P s len bs o):=by
 unfold dK
 split
 ·exact⟨h.st1,h.st5,h.ss,h.nm,h.sn,h.ms,h.s4,h.hs,h.run,h.vr,h.lat5⟩
 ·exact h
theorem pN (s:Sh):(jq s).L.length≤s.L.length+1:=iF s 80
theorem sx (s:Sh):(aY s).L.length≤s.L.length+1:=by
 unfold aY
 split
 ·omega
 ·split
  ·show s.L.length≤_;omega
  ·show (iK _).L.length≤_
   unfold iK
   split
   ·exact iF { s with ms:=s.ms+1 } 131
   ·show s.L.length≤_;omega
theorem tu (P:Pm) (s:Sh):(bD P s).1.L.length≤s.L.length+1:=by
 unfold bD
 by_cases c1:s.st=1
 ·rw[if_pos c1];show s.L.length≤_;omega
 ·rw[if_neg c1]
  by_cases c2:s.st=2
  ·rw[if_pos c2];show s.L.length≤_;omega
  ·rw[if_neg c2]
   by_cases c3:s.st=3
   ·rw[if_pos c3];show s.L.length≤_;omega
   ·rw[if_neg c3]
    by_cases c4:s.sn+1=P.n
    ·rw[if_pos c4];exact pN { s with sn:=s.sn+1 }
    ·rw[if_neg c4];show s.L.length≤_;omega
theorem sy (P:Pm) (s:Sh):(aZ P s).L.length≤s.L.length+2:=by
 unfold aZ
 by_cases c:s.st=5
 ·rw[if_pos c];omega
 ·rw[if_neg c]
  show (bD P (aY s)).1.L.length≤_
  have:=tu P (aY s)
  have:=sx s
  omega
end
end Go.Proofs.YtddahhlbpcbddaaGreat
namespace Go.Proofs.YtddahhlbpcbddaaGreat
open Tryz
open Go.RowKit
set_option linter.unusedVariables false
theorem cM (P:Pm) (s:Sd) (k num fl len:Nat) (bs:Nat→Nat) (hb:∀ i,i<len→bs i<256):∀ i,i < (dI P s k num fl len bs).1→(dI P s k num fl len bs).2 i<256:=dF _ _ _ _ _ _ _ hb
theorem lW (k c s n:Nat) (f:Int) (len:Nat) (bs:Nat→Nat):(abJ k c s n f len bs).1≤27:=by
 unfold abJ
 by_cases h:LW k c s n f len len=0
 ·rw[if_pos h]
  have:=(fX h).2.2.2.1
  show 15+len+4≤27
  omega
 ·rw[if_neg h];show 0≤27;omega
theorem eo {bs:Nat→Nat}:∀ i,i<0→bs i<256:=fun i hi=>absurd hi (Nat.not_lt_zero i)
theorem eT:∀ i,i<cV.1→cV.2 i<256:=fun i hi=>absurd hi (Nat.not_lt_zero i)
theorem m8 (P:Pm) (mx n:Nat) (s:Sd):∀ i,i < (bj P mx n s).f.1→(bj P mx n s).f.2 i<256:=by
 unfold bj
 split
 ·exact cM _ _ _ _ _ _ _ eo
 ·split
  ·exact eT
  ·exact cM _ _ _ _ _ _ _ (fQ P)
theorem pE (P:Pm) (mx n:Nat) (s:Sd):∀ i,i < (bV P mx n s).f.1→(bV P mx n s).f.2 i<256:=by
 unfold bV
 split
 ·exact cM _ _ _ _ _ _ _ (fQ P)
 ·split
  ·exact cM _ _ _ _ _ _ _ eo
  ·exact m8 P mx n _
theorem fF (P:Pm) (s:Sd) (e:Int):∀ i,i < (aN P s e).f.1→(aN P s e).f.2 i<256:=cM _ _ _ _ _ _ _ eo
theorem pi (P:Pm) (mx n:Nat) (s:Sd) (hap:∀ i,i<P.i→s.ap i<256) (k ss num fl len:Nat) (bs:Nat→Nat):∀ i,i < (aR P mx n s k ss num fl len bs).f.1→(aR P mx n s k ss num fl len bs).f.2 i<256:=by
 unfold aR
 split
 ·split
  ·exact pE P mx n s
  ·exact fF P s _
 ·split
  ·split
   ·exact cM _ _ _ _ _ _ _ eo
   ·exact fF P s _
  ·split
   ·exact cM _ _ _ _ _ _ _ eo
   ·split
    ·exact cM _ _ _ _ _ _ _ hap
    ·split
     ·exact cM _ _ _ _ _ _ _ eo
     ·exact fF P s _
theorem qe (P:Pm) (mx n:Nat) (s:Sd) (hap:∀ i,i<P.i→s.ap i<256) (len:Nat) (bs:Nat→Nat):∀ i,i < (au P mx n s len bs).f.1→(au P mx n s len bs).f.2 i<256:=by
 have hh:∀ i,i < (bF P mx n s len bs).f.1→(bF P mx n s len bs).f.2 i<256:=by
  unfold bF
  split
  ·exact eT
  ·split
   ·exact eT
   ·split
    ·exact eT
    ·exact pi P mx n s hap _ _ _ _ _ _
 unfold au
 split
 ·exact eT
 ·split
  ·exact hh
  ·exact hh
theorem pC (P:Pm) (s:Sh) (hap:∀ i,i<P.o→s.ap i<256):∀ i,i < (bD P s).2.1→(bD P s).2.2 i<256:=by
 unfold bD
 split
 ·exact dF _ _ _ _ _ _ _ (fQ P)
 ·split
  ·exact dF _ _ _ _ _ _ _ (fQ P)
  ·split
   ·exact dF _ _ _ _ _ _ _ eo
   ·split
    ·exact dF _ _ _ _ _ _ _ eo
    ·exact dF _ _ _ _ _ _ _ hap
theorem tI (s:Sh):(aY s).ap=s.ap:=by
 unfold aY
 split
 ·rfl
 ·split
  ·rfl
  ·show (iK _).ap=_
   unfold iK
   split
   ·exact (cX _ _).2.2.2.2.2.2.1
   ·rfl
theorem nT (P:Pm) (s:Sh) (hap:∀ i,i<P.o→s.ap i<256):∀ i,i < (aJ P s).1→(aJ P s).2 i<256:=by
 unfold aJ
 split
 ·exact eT
 ·exact pC P _ (by rw[tI];exact hap)
theorem Ih.sentY {P:Pm} {s:Sh} (hP:Pok P) (h:Ih P s):s.st=4→s.sn+1<4294967296:=fun e=>by
 have:=(h.run e).1
 have:=hP.n
 omega
theorem rj (s:Sh) (k ss num fl:Nat) (bs:Nat→Nat):(cC s k ss num fl bs).L.length≤s.L.length+1:=by
 unfold cC
 split
 ·show s.L.length≤_;omega
 ·split
  ·show s.L.length≤_;omega
  ·split
   ·show s.L.length≤_;omega
   ·split
    ·show s.L.length≤_;omega
    ·split
     ·exact pN (oG { s with nm:=num })
     ·show s.L.length≤_;omega
theorem qh (P:Pm) (s:Sh) (len:Nat) (bs:Nat→Nat):(bT P s len bs).L.length≤s.L.length+1:=by
 unfold bT
 split
 ·show (s.L ++ [_]).length≤_;simp
 ·exact rj _ _ _ _ _ _
theorem ru (P:Pm) (s:Sh) (k:Int):(eM P s k).L.length≤s.L.length+1:=by
 unfold eM
 split
 ·omega
 ·split
  ·exact iF { s with dc:=tk P.t s.dc k.toNat } 100
  ·show s.L.length≤_;omega
theorem oL (P:Pm) (s:Sh) (len:Nat) (bs:Nat→Nat) (o:Bool):(dK P s len bs o).L.length≤s.L.length:=by
 unfold dK
 split
 ·show s.L.length≤_;omega
 ·omega
theorem po (P:Pm) (s:Sh):(aJ P s).1≤27:=by
 have he:∀ k c s n f len bs,(cR k c s n f len bs).1≤27:=fun k c s n f len bs=>lW k c s n f len bs
 unfold aJ bD
 split
 ·show 0≤27;omega
 ·split
  ·exact he _ _ _ _ _ _ _
  ·split
   ·exact he _ _ _ _ _ _ _
   ·split
    ·exact he _ _ _ _ _ _ _
    ·split
     ·exact he _ _ _ _ _ _ _
     ·exact he _ _ _ _ _ _ _
theorem mL (P:Pm) (mx n:Nat) (s:Sd) (len:Nat) (bs:Nat→Nat):(au P mx n s len bs).f.1≤27:=by
 have he:∀ k c s n f len bs,(cR k c s n f len bs).1≤27:=fun k c s n f len bs=>lW k c s n f len bs
 have h0:cV.1≤27:=by show 0≤27;omega
 have hb:∀ s,(bj P mx n s).f.1≤27:=fun s=>by
  unfold bj
  split
  ·exact he _ _ _ _ _ _ _
  ·split
   ·exact h0
   ·exact he _ _ _ _ _ _ _
 have ht:∀ k ss num fl len bs,(aR P mx n s k ss num fl len bs).f.1≤27:=fun k ss num fl len bs=>by
  unfold aR bV aN
  repeat' split
  all_goals first | exact he _ _ _ _ _ _ _ | exact hb _
 have hh:(bF P mx n s len bs).f.1≤27:=by
  unfold bF
  repeat' split
  all_goals first | exact h0 | exact ht _ _ _ _ _ _
 unfold au
 split
 ·exact h0
 ·split <;> exact hh
open Go.RowKit Go.Maps
theorem aaa (X:Nat) (m:Mv) (d:Option Addr) (c:Nat) (E:Int) (hE:(E != 0)=true) (w:World) (hRf:∀ w1,Below w.heap.size w w1→Calls prog 29 #[ac X 0,.agg (aj m m.c d c)] w1 fun r w'=>r=.returned (.int .i64 E)∧Hid (Below w1.heap.size w1 w')):Calls prog 12 #[ac X 0,.agg (aj m m.c d c)] w fun r w'=>r=.returned (.tuple #[.agg dw,.int .i64 E])∧Below w.heap.size w w':=by
 have s1:=iy w (.cells (aj m m.c d c) 39)
 have s2:=sz2 w (.cells (aj m m.c d c) 39) (.cells dw 45)
 have bW:Below w.heap.size w ((w.alloc (.cells (aj m m.c d c) 39)).alloc (.cells dw 45)):=az (az (Below.refl _ w) _) _
 have kp:((w.alloc (.cells (aj m m.c d c) 39)).alloc (.cells dw 45)).heap[w.heap.size]?=some (.cells (aj m m.c d c) 39 (0,0)):=(Below.heap_alloc _ _ _ (by omega)).trans (ay w _)
 have kr:=ay (w.alloc (.cells (aj m m.c d c) 39)) (.cells dw 45)
 rw[s1]at kr
 obtain⟨wa,hwa⟩:∃ z,(w.alloc (.cells (aj m m.c d c) 39)).alloc (.cells dw 45)=z:=⟨_,rfl⟩
 rw[hwa]at bW kp kr s2
 obtain⟨x,hx⟩:∃ z,w.heap.size=z:=⟨_,rfl⟩
 have HB:Hid (Below w.heap.size w wa):=bW
 rw[hx]at kp kr s2
 have p0:wa.cell? ⟨x,0,none⟩=some (.int .i64 m.k):=ae wa (x) 0 _ _ _ kp
 have p1:wa.cell? ⟨x,1,none⟩=some (.int .i64 m.c):=ae wa (x) 1 _ _ _ kp
 have p2:wa.cell? ⟨x,2,none⟩=some (.int .i64 m.s):=ae wa (x) 2 _ _ _ kp
 have p3:wa.cell? ⟨x,3,none⟩=some (.int .i64 m.f):=ae wa (x) 3 _ _ _ kp
 have p4:wa.cell? ⟨x,4,none⟩=some (.int .i64 m.a):=ae wa (x) 4 _ _ _ kp
 have p5:wa.cell? ⟨x,5,none⟩=some (.int .u32 (m.w:Nat)):=ae wa (x) 5 _ _ _ kp
 have p6:wa.cell? ⟨x,6,none⟩=some (.int .i64 m.n):=ae wa (x) 6 _ _ _ kp
 have p7:wa.cell? ⟨x,7,none⟩=some (.bool m.h):=ae wa (x) 7 _ _ _ kp
 have p8:wa.cell? ⟨x,8,none⟩=some (.slice d m.l c):=ae wa (x) 8 _ _ _ kp
 have hRc:=hRf wa bW
 clear hRf
 have HR:Hid (_):=kr
 have H2:Hid (wa.heap.size=x+2):=s2
 have HE:Hid (_=wa):=hwa
 have HS:Hid (w.heap.size=x):=hx
 clear s1 s2 bW kp kr hwa hx
 go_enter func12,ntmps12
 go_upto_region 1 with fail
 rw[HE.out,HS.out]
 go_wp2_with fail
 refine hRc.mono ?_
 rintro r w1 ⟨rfl,H1⟩
 have b1:=H1.out
 clear hRc H1
 have kr:=(b1.block (x+1) (by rw[H2.out];omega)).trans HR.out
 have hth:w1.there (x+1) 0 29:=bJ kr rfl
 have hrg:=World.rangeAt_setCells_same w1 (x+1) 0 dw.toList hth
 have o1:=cE w1 (x+1) 0 dw.toList
 have hl:(loadVar 45 ⟨x+1,0,none⟩).run prog (w1.setCells (x+1) 0 dw.toList)=.ok (.agg dw) (w1.setCells (x+1) 0 dw.toList):=run_loadVar_mid (P:=prog) _ (x+1) 0 45 dw.toList _ hrg underlying45 rfl (by kernel_rfl)
 have HO:Hid (_):=And.intro o1 b1
 have HL:Hid (_):=hl
 have HT:Hid (_):=hth
 clear kr hrg o1 b1 hth hl
 go_upto_region 3 with fail
 apply wp_region_lit
 refine gJ rfl (.agg dw) (by go_simp) ?_
 refine gJ rfl (.int .i64 E) (by go_simp) ?_
 refine wpList_store_mid rfl 45 (.tmp 4) (.tmp 15) rfl (x+1) 0 dw (by kernel_rfl) (by kernel_rfl) HT.out (by kernel_rfl) (by kernel_rfl) ?_
 have HL2:=HL.out
 obtain⟨wz,hwz⟩:∃ z,w1.setCells (x+1) 0 dw.toList=z:=⟨_,rfl⟩
 rw[hwz]at HL2 ⊢
 have HO2:=HO.out
 rw[hwz]at HO2
 have HO3:Hid (_):=HO2
 clear HO HO2 HL hwz
 refine gJ rfl (.int .i64 E) (by go_simp) ?_
 go_wp2_with fail
 refine bodyPost_ret (v:=.tuple #[.agg dw,.int .i64 E]) ((fS (t:=4) (u:=5) (ty:=45) rfl _ prog wz (by kernel_rfl) HL2).trans (by kernel_rfl)) rfl ?_
 refine⟨rfl,?_⟩
 have hb:=HB.out
 have hb1:=HO3.out.2
 exact HO3.out.1.below (hb.trans (hb1.mono hb.size)) (by simp[HS.out]) (Nat.le_trans hb.size hb1.size)
structure Ws.Law (S:Ws) (m:Mv) (k:Nat):Prop where
 k1:1≤m.k
 k8:m.k≤8
 c:m.c=((k:Nat):Int)
 kn:k<S.n
 sd:m.k≠2→m.k≠8→m.s=1∨m.s=2
 fr:m.k=3∨m.k=4→0≤m.f∧m.f < ((S.bg.length:Nat):Int)
 gb:m.k=4→cL ((S.bg.getD m.f.toNat cV).1:Nat) m.a m.w=0
 n5:m.k=5→0≤m.n∧m.n≤1048576
 n7:m.k=7→0≤m.n
theorem Ws.Law.of {S:Ws} {m:Mv} (h:S.bad m=0):S.up.Law m m.c.toNat:=by
 have o:=Ws.Ok.of h
 have h5:m.k=5→0≤m.n∧m.n≤1048576:=fun q=>by
  have hh:=h
  unfold Ws.bad at hh
  rw[if_neg (by have:=o.mv;omega),if_neg (by have:=o.k1;have:=o.k8;omega),if_neg (by have:=o.c0;have:=o.cn;omega),if_neg (fun z=>(o.sd z.1).elim z.2.1 z.2.2),if_neg (by omega),if_neg (by omega),if_pos q]at hh
  by_cases z:m.n<0∨1048576<m.n
  ·rw[if_pos z]at hh
   omega
  ·omega
 have h7:m.k=7→0≤m.n:=fun q=>by
  have hh:=h
  unfold Ws.bad at hh
  rw[if_neg (by have:=o.mv;omega),if_neg (by have:=o.k1;have:=o.k8;omega),if_neg (by have:=o.c0;have:=o.cn;omega),if_neg (fun z=>(o.sd z.1).elim z.2.1 z.2.2),if_neg (by omega),if_neg (by omega),if_neg (by omega),if_pos q]at hh
  by_cases z:m.n<0∨m.s=1∧0<m.n
  ·rw[if_pos z]at hh
   omega
  ·omega
 exact⟨o.k1,o.k8,by have:=o.c0;omega,by have:=o.c0;have:=o.cn;show m.c.toNat<S.n;omega,fun a b=>o.sd (by unfold eI;simp[a,b]),o.fr,o.gb,h5,h7⟩
structure Ws.Fit (S:Ws) (m:Mv) (k:Nat):Prop where
 fs:S.fs.length≤80000
 bg:S.bg.length<4096
 hms:(S.hs k).ms<4
 hst:1 ≤ (S.hs k).st∧(S.hs k).st≤5
 hsn:(S.hs k).st=4→(S.hs k).sn+1<4294967296
 hL:(S.hs k).L.length<700000
 hb:∀ j,j < (aJ (S.PH k) (S.hs k)).1→(aJ (S.PH k) (S.hs k)).2 j<256
 hf:(aJ (S.PH k) (S.hs k)).1≤27
 dsn:(S.ds k).st=4→(S.ds k).sn+1<4294967296
 dod:(S.ds k).od<4
 dL:(S.ds k).L.length<800000
 dt:(S.ds k).ms.t<9223372036854774000
 db:∀ j,j < (au (S.PD k) S.mx 16 (S.ds k) (S.fr m).1 (S.fr m).2).f.1→(au (S.PD k) S.mx 16 (S.ds k) (S.fr m).1 (S.fr m).2).f.2 j<256
 df:(au (S.PD k) S.mx 16 (S.ds k) (S.fr m).1 (S.fr m).2).f.1≤27
theorem xn {e:Nat→Nat} {w0 w:World} {t:Nat→Thing} {L:Pw} {S:Ws} (k i:Nat) (m:Mv) (d:Option Addr) (c:Nat) (h:PWn e w0 t L w S) (F:Fre e t i) (ok:m.Ok) (l:S.Law m k) (f:S.Fit m k) (j:Nat) (hj:j<2*i+1) (hq:∀ q,j≠e q) (hr:t j=eV d m.l c m.b):Calls prog 31 #[ac L.x 0,.agg (aj m (k:Nat) d c)] w fun r w'=>r=.returned (.tuple #[.int .i64 (S.act m).e,.int .i64 (S.act m).i])∧Hid (PWn e w0 t L w' (S.act m).S):=by
 have hk:m.c.toNat=k:=by have:=l.c;omega
 have k1:=l.k1
 have k8:=l.k8
 unfold Ws.act
 rw[hk]
 dsimp only
 by_cases q1:m.k=1
 ·rw[if_pos q1]
  by_cases s1:m.s=1
  ·rw[if_pos s1]
   exact zK k i m d c h F l.kn s1 q1 j hj hq hr
  ·rw[if_neg s1]
   exact zZ k i m d c h F l.kn ((l.sd (by omega) (by omega)).resolve_left s1) q1 j hj hq hr
 rw[if_neg q1]
 by_cases q2:m.k=2
 ·rw[if_pos q2]
  exact zw k i m d c h F q2 l.kn (by have:=f.fs;omega) f.bg f.hms f.hst f.hsn f.hL f.hb f.hf
 rw[if_neg q2]
 by_cases q3:m.k=3∨m.k=4
 ·rw[if_pos q3]
  have:=zb k i m d c h F q3 l.c l.kn f.fs f.bg (l.fr q3).1 (l.fr q3).2 ok.w l.gb (by have:=f.hL;omega) f.dsn f.dod f.dL f.dt f.db f.df
  unfold Ws.dlv at this
  exact this
 rw[if_neg q3]
 by_cases q5:m.k=5
 ·rw[if_pos q5]
  by_cases s1:m.s=1
  ·rw[if_pos s1]
   exact aag k i m d c h F l.kn s1 q5 (l.n5 q5) (by have:=f.fs;omega) (by have:=f.hL;omega)
  ·rw[if_neg s1]
   exact aay k i m d c h F l.kn ((l.sd (by omega) (by omega)).resolve_left s1) q5 (l.n5 q5) (by have:=f.fs;omega) f.dL
 rw[if_neg q5]
 by_cases q6:m.k=6
 ·rw[if_pos q6]
  by_cases s1:m.s=1
  ·rw[if_pos s1]
   exact zy k i m d c h F l.kn s1 q6 (by have:=f.fs;omega)
  ·rw[if_neg s1]
   exact aac k i m d c h F l.kn ((l.sd (by omega) (by omega)).resolve_left s1) q6 (by have:=f.fs;omega)
 rw[if_neg q6]
 by_cases q7:m.k=7
 ·rw[if_pos q7]
  by_cases s1:m.s=1
  ·rw[if_pos s1]
   exact aau k i m d c h F l.kn s1 q7 l.c (by have:=f.fs;omega)
  ·rw[if_neg s1]
   exact zH k i m d c h F l.kn ((l.sd (by omega) (by omega)).resolve_left s1) q7 l.c (by have:=f.fs;omega) ⟨l.n7 q7,ok.n.2⟩ f.dt
 rw[if_neg q7]
 exact abp k i m d c h F l.kn (by omega) ok.n.2
theorem yZ (S:Ws) (m:Mv):(S.act m).S.n=S.n:=by
 unfold Ws.act
 dsimp only
 split
 ·split <;> rfl
 ·split
  ·exact (aS _ _ _ _).1
  ·split
   ·split
    ·unfold Ws.toH
     dsimp only
     split <;> rfl
    ·unfold Ws.toD
     dsimp only
     refine (aS _ _ _ _).1.trans ?_
     unfold Ws.toD2
     split <;> rfl
   ·split
    ·split <;> rfl
    ·split
     ·split <;> rfl
     ·split
      ·split <;> rfl
      ·rfl
theorem vG (e:Nat→Nat) (w0 w:World) (t:Nat→Thing) (L:Pw) (i:Nat) (m:Mv) (d:Option Addr) (c:Nat) (h:PW e w0 w t L) (F:Fre e t i) (ok:m.Ok) (hn:0<L.S.n) (R:Row8 w d m.l c m.b) (hdx:∀ y,d=some y→0<m.l→y.block≠L.x) (hl:m.l≤140737488351232) (hfit:L.S.bad m=0→L.S.up.Fit m m.c.toNat) (hfs:L.S.bad m=0→(L.S.up.act m).S.fs.length≤90000) :
  Calls prog 12 #[ac L.x 0,.agg (aj m m.c d c)] w fun r w'=>
   (L.S.bad m≠0∧r=.returned (.tuple #[.agg dw,.int .i64 (L.S.bad m)])∧Hid (PW e w0 w' t L∧Below w.heap.size w w')) ∨
   (L.S.bad m=0∧∃ a' c' ah ch ad cd,r=.returned (.tuple #[.agg #[Value.int .i64 m.k,Value.int .i64 m.c,Value.int .i64 m.s,Value.int .i64 m.f,Value.int .i64 m.a,Value.int .u32 (m.w:Nat),Value.int .i64 m.n,Value.bool m.h,Value.slice a' m.l c',Value.int .i64 (L.S.play m).e,Value.int .i64 (L.S.play m).i,Value.int .i64 (((L.S.play m).S.hs m.c.toNat).st:Nat),Value.int .u32 (((L.S.play m).S.hs m.c.toNat).ss:Nat),Value.int .u32 (((L.S.play m).S.hs m.c.toNat).nm:Nat),Value.int .u32 (((L.S.play m).S.hs m.c.toNat).sn:Nat),Value.int .i64 (((L.S.play m).S.hs m.c.toNat).dc:Nat),Value.int .i64 ((L.S.play m).S.hs m.c.toNat).v.lat,Value.bool (aq ((L.S.play m).S.hs m.c.toNat).v),Value.bool (aE ((L.S.play m).S.hs m.c.toNat).v),Value.slice ah ((L.S.play m).S.PH m.c.toNat).i ch,Value.int .i64 (((L.S.play m).S.ds m.c.toNat).st:Nat),Value.int .u32 (((L.S.play m).S.ds m.c.toNat).ss:Nat),Value.int .u32 (((L.S.play m).S.ds m.c.toNat).nm:Nat),Value.int .u32 (((L.S.play m).S.ds m.c.toNat).sn:Nat),Value.int .i64 (((L.S.play m).S.ds m.c.toNat).dc:Nat),Value.int .i64 ((L.S.play m).S.ds m.c.toNat).v.lat,Value.bool (aq ((L.S.play m).S.ds m.c.toNat).v),Value.bool (aE ((L.S.play m).S.ds m.c.toNat).v),Value.slice ad ((L.S.play m).S.PD m.c.toNat).o cd],.int .i64 0])∧Hid (PWn e w0 (yo t i m (L.S.play m).S m.c.toNat a' c' ah ch ad cd) L w' (L.S.play m).S)):=by
 by_cases hb:L.S.bad m=0
 ·have l:=Ws.Law.of hb
  have ho:=Ws.Ok.of hb
  obtain⟨k,hk⟩:∃ k,m.c.toNat=k:=⟨_,rfl⟩
  rw[hk]at l
  have fit:=hfit hb
  rw[hk]at fit
  have hc:m.c=((k:Nat):Int):=l.c
  have hp:L.S.play m=⟨(L.S.up.act m).e,(L.S.up.act m).i,(L.S.up.act m).S.note [oH (L.S.up.act m).S k,oD (L.S.up.act m).S k]⟩:=by
   unfold Ws.play
   rw[if_neg (fun q=>q hb),hk]
   rfl
  have hRf:=rC e w0 w t L m d c h ok hn
  rw[hb,hc]at hRf
  have:=uI e w0 w t L i k m d c (L.S.up.act m).e (L.S.up.act m).i (L.S.up.act m).S h F l.kn ho.mv R hdx hl (yZ _ _) (hfs hb) hRf
   (fun a' c' w1 t1 q F1 hr=>xn k (i+2) m a' c' q F1 ok l fit (2 * (i+1)+1) (by omega) (F (i+1) (by omega)).1 hr)
  rw[hp,hk,hc]
  refine this.mono ?_
  rintro r w' ⟨a',c',ah,ch,ad,cd,rfl,H⟩
  exact .inr ⟨hb,a',c',ah,ch,ad,cd,rfl,H⟩
 ·refine (aaa L.x m d c (L.S.bad m) (by simpa using hb) w (rC e w0 w t L m d c h ok hn)).mono ?_
  rintro r w' ⟨rfl,b⟩
  exact .inl ⟨hb,rfl,h.below b,b⟩
structure Ws.Kn (S:Ws):Prop where
 ph:∀ k,k<S.n→Pok (S.PH k)
 pd:∀ k,k<S.n→Pok (S.PD k)
 ha:∀ k,k<S.n→∀ i,i < (S.PH k).o→(S.hs k).ap i<256
 da:∀ k,k<S.n→∀ i,i < (S.PD k).i→(S.ds k).ap i<256
 mo:∀ k,k<S.n→Mo S.mx 16 (S.ds k)
 fb:∀ f,f ∈ S.bg→f.1≤27∧∀ j,j<f.1→f.2 j<256
theorem PWn.kn {e:Nat→Nat} {w0 w:World} {t:Nat→Thing} {L:Pw} {S:Ws} (h:PWn e w0 t L w S):S.Kn:=by
 obtain⟨t1,L1,h1,hs,hx,he⟩:=h
 subst hs
 refine⟨fun k hk=>?_,fun k hk=>?_,fun k hk=>?_,fun k hk=>?_,fun k hk=>?_,(h1.2.bg h1.1).1.fl.small⟩
 ·obtain⟨B,y⟩:=h1.2.hv h1.1 hk
  exact y.pok
 ·obtain⟨B,y⟩:=h1.2.dv h1.1 hk
  exact y.pok
 ·obtain⟨B,y⟩:=h1.2.hv h1.1 hk
  exact y.apb
 ·obtain⟨B,y⟩:=h1.2.dv h1.1 hk
  exact y.apb
 ·exact Mo.of (h1.2.dv h1.1 hk)
structure Ws.In (S:Ws):Prop where
 ih:∀ k,k<S.n→Ih (S.PH k) (S.hs k)
 iv:∀ k,k<S.n→Iv (S.PD k) (S.ds k)
 hl:∀ k,k<S.n→(S.hs k).L.length≤3*S.mv
 dl:∀ k,k<S.n→(S.ds k).L.length≤3*S.mv∧(S.ds k).ms.t≤6*S.mv
 bg:S.bg.length≤S.mv
 fs:S.fs.length≤8*S.mv
theorem frB {S:Ws} (K:S.Kn) {m:Mv} (h:0≤m.f∧m.f < ((S.bg.length:Nat):Int)):∀ j,j < (S.fr m).1→(S.fr m).2 j<256:=by
 have hlt:m.f.toNat<S.bg.length:=by omega
 obtain⟨f,hf⟩:∃ y,S.bg.getD m.f.toNat cV=y:=⟨_,rfl⟩
 have hg:S.bg[m.f.toNat]?=some f:=by
  rw[← hf,List.getD_eq_getElem?_getD,List.getElem?_eq_getElem hlt]
  rfl
 have hb:=K.fb f (List.mem_of_getElem? hg)
 unfold Ws.fr
 rw[hf]
 split
 ·intro j hj
  exact zi (n:=f.1) hb.2 (fun i _=>rg _ _ i) j hj
 ·exact hb.2
theorem Ws.In.fit {S:Ws} (I:S.In) (K:S.Kn) {m:Mv} (hv:S.mv<4096) {k:Nat} (hk:k<S.n):S.up.Fit m k:=by
 have h1:=I.ih k hk
 have h2:=I.iv k hk
 have h3:=I.hl k hk
 have h4:=I.dl k hk
 have h5:=I.bg
 have h6:=I.fs
 exact⟨by show S.fs.length≤80000;omega,by show S.bg.length<4096;omega,h1.ms,⟨h1.st1,h1.st5⟩,h1.sentY (K.ph k hk),by show (S.hs k).L.length<700000;omega,nT _ _ (K.ha k hk),po _ _,h2.sent (K.pd k hk),h2.od,by show (S.ds k).L.length<800000;omega,by show (S.ds k).ms.t<9223372036854774000;omega,qe _ _ _ _ (K.da k hk) _ _,mL _ _ _ _ _ _⟩
structure Stp (S T:Ws) (k b c:Nat):Prop where
 n:T.n=S.n
 PH:T.PH=S.PH
 PD:T.PD=S.PD
 mx:T.mx=S.mx
 mv:T.mv=S.mv
 hs:∀ j,j≠k→T.hs j=S.hs j
 ds:∀ j,j≠k→T.ds j=S.ds j
 ih:Ih (S.PH k) (T.hs k)
 iv:Iv (S.PD k) (T.ds k)
 hl:(T.hs k).L.length ≤ (S.hs k).L.length+3
 dl:(T.ds k).L.length ≤ (S.ds k).L.length+3∧(T.ds k).ms.t ≤ (S.ds k).ms.t+6
 bg:T.bg.length≤S.bg.length+b
 fs:T.fs.length≤S.fs.length+c
section
variable {S T:Ws} {k b c:Nat}
theorem sP (ih:Ih (S.PH k) (S.hs k)) (iv:Iv (S.PD k) (S.ds k)) {s:Sh} (h:Ih (S.PH k) s) (hl:s.L.length ≤ (S.hs k).L.length+3):Stp S (S.setH k s) k 0 0:=
 ⟨rfl,rfl,rfl,rfl,rfl,fun j hj=>cN _ _ hj,fun _ _=>rfl,by show Ih (S.PH k) (cj S.hs k s k);rw[ai];exact h,iv,by show (cj S.hs k s k).L.length≤_;rw[ai];exact hl,⟨by show (S.ds k).L.length≤_;omega,by show (S.ds k).ms.t≤_;omega⟩,Nat.le_refl _,Nat.le_refl _⟩
theorem ti (ih:Ih (S.PH k) (S.hs k)) (iv:Iv (S.PD k) (S.ds k)) {s:Sd} (h:Iv (S.PD k) s) (g:Gw (S.ds k) s):Stp S (S.setD k s) k 0 0:=
 ⟨rfl,rfl,rfl,rfl,rfl,fun _ _=>rfl,fun j hj=>cN _ _ hj,ih,by show Iv (S.PD k) (cj S.ds k s k);rw[ai];exact h,by show (S.hs k).L.length≤_;omega,by show (cj S.ds k s k).L.length≤_∧(cj S.ds k s k).ms.t≤_;rw[ai];exact g,Nat.le_refl _,Nat.le_refl _⟩
theorem Stp.note (h:Stp S T k b c) (l:List Fa):Stp S (T.note l) k b (c+l.length):=
 ⟨h.n,h.PH,h.PD,h.mx,h.mv,h.hs,h.ds,h.ih,h.iv,h.hl,h.dl,h.bg,by show (T.fs ++ l).length≤_;rw[List.length_append];have:=h.fs;omega⟩
theorem Stp.more (h:Stp S T k b c) {b' c':Nat} (hb:b≤b') (hc:c≤c'):Stp S T k b' c':=
 ⟨h.n,h.PH,h.PD,h.mx,h.mv,h.hs,h.ds,h.ih,h.iv,h.hl,h.dl,by have:=h.bg;omega,by have:=h.fs;omega⟩
theorem Stp.put (h:Stp S T k b c) (k' s:Nat) (f:Fm):Stp S (T.put k' s f) k (b+1) (c+1):=by
 obtain⟨p1,p2,p3,p4,p5,p6,p7,p8⟩:=aS T k' s f
 refine⟨p1.trans h.n,p5.trans h.PH,p4.trans h.PD,p6.trans h.mx,p7.trans h.mv,fun j hj=>by rw[p3];exact h.hs j hj,fun j hj=>by rw[p2];exact h.ds j hj,by rw[p3];exact h.ih,by rw[p2];exact h.iv,by rw[p3];exact h.hl,by rw[p2];exact h.dl,?_,by have:=h.fs;omega⟩
 have:=h.bg
 unfold Ws.put
 split
 ·omega
 ·show (T.bg ++ [f]).length≤_
  rw[List.length_append]
  simp
  omega
theorem ns {α:Type} {p:Prop} [Decidable p] (x:α):(if p then [x] else []).length≤1:=by split <;> simp
theorem kP (K:S.Kn) (ih:Ih (S.PH k) (S.hs k)) (iv:Iv (S.PD k) (S.ds k)) {m:Mv} (l:S.Law m k):Stp S (S.act m).S k 1 5:=by
 have hk:m.c.toNat=k:=by have:=l.c;omega
 have kn:=l.kn
 have M:=K.mo k kn
 have pH:=K.ph k kn
 have pD:=K.pd k kn
 unfold Ws.act
 rw[hk]
 dsimp only
 split
 ·split
  ·exact (sP ih iv (ih.write _ _ _) (by have:=oL (S.PH k) (S.hs k) m.l m.b m.h;omega)).more (by omega) (by omega)
  ·exact (ti ih iv (iv.write _ _ _) (uY _ _ _)).more (by omega) (by omega)
 ·split
  ·exact ((sP ih iv (ih.send pH) (by have:=sy (S.PH k) (S.hs k);omega)).put k 1 _).more (by omega) (by omega)
  ·split
   ·next q3=>
    have fb:=frB K (l.fr q3)
    split
    ·unfold Ws.toH
     dsimp only
     have h1:=sP ih iv (ih.recv pH _ _ fb) (by have:=qh (S.PH k) (S.hs k) (S.fr m).1 (S.fr m).2;omega)
     split
     ·exact (h1.note _).more (by omega) (by have:=fY k 1 (S.fr m);omega)
     ·exact h1.more (by omega) (by omega)
    ·unfold Ws.toD
     dsimp only
     have h1:Stp S (S.toD1 k (S.fr m)) k 0 2:=by
      unfold Ws.toD1
      exact ((ti ih iv (iv.recv pD M _ _) (yu M _ _)).note _).more (by omega) (by have:=kH k (S.ds k) (au (S.PD k) S.mx 16 (S.ds k) (S.fr m).1 (S.fr m).2).s;omega)
     have h2:Stp S (S.toD2 k (S.fr m)) k 0 4:=by
      unfold Ws.toD2
      split
      ·exact (h1.note _).more (by omega) (by have:=fY k 2 (S.fr m);omega)
      ·exact h1.more (by omega) (by omega)
     exact (h2.put k 2 _).more (by omega) (by omega)
   ·split
    ·split
     ·exact ((sP ih iv (ih.tick _) (by have:=ru (S.PH k) (S.hs k) m.n;omega)).note _).more (by omega) (by have:=ns (p:=eY m.n=0) (⟨5,k,1,0,m.n.toNat,false,0,cV⟩:Fa);omega)
     ·exact ((ti ih iv (iv.tick _) (yn _)).note _).more (by omega) (by have:=ns (p:=fi (S.ds k) m.n=0) (⟨5,k,2,0,m.n.toNat,false,0,cV⟩:Fa);omega)
    ·split
     ·split
      ·exact ((sP ih iv ih.ack (Nat.le_add_right (S.hs k).L.length 3)).note _).more (by omega) (by have:=ns (p:=gK (S.hs k)=0) (dE 6 k 1);omega)
      ·exact ((ti ih iv iv.ack aaC).note _).more (by omega) (by have:=ns (p:=gI (S.ds k)=0) (dE 6 k 2);omega)
     ·split
      ·split
       ·have h1:=(sP ih iv (Ih.life (S.PH k) (S.hs k)) (Nat.le_add_right (S.hs k).L.length 3)).note [dE 7 k 1]
        exact (show Stp S ((S.note [dE 7 k 1]).setH k (gp (S.hs k))) k 0 (0+1) from h1).more (by omega) (by omega)
       ·have h1:=(ti ih iv (iv.reset (mx:=S.mx) (n:=16) m.n) (uA M m.n)).note [dE 7 k 2]
        exact (show Stp S ((S.note [dE 7 k 2]).setD k (cG S.mx 16 (S.ds k) m.n)) k 0 (0+1) from h1).more (by omega) (by omega)
      ·exact (ti ih iv (iv.arm _) (zR _)).more (by omega) (by omega)
end
theorem Ws.In.play {S:Ws} (I:S.In) (K:S.Kn) {m:Mv}:(S.play m).S.In:=by
 by_cases hb:S.bad m=0
 ·have l:=Ws.Law.of hb
  obtain⟨k,hk⟩:∃ k,m.c.toNat=k:=⟨_,rfl⟩
  rw[hk]at l
  have K':S.up.Kn:=⟨K.ph,K.pd,K.ha,K.da,K.mo,K.fb⟩
  have h:=kP K' (I.ih k l.kn) (I.iv k l.kn) l
  have h2:=h.note [oH (S.up.act m).S k,oD (S.up.act m).S k]
  have hp:(S.play m).S=(S.up.act m).S.note [oH (S.up.act m).S k,oD (S.up.act m).S k]:=by
   unfold Ws.play
   rw[if_neg (fun q=>q hb),hk]
   rfl
  rw[hp]
  obtain⟨T,hT⟩:∃ T,(S.up.act m).S.note [oH (S.up.act m).S k,oD (S.up.act m).S k]=T:=⟨_,rfl⟩
  rw[hT]at h2 ⊢
  have e1:T.mv=S.mv+1:=h2.mv
  have e2:T.n=S.n:=h2.n
  refine⟨fun j hj=>?_,fun j hj=>?_,fun j hj=>?_,fun j hj=>?_,?_,?_⟩
  ·rw[show T.PH j=S.PH j from congrFun h2.PH j]
   by_cases z:j=k
   ·subst z;exact h2.ih
   ·rw[show T.hs j=S.hs j from h2.hs j z];exact I.ih j (by omega)
  ·rw[show T.PD j=S.PD j from congrFun h2.PD j]
   by_cases z:j=k
   ·subst z;exact h2.iv
   ·rw[show T.ds j=S.ds j from h2.ds j z];exact I.iv j (by omega)
  ·rw[e1]
   by_cases z:j=k
   ·subst z
    have:=I.hl j (by omega)
    have:(T.hs j).L.length ≤ (S.hs j).L.length+3:=h2.hl
    omega
   ·rw[show T.hs j=S.hs j from h2.hs j z]
    have:=I.hl j (by omega)
    omega
  ·rw[e1]
   by_cases z:j=k
   ·subst z
    have:=I.dl j (by omega)
    have q:(T.ds j).L.length ≤ (S.ds j).L.length+3∧(T.ds j).ms.t ≤ (S.ds j).ms.t+6:=h2.dl
    omega
   ·rw[show T.ds j=S.ds j from h2.ds j z]
    have:=I.dl j (by omega)
    omega
  ·rw[e1]
   have:=I.bg
   have q:T.bg.length≤S.bg.length+1:=h2.bg
   omega
  ·rw[e1]
   have:=I.fs
   have q:T.fs.length≤S.fs.length + (5+2):=h2.fs
   omega
 ·have hp:(S.play m).S=S:=by
   unfold Ws.play
   rw[if_pos hb]
  rw[hp]
  exact I
theorem Ws.In.room {S:Ws} (I:S.In) (K:S.Kn) {m:Mv} (hb:S.bad m=0):(S.up.act m).S.fs.length≤90000:=by
 have l:=Ws.Law.of hb
 have o:=Ws.Ok.of hb
 have K':S.up.Kn:=⟨K.ph,K.pd,K.ha,K.da,K.mo,K.fb⟩
 have h:=(kP K' (I.ih _ l.kn) (I.iv _ l.kn) l).fs
 have q:(S.up.act m).S.fs.length≤S.fs.length+5:=h
 have:=I.fs
 have:=o.mv
 omega
theorem rP (e:Nat→Nat) (w0 w:World) (t:Nat→Thing) (L:Pw) (i:Nat) (m:Mv) (d:Option Addr) (c:Nat) (h:PW e w0 w t L) (F:Fre e t i) (I:L.S.In) (ok:m.Ok) (hn:0<L.S.n) (R:Row8 w d m.l c m.b) (hdx:∀ y,d=some y→0<m.l→y.block≠L.x) (hl:m.l≤140737488351232) :
  Calls prog 12 #[ac L.x 0,.agg (aj m m.c d c)] w fun r w'=>
   (L.S.bad m≠0∧r=.returned (.tuple #[.agg dw,.int .i64 (L.S.bad m)])∧Hid (PW e w0 w' t L∧Below w.heap.size w w')) ∨
   (L.S.bad m=0∧∃ a' c' ah ch ad cd,r=.returned (.tuple #[.agg #[Value.int .i64 m.k,Value.int .i64 m.c,Value.int .i64 m.s,Value.int .i64 m.f,Value.int .i64 m.a,Value.int .u32 (m.w:Nat),Value.int .i64 m.n,Value.bool m.h,Value.slice a' m.l c',Value.int .i64 (L.S.play m).e,Value.int .i64 (L.S.play m).i,Value.int .i64 (((L.S.play m).S.hs m.c.toNat).st:Nat),Value.int .u32 (((L.S.play m).S.hs m.c.toNat).ss:Nat),Value.int .u32 (((L.S.play m).S.hs m.c.toNat).nm:Nat),Value.int .u32 (((L.S.play m).S.hs m.c.toNat).sn:Nat),Value.int .i64 (((L.S.play m).S.hs m.c.toNat).dc:Nat),Value.int .i64 ((L.S.play m).S.hs m.c.toNat).v.lat,Value.bool (aq ((L.S.play m).S.hs m.c.toNat).v),Value.bool (aE ((L.S.play m).S.hs m.c.toNat).v),Value.slice ah ((L.S.play m).S.PH m.c.toNat).i ch,Value.int .i64 (((L.S.play m).S.ds m.c.toNat).st:Nat),Value.int .u32 (((L.S.play m).S.ds m.c.toNat).ss:Nat),Value.int .u32 (((L.S.play m).S.ds m.c.toNat).nm:Nat),Value.int .u32 (((L.S.play m).S.ds m.c.toNat).sn:Nat),Value.int .i64 (((L.S.play m).S.ds m.c.toNat).dc:Nat),Value.int .i64 ((L.S.play m).S.ds m.c.toNat).v.lat,Value.bool (aq ((L.S.play m).S.ds m.c.toNat).v),Value.bool (aE ((L.S.play m).S.ds m.c.toNat).v),Value.slice ad ((L.S.play m).S.PD m.c.toNat).o cd],.int .i64 0])∧Hid (PWn e w0 (yo t i m (L.S.play m).S m.c.toNat a' c' ah ch ad cd) L w' (L.S.play m).S)):=
 vG e w0 w t L i m d c h F ok hn R hdx hl (fun hb=>I.fit h.n.kn (Ws.Ok.of hb).mv (Ws.Law.of hb).kn) (fun hb=>I.room h.n.kn hb)
end Go.Proofs.YtddahhlbpcbddaaGreat
namespace Go.Proofs.YtddahhlbpcbddaaGreat
open Tryz
open Go.RowKit Go.Maps
set_option linter.unusedVariables false
def sN (n mx:Nat) (PH PD:Nat→Pm):Ws:=⟨n,PH,PD,fun _=>bY,fun _=>dD M0,mx,[],0,[]⟩
def Ng.pw (G:Ng):Pw:=⟨G.X,G.v0,G.v1,G.vc,.slice none 0 0,[],[],G.b,G.m,.slice none 0 0,[],none,G.h,G.hU,G.d,G.dm,G.g,G.dU,sN G.n G.mx G.PH G.PD⟩
theorem Ng.same (G:Ng) (hi:G.i=G.n) {j:Nat} (hj:2≤j):G.pw.t j=G.t (j+4):=by
 unfold Pw.t Ng.t
 rw[if_neg (by omega:¬ j=0),if_neg (by omega:¬ j=1),if_neg (by omega:¬ j+4=0),if_neg (by omega:¬ j+4=1),if_neg (by omega:¬ j+4=2),if_neg (by omega:¬ j+4=3),if_neg (by omega:¬ j+4=4),if_neg (by omega:¬ j+4=5)]
 rw[show j+4-6=j-2 by omega,hi]
 show (if j-2<2*G.n then _ else _)=_
 by_cases h:j-2<2*G.n
 ·rw[if_pos h,if_pos h]
  by_cases q:(j-2) % 2=0
  ·rw[if_pos q,if_pos (by omega:(j+4) % 2=0)]
   rfl
  ·rw[if_neg q,if_neg (by omega:¬ (j+4) % 2=0)]
   rfl
 ·rw[if_neg h,if_neg h]
theorem Ng.mem (G:Ng) (hi:G.i=G.n) (q k:Nat) (hk:k ∈ (iB G.pw q).U):(q=0∧∃ a,a≤3∧k ∈ (G.t a).U)∨(q=2∧k ∈ (G.t 4).U)∨(4≤q∧q % 2=0∧k ∈ (G.t (q / 2+4)).U):=by
 unfold iB at hk
 by_cases h2:q % 2=0
 ·rw[if_pos h2]at hk
  by_cases z0:q / 2=0
  ·rw[z0]at hk
   have hk:k ∈ G.pw.core.U:=hk
   simp only[Wc.U,Pw.core,Ng.pw,List.mem_cons,List.mem_append,Option.mem_toList,List.not_mem_nil,or_false]at hk
   refine .inl ⟨by omega,?_⟩
   rcases hk with hk | hk | hk | hk | hk
   ·exact⟨0,by omega,by show k ∈ [G.X];simp[hk]⟩
   ·exact⟨1,by omega,by show k ∈ G.v0.ownBlock.toList;simp[hk]⟩
   ·exact⟨2,by omega,by show k ∈ G.v1.ownBlock.toList;simp[hk]⟩
   ·exact⟨3,by omega,by show k ∈ G.vc.ownBlock.toList;simp[hk]⟩
   ·cases hk
  ·by_cases z1:q / 2=1
   ·rw[z1]at hk
    exact .inr (.inl ⟨by omega,hk⟩)
   ·rw[G.same hi (by omega)]at hk
    exact .inr (.inr ⟨by omega,h2,hk⟩)
 ·rw[if_neg h2]at hk
  simp[oF]at hk
theorem Ng.world {w0 w:World} {G:Ng} (A:Al w0 w G.t) (hi:G.i=G.n):PW ev w0 w (iB G.pw) G.pw:=by
 have wb:WB G.pw.core w:=by
  refine⟨A.get (i:=0) (x:=fI [(G.X,G.blk)]) rfl _ (List.mem_cons_self ..),A.get (i:=1) (x:=lP 90 5 G.v0 G.n (zl G.n G.PH)) rfl,A.get (i:=2) (x:=lP 90 5 G.v1 G.n (zl G.n G.PD)) rfl,?_,⟨rfl,.inl ⟨rfl,rfl⟩⟩,rfl,fun i f d hf=>by simp[Ng.pw,Pw.core,sN]at hf,fun k hk=>by simp[Ng.pw,Pw.core]at hk⟩
  have:=A.get (i:=3) (x:=lP 87 3 G.vc G.i (io G.i G.h G.d G.dm)) rfl
  rw[hi]at this
  exact this
 refine⟨⟨A.bel,fun q=>?_,fun q k hk=>?_,fun p q hpq k hp hq=>?_⟩,xV _⟩
 ·unfold iB
  by_cases h2:q % 2=0
  ·rw[if_pos h2]
   by_cases z0:q / 2=0
   ·rw[z0]
    exact wb
   ·by_cases z1:q / 2=1
    ·rw[z1]
     exact A.get (i:=4) (x:=bgT G.b G.m (.slice none 0 0) [] none []) rfl
    ·rw[G.same hi (by omega)]
     exact A.ok _
  ·rw[if_neg h2]
   trivial
 ·rcases G.mem hi q k hk with ⟨_,a,_,h⟩ | ⟨_,h⟩ | ⟨_,_,h⟩
  ·exact A.lt a k h
  ·exact A.lt 4 k h
  ·exact A.lt _ k h
 ·rcases G.mem hi p k hp with ⟨e1,a,ha,h1⟩ | ⟨e1,h1⟩ | ⟨e1,f1,h1⟩
  ·rcases G.mem hi q k hq with ⟨e2,b,hb,h2⟩ | ⟨e2,h2⟩ | ⟨e2,f2,h2⟩
   ·omega
   ·exact A.dis a 4 (by omega) k h1 h2
   ·exact A.dis a _ (by omega) k h1 h2
  ·rcases G.mem hi q k hq with ⟨e2,b,hb,h2⟩ | ⟨e2,h2⟩ | ⟨e2,f2,h2⟩
   ·exact A.dis 4 b (by omega) k h1 h2
   ·omega
   ·exact A.dis 4 _ (by omega) k h1 h2
  ·rcases G.mem hi q k hq with ⟨e2,b,hb,h2⟩ | ⟨e2,h2⟩ | ⟨e2,f2,h2⟩
   ·exact A.dis _ b (by omega) k h1 h2
   ·exact A.dis _ 4 (by omega) k h1 h2
   ·exact A.dis _ _ (by omega) k h1 h2
theorem za (n mx:Nat) (PH PD:Nat→Pm):(sN n mx PH PD).In:=
 ⟨fun k hk=>Ih.new_ _,fun k hk=>Iv.new_ _,fun k hk=>Nat.le_refl _,fun k hk=>⟨Nat.le_refl _,by show (0:Int)≤6 * ((0:Nat):Int);decide⟩,Nat.le_refl _,Nat.le_refl _⟩
theorem Ng.mem0 (G:Ng) (hi:G.i=0) (hvc:G.vc=.slice none 0 0) (q k:Nat) (hk:k ∈ (G.t q).U):(q=0∧k=G.X)∨(q=1∧G.v0.ownBlock=some k)∨(q=2∧G.v1.ownBlock=some k)∨(q=4∧(k=G.b∨k=G.m))∨(q=5∧k=G.x):=by
 unfold Ng.t at hk
 by_cases q0:q=0
 ·rw[if_pos q0]at hk
  have hk:k ∈ [G.X]:=hk
  exact .inl ⟨q0,by simpa using hk⟩
 rw[if_neg q0]at hk
 by_cases q1:q=1
 ·rw[if_pos q1]at hk
  have hk:k ∈ G.v0.ownBlock.toList:=hk
  exact .inr (.inl ⟨q1,by simpa using hk⟩)
 rw[if_neg q1]at hk
 by_cases q2:q=2
 ·rw[if_pos q2]at hk
  have hk:k ∈ G.v1.ownBlock.toList:=hk
  exact .inr (.inr (.inl ⟨q2,by simpa using hk⟩))
 rw[if_neg q2]at hk
 by_cases q3:q=3
 ·rw[if_pos q3,hvc]at hk
  have hk:k ∈ (Value.slice none 0 0).ownBlock.toList:=hk
  simp[Value.ownBlock]at hk
 rw[if_neg q3]at hk
 by_cases q4:q=4
 ·rw[if_pos q4]at hk
  have hk:k ∈ mf G.b G.m (.slice none 0 0) [] none:=hk
  simp[mf,Value.ownBlock]at hk
  exact .inr (.inr (.inr (.inl ⟨q4,hk⟩)))
 rw[if_neg q4]at hk
 by_cases q5:q=5
 ·rw[if_pos q5]at hk
  have hk:k ∈ [G.x]:=hk
  exact .inr (.inr (.inr (.inr ⟨q5,by simpa using hk⟩)))
 rw[if_neg q5,if_neg (by omega)]at hk
 simp[oF]at hk
theorem Ng.start {w wx:World} {G:Ng} (hi:G.i=0) (hvc:G.vc=.slice none 0 0) (bel:Below w.heap.size w wx) (k0:wx.heap[G.X]?=some G.blk) (r0:wx.ownsRow 0 90 5 G.v0 G.n (zl G.n G.PH)) (r1:wx.ownsRow 0 90 5 G.v1 G.n (zl G.n G.PD)) (bg:Bg 0 wx G.b G.m (.slice none 0 0) [] none []) (kx:wx.heap[G.x]?=some G.ob)
  (lx:G.x=w.heap.size) (l0:∀ k,G.v0.ownBlock=some k→w.heap.size<k∧k<G.m) (l1:∀ k,G.v1.ownBlock=some k→w.heap.size<k∧k<G.m) (l01:∀ k,G.v0.ownBlock=some k→G.v1.ownBlock≠some k) (mb:G.b=G.m+1) (bX:G.X=G.m+2) (lm:w.heap.size<G.m):Al w wx G.t:=by
 have lX:=(Array.getElem?_eq_some_iff.1 k0).1
 refine⟨bel,fun q=>?_,fun q k hk=>?_,fun p q hpq k hp hq=>?_⟩
 ·unfold Ng.t
  by_cases q0:q=0
  ·rw[if_pos q0]
   intro p hp
   simp only[List.mem_cons,List.not_mem_nil,or_false]at hp
   subst hp
   exact k0
  rw[if_neg q0]
  by_cases q1:q=1
  ·rw[if_pos q1];exact r0
  rw[if_neg q1]
  by_cases q2:q=2
  ·rw[if_pos q2];exact r1
  rw[if_neg q2]
  by_cases q3:q=3
  ·rw[if_pos q3,hvc,hi]
   exact⟨rfl,.inl ⟨rfl,rfl⟩⟩
  rw[if_neg q3]
  by_cases q4:q=4
  ·rw[if_pos q4];exact⟨bg,rfl⟩
  rw[if_neg q4]
  by_cases q5:q=5
  ·rw[if_pos q5]
   intro p hp
   simp only[List.mem_cons,List.not_mem_nil,or_false]at hp
   subst hp
   exact kx
  rw[if_neg q5,if_neg (by omega)]
  trivial
 ·rcases G.mem0 hi hvc q k hk with ⟨_,e⟩ | ⟨_,e⟩ | ⟨_,e⟩ | ⟨_,e | e⟩ | ⟨_,e⟩
  ·omega
  ·have:=l0 k e;omega
  ·have:=l1 k e;omega
  ·omega
  ·omega
  ·omega
 ·rcases G.mem0 hi hvc p k hp with ⟨e1,hp⟩ | ⟨e1,hp⟩ | ⟨e1,hp⟩ | ⟨e1,hp | hp⟩ | ⟨e1,hp⟩
  all_goals rcases G.mem0 hi hvc q k hq with ⟨e2,hq⟩ | ⟨e2,hq⟩ | ⟨e2,hq⟩ | ⟨e2,hq | hq⟩ | ⟨e2,hq⟩
  all_goals first
   | exact hpq (by omega)
   | omega
   | (have:=l0 k hp;omega)
   | (have:=l1 k hp;omega)
   | (have:=l0 k hq;omega)
   | (have:=l1 k hq;omega)
   | exact l01 k hp hq
   | exact l01 k hq hp
end Go.Proofs.YtddahhlbpcbddaaGreat
