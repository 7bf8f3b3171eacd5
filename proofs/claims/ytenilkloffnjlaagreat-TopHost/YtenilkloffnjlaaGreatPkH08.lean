/- Part 9: contracts that the proof rests on. -/
import Derived.Maps.OwnSet
import Derived.Maps.OwnOps
import Derived.Test.YtenilkloffnjlaaGreatPkH03
import Derived.Test.YtenilkloffnjlaaGreatPkH05
import Derived.Test.YtenilkloffnjlaaGreatPkH06
import Derived.Test.YtenilkloffnjlaaGreatPkH07
set_option maxHeartbeats 64000000
set_option maxRecDepth 100000
namespace Go.Proofs.YtenilkloffnjlaaGreat
open Tryz
open Go.RowKit
structure Pm where
 c:Nat
 o:Nat
 i:Nat
 t:Nat
 n:Nat
structure Pok (P:Pm):Prop where
 ok:tW P.c P.o P.i P.t P.n
 c:P.c<4294967296
 n:P.n<4294967296
theorem Pok.o1 {P:Pm} (h:Pok P):1≤P.o:=by have:=h.ok.2.1;omega
theorem Pok.o8 {P:Pm} (h:Pok P):P.o≤8:=by have:=h.ok.2.1;omega
theorem Pok.i1 {P:Pm} (h:Pok P):1≤P.i:=by have:=h.ok.2.2.1;omega
theorem Pok.i8 {P:Pm} (h:Pok P):P.i≤8:=by have:=h.ok.2.2.1;omega
theorem Pok.t1 {P:Pm} (h:Pok P):1≤P.t:=by have:=h.ok.2.2.2.1;omega
theorem Pok.t2 {P:Pm} (h:Pok P):P.t≤1048576:=by have:=h.ok.2.2.2.1;omega
theorem Pok.n2 {P:Pm} (h:Pok P):2≤P.n:=by have:=h.ok.2.2.2.2;omega
theorem Pok.c0 {P:Pm} (h:Pok P):P.c≠0:=by have:=h.ok.1;omega
structure Sd where
 ms:Ms
 L:List R4
 dc:Nat
 v:Vs
 st:Nat
 ss:Nat
 nm:Nat
 sn:Nat
 od:Nat
 ap:Nat→Nat
 hd:Bool
def gv (s:Sd) (x:Int):Sd:={ s with L:=s.L ++ [(((s.L.length+1:Nat):Int),x,(s.ss:Int),(s.nm:Int))] }
def aN (s:Sd) (x:Int):Sd:=if gJ s.v x=true then gv { s with v:=du s.v x } x else { s with v:=du s.v x }
def jJ (s:Sd):Sd:={ s with od:=0,dc:=0,v:=dF s.v }
def d9 (s:Sd) (k:Nat):Sd:={ s with v:=dS s.v false,ss:=0,nm:=0,sn:=0,od:=0,st:=k }
def jI (s:Sd) (k:Nat):Sd:={ s with dc:=0,v:=om,st:=k,ss:=0,nm:=0,sn:=0,od:=0,ap:=fun _=>0,hd:=false }
def sx (s:Sd):Bool:=decide (s.st=2∨s.st=3∨s.st=4)
def bT (s:Sd):Sd:=
 if sx s=true then
  (if s.od+1<4 then { s with od:=s.od+1 } else d9 (if s.st=4 then aN { s with od:=s.od+1 } 131 else { s with od:=s.od+1 }) 1)
 else s
def iu (s:Sd):Nat:=(if aE s.v=true then 0 else 1) + (if au s.v=true then 2 else 0) + (if s.v.lat=0 then 0 else 4) + (if s.hd=true then 8 else 0)
abbrev Fm:=Nat × (Nat→Nat)
def cZ:Fm:=(0,fun _=>0)
def cS (k c s n f len:Nat) (bs:Nat→Nat):Fm:=if LW k c s n f len len=0 then (15+len+4,PM.sl (fr k c s n f len bs) (15+len)) else cZ
def dK (P:Pm) (s:Sd) (k num fl len:Nat) (bs:Nat→Nat):Fm:=cS k P.c s.ss num fl len bs
def iL (P:Pm) (s:Sd):Fm:=dK P s 22 0 0 0 (fun _=>0)
def lL (P:Pm):Nat→Nat:=PM.w4 (PM.K (pe P.c P.o P.i P.t P.n) 14)
def kJ (P:Pm) (s:Sd):Fm:=dK P s 17 0 0 4 (lL P)
def aX (P:Pm) (len:Nat) (bs:Nat→Nat):Bool:=decide (BA bs len=BA (lL P) 4)
structure Rs where
 s:Sd
 f:Fm
 e:Int
def bL (P:Pm) (mx n:Nat) (s:Sd):Rs:=
 if (nx mx n s.ms.bs false s.ms).e=80 then ⟨d9 (aN { s with ms:=(nx mx n s.ms.bs false s.ms).s } 80) 5,iL P (d9 (aN { s with ms:=(nx mx n s.ms.bs false s.ms).s } 80) 5),80⟩
 else if (nx mx n s.ms.bs false s.ms).e≠0 then ⟨jI { s with ms:=(nx mx n s.ms.bs false s.ms).s } 6,cZ,(nx mx n s.ms.bs false s.ms).e⟩
 else ⟨{ d9 { s with ms:=(nx mx n s.ms.bs false s.ms).s } 2 with ss:=(nx mx n s.ms.bs false s.ms).v },kJ P { d9 { s with ms:=(nx mx n s.ms.bs false s.ms).s } 2 with ss:=(nx mx n s.ms.bs false s.ms).v },0⟩
def aW (P:Pm) (s:Sd) (e:Int):Rs:=⟨bT s,iL P (bT s),e⟩
def cj (P:Pm) (mx n:Nat) (s:Sd):Rs:=
 if (bT s).st=2 then ⟨bT s,kJ P (bT s),130⟩ else if (bT s).st=3∨(bT s).st=4 then ⟨bT s,iL P (bT s),130⟩ else bL P mx n (bT s)
def bN (s:Sd):Sd:=if s.st=2 then jJ { s with st:=3 } else s
def cN (s:Sd):Sd:=if s.st=3 then jJ { s with st:=4,v:=dS s.v true } else s
def cV (s:Sd) (num fl:Nat) (bs:Nat→Nat):Sd:={ jJ { s with nm:=num } with v:=dY (fL (jJ { s with nm:=num }).v (decide (8≤fl))) bs,sn:=s.sn+1 }
def eG (P:Pm) (s:Sd):Sd:={ aN (jJ { s with nm:=P.n }) 80 with sn:=P.n }
def kG (s:Sd):Sd:={ s with v:=dS s.v false,st:=5 }
def bc (P:Pm) (mx n:Nat) (s:Sd) (k ss num fl len:Nat) (bs:Nat→Nat):Rs:=
 if k=1 then (if aX P len bs=true then cj P mx n s else aW P s 91)
 else if k=2∧ss=s.ss∧(s.st=2∨s.st=3) then (if aX P len bs=true then ⟨bN s,dK P (bN s) 18 0 0 0 (fun _=>0),0⟩ else aW P s 91)
 else if k=3∧ss=s.ss∧(s.st=3∨s.st=4∧s.nm=0) then ⟨cN s,dK P (cN s) 19 0 0 0 (fun _=>0),0⟩
 else if k=4∧(ss=s.ss∧s.st=4∧s.nm<num)∧num<P.n∧len=P.o then ⟨cV s num fl bs,dK P (cV s num fl bs) 20 (s.sn+1) (iu (cV s num fl bs)) P.i s.ap,0⟩
 else if k=5∧(ss=s.ss∧s.st=4∧s.nm<num)∧num=P.n then ⟨kG (eG P s),dK P (eG P s) 21 P.n 0 0 (fun _=>0),0⟩
 else aW P s 130
def bR (P:Pm) (mx n:Nat) (s:Sd) (len:Nat) (bs:Nat→Nat):Rs:=
 if DE bs len≠0 then ⟨s,cZ,DE bs len⟩ else if eJ (bs 0)=false then ⟨s,cZ,43⟩ else if aC bs 1≠P.c then ⟨s,cZ,44⟩
 else bc P mx n s (bs 0) (aC bs 5) (aC bs 9) (bs 13) (len-19) (fun i=>bs (15+i))
def ay (P:Pm) (mx n:Nat) (s:Sd) (len:Nat) (bs:Nat→Nat):Rs:=
 if s.st=6 then ⟨s,cZ,70⟩
 else if (bR P mx n s len bs).e≠0∧(bR P mx n s len bs).e≠70 then ⟨gv (bR P mx n s len bs).s (bR P mx n s len bs).e,(bR P mx n s len bs).f,(bR P mx n s len bs).e⟩
 else bR P mx n s len bs
def gT (P:Pm) (s:Sd) (len:Nat):Int:=if s.st=6 then 70 else if len=P.i then 0 else 45
def em (P:Pm) (s:Sd) (len:Nat) (bs:Nat→Nat) (h:Bool):Sd:=if s.st=6 then s else if len=P.i then { s with ap:=bs,hd:=h } else s
def eU (s:Sd) (k:Int):Int:=if s.st=6 then 70 else if k<0 then 2 else 0
def eV (P:Pm) (s:Sd) (k:Int):Sd:=if s.st=6 then s else if k<0 then s else
 if lW P.t s.dc k.toNat=true then aN { s with dc:=tk P.t s.dc k.toNat } 100 else { s with dc:=tk P.t s.dc k.toNat }
def gr (s:Sd):Int:=if s.st=6 then 70 else sY s.v
def gt (s:Sd):Sd:=if s.st=6 then s else { s with v:=ja s.v }
def sQ (s:Ms) (k:Int):Ms:=if 0<k then lK { s with off:=false,ar:=false } (k-1) else { s with off:=false,ar:=false }
def fS (mx n:Nat) (s:Sd) (k:Int):Int:=if k<0 then 2 else nK mx n (sQ s.ms k)
def cL (mx n:Nat) (s:Sd) (k:Int):Sd:=if k<0 then s else jI { s with ms:=j3 mx n (sQ s.ms k) } (if nK mx n (sQ s.ms k)=0 then 1 else 6)
open Go.RowKit Go.Maps
def uB:Value→Option (DataW Unit × List MemPlace)
 | .pointer none=>some (.lit (.int .i64 (-1)),[])
 | .pointer (some ⟨k,0,none⟩)=>some (.lit (.int .i64 k),[])
 | _=>none
def tr:Option Nat→DataW Unit
 | none=>.lit (.int .i64 (-1))
 | some k=>.lit (.int .i64 k)
def ptr:Option Nat→Value
 | none=>.pointer none
 | some k=>ac k 0
theorem sP (o:Option Nat):uB (ptr o)=some (tr o,[]):=by cases o <;> rfl
theorem sq {o o':Option Nat} (h:tr o=tr o'):o=o':=by
 cases o <;> cases o' <;> simp[tr]at h ⊢
 ·omega
theorem zb {v:Value} {o:Option Nat} {ps:List MemPlace} (h:uB v=some (tr o,ps)):v=ptr o:=by
 unfold uB at h
 split at h
 ·simp only[Option.some.injEq,Prod.mk.injEq]at h
  have:=sq (o:=none) (o':=o) h.1
  subst this;rfl
 ·rename_i k
  simp only[Option.some.injEq,Prod.mk.injEq]at h
  have:=sq (o:=some k) (o':=o) h.1
  subst this;rfl
 ·cases h
def DB (w:World) (b mA mb:Nat) (L:List R4):Prop:=
 ∃ cur:Array Value,w.heap[b]?=some (.cells cur 209 (0,0))∧cur.size=66∧cur[0]?=some (ac mA 0)∧cur[1]?=some (.map (some mb)) ∧
  ∀ i (h:i<L.length),L.length≤i+16→∀ f,f<4→cur[2+i % 16*4+f]?=(rv L[i])[f]?
theorem ng {w:World} {b i:Nat} {cur:Array Value} {t:TypeId} {fr:Nat × Nat} {v:Value} (h:w.heap[b]?=some (.cells cur t fr)) (hv:cur[i]?=some v):w.cell? ⟨b,i,none⟩=some v:=by
 simp[World.cell?,h,hv]
theorem DB.lt {w:World} {b mA mb:Nat} {L:List R4} (h:DB w b mA mb L):b<w.heap.size:=by
 obtain⟨cur,h,_⟩:=h;exact (Array.getElem?_eq_some_iff.1 h).1
theorem DB.c0 {w:World} {b mA mb:Nat} {L:List R4} (h:DB w b mA mb L):w.cell? ⟨b,0,none⟩=some (ac mA 0):=by
 obtain⟨cur,h,_,h0,_⟩:=h;exact ng h h0
theorem DB.c1 {w:World} {b mA mb:Nat} {L:List R4} (h:DB w b mA mb L):w.cell? ⟨b,1,none⟩=some (.map (some mb)):=by
 obtain⟨cur,h,_,_,h1,_⟩:=h;exact ng h h1
theorem DB.fz {w:World} {b mA mb:Nat} {L:List R4} (h:DB w b mA mb L) (j:Nat):w.frozen? ⟨b,j,none⟩=false:=by
 obtain⟨cur,h,_⟩:=h;exact frozen_of_row w b j _ _ h
theorem DB.off {l:List Nat} {w w':World} {b mA mb:Nat} {L:List R4} (h:DB w b mA mb L) (k:Off l w w') (hb:b ∉ l):DB w' b mA mb L:=by
 have hl:=h.lt
 obtain⟨cur,h,r⟩:=h;exact⟨cur,(k.block b hl hb).trans h,r⟩
theorem DB.some {w:World} {b mA mb:Nat} {L:List R4} (h:DB w b mA mb L) (j:Nat) (hj:j<66):∃ v,w.cell? ⟨b,j,none⟩=.some v:=by
 obtain⟨cur,h,hs,_⟩:=h
 exact⟨cur[j],ng h (Array.getElem?_eq_getElem (by omega))⟩
theorem DB.put {w:World} {b mA mb:Nat} {L:List R4} (h:DB w b mA mb L) (x:R4) :
  DB ((((w.setCell ⟨b,2+L.length % 16*4,none⟩ (.int .i64 x.1)).setCell ⟨b,2+L.length % 16*4+1,none⟩ (.int .i64 x.2.1)).setCell ⟨b,2+L.length % 16*4+2,none⟩ (.int .u32 x.2.2.1)).setCell ⟨b,2+L.length % 16*4+3,none⟩ (.int .u32 x.2.2.2)) b mA mb (L ++ [x]):=by
 obtain⟨cur,h,hs,h0,h1,hr⟩:=h
 refine⟨_,heap_setCell_same _ _ _ _ _ _ (heap_setCell_same _ _ _ _ _ _ (heap_setCell_same _ _ _ _ _ _ (heap_setCell_same _ _ _ _ _ _ h))),?_,?_,?_,?_⟩
 ·simp[hs]
 ·simp only[Array.getElem?_setIfInBounds]
  rw[if_neg (by omega),if_neg (by omega),if_neg (by omega),if_neg (by omega)];exact h0
 ·simp only[Array.getElem?_setIfInBounds]
  rw[if_neg (by omega),if_neg (by omega),if_neg (by omega),if_neg (by omega)];exact h1
 ·intro i hi h16 f hf
  simp only[List.length_append,List.length_cons,List.length_nil]at hi h16
  simp only[Array.getElem?_setIfInBounds,Array.size_setIfInBounds]
  by_cases hl:i<L.length
  ·rw[List.getElem_append_left hl,if_neg (by omega),if_neg (by omega),if_neg (by omega),if_neg (by omega)]
   exact hr i hl (by omega) f hf
  ·have e:i=L.length:=by omega
   subst e
   have hx:(L ++ [x])[L.length]'(by simp)=x:=by simp
   rw[hx]
   have c:f=0∨f=1∨f=2∨f=3:=by omega
   rcases c with rfl | rfl | rfl | rfl
   ·rw[if_neg (by omega),if_neg (by omega),if_neg (by omega),if_pos (by omega),if_pos (by omega)];rfl
   ·rw[if_neg (by omega),if_neg (by omega),if_pos (by omega),if_pos (by omega)];rfl
   ·rw[if_neg (by omega),if_pos (by omega),if_pos (by omega)];rfl
   ·rw[if_pos (by omega),if_pos (by omega)];rfl
structure DH (w:World) (b:Nat) (U:List Nat) (L:List R4) (mA mb nn:Nat) (D:DataW Unit) (mt:Int→Option Nat):Prop where
 blk:DB w b mA mb L
 all:Met w mA (L.length:Nat) none 0 0 none
 map:w.ownsMap prog 24 uB mb nn D
 nle:nn≤L.length
 at_:∀ c,(Lit.int .i64 c).wf=true→D.atKey (.int .i64 c) (tr none)=tr (mt c)
 has_:∀ c,has D (.int .i64 c)=decide (0<np L c)
 no:∀ c,mt c=none→np L c=0
 yes:∀ c k,mt c=some k→Met w k (np L c:Nat) none 0 0 none∧0<np L c∧k ∈ U∧k≠b∧k≠mA∧k≠mb
 one:∀ c c' k,mt c=some k→mt c'=some k→c=c'
 bU:b ∈ U
 aU:mA ∈ U
 mU:mb ∈ U
 ba:b≠mA
 bm:b≠mb
 am:mA≠mb
 ult:∀ k,k ∈ U→k<w.heap.size
 nmb:Nmb L
def DG (w:World) (b:Nat) (U:List Nat) (L:List R4):Prop:=∃ mA mb nn D mt,DH w b U L mA mb nn D mt
theorem cX {l:List Nat} {w w':World} {P:Program} {k:TypeId} {R:Value→Option (DataW Unit × List MemPlace)} {b n:Nat} {D:DataW Unit} (h:w.ownsMap P k R b n D) (ho:Off l w w') (hb:b ∉ l):w'.ownsMap P k R b n D:=by
 have hlt:=h.lt
 obtain⟨es,clock,hb',F,hs,hD⟩:=h
 exact⟨es,clock,(ho.block b hlt hb).trans hb',F,hs,hD⟩
theorem DH.off {l:List Nat} {w w':World} {b:Nat} {U:List Nat} {L:List R4} {mA mb nn:Nat} {D:DataW Unit} {mt:Int→Option Nat} (h:DH w b U L mA mb nn D mt) (ho:Off l w w') (hl:∀ k,k ∈ U→k ∉ l):DH w' b U L mA mb nn D mt where
 blk:=h.blk.off ho (hl _ h.bU)
 all:=h.all.off ho (hl _ h.aU)
 map:=cX h.map ho (hl _ h.mU)
 nle:=h.nle
 at_:=h.at_
 has_:=h.has_
 no:=h.no
 yes:=fun c k hk=>by obtain⟨h1,h2,h3,h4⟩:=h.yes c k hk;exact⟨h1.off ho (hl _ h3),h2,h3,h4⟩
 one:=h.one
 bU:=h.bU
 aU:=h.aU
 mU:=h.mU
 ba:=h.ba
 bm:=h.bm
 am:=h.am
 ult:=fun k hk=>Nat.lt_of_lt_of_le (h.ult k hk) ho.size
 nmb:=h.nmb
theorem DG.off {l:List Nat} {w w':World} {b:Nat} {U:List Nat} {L:List R4} (h:DG w b U L) (ho:Off l w w') (hl:∀ k,k ∈ U→k ∉ l):DG w' b U L:=by
 obtain⟨mA,mb,nn,D,mt,h⟩:=h;exact⟨mA,mb,nn,D,mt,h.off ho hl⟩
theorem xH (w:World):(zeroValue 106).run prog w=.ok (.pointer none) w:=by kernel_rfl
theorem sD:Keyed prog 24:=int_keyed underlying24
theorem pU (n p:Nat) (w:World) (hp:p=n % 16) (hn:n<1000000):Calls prog 202 #[.int .i64 ((n+1:Nat):Int)] w fun e w'=>e=.returned (.int .i64 (p:Int))∧w'=w:=by
 have h1:IntKind.i64.wrap (((n+1:Nat):Int)-1)=(n:Int):=by rw[IntKind.wrap_i64];omega
 go_enter func202,ntmps202
 go_wp2
 go_ret
 refine⟨?_,rfl⟩
 show Ending.returned (Value.int IntKind.i64 ((n:Int) % 16))=_
 rw[show ((n:Int) % 16)=(p:Int) from by omega]
def zD:Array Value:=#[.pointer none,.map none] ++ #[.int .i64 0,.int .i64 0,.int .u32 0,.int .u32 0,.int .i64 0,.int .i64 0,.int .u32 0,.int .u32 0,.int .i64 0,.int .i64 0,.int .u32 0,.int .u32 0,.int .i64 0,.int .i64 0,.int .u32 0,.int .u32 0,.int .i64 0,.int .i64 0,.int .u32 0,.int .u32 0,.int .i64 0,.int .i64 0,.int .u32 0,.int .u32 0,.int .i64 0,.int .i64 0,.int .u32 0,.int .u32 0,.int .i64 0,.int .i64 0,.int .u32 0,.int .u32 0,.int .i64 0,.int .i64 0,.int .u32 0,.int .u32 0,.int .i64 0,.int .i64 0,.int .u32 0,.int .u32 0,.int .i64 0,.int .i64 0,.int .u32 0,.int .u32 0,.int .i64 0,.int .i64 0,.int .u32 0,.int .u32 0,.int .i64 0,.int .i64 0,.int .u32 0,.int .u32 0,.int .i64 0,.int .i64 0,.int .u32 0,.int .u32 0,.int .i64 0,.int .i64 0,.int .u32 0,.int .u32 0,.int .i64 0,.int .i64 0,.int .u32 0,.int .u32 0]
theorem acV (w:World):(zeroValue 209).run prog w=.ok (.agg zD) w:=by kernel_rfl
theorem je:zD.size=66:=by kernel_rfl
theorem acA:(zD=#[])=False:=by
 refine eq_false fun h=>?_
 have:=congrArg Array.size h
 rw[je]at this
 simp at this
theorem abs:(zD.size<2)=False:=by rw[je];simp
theorem oR (w:World):Calls prog 74 #[] w fun e w'=>e=.returned (ac (w.heap.size+2) 0)∧Hid (Below w.heap.size w w'∧w'.heap.size=w.heap.size+3∧DG w' (w.heap.size+2) [w.heap.size,w.heap.size+1,w.heap.size+2] []):=by
 have hmk:=@run_makeMap prog
 have hz:=acV
 have hz1:=acA
 have hz2:=abs
 go_enter func74,ntmps74
 go_wp2_with (go_at_call 42;refine (nH _).mono ?_;rintro e w' ⟨rfl,rfl⟩)
 go_ret
 refine⟨rfl,?_⟩
 generalize hw1:w.alloc (Obj.cells (uG 0 none 0 0 none) 178)=w1
 generalize hw2:w1.alloc (Obj.map #[] 0)=w2
 have s1:w1.heap.size=w.heap.size+1:=by rw[← hw1];simp
 have s2:w2.heap.size=w.heap.size+2:=by rw[← hw2];simp[s1]
 have o1:Off [] w w1:=hw1 ▸ Off.alloc [] w _
 have o2:Off [] w1 w2:=hw2 ▸ Off.alloc [] w1 _
 have o3:∀ o,Off [] w2 (w2.alloc o):=fun o=>Off.alloc [] w2 o
 have m1:Met w1 w.heap.size 0 none 0 0 none:=hw1 ▸ nI w
 have m2:w2.ownsMap prog 24 uB (w.heap.size+1) 0 (.map []):=by
  have:=World.ownsMap_made w1 prog 24 uB
  rw[hw2,s1]at this
  exact this
 clear hz hz1 hz2 hmk
 refine⟨?_,?_,?_⟩
 ·have:=(o1.trans o2).trans (o3 (Obj.cells ((zD.setIfInBounds 0 (ac w.heap.size 0)).setIfInBounds 1 (Value.map (some (w.heap.size+1)))) 209))
  exact this.below (Below.refl _ _) (by simp) (Nat.le_refl _)
 ·simp[s2]
 ·generalize hcs:(zD.setIfInBounds 0 (ac w.heap.size 0)).setIfInBounds 1 (Value.map (some (w.heap.size+1)))=cs
  have hsz:cs.size=66:=by rw[← hcs];simp[je]
  have h0:cs[0]?=some (ac w.heap.size 0):=by rw[← hcs];simp[je]
  have h1:cs[1]?=some (Value.map (some (w.heap.size+1))):=by rw[← hcs];simp[je]
  have hb:(w2.alloc (Obj.cells cs 209)).heap[w.heap.size+2]?=some (.cells cs 209 (0,0)):=by
   have:=aB w2 (Obj.cells cs 209)
   rw[s2]at this
   exact this
  refine⟨w.heap.size,w.heap.size+1,0,.map [],fun _=>none,⟨⟨cs,hb,hsz,h0,h1,fun i h=>by simp at h⟩,(m1.off o2 (by simp)).off (o3 _) (by simp),cX m2 (o3 _) (by simp),Nat.le_refl _,fun c _=>rfl,fun c=>rfl,fun c _=>rfl,fun c k h=>(by cases h),fun c c' k h=>(by cases h),by simp,by simp,by simp,by omega,by omega,by omega,?_,Nmb.nil⟩⟩
  intro k hk
  simp at hk
  simp[s2]
  omega
theorem pL (b mb:Nat) (c:Int) (k:Nat) (w:World) (h1:w.cell? ⟨b,1,none⟩=some (.map (some mb)))
  (hk:(Instr.lookup 204 (.map (some mb)) (.int .i64 c) false).run prog w=.ok (ac k 0) w) :
  Calls prog 201 #[ac b 0,.int .i64 c] w fun e w'=>e=.returned (ac k 0)∧w'=w:=by
 go_enter func201,ntmps201
 go_wp2_with fail
 go_ret
 exact⟨rfl,rfl⟩
theorem pK (b mb nn:Nat) (D:DataW Unit) (c:Int) (w:World) (h1:w.cell? ⟨b,1,none⟩=some (.map (some mb))) (hlt:b<w.heap.size)
  (hk:(Instr.lookup 204 (.map (some mb)) (.int .i64 c) false).run prog w=.ok (.pointer none) w) (hmap:w.ownsMap prog 24 uB mb nn D) (hc:(Lit.int .i64 c).wf=true) (hn:nn<1000000) :
  Calls prog 201 #[ac b 0,.int .i64 c] w fun e w'=>e=.returned (ac w.heap.size 0)∧Hid (Off [mb] w w'∧Met w' w.heap.size 0 none 0 0 none∧w'.ownsMap prog 24 uB mb (nn+1) (D.put (.int .i64 c) (tr (some w.heap.size)))):=by
 have h1':(w.alloc (.cells (uG 0 none 0 0 none) 178)).cell? ⟨b,1,none⟩=some (.map (some mb)):=(World.cell?_of_block ((Off.alloc [] w _).block b hlt (by simp))).trans h1
 have hmm:(w.alloc (.cells (uG 0 none 0 0 none) 178)).ownsMap prog 24 uB mb nn D:=cX hmap (Off.alloc [] w _) (by simp)
 have hnn:nn<maxLen:=by unfold maxLen;omega
 obtain⟨w2,hrun,hown,hg⟩:=hmm.update sD underlying204 hnn (keyOf_int_mk underlying24 hc) (sP (some w.heap.size))
 change (Instr.mapUpdate 204 (.map (some mb)) (.int .i64 c) (ac w.heap.size 0)).run prog (w.alloc (.cells (uG 0 none 0 0 none) 178))=.ok () w2 at hrun
 have hmb:mb<w.heap.size:=hmap.lt
 have hO:Hid (Off [mb] w w2∧Met w2 w.heap.size 0 none 0 0 none∧w2.ownsMap prog 24 uB mb (nn+1) (D.put (.int .i64 c) (tr (some w.heap.size)))):=by
  have o1:Off [mb] w (w.alloc (.cells (uG 0 none 0 0 none) 178)):=Off.alloc [mb] w _
  have o2:Off [mb] (w.alloc (.cells (uG 0 none 0 0 none) 178)) w2:=⟨hg.os,hg.tape,hg.output,hg.size,fun k hk hb=>hg.block k hk (by simp at hb;simp;exact hb)⟩
  exact⟨o1.trans o2,(nI w).off o2 (by simp;omega),hown⟩
 clear hg hown hmm hmap
 go_enter func201,ntmps201
 go_wp2_with (go_at_call 42;refine (nH _).mono ?_;rintro e w' ⟨rfl,rfl⟩)
 go_ret
 exact⟨rfl,hO⟩
def rJ (w:World) (b o:Nat) (x:R4):World:=(((w.setCell ⟨b,o,none⟩ (.int .i64 x.1)).setCell ⟨b,o+1,none⟩ (.int .i64 x.2.1)).setCell ⟨b,o+2,none⟩ (.int .u32 x.2.2.1)).setCell ⟨b,o+3,none⟩ (.int .u32 x.2.2.2)
theorem li (w:World) (b o:Nat) (x:R4):Off [b] w (rJ w b o x):=(((Off.setCell b o w _).trans (Off.setCell b (o+1) _ _)).trans (Off.setCell b (o+2) _ _)).trans (Off.setCell b (o+3) _ _)
theorem oT (b mA k p:Nat) (t q:Nat) (c s n:Int) (w w1:World) (R:World→Prop) (hne:c≠0) (hp:p=t % 16) (ht:t<1000000) (hq:q<1000000)
  (h0:w.cell? ⟨b,0,none⟩=some (ac mA 0))
  (ha:Calls prog 135 #[ac mA 0,.int .u64 1] w fun e w'=>e=.returned (.tuple #[.int .u64 ((t+1:Nat):Int),.int .i64 0])∧w'=w1)
  (hm:Calls prog 201 #[ac b 0,.int .i64 c] w1 fun e w'=>e=.returned (ac k 0)∧R w')
  (hR:∀ w2,R w2→Met w2 k (q:Nat) none 0 0 none∧∀ j,j<66→∃ v,(w2.setCell ⟨k,0,none⟩ (.int .u64 ((q+1:Nat):Int))).cell? ⟨b,j,none⟩=some v∧(w2.setCell ⟨k,0,none⟩ (.int .u64 ((q+1:Nat):Int))).frozen? ⟨b,j,none⟩=false) :
  Calls prog 168 #[ac b 0,.int .i64 c,.int .u32 s,.int .u32 n] w fun e w'=>e=.returned (.tuple #[.int .i64 ((t+1:Nat):Int),.int .i64 0])∧Hid (∃ w2,R w2∧w'=(rJ (w2.setCell ⟨k,0,none⟩ (.int .u64 ((q+1:Nat):Int))) b (2+p*4) (((t+1:Nat):Int),c,s,n)).drew):=by
 have hp16:(p:Int)<16:=by omega
 have hb:2+p*4+3<66:=by omega
 have h1:IntKind.i64.wrap ((t+1:Nat):Int)=((t+1:Nat):Int):=by rw[IntKind.wrap_i64];omega
 have hpl:=fun w=>pU t p w hp ht
 have hR:Hid (_):=hR
 clear hp
 generalize t+1=t1 at *
 go_enter func168,ntmps168
 go_wp2_with fail
 refine ha.mono ?_
 rintro e w' ⟨rfl,rfl⟩
 go_wp2_with fail
 refine hm.mono ?_
 rintro e w2 ⟨rfl,hr⟩
 have hr:Hid (_):=hr
 obtain⟨hmt,hcs⟩:=hR.out w2 hr.out
 have ha2:=nc q 1 k none none 0 0 w2 (by omega) (by omega) hmt
 have es:rO q 1=q+1:=by unfold rO;rw[if_neg (by omega)]
 rw[es]at ha2
 obtain⟨v0,hv0,hf0⟩:=hcs (2+p*4) (by omega)
 obtain⟨v1,hv1,hf1⟩:=hcs (2+p*4+1) (by omega)
 obtain⟨v2,hv2,hf2⟩:=hcs (2+p*4+2) (by omega)
 obtain⟨v3,hv3,hf3⟩:=hcs (2+p*4+3) (by omega)
 clear hcs es hmt
 have hw3:Hid (∀ W,W=w2.setCell ⟨k,0,none⟩ (.int .u64 ((q+1:Nat):Int))→Hid (∃ w2,R w2∧(rJ W b (2+p*4) ((t1:Int),c,s,n)).drew=(rJ (w2.setCell ⟨k,0,none⟩ (.int .u64 ((q+1:Nat):Int))) b (2+p*4) ((t1:Int),c,s,n)).drew)):=fun W e=>⟨w2,hr.out,by rw[e]⟩
 have hw3:=hw3.out _ rfl
 generalize w2.setCell ⟨k,0,none⟩ (.int .u64 ((q+1:Nat):Int))=w3 at *
 have gv0:w3.drew.cell? ⟨b,2+p*4,none⟩=some v0:=hv0
 have gv1:w3.drew.cell? ⟨b,2+p*4+1,none⟩=some v1:=hv1
 have gv2:w3.drew.cell? ⟨b,2+p*4+2,none⟩=some v2:=hv2
 have gv3:w3.drew.cell? ⟨b,2+p*4+3,none⟩=some v3:=hv3
 have gf0:w3.drew.frozen? ⟨b,2+p*4,none⟩=false:=hf0
 have gf1:w3.drew.frozen? ⟨b,2+p*4+1,none⟩=false:=hf1
 have gf2:w3.drew.frozen? ⟨b,2+p*4+2,none⟩=false:=hf2
 have gf3:w3.drew.frozen? ⟨b,2+p*4+3,none⟩=false:=hf3
 go_wp2_with fail
 refine ha2.mono ?_
 rintro e w' ⟨rfl,rfl⟩
 go_wp2_with fail
 go_region_with (first | (go_at_call 202;refine (hpl _).mono ?_;rintro e w'' ⟨rfl,hw⟩;have hw:=hw.symm;subst hw))
 go_wp2_with fail
 go_ret2
 exact⟨rfl,hw3⟩
theorem DH.noted {w w1 w2:World} {b:Nat} {U U':List Nat} {L:List R4} {mA mb nn nn' k q:Nat} {D D':DataW Unit} {mt:Int→Option Nat} {c:Int} (s n:Int) (h:DH w b U L mA mb nn D mt)
  (o1:Off [mA] w w1) (m1:Met w1 mA ((L.length+1:Nat):Int) none 0 0 none) (o2:Off [mb] w1 w2) (hU:∀ x,x ∈ U→x ∈ U') (hU':∀ x,x ∈ U'→x ∈ U∨x=k) (kU:k ∈ U') (hk:Met w2 k (q:Nat) none 0 0 none) (hq:q=np L c)
  (map:w2.ownsMap prog 24 uB mb nn' D') (hn':nn'≤L.length+1)
  (hat:∀ x,(Lit.int .i64 x).wf=true→D'.atKey (.int .i64 x) (tr none)=tr (if x=c then some k else mt x)) (hhas:∀ x,has D' (.int .i64 x)=(decide (x=c) || has D (.int .i64 x)))
  (bV:∀ x,x≠c→mt x≠some k) (kb:k≠b) (ka:k≠mA) (km:k≠mb) :
  DH ((rJ (w2.setCell ⟨k,0,none⟩ (.int .u64 ((q+1:Nat):Int))) b (2+L.length % 16*4) (((L.length+1:Nat):Int),c,s,n)).drew) b U' (L ++ [(((L.length+1:Nat):Int),c,s,n)]) mA mb nn' D' (fun x=>if x=c then some k else mt x):=by
 have o3:Off [k] w2 (w2.setCell ⟨k,0,none⟩ (.int .u64 ((q+1:Nat):Int))):=Off.setCell k 0 w2 _
 have m3:=hk.s0 ((q+1:Nat):Int)
 generalize w2.setCell ⟨k,0,none⟩ (.int .u64 ((q+1:Nat):Int))=w3 at *
 have o4:=li w3 b (2+L.length % 16*4) (((L.length+1:Nat):Int),c,s,n)
 have B3:DB w3 b mA mb L:=((h.blk.off o1 (by simp[h.ba])).off o2 (by simp[h.bm])).off o3 (by simp;exact kb.symm)
 have B4:DB (rJ w3 b (2+L.length % 16*4) (((L.length+1:Nat):Int),c,s,n)) b mA mb (L ++ [(((L.length+1:Nat):Int),c,s,n)]):=B3.put _
 generalize rJ w3 b (2+L.length % 16*4) (((L.length+1:Nat):Int),c,s,n)=w4 at *
 have o5:Off [] w4 w4.drew:=Off.drew [] w4
 generalize w4.drew=w5 at *
 have hkb:k ∉ [b]:=by simp;exact kb
 refine⟨B4.off o5 (by simp),?_,?_,?_,hat,?_,?_,?_,?_,hU _ h.bU,hU _ h.aU,hU _ h.mU,h.ba,h.bm,h.am,?_,h.nmb.snoc c s n⟩
 ·have:(((L ++ [(((L.length+1:Nat):Int),c,s,n)]).length:Nat):Int)=((L.length+1:Nat):Int):=by simp
  rw[this]
  exact (((m1.off o2 (by simp[h.am])).off o3 (by simp;exact ka.symm)).off o4 (by simp;exact h.ba.symm)).off o5 (by simp)
 ·exact cX (cX (cX map o3 (by simp;exact km.symm)) o4 (by simp;exact h.bm.symm)) o5 (by simp)
 ·simp;omega
 ·intro x
  rw[hhas,h.has_,iK]
  by_cases e:x=c
  ·subst e;simp
  ·have e':¬ c=x:=fun h=>e h.symm
   simp[e,e']
 ·intro x hx
  by_cases e:x=c
  ·simp[e]at hx
  ·simp only[if_neg e]at hx
   have e':¬ c=x:=fun h=>e h.symm
   rw[iK,h.no x hx];simp[e']
 ·intro x k' hx
  by_cases e:x=c
  ·simp only[if_pos e]at hx
   obtain rfl:k=k':=by simpa using hx
   subst e
   have:np (L ++ [(((L.length+1:Nat):Int),x,s,n)]) x=q+1:=by rw[iK,hq];simp
   rw[this]
   exact⟨(m3.off o4 hkb).off o5 (by simp),by omega,kU,kb,ka,km⟩
  ·simp only[if_neg e]at hx
   obtain⟨y1,y2,y3,y4,y5,y6⟩:=h.yes x k' hx
   have e':¬ c=x:=fun h=>e h.symm
   have:np (L ++ [(((L.length+1:Nat):Int),c,s,n)]) x=np L x:=by rw[iK];simp[e']
   rw[this]
   have hkk:k'≠k:=fun he=>bV x e (he ▸ hx)
   exact⟨((((y1.off o1 (by simp;exact y5)).off o2 (by simp;exact y6)).off o3 (by simp;exact hkk)).off o4 (by simp;exact y4)).off o5 (by simp),y2,hU _ y3,y4,y5,y6⟩
 ·intro x x' k' hx hx'
  by_cases e:x=c
  ·by_cases e':x'=c
   ·rw[e,e']
   ·simp only[if_pos e]at hx
    simp only[if_neg e']at hx'
    obtain rfl:k=k':=by simpa using hx
    exact absurd hx' (bV x' e')
  ·simp only[if_neg e]at hx
   by_cases e':x'=c
   ·simp only[if_pos e']at hx'
    obtain rfl:k=k':=by simpa using hx'
    exact absurd hx (bV x e)
   ·simp only[if_neg e']at hx'
    exact h.one x x' k' hx hx'
 ·intro x hx
  have s5:=o5.size
  have s4:=o4.size
  have s3:=o3.size
  have s2:=o2.size
  have s1:=o1.size
  rcases hU' x hx with hx | rfl
  ·have:=h.ult x hx;omega
  ·have:=m3.lt;omega
theorem me (b:Nat) (U:List Nat) (L:List R4) (c s n:Int) (w:World) (h:DG w b U L) (hn:L.length<999999) (hc:(Lit.int .i64 c).wf=true) (hne:c≠0) :
  Calls prog 168 #[ac b 0,.int .i64 c,.int .u32 s,.int .u32 n] w fun e w'=>e=.returned (.tuple #[.int .i64 ((L.length+1:Nat):Int),.int .i64 0]) ∧
   Hid (∃ U',Off U w w'∧DG w' b U' (L ++ [(((L.length+1:Nat):Int),c,s,n)])∧(∀ x,x ∈ U'→x ∈ U∨w.heap.size≤x)):=by
 obtain⟨mA,mb,nn,D,mt,h⟩:=h
 have ha:=nc L.length 1 mA none none 0 0 w (by omega) (by omega) h.all
 have es:rO L.length 1=L.length+1:=by unfold rO;rw[if_neg (by omega)]
 rw[es]at ha
 have o1:Off [mA] w (w.setCell ⟨mA,0,none⟩ (.int .u64 ((L.length+1:Nat):Int))):=Off.setCell mA 0 w _
 have m1:=h.all.s0 ((L.length+1:Nat):Int)
 have io:(w.setCell ⟨mA,0,none⟩ (.int .u64 ((L.length+1:Nat):Int))).heap.size=w.heap.size:=by simp[World.setCell]
 generalize w.setCell ⟨mA,0,none⟩ (.int .u64 ((L.length+1:Nat):Int))=w1 at *
 have blk1:DB w1 b mA mb L:=h.blk.off o1 (by simp[h.ba])
 have map1:=cX h.map o1 (by simp;exact h.am.symm)
 have hle:=uS L c
 have fields:∀ w2 k (v:Value),k≠b→DB w2 b mA mb L→∀ j,j<66→∃ u,(w2.setCell ⟨k,0,none⟩ v).cell? ⟨b,j,none⟩=some u∧(w2.setCell ⟨k,0,none⟩ v).frozen? ⟨b,j,none⟩=false:=by
  intro w2 k v hk hb j hj
  have hb':=hb.off (Off.setCell k 0 w2 v) (by simp;exact hk.symm)
  obtain⟨u,hu⟩:=hb'.some j hj
  exact⟨u,hu,hb'.fz j⟩
 have look1:(Instr.lookup 204 (.map (some mb)) (.int .i64 c) false).run prog w1=.ok (ptr (mt c)) w1:=by
  obtain⟨v,ps,hrun,hv⟩:=map1.lookup sD underlying204 (xH w1) (zd:=tr none) (zp:=[]) (sP none) (keyOf_int_mk underlying24 hc)
  rw[h.at_ c hc]at hv
  rw[hrun,zb hv]
 cases hm:mt c with
 | some k=>
  obtain⟨y1,y2,y3,y4,y5,y6⟩:=h.yes c k hm
  have hmo:Calls prog 201 #[ac b 0,.int .i64 c] w1 fun e w'=>e=.returned (ac k 0)∧w'=w1:=by
   rw[hm]at look1
   exact pL b mb c k w1 blk1.c1 look1
  refine (oT b mA k (L.length % 16) L.length (np L c) c s n w w1 (fun w2=>w2=w1) hne rfl (by omega) (by omega) h.blk.c0 ha hmo (fun w2 e=>by subst e;exact⟨y1.off o1 (by simp;exact y5),fields w2 k _ y4 blk1⟩)).mono ?_
  rintro e w' ⟨rfl,hw⟩
  refine⟨rfl,?_⟩
  obtain⟨w2,rfl,rfl⟩:=hw.out
  refine⟨U,?_,⟨mA,mb,nn,D,_,h.noted s n o1 m1 (Off.refl _ _) (fun x hx=>hx) (fun x hx=>.inl hx) y3 (y1.off o1 (by simp;exact y5)) rfl map1 (by have:=h.nle;omega) ?_ ?_ ?_ y4 y5 y6⟩,fun x hx=>.inl hx⟩
  ·have o2:Off U w w2:=o1.more (by simp;exact h.aU)
   have o3:Off U w2 (w2.setCell ⟨k,0,none⟩ (.int .u64 ((np L c+1:Nat):Int))):=(Off.setCell k 0 w2 _).more (by simp;exact y3)
   exact ((o2.trans o3).trans ((li _ b _ _).more (by simp;exact h.bU))).trans (Off.drew U _)
  ·intro x hx
   rw[h.at_ x hx]
   by_cases e:x=c
   ·rw[if_pos e,e,hm]
   ·rw[if_neg e]
  ·intro x
   by_cases e:x=c
   ·subst e;rw[h.has_];simp[y2]
   ·simp[e]
  ·intro x hx he
   exact hx (h.one x c k he hm)
 | none=>
  have hmo:Calls prog 201 #[ac b 0,.int .i64 c] w1 fun e w'=>e=.returned (ac w.heap.size 0)∧Hid (Off [mb] w1 w'∧Met w' w.heap.size 0 none 0 0 none∧w'.ownsMap prog 24 uB mb (nn+1) (D.put (.int .i64 c) (tr (some w.heap.size)))):=by
   rw[hm]at look1
   have:=pK b mb nn D c w1 blk1.c1 blk1.lt look1 map1 hc (by have:=h.nle;omega)
   rw[io]at this
   exact this
  have nb:w.heap.size≠b:=by have:=h.blk.lt;omega
  have na:w.heap.size≠mA:=by have:=h.all.lt;omega
  have nm:w.heap.size≠mb:=by have:=h.map.lt;omega
  refine (oT b mA w.heap.size (L.length % 16) L.length 0 c s n w w1 _ hne rfl (by omega) (by omega) h.blk.c0 ha hmo (fun w2 e=>⟨e.out.2.1,fields w2 _ _ nb (blk1.off e.out.1 (by simp[h.bm]))⟩)).mono ?_
  rintro e w' ⟨rfl,hw⟩
  refine⟨rfl,?_⟩
  obtain⟨w2,hr,rfl⟩:=hw.out
  obtain⟨o2,mk,mp⟩:=hr.out
  have h0:=h.no c hm
  refine⟨w.heap.size :: U,?_,⟨mA,mb,nn+1,_,_,h.noted s n o1 m1 o2 (fun x hx=>List.mem_cons_of_mem _ hx) (fun x hx=>by rcases List.mem_cons.1 hx with rfl | hx;exact .inr rfl;exact .inl hx) (List.mem_cons_self ..) mk h0.symm mp (by have:=h.nle;omega) ?_ ?_ ?_ nb na nm⟩,?_⟩
  ·have o2:Off U w w2:=(o1.more (by simp;exact h.aU)).trans (o2.more (by simp;exact h.mU))
   have o3:Off (w.heap.size :: U) w2 (w2.setCell ⟨w.heap.size,0,none⟩ (.int .u64 ((0+1:Nat):Int))):=(Off.setCell w.heap.size 0 w2 _).more (by simp)
   have o4:=(((o2.more (fun x hx=>List.mem_cons_of_mem _ hx)).trans o3).trans ((li _ b (2+L.length % 16*4) (((L.length+1:Nat):Int),c,s,n)).more (by simp;exact .inr h.bU))).trans (Off.drew (w.heap.size :: U) _)
   exact o4.only (fun x hx hlt=>by rcases List.mem_cons.1 hx with rfl | hx;exact absurd hlt (Nat.lt_irrefl _);exact hx)
  ·intro x hx
   have im:IsMap D:=by obtain⟨es,clock,_,_,_,e⟩:=h.map;exact⟨_,e⟩
   by_cases e:x=c
   ·subst e;rw[if_pos rfl,atKey_put_same im (by trivial)]
   ·rw[if_neg e,atKey_put_other (by simpa using e),h.at_ x hx]
  ·intro x
   have im:IsMap D:=by obtain⟨es,clock,_,_,_,e⟩:=h.map;exact⟨_,e⟩
   by_cases e:x=c
   ·subst e;rw[has_put_same im (by trivial)];simp
   ·rw[has_put_other (by simpa using e)];simp[e]
  ·intro x hx he
   have:=h.ult _ (h.yes x _ he).2.2.1
   omega
  ·intro x hx
   rcases List.mem_cons.1 hx with rfl | hx
   ·exact .inr (Nat.le_refl _)
   ·exact .inl hx
structure Gr (U:List Nat) (w:World) (U':List Nat) (w':World):Prop where
 off:Off U w w'
 new:∀ k,k ∈ U'→k ∈ U∨w.heap.size≤k
theorem Gr.refl (U:List Nat) (w:World):Gr U w U w:=⟨Off.refl _ _,fun _ h=>.inl h⟩
theorem Gr.out {U U':List Nat} {w w':World} (h:Gr U w U' w') {k:Nat} (hk:k<w.heap.size) (hn:k ∉ U):k ∉ U':=fun hm=>by
 rcases h.new k hm with h1 | h1
 ·exact hn h1
 ·omega
theorem Gr.trans {U U1 U2:List Nat} {w w1 w2:World} (h:Gr U w U1 w1) (k:Gr U1 w1 U2 w2):Gr U w U2 w2:=by
 refine⟨⟨k.off.os.trans h.off.os,k.off.tape.trans h.off.tape,k.off.output.trans h.off.output,Nat.le_trans h.off.size k.off.size,fun i hi hb=>?_⟩,fun i hi=>?_⟩
 ·exact (k.off.block i (Nat.lt_of_lt_of_le hi h.off.size) (h.out hi hb)).trans (h.off.block i hi hb)
 ·rcases k.new i hi with h1 | h1
  ·exact h.new i h1
  ·exact .inr (Nat.le_trans h.off.size h1)
theorem Gr.same {U:List Nat} {l:List Nat} {w w':World} (h:Off l w w') (hl:∀ k,k ∈ l→k ∈ U):Gr U w U w':=⟨h.more hl,fun _ h=>.inl h⟩
theorem Gr.below {U:List Nat} {w w':World} (h:Below w.heap.size w w'):Gr U w U w':=Gr.same (l:=[]) (Off.of_below h) (by simp)
def jS (P:Pm) (m mx:Nat) (cp:Value) (lb db vb:Nat) (s:Sd) (av:Value):Array Value:=
 #[.int .u32 (P.c:Nat),.int .i64 (P.o:Nat),.int .i64 (P.i:Nat),.int .i64 (P.t:Nat),.int .u32 (P.n:Nat),ac m 0,.int .u32 (mx:Nat),cp,ac lb 0,
  ac db 0,ac vb 0,.int .i64 (s.st:Nat),.int .u32 (s.ss:Nat),.int .u32 (s.nm:Nat),.int .u32 (s.sn:Nat),.int .i64 (s.od:Nat),av,.bool s.hd]
structure Bk where
 c:Nat
 lb:Nat
 db:Nat
 vb:Nat
 vg:Nat
 M:List Nat
 Ul:List Nat
 cp:Value
 av:Value
 col:Nat→Nat
structure DX (w:World) (d m g n mx:Nat) (P:Pm) (U:List Nat) (s:Sd) (B:Bk) (A:Prop):Prop where
 dev:w.heap[d]?=some (.cells (jS P m mx B.cp B.lb B.db B.vb s B.av) 147 (0,0))
 mem:MR w m g n s.ms
 cel:A→B.cp=ac B.c 0∧CS w B.c m mx s.ms.bs false∧s.ms.off=false
 dog:DR w B.db P.t s.dc
 val:VR w B.vb B.vg B.M P.o s.v
 log:DG w B.lb B.Ul s.L
 app:w.ownsRow 0 5 1 B.av P.i (CB s.ap P.i)
 apb:∀ i,i<P.i→s.ap i<256
 ltU:∀ k,k ∈ U→k<w.heap.size
 kd:B.col d=0∧d ∈ U
 km:B.col m=1∧m ∈ U
 kg:B.col g=1∧g ∈ U
 kc:B.col B.c=2∧B.c ∈ U
 kb:B.col B.db=3∧B.db ∈ U
 kv:B.col B.vb=4∧B.vb ∈ U
 kw:B.col B.vg=4∧B.vg ∈ U
 kM:∀ k,k ∈ B.M→B.col k=4∧k ∈ U
 kl:∀ k,k ∈ B.Ul→B.col k=5∧k ∈ U
 ka:∀ k,B.av.ownBlock=some k→B.col k=6∧k ∈ U
 pok:Pok P
 n10:10≤n
 mx0:mx≠0
 mxl:mx<4294967296
def DV (w:World) (d m g n mx:Nat) (P:Pm) (U:List Nat) (s:Sd):Prop:=∃ B,DX w d m g n mx P U s B (s.st≠6)
section
variable {w w':World} {d m g n mx:Nat} {P:Pm} {U:List Nat} {s s':Sd} {B:Bk} {A A':Prop}
theorem DX.dlt (h:DX w d m g n mx P U s B A):d<w.heap.size:=h.ltU d h.kd.2
theorem DX.own (h:DX w d m g n mx P U s B A) (q:Off [d] w w') (e:w'.heap[d]?=some (.cells (jS P m mx B.cp B.lb B.db B.vb s' B.av) 147 (0,0)))
  (h1:s'.ms=s.ms) (h2:s'.dc=s.dc) (h3:s'.v=s.v) (h4:s'.L=s.L) (h5:s'.ap=s.ap) (h6:A'→A):DX w' d m g n mx P U s' B A':=by
 have hn:∀ k,B.col k≠0→k ∉ [d]:=fun k hk hm=>by simp at hm;rw[hm,h.kd.1]at hk;exact hk rfl
 refine⟨e,?_,?_,?_,?_,?_,?_,h5 ▸ h.apb,fun k hk=>Nat.lt_of_lt_of_le (h.ltU k hk) q.size,h.kd,h.km,h.kg,h.kc,h.kb,h.kv,h.kw,h.kM,h.kl,h.ka,h.pok,h.n10,h.mx0,h.mxl⟩
 ·rw[h1];exact h.mem.off q (hn _ (by rw[h.km.1];omega)) (hn _ (by rw[h.kg.1];omega))
 ·intro hs
  obtain⟨c1,c2,c3⟩:=h.cel (h6 hs)
  rw[h1]
  exact⟨c1,c2.off q (hn _ (by rw[h.kc.1];omega)),c3⟩
 ·rw[h2];exact h.dog.off q (hn _ (by rw[h.kb.1];omega))
 ·rw[h3];exact h.val.off q (hn _ (by rw[h.kv.1];omega)) (hn _ (by rw[h.kw.1];omega)) (fun k hk hM=>by simp at hk;subst hk;have:=(h.kM _ hM).1;rw[h.kd.1]at this;omega)
 ·rw[h4];exact h.log.off q (fun k hk=>hn _ (by rw[(h.kl k hk).1];omega))
 ·rw[h5];exact aO h.app q (fun k hk=>hn _ (by rw[(h.ka k hk).1];omega))
theorem DX.dogd (h:DX w d m g n mx P U s B A) (q:Off [B.db] w w') {c:Nat} (e:DR w' B.db P.t c):DX w' d m g n mx P U { s with dc:=c } B A:=by
 have hn:∀ k,B.col k≠3→k ∉ [B.db]:=fun k hk hm=>by simp at hm;rw[hm,h.kb.1]at hk;exact hk rfl
 refine⟨(q.block d h.dlt (hn _ (by rw[h.kd.1];omega))).trans h.dev,?_,?_,e,?_,?_,?_,h.apb,fun k hk=>Nat.lt_of_lt_of_le (h.ltU k hk) q.size,h.kd,h.km,h.kg,h.kc,h.kb,h.kv,h.kw,h.kM,h.kl,h.ka,h.pok,h.n10,h.mx0,h.mxl⟩
 ·exact h.mem.off q (hn _ (by rw[h.km.1];omega)) (hn _ (by rw[h.kg.1];omega))
 ·intro hs
  obtain⟨c1,c2,c3⟩:=h.cel hs
  exact⟨c1,c2.off q (hn _ (by rw[h.kc.1];omega)),c3⟩
 ·exact h.val.off q (hn _ (by rw[h.kv.1];omega)) (hn _ (by rw[h.kw.1];omega)) (fun k hk hM=>by simp at hk;subst hk;have:=(h.kM _ hM).1;rw[h.kb.1]at this;omega)
 ·exact h.log.off q (fun k hk=>hn _ (by rw[(h.kl k hk).1];omega))
 ·exact aO h.app q (fun k hk=>hn _ (by rw[(h.ka k hk).1];omega))
theorem DX.vald (h:DX w d m g n mx P U s B A) (q:Off [B.vb,B.vg] w w') {M:List Nat} {v:Vs} (e:VR w' B.vb B.vg M P.o v) (hM:∀ k,k ∈ M→k ∈ B.M∨w.heap.size≤k) (hl:∀ k,k ∈ M→k<w'.heap.size) :
  ∃ U' B',Gr U w U' w'∧DX w' d m g n mx P U' { s with v:=v } B' A:=by
 have hn:∀ k,B.col k≠4→k ∉ [B.vb,B.vg]:=fun k hk hm=>by simp at hm;rcases hm with hm | hm <;> rw[hm]at hk <;> first | exact hk h.kv.1 | exact hk h.kw.1
 let col':Nat→Nat:=fun k=>if k<w.heap.size then B.col k else 4
 have hc:∀ k x,B.col k=x∧k ∈ U→col' k=x∧k ∈ M ++ U:=fun k x hk=>⟨by show (if k<w.heap.size then B.col k else 4)=x;rw[if_pos (h.ltU k hk.2)];exact hk.1,by simp[hk.2]⟩
 refine⟨M ++ U,{ B with M:=M,col:=col' },⟨q.more (fun k hk=>by simp at hk;rcases hk with rfl | rfl <;> first | exact h.kv.2 | exact h.kw.2),fun k hk=>?_⟩,?_⟩
 ·rcases List.mem_append.1 hk with hk | hk
  ·rcases hM k hk with hk | hk
   ·exact .inl (h.kM k hk).2
   ·exact .inr hk
  ·exact .inl hk
 refine⟨(q.block d h.dlt (hn _ (by rw[h.kd.1];omega))).trans h.dev,?_,?_,?_,e,?_,?_,h.apb,?_,hc _ _ h.kd,hc _ _ h.km,hc _ _ h.kg,hc _ _ h.kc,hc _ _ h.kb,hc _ _ h.kv,hc _ _ h.kw,?_,fun k hk=>hc _ _ (h.kl k hk),fun k hk=>hc _ _ (h.ka k hk),h.pok,h.n10,h.mx0,h.mxl⟩
 ·exact h.mem.off q (hn _ (by rw[h.km.1];omega)) (hn _ (by rw[h.kg.1];omega))
 ·intro hs
  obtain⟨c1,c2,c3⟩:=h.cel hs
  exact⟨c1,c2.off q (hn _ (by rw[h.kc.1];omega)),c3⟩
 ·exact h.dog.off q (hn _ (by rw[h.kb.1];omega))
 ·exact h.log.off q (fun k hk=>hn _ (by rw[(h.kl k hk).1];omega))
 ·exact aO h.app q (fun k hk=>hn _ (by rw[(h.ka k hk).1];omega))
 ·intro k hk
  rcases List.mem_append.1 hk with hk | hk
  ·exact hl k hk
  ·exact Nat.lt_of_lt_of_le (h.ltU k hk) q.size
 ·intro k hk
  rcases hM k hk with hk' | hk'
  ·exact⟨(hc k 4 (h.kM k hk')).1,List.mem_append.2 (.inl hk)⟩
  ·exact⟨by show (if k<w.heap.size then B.col k else 4)=4;rw[if_neg (by omega)],List.mem_append.2 (.inl hk)⟩
theorem DX.vals (h:DX w d m g n mx P U s B A) (q:Off [B.vb,B.vg] w w') {v:Vs} (e:VR w' B.vb B.vg B.M P.o v):∃ U' B',Gr U w U' w'∧DX w' d m g n mx P U' { s with v:=v } B' A:=
 h.vald q e (fun _ hk=>.inl hk) (fun k hk=>Nat.lt_of_lt_of_le (h.ltU k (h.kM k hk).2) q.size)
theorem DG.ult {w:World} {b:Nat} {U:List Nat} {L:List R4} (h:DG w b U L) (k:Nat) (hk:k ∈ U):k<w.heap.size:=by
 obtain⟨mA,mb,nn,D,mt,h⟩:=h
 exact h.ult k hk
theorem DX.logd (h:DX w d m g n mx P U s B A) {V:List Nat} {L:List R4} (q:Off B.Ul w w') (e:DG w' B.lb V L) (hV:∀ k,k ∈ V→k ∈ B.Ul∨w.heap.size≤k) :
  ∃ U' B',Gr U w U' w'∧DX w' d m g n mx P U' { s with L:=L } B' A:=by
 have hV:∀ k,k ∈ V→(k ∈ B.Ul∨w.heap.size≤k)∧k<w'.heap.size:=fun k hk=>⟨hV k hk,e.ult k hk⟩
 have hn:∀ k,B.col k≠5→k ∉ B.Ul:=fun k hk hm=>hk (h.kl k hm).1
 let col':Nat→Nat:=fun k=>if k<w.heap.size then B.col k else 5
 have hc:∀ k x,B.col k=x∧k ∈ U→col' k=x∧k ∈ V ++ U:=fun k x hk=>⟨by show (if k<w.heap.size then B.col k else 5)=x;rw[if_pos (h.ltU k hk.2)];exact hk.1,by simp[hk.2]⟩
 refine⟨V ++ U,{ B with Ul:=V,col:=col' },⟨q.more (fun k hk=>(h.kl k hk).2),fun k hk=>?_⟩,?_⟩
 ·rcases List.mem_append.1 hk with hk | hk
  ·rcases (hV k hk).1 with hk | hk
   ·exact .inl (h.kl k hk).2
   ·exact .inr hk
  ·exact .inl hk
 refine⟨(q.block d h.dlt (hn _ (by rw[h.kd.1];omega))).trans h.dev,?_,?_,?_,?_,e,?_,h.apb,?_,hc _ _ h.kd,hc _ _ h.km,hc _ _ h.kg,hc _ _ h.kc,hc _ _ h.kb,hc _ _ h.kv,hc _ _ h.kw,fun k hk=>hc _ _ (h.kM k hk),?_,fun k hk=>hc _ _ (h.ka k hk),h.pok,h.n10,h.mx0,h.mxl⟩
 ·exact h.mem.off q (hn _ (by rw[h.km.1];omega)) (hn _ (by rw[h.kg.1];omega))
 ·intro hs
  obtain⟨c1,c2,c3⟩:=h.cel hs
  exact⟨c1,c2.off q (hn _ (by rw[h.kc.1];omega)),c3⟩
 ·exact h.dog.off q (hn _ (by rw[h.kb.1];omega))
 ·exact h.val.off q (hn _ (by rw[h.kv.1];omega)) (hn _ (by rw[h.kw.1];omega)) (fun k hk hM=>by have:=(h.kM _ hM).1;rw[(h.kl k hk).1]at this;omega)
 ·exact aO h.app q (fun k hk=>hn _ (by rw[(h.ka k hk).1];omega))
 ·intro k hk
  rcases List.mem_append.1 hk with hk | hk
  ·exact (hV k hk).2
  ·exact Nat.lt_of_lt_of_le (h.ltU k hk) q.size
 ·intro k hk
  rcases (hV k hk).1 with hk' | hk'
  ·exact⟨(hc k 5 (h.kl k hk')).1,List.mem_append.2 (.inl hk)⟩
  ·exact⟨by show (if k<w.heap.size then B.col k else 5)=5;rw[if_neg (by omega)],List.mem_append.2 (.inl hk)⟩
theorem DX.newd (h:DX w d m g n mx P U s B A) (q:Off [] w w'):DX w' d m g n mx P U s B A:=
 ⟨(q.block d h.dlt (by simp)).trans h.dev,h.mem.off q (by simp) (by simp),fun hs=>⟨(h.cel hs).1,(h.cel hs).2.1.off q (by simp),(h.cel hs).2.2⟩,h.dog.off q (by simp),h.val.off q (by simp) (by simp) (by simp),h.log.off q (by simp),aO h.app q (by simp),h.apb,fun k hk=>Nat.lt_of_lt_of_le (h.ltU k hk) q.size,h.kd,h.km,h.kg,h.kc,h.kb,h.kv,h.kw,h.kM,h.kl,h.ka,h.pok,h.n10,h.mx0,h.mxl⟩
theorem DX.cells (h:DX w d m g n mx P U s B A):w.cell? ⟨d,0,none⟩=some (.int .u32 (P.c:Nat))∧w.cell? ⟨d,1,none⟩=some (.int .i64 (P.o:Nat))∧w.cell? ⟨d,2,none⟩=some (.int .i64 (P.i:Nat))∧w.cell? ⟨d,3,none⟩=some (.int .i64 (P.t:Nat)) ∧
  w.cell? ⟨d,4,none⟩=some (.int .u32 (P.n:Nat))∧w.cell? ⟨d,5,none⟩=some (ac m 0)∧w.cell? ⟨d,6,none⟩=some (.int .u32 (mx:Nat))∧w.cell? ⟨d,7,none⟩=some B.cp∧w.cell? ⟨d,8,none⟩=some (ac B.lb 0) ∧
  w.cell? ⟨d,9,none⟩=some (ac B.db 0)∧w.cell? ⟨d,10,none⟩=some (ac B.vb 0)∧w.cell? ⟨d,11,none⟩=some (.int .i64 (s.st:Nat))∧w.cell? ⟨d,12,none⟩=some (.int .u32 (s.ss:Nat)) ∧
  w.cell? ⟨d,13,none⟩=some (.int .u32 (s.nm:Nat))∧w.cell? ⟨d,14,none⟩=some (.int .u32 (s.sn:Nat))∧w.cell? ⟨d,15,none⟩=some (.int .i64 (s.od:Nat))∧w.cell? ⟨d,16,none⟩=some B.av∧w.cell? ⟨d,17,none⟩=some (.bool s.hd):=
 ⟨ae w d 0 _ _ _ h.dev,ae w d 1 _ _ _ h.dev,ae w d 2 _ _ _ h.dev,ae w d 3 _ _ _ h.dev,ae w d 4 _ _ _ h.dev,ae w d 5 _ _ _ h.dev,ae w d 6 _ _ _ h.dev,ae w d 7 _ _ _ h.dev,ae w d 8 _ _ _ h.dev,ae w d 9 _ _ _ h.dev,ae w d 10 _ _ _ h.dev,ae w d 11 _ _ _ h.dev,ae w d 12 _ _ _ h.dev,ae w d 13 _ _ _ h.dev,ae w d 14 _ _ _ h.dev,ae w d 15 _ _ _ h.dev,ae w d 16 _ _ _ h.dev,ae w d 17 _ _ _ h.dev⟩
theorem DX.fz (h:DX w d m g n mx P U s B A) (j:Nat):w.frozen? ⟨d,j,none⟩=false:=frozen_of_row w d j _ _ h.dev
end
end Go.Proofs.YtenilkloffnjlaaGreat
namespace Go.Proofs.YtenilkloffnjlaaGreat
open Tryz
open Go.RowKit
structure Dr where
 d:Nat
 m:Nat
 g:Nat
 n:Nat
 mx:Nat
 P:Pm
 s:Sd
structure Thing where
 U:List Nat
 T:World→Prop
 st:∀ w w' l,T w→Off l w w'→(∀ k,k ∈ U→k ∉ l)→T w'
def pQ:Thing:=⟨[],fun _=>True,fun _ _ _ _ _ _=>trivial⟩
def aJ (t:Nat→Thing) (i:Nat) (x:Thing):Nat→Thing:=fun j=>if j=i then x else t j
theorem al (t:Nat→Thing) (i:Nat) (x:Thing):aJ t i x i=x:=if_pos rfl
theorem an (t:Nat→Thing) {i j:Nat} (x:Thing) (h:j≠i):aJ t i x j=t j:=if_neg h
structure Al (w0 w:World) (t:Nat→Thing):Prop where
 bel:Below w0.heap.size w0 w
 ok:∀ i,(t i).T w
 lt:∀ i k,k ∈ (t i).U→w0.heap.size≤k∧k<w.heap.size
 dis:∀ i j,i≠j→∀ k,k ∈ (t i).U→k ∉ (t j).U
section
variable {w0 w w':World} {t:Nat→Thing}
theorem Al.size (h:Al w0 w t):w0.heap.size≤w.heap.size:=h.bel.size
theorem Al.get (h:Al w0 w t) {i:Nat} {x:Thing} (e:t i=x):x.T w:=e ▸ h.ok i
theorem Al.turn (h:Al w0 w t) (i:Nat) (x:Thing) (o:Off (t i).U w w') (hx:x.T w') (hl:∀ k,k ∈ x.U→w0.heap.size≤k∧k<w'.heap.size) (hd:∀ k,k ∈ x.U→∀ j,j≠i→k ∉ (t j).U):Al w0 w' (aJ t i x) where
 bel:=o.below h.bel (fun k hk=>(h.lt i k hk).1) h.bel.size
 ok:=fun j=>by
  by_cases e:j=i
  ·subst e;rw[al];exact hx
  ·rw[an t x e];exact (t j).st w w' _ (h.ok j) o (h.dis j i e)
 lt:=fun j k hk=>by
  by_cases e:j=i
  ·subst e;rw[al]at hk;exact hl k hk
  ·rw[an t x e]at hk;have:=h.lt j k hk;exact⟨this.1,Nat.lt_of_lt_of_le this.2 o.size⟩
 dis:=fun a b hab k ha hb=>by
  by_cases ea:a=i
  ·subst ea
   rw[al]at ha
   rw[an t x (Ne.symm hab)]at hb
   exact hd k ha b (Ne.symm hab) hb
  ·by_cases eb:b=i
   ·subst eb
    rw[an t x ea]at ha
    rw[al]at hb
    exact hd k hb a ea ha
   ·rw[an t x ea]at ha
    rw[an t x eb]at hb
    exact h.dis a b hab k ha hb
theorem Al.step (h:Al w0 w t) (i:Nat) (x:Thing) {U:List Nat} (hU:(t i).U=U) (g:Gr U w x.U w') (hx:x.T w') (hl:∀ k,k ∈ x.U→k<w'.heap.size):Al w0 w' (aJ t i x):=by
 subst hU
 refine h.turn i x g.off hx (fun k hk=>⟨?_,hl k hk⟩) (fun k hk j hj hm=>?_)
 ·rcases g.new k hk with h1 | h1
  ·exact (h.lt i k h1).1
  ·exact Nat.le_trans h.bel.size h1
 ·exact g.out (h.lt j k hm).2 (h.dis j i hj k hm) hk
theorem Al.below (h:Al w0 w t) (b:Below w.heap.size w w'):Al w0 w' t:=
 ⟨h.bel.trans (b.mono h.bel.size),fun i=>(t i).st w w' [] (h.ok i) (Off.of_below b) (by simp),fun i k hk=>⟨(h.lt i k hk).1,Nat.lt_of_lt_of_le (h.lt i k hk).2 b.size⟩,h.dis⟩
theorem Al.same (h:Al w0 w t) {t':Nat→Thing} (e:∀ i,t' i=t i):Al w0 w t':=by
 have:t'=t:=funext e
 rw[this];exact h
theorem Al.drop (h:Al w0 w t) (i:Nat):Al w0 w (aJ t i pQ):=h.turn i pQ (Off.refl _ _) trivial (fun k hk=>by simp[pQ]at hk) (fun k hk=>by simp[pQ]at hk)
end
end Go.Proofs.YtenilkloffnjlaaGreat
namespace Go.Proofs.YtenilkloffnjlaaGreat
open Tryz
open Go.RowKit
theorem fc (d m g n mx:Nat) (P:Pm) (U:List Nat) (s:Sd) (w:World) (h:DV w d m g n mx P U s) :
  Calls prog 229 #[ac d 9] w fun e w'=>e=.returned (.tuple #[])∧Hid (∃ U',Gr U w U' w'∧DV w' d m g n mx P U' (jJ s)):=by
 obtain⟨B,h⟩:=h
 have o1:=Off.setCell d 15 w (.int .i64 0)
 have h1:=h.own o1 (s':={ s with od:=0 }) (heap_setCell_same _ _ _ _ _ _ h.dev) rfl rfl rfl rfl rfl id
 obtain⟨_,_,_,_,_,_,_,_,_,c9,_,_,_,_,_,c15,_⟩:=h.cells
 have z15:=h.fz 15
 have H:Hid (_):=And.intro h.kd.2 (And.intro o1 h1)
 clear h h1 o1
 go_enter func229,ntmps229
 go_wp2_with fail
 refine (mX _ _ _ _ H.out.2.2.dog).mono ?_
 rintro e w2 ⟨rfl,o2,d2⟩
 have h2:=H.out.2.2.dogd o2 d2
 have c10:=h2.cells.2.2.2.2.2.2.2.2.2.2.1
 have H2:Hid (_):=And.intro (H.out.2.1.more (m:=U) (by simp[H.out.1])) (And.intro (o2.more (m:=U) (by simp[H.out.2.2.kb.2])) h2)
 clear h2 o2 d2 H c9 c15 z15
 go_wp2_with fail
 refine (lD _ _ _ _ _ _ H2.out.2.2.val).mono ?_
 rintro e w3 ⟨rfl,h3⟩
 obtain⟨U',B',g3,x3⟩:=H2.out.2.2.vals h3.out.1 h3.out.2
 have H3:Hid (∃ U',Gr U w U' w3∧DV w3 d m g n mx P U' (jJ s)):=⟨U',(Gr.trans (Gr.trans ⟨H2.out.1,fun _ h=>.inl h⟩ ⟨H2.out.2.1,fun _ h=>.inl h⟩) g3),B',x3⟩
 clear H2 h3 g3 x3 c10
 go_wp2_with fail
 go_end0
 exact⟨rfl,H3⟩
theorem gY (d m g n mx:Nat) (P:Pm) (U:List Nat) (s:Sd) (k:Nat) (w:World) (h:DV w d m g n mx P U s) (hs:s.st≠6) :
  Calls prog 236 #[ac d 9,.int .i64 (k:Nat)] w fun e w'=>e=.returned (.tuple #[])∧Hid (∃ U',Gr U w U' w'∧DV w' d m g n mx P U' (d9 s k)):=by
 obtain⟨B,h⟩:=h
 have c10:=h.cells.2.2.2.2.2.2.2.2.2.2.1
 have H:Hid (_):=h
 clear h
 go_enter func236,ntmps236
 go_wp2_with fail
 refine (gI _ _ _ _ _ _ _ H.out.val).mono ?_
 rintro e w2 ⟨rfl,h2⟩
 obtain⟨U',B',g2,x2⟩:=H.out.vals h2.out.1 h2.out.2
 have o3:=Off.setCell d 12 w2 (.int .u32 0)
 have o4:=o3.trans (Off.setCell d 13 _ (.int .u32 0))
 have o5:=o4.trans (Off.setCell d 14 _ (.int .u32 0))
 have o6:=o5.trans (Off.setCell d 15 _ (.int .i64 0))
 have o7:=o6.trans (Off.setCell d 11 _ (.int .i64 (k:Nat)))
 have x7:=x2.own o7 (A':=(d9 s k).st≠6) (s':=d9 s k) (heap_setCell_same _ _ _ _ _ _ (heap_setCell_same _ _ _ _ _ _ (heap_setCell_same _ _ _ _ _ _ (heap_setCell_same _ _ _ _ _ _ (heap_setCell_same _ _ _ _ _ _ x2.dev))))) rfl rfl rfl rfl rfl (fun _=>hs)
 have H7:Hid (_):=And.intro (Gr.trans g2 (Gr.same o7 (by simp[x2.kd.2]))) x7
 obtain⟨_,_,_,_,_,_,_,_,_,_,_,c11,c12,c13,c14,c15,_⟩:=x2.cells
 have z11:=x2.fz 11
 have z12:=x2.fz 12
 have z13:=x2.fz 13
 have z14:=x2.fz 14
 have z15:=x2.fz 15
 clear H h2 g2 x2 o3 o4 o5 o6 o7 x7 c10
 go_wp2_with fail
 go_end0
 exact⟨rfl,_,H7.out.1,_,H7.out.2⟩
theorem lP (d k:Nat) (w:World) (c11:w.cell? ⟨d,11,none⟩=some (.int .i64 (k:Nat))) :
  Calls prog 235 #[ac d 9] w fun e w'=>e=.returned (.bool (decide (k=2∨k=3∨k=4)))∧w'=w:=by
 go_enter func235,ntmps235
 go_wp2_with fail
 all_goals
  go_ret
  refine⟨congrArg (fun b=>Ending.returned (Value.bool b)) (?_:_=decide (k=2∨k=3∨k=4)),rfl⟩
  rw[Bool.eq_iff_iff]
  simp <;> omega
theorem fp (d:Nat) (w:World) (c11:w.cell? ⟨d,11,none⟩=some (.int .i64 (6:Nat))):Calls prog 140 #[ac d 0] w fun e w'=>e=.returned (.int .i64 70)∧w'=w:=by
 go_enter func140,ntmps140
 go_wp2_with fail
 go_ret
 exact⟨rfl,rfl⟩
theorem ia (d k:Nat) (w:World) (c11:w.cell? ⟨d,11,none⟩=some (.int .i64 (k:Nat))) (h6:k≠6):Calls prog 140 #[ac d 0] w fun e w'=>e=.returned (.int .i64 0)∧w'=w:=by
 have e6:((k:Int)=6)=False:=by simp;omega
 go_enter func140,ntmps140
 go_wp2_with fail
 go_ret
 exact⟨rfl,rfl⟩
theorem kK (d m g n mx:Nat) (P:Pm) (U:List Nat) (s:Sd) (x:Int) (w:World) (h:DV w d m g n mx P U s) (hx:x≠0) (hw:(Lit.int .i64 x).wf=true) (hL:s.L.length<900000) :
  Calls prog 142 #[ac d 0,.int .i64 x] w fun e w'=>e=.returned (.tuple #[])∧Hid (∃ U',Gr U w U' w'∧DV w' d m g n mx P U' (gv s x)):=by
 obtain⟨B,h⟩:=h
 have hd:=h.newd (Off.drew [] w)
 have hC:=me B.lb B.Ul s.L x (s.ss:Nat) (s.nm:Nat) w.drew hd.log (by omega) hw hx
 obtain⟨_,_,_,_,_,_,_,_,c8,_,_,_,c12,c13,_⟩:=h.cells
 have H:Hid (_):=hd
 clear h hd
 go_enter func142,ntmps142
 go_wp2_with fail
 go_region_with (go_at_call 168;refine hC.mono ?_;rintro e w2 ⟨rfl,h2⟩)
 all_goals
  obtain⟨V,o2,L2,hV⟩:=h2.out
  obtain⟨U',B',g3,x3⟩:=H.out.logd o2 L2 hV
  have H3:Hid (∃ U',Gr U w U' w2∧DV w2 d m g n mx P U' (gv s x)):=⟨U',Gr.trans (Gr.same (Off.drew [] w) (by simp)) g3,B',x3⟩
  clear hC H h2 o2 L2 hV g3 x3
  go_wp2_with fail
  go_end0
  exact⟨rfl,H3⟩
theorem fe (d m g n mx:Nat) (P:Pm) (U:List Nat) (s:Sd) (x:Int) (w:World) (h:DV w d m g n mx P U s) (hx:x≠0) (hw:(Lit.int .i64 x).wf=true) (hL:s.L.length<900000) :
  Calls prog 232 #[ac d 0,.int .i64 x] w fun e w'=>e=.returned (.tuple #[])∧Hid (∃ U',Gr U w U' w'∧DV w' d m g n mx P U' (aN s x)):=by
 obtain⟨B,h⟩:=h
 have c10:=h.cells.2.2.2.2.2.2.2.2.2.2.1
 have H:Hid (_):=h
 clear h
 unfold aN
 by_cases ht:gJ s.v x=true
 ·rw[if_pos ht]
  go_enter func232,ntmps232
  go_wp2_with fail
  refine (ic _ _ _ _ _ _ _ H.out.val).mono ?_
  rintro e w2 ⟨rfl,h2⟩
  rw[ht]
  obtain⟨U',B',g2,x2⟩:=H.out.vals h2.out.1 h2.out.2
  have hN:=kK d m g n mx P U' { s with v:=du s.v x } x w2 ⟨B',x2⟩ hx hw hL
  have H2:Hid (_):=g2
  clear H h2 g2 x2 c10
  go_wp2_with (go_at_call 142;refine hN.mono ?_;rintro e w3 ⟨rfl,h3⟩)
  go_end0
  obtain⟨U3,g3,x3⟩:=h3.out
  exact⟨rfl,U3,H2.out.trans g3,x3⟩
 ·rw[if_neg ht]
  have ht':gJ s.v x=false:=by simpa using ht
  go_enter func232,ntmps232
  go_wp2_with fail
  refine (ic _ _ _ _ _ _ _ H.out.val).mono ?_
  rintro e w2 ⟨rfl,h2⟩
  rw[ht']
  obtain⟨U',B',g2,x2⟩:=H.out.vals h2.out.1 h2.out.2
  have H2:Hid (_):=And.intro g2 x2
  clear H h2 g2 x2 c10
  go_wp2_with fail
  go_end0
  exact⟨rfl,U',H2.out.1,B',H2.out.2⟩
end Go.Proofs.YtenilkloffnjlaaGreat
