/- Part 9: contracts that the proof rests on. -/
import Derived.Maps.OwnSet
import Derived.Maps.OwnOps
import Derived.Test.YtdpahjfekoikiaaGreatPkX04
import Derived.Test.YtdpahjfekoikiaaGreatPkX05
import Derived.Test.YtdpahjfekoikiaaGreatPkX07
set_option maxHeartbeats 64000000
set_option maxRecDepth 100000
namespace Go.Proofs.YtdpahjfekoikiaaGreat
open Tryz
open Go.RowKit
structure Pm where
 c:Nat
 o:Nat
 i:Nat
 t:Nat
 n:Nat
structure Pok (P:Pm):Prop where
 ok:iY P.c P.o P.i P.t P.n
 c:P.c<4294967296
 n:P.n<4294967296
theorem Pok.o1 {P:Pm} (h:Pok P):1≤P.o:=by have:=h.ok.2.1;omega
theorem Pok.o8 {P:Pm} (h:Pok P):P.o≤8:=by have:=h.ok.2.1;omega
theorem Pok.i1 {P:Pm} (h:Pok P):1≤P.i:=by have:=h.ok.2.2.1;omega
theorem Pok.i8 {P:Pm} (h:Pok P):P.i≤8:=by have:=h.ok.2.2.1;omega
theorem Pok.t1 {P:Pm} (h:Pok P):1≤P.t:=by have:=h.ok.2.2.2.1;omega
theorem Pok.t2 {P:Pm} (h:Pok P):P.t≤1048576:=by have:=h.ok.2.2.2.1;omega
theorem Pok.n2 {P:Pm} (h:Pok P):2≤P.n:=by have:=h.ok.2.2.2.2;omega
theorem Pok.c0 {P:Pm} (h:Pok P):P.c≠0:=by have:=h.ok.1;omega
structure Sd where
 ms:Ms
 L:List R4
 dc:Nat
 v:Vs
 st:Nat
 ss:Nat
 nm:Nat
 sn:Nat
 od:Nat
 ap:Nat→Nat
 hd:Bool
def fs (s:Sd) (x:Int):Sd:={ s with L:=s.L ++ [(((s.L.length+1:Nat):Int),x,(s.ss:Int),(s.nm:Int))] }
def aq (s:Sd) (x:Int):Sd:=if eB s.v x=true then fs { s with v:=dH s.v x } x else { s with v:=dH s.v x }
def eE (s:Sd):Sd:={ s with od:=0,dc:=0,v:=bJ s.v }
def bB (s:Sd) (k:Nat):Sd:={ s with v:=cC s.v false,ss:=0,nm:=0,sn:=0,od:=0,st:=k }
def gD (s:Sd) (k:Nat):Sd:={ s with dc:=0,v:=ly,st:=k,ss:=0,nm:=0,sn:=0,od:=0,ap:=fun _=>0,hd:=false }
def j8 (s:Sd):Bool:=decide (s.st=2∨s.st=3∨s.st=4)
def aT (s:Sd):Sd:=
 if j8 s=true then
  (if s.od+1<4 then { s with od:=s.od+1 } else bB (if s.st=4 then aq { s with od:=s.od+1 } 131 else { s with od:=s.od+1 }) 1)
 else s
def bG (s:Sd):Nat:=(if aL s.v=true then 0 else 1) + (if bK s.v=true then 2 else 0) + (if s.v.lat=0 then 0 else 4) + (if s.hd=true then 8 else 0)
abbrev Fm:=Nat × (Nat→Nat)
def pR:Fm:=(0,fun _=>0)
def cH (k c s n f len:Nat) (bs:Nat→Nat):Fm:=if LW k c s n f len len=0 then (15+len+4,PM.sl (fr k c s n f len bs) (15+len)) else pR
def bC (P:Pm) (s:Sd) (k num fl len:Nat) (bs:Nat→Nat):Fm:=cH k P.c s.ss num fl len bs
def fq (P:Pm) (s:Sd):Fm:=bC P s 22 0 0 0 (fun _=>0)
def bZ (P:Pm):Nat→Nat:=PM.w4 (PM.K (pe P.c P.o P.i P.t P.n) 14)
def dK (P:Pm) (s:Sd):Fm:=bC P s 17 0 0 4 (bZ P)
def au (P:Pm) (len:Nat) (bs:Nat→Nat):Bool:=decide (BA bs len=BA (bZ P) 4)
structure Rs where
 s:Sd
 f:Fm
 e:Int
def aZ (P:Pm) (mx n:Nat) (s:Sd):Rs:=
 if (nx mx n s.ms.bs false s.ms).e=80 then ⟨bB (aq { s with ms:=(nx mx n s.ms.bs false s.ms).s } 80) 5,fq P (bB (aq { s with ms:=(nx mx n s.ms.bs false s.ms).s } 80) 5),80⟩
 else if (nx mx n s.ms.bs false s.ms).e≠0 then ⟨gD { s with ms:=(nx mx n s.ms.bs false s.ms).s } 6,pR,(nx mx n s.ms.bs false s.ms).e⟩
 else ⟨{ bB { s with ms:=(nx mx n s.ms.bs false s.ms).s } 2 with ss:=(nx mx n s.ms.bs false s.ms).v },dK P { bB { s with ms:=(nx mx n s.ms.bs false s.ms).s } 2 with ss:=(nx mx n s.ms.bs false s.ms).v },0⟩
def aA (P:Pm) (s:Sd) (e:Int):Rs:=⟨aT s,fq P (aT s),e⟩
def bk (P:Pm) (mx n:Nat) (s:Sd):Rs:=
 if (aT s).st=2 then ⟨aT s,dK P (aT s),130⟩ else if (aT s).st=3∨(aT s).st=4 then ⟨aT s,fq P (aT s),130⟩ else aZ P mx n (aT s)
def aM (s:Sd):Sd:=if s.st=2 then eE { s with st:=3 } else s
def bv (s:Sd):Sd:=if s.st=3 then eE { s with st:=4,v:=cC s.v true } else s
def bF (s:Sd) (num fl:Nat) (bs:Nat→Nat):Sd:={ eE { s with nm:=num } with v:=bP (cF (eE { s with nm:=num }).v (decide (8≤fl))) bs,sn:=s.sn+1 }
def dJ (P:Pm) (s:Sd):Sd:={ aq (eE { s with nm:=P.n }) 80 with sn:=P.n }
def iJ (s:Sd):Sd:={ s with v:=cC s.v false,st:=5 }
def aw (P:Pm) (mx n:Nat) (s:Sd) (k ss num fl len:Nat) (bs:Nat→Nat):Rs:=
 if k=1 then (if au P len bs=true then bk P mx n s else aA P s 91)
 else if k=2∧ss=s.ss∧(s.st=2∨s.st=3) then (if au P len bs=true then ⟨aM s,bC P (aM s) 18 0 0 0 (fun _=>0),0⟩ else aA P s 91)
 else if k=3∧ss=s.ss∧(s.st=3∨s.st=4∧s.nm=0) then ⟨bv s,bC P (bv s) 19 0 0 0 (fun _=>0),0⟩
 else if k=4∧(ss=s.ss∧s.st=4∧s.nm<num)∧num<P.n∧len=P.o then ⟨bF s num fl bs,bC P (bF s num fl bs) 20 (s.sn+1) (bG (bF s num fl bs)) P.i s.ap,0⟩
 else if k=5∧(ss=s.ss∧s.st=4∧s.nm<num)∧num=P.n then ⟨iJ (dJ P s),bC P (dJ P s) 21 P.n 0 0 (fun _=>0),0⟩
 else aA P s 130
def bi (P:Pm) (mx n:Nat) (s:Sd) (len:Nat) (bs:Nat→Nat):Rs:=
 if DE bs len≠0 then ⟨s,pR,DE bs len⟩ else if cz (bs 0)=false then ⟨s,pR,43⟩ else if aE bs 1≠P.c then ⟨s,pR,44⟩
 else aw P mx n s (bs 0) (aE bs 5) (aE bs 9) (bs 13) (len-19) (fun i=>bs (15+i))
def aI (P:Pm) (mx n:Nat) (s:Sd) (len:Nat) (bs:Nat→Nat):Rs:=
 if s.st=6 then ⟨s,pR,70⟩
 else if (bi P mx n s len bs).e≠0∧(bi P mx n s len bs).e≠70 then ⟨fs (bi P mx n s len bs).s (bi P mx n s len bs).e,(bi P mx n s len bs).f,(bi P mx n s len bs).e⟩
 else bi P mx n s len bs
def mZ (P:Pm) (s:Sd) (len:Nat):Int:=if s.st=6 then 70 else if len=P.i then 0 else 45
def eG (P:Pm) (s:Sd) (len:Nat) (bs:Nat→Nat) (h:Bool):Sd:=if s.st=6 then s else if len=P.i then { s with ap:=bs,hd:=h } else s
structure Sh where
 L:List R4
 dc:Nat
 v:Vs
 st:Nat
 ss:Nat
 nm:Nat
 sn:Nat
 wt:Bool
 ms:Nat
 ap:Nat→Nat
 hd:Bool
def dR (s:Sh) (x:Int):Sh:={ s with L:=s.L ++ [(((s.L.length+1:Nat):Int),x,(s.ss:Int),(s.nm:Int))] }
def aQ (s:Sh) (x:Int):Sh:=if eB s.v x=true then dR { s with v:=dH s.v x } x else { s with v:=dH s.v x }
def gP (s:Sh):Sh:={ s with wt:=false,ms:=0,dc:=0,v:=bJ s.v }
def eq (s:Sh) (k:Nat):Sh:={ s with v:=cC s.v false,st:=k }
def ft (s:Sh):Sh:={ s with v:=cC s.v false,st:=1,nm:=0,sn:=0,wt:=false,ms:=0 }
def gK (s:Sh):Sh:=eq (aQ s 80) 5
def vL (s:Sh):Sh:={ s with dc:=0,v:=ly,st:=1,ss:=0,nm:=0,sn:=0,wt:=false,ms:=0,ap:=fun _=>0,hd:=false }
def aD (s:Sh):Nat:=(if aL s.v=true then 0 else 1) + (if bK s.v=true then 2 else 0) + (if s.v.lat=0 then 0 else 4) + (if s.hd=true then 8 else 0)
def br (s:Sh):Sh:=
 if s.st=1∨s.wt=false then s else if s.ms+1<4 then { s with ms:=s.ms+1 } else ft (if s.st=4 then aQ { s with ms:=s.ms+1 } 131 else { s with ms:=s.ms+1 })
def aN (P:Pm) (s:Sh):Sh × Fm:=
 if s.st=1 then (s,cH 1 P.c 0 0 0 4 (bZ P))
 else if s.st=2 then (s,cH 2 P.c s.ss 0 0 4 (bZ P))
 else if s.st=3 then (s,cH 3 P.c s.ss 0 0 0 (fun _=>0))
 else if s.sn+1=P.n then (gK { s with sn:=s.sn+1 },cH 5 P.c s.ss (s.sn+1) 0 0 (fun _=>0))
 else ({ s with sn:=s.sn+1 },cH 4 P.c s.ss (s.sn+1) (aD s) P.o s.ap)
def gR (s:Sh):Int:=if s.st=5 then 132 else 0
def aj (P:Pm) (s:Sh):Sh:=if s.st=5 then s else { (aN P (br s)).1 with wt:=true }
def af (P:Pm) (s:Sh):Fm:=if s.st=5 then pR else (aN P (br s)).2
def bc (P:Pm) (s:Sh) (k num len:Nat):Bool:=
 decide (k=18∧s.st=2∨k=19∧s.st=3∨k=20∧((s.st=4∧s.nm<num)∧num<P.n)∧len=P.i∨k=21∧(s.st=4∧s.nm<num)∧num=P.n)
def fU (P:Pm) (s:Sh) (k ss len:Nat) (bs:Nat→Nat):Int:=if k≠17∨ss≤s.ss then 130 else if au P len bs=true then 0 else 91
def bS (P:Pm) (s:Sh) (k c ss num len:Nat) (bs:Nat→Nat):Int:=
 if dB k=false then 43 else if c≠P.c then 44 else if s.st=1 then fU P s k ss len bs else if ss≠s.ss∨bc P s k num len=false then 130 else 0
def a4 (s:Sh) (k ss num fl:Nat) (bs:Nat→Nat):Sh:=
 if k=17 then gP { s with st:=2,ss:=ss }
 else if k=18 then gP { s with st:=3 }
 else if k=19 then gP { s with st:=4,v:=cC s.v true }
 else if k=20 then { gP { s with nm:=num } with v:=bP (cF (bJ s.v) (decide (8≤fl))) bs }
 else if k=21 then gK (gP { s with nm:=num })
 else gP s
def cZ (P:Pm) (s:Sh) (len:Nat) (bs:Nat→Nat):Int:=
 if DE bs len≠0 then DE bs len else bS P s (bs 0) (aE bs 1) (aE bs 5) (aE bs 9) (len-19) (fun i=>bs (15+i))
def cE (P:Pm) (s:Sh) (len:Nat) (bs:Nat→Nat):Sh:=
 if cZ P s len bs≠0 then dR s (cZ P s len bs) else a4 s (bs 0) (aE bs 5) (aE bs 9) (bs 13) (fun i=>bs (15+i))
def nc (P:Pm) (len:Nat):Int:=if len=P.o then 0 else 45
def eH (P:Pm) (s:Sh) (len:Nat) (bs:Nat→Nat) (h:Bool):Sh:=if len=P.o then { s with ap:=bs,hd:=h } else s
def dY:Sh:=⟨[],0,ly,1,0,0,0,false,0,fun _=>0,false⟩
structure Ih (P:Pm) (s:Sh):Prop where
 st1:1≤s.st
 st5:s.st≤5
 ss:s.ss<4294967296
 nm:s.nm<4294967296
 sn:s.sn<4294967296
 ms:s.ms<4
 s4:s.st=2∨s.st=3∨s.st=4→s.ss≠0
 hs:s.st≠4→s.st≠5→s.sn=0∧s.nm=0
 run:s.st=4→s.sn<P.n∧s.nm<P.n
 vr:s.v.run=decide (s.st=4)
 lat5:s.st=5→s.v.lat≠0
def lE (t:Int) (p:Option Addr) (f:Int) (o:Int) (r:Option Addr):Array Value:=#[.int .u64 t,.pointer p,.int .u32 f,.int .u32 o,.pointer r]
structure Met (w:World) (b:Nat) (t:Int) (p:Option Addr) (f:Int) (o:Int) (r:Option Addr):Prop where
 at_:w.heap[b]?=some (.cells (lE t p f o r) 155 (0,0))
theorem Met.lt {w:World} {b:Nat} {t f o:Int} {p r:Option Addr} (h:Met w b t p f o r):b<w.heap.size:=(Array.getElem?_eq_some_iff.1 h.at_).1
theorem Met.c0 {w:World} {b:Nat} {t f o:Int} {p r:Option Addr} (h:Met w b t p f o r):w.cell? ⟨b,0,none⟩=some (.int .u64 t):=ab w b 0 _ _ _ h.at_
theorem Met.fz {w:World} {b:Nat} {t f o:Int} {p r:Option Addr} (h:Met w b t p f o r) (j:Nat):w.frozen? ⟨b,j,none⟩=false:=frozen_of_row w b j _ _ h.at_
theorem Met.off {l:List Nat} {w w':World} {b:Nat} {t f o:Int} {p r:Option Addr} (h:Met w b t p f o r) (k:Off l w w') (hb:b ∉ l):Met w' b t p f o r:=⟨(k.block b h.lt hb).trans h.at_⟩
theorem Met.s0 {w:World} {b:Nat} {t f o:Int} {p r:Option Addr} (h:Met w b t p f o r) (t':Int):Met (w.setCell ⟨b,0,none⟩ (.int .u64 t')) b t' p f o r:=⟨heap_setCell_same _ _ _ _ _ _ h.at_⟩
inductive Pk (M:Nat) (w:World):Option Addr→Option Int→Prop where
 | none:Pk M w none none
 | some (c:Nat) (v:Int) (h:M≤c) (hc:w.heap[c]?=some (.cells #[.int .i64 v] 2 (0,0))):Pk M w (some ⟨c,0,Option.none⟩) (some v)
def mz (a b:Nat):Nat:=if 18446744073709551615-a<b then 18446744073709551615 else a+b
theorem go (w:World) :
  Calls prog 24 #[] w fun e w'=>e=.returned (aa w.heap.size 0)∧w'=w.alloc (.cells (lE 0 none 0 0 none) 155):=by
 go_enter func24,ntmps24
 go_wp2
 go_ret
 exact⟨rfl,rfl⟩
theorem gp (w:World):Met (w.alloc (.cells (lE 0 none 0 0 none) 155)) w.heap.size 0 none 0 0 none:=⟨aB w _⟩
theorem oT (a b:Nat) (w:World) (ha:a<18446744073709551616) (hb:b<18446744073709551616) :
  Calls prog 70 #[.int .u64 a,.int .u64 b] w fun e w'=>e=.returned (.int .u64 (mz a b:Nat))∧w'=w:=by
 have h1:IntKind.u64.wrap (18446744073709551615 - (a:Int))=((18446744073709551615-a:Nat):Int):=by rw[IntKind.wrap_u64];omega
 by_cases hc:18446744073709551615-a<b
 ·have e:mz a b=18446744073709551615:=by unfold mz;rw[if_pos hc]
  rw[e]
  go_enter func70,ntmps70
  go_wp2
  go_ret
  exact⟨rfl,rfl⟩
 ·have e:mz a b=a+b:=by unfold mz;rw[if_neg hc]
  rw[e]
  have h2:IntKind.u64.wrap ((a:Int) + (b:Int))=((a+b:Nat):Int):=by rw[IntKind.wrap_u64];omega
  go_enter func70,ntmps70
  go_wp2
  go_ret
  refine⟨?_,rfl⟩
  first | rfl | (rw[h2]) | simp_all
theorem jp (t n b:Nat) (p r:Option Addr) (f o:Int) (w:World) (ht:t<18446744073709551616) (hn:n<18446744073709551616) (h:Met w b t p f o r) :
  Calls prog 37 #[aa b 0,.int .u64 n] w fun e w'=>e=.returned (.tuple #[.int .u64 (mz t n:Nat),.int .i64 0])∧w'=w.setCell ⟨b,0,none⟩ (.int .u64 (mz t n:Nat)):=by
 have h0:=h.c0
 have hz:=h.fz 0
 have hl:=lw _ _ w h0
 have hs:=oT t n w ht hn
 have hc:=tf ⟨b,0,none⟩ t (mz t n:Nat) w h0 hz
 generalize mz t n=s at *
 go_enter func37,ntmps37
 go_wp2_with fail
 refine wp_loop_once ?_
 go_wp2_with (first | (go_at_call 69;refine hl.mono ?_;rintro e w' ⟨rfl,rfl⟩) | (go_at_call 70;refine hs.mono ?_;rintro e w' ⟨rfl,rfl⟩) | (go_at_call 71;refine hc.mono ?_;rintro e w' ⟨rfl,rfl⟩))
 go_ret2
 exact⟨rfl,rfl⟩
theorem jd (t:Int) (b:Nat) (p r:Option Addr) (f o:Int) (w:World) (h:Met w b t p f o r) :
  Calls prog 47 #[aa b 0] w fun e w'=>e=.returned (.int .u64 t)∧w'=w:=by
 have hl:=lw _ _ w h.c0
 go_enter func47,ntmps47
 go_wp2_with (go_at_call 69;refine hl.mono ?_;rintro e w' ⟨rfl,rfl⟩)
 go_ret
 exact⟨rfl,rfl⟩
theorem pb (w:World):Calls prog 47 #[.pointer none] w fun e w'=>e=.returned (.int .u64 0)∧w'=w:=by
 go_enter func47,ntmps47
 go_wp2_with fail
 go_ret
 exact⟨rfl,rfl⟩
open Go.RowKit Go.Maps
def pp:Value→Option (DataW Unit × List MemPlace)
 | .pointer none=>some (.lit (.int .i64 (-1)),[])
 | .pointer (some ⟨k,0,none⟩)=>some (.lit (.int .i64 k),[])
 | _=>none
def nT:Option Nat→DataW Unit
 | none=>.lit (.int .i64 (-1))
 | some k=>.lit (.int .i64 k)
def vD:Option Nat→Value
 | none=>.pointer none
 | some k=>aa k 0
theorem nv (o:Option Nat):pp (vD o)=some (nT o,[]):=by cases o <;> rfl
theorem mV {o o':Option Nat} (h:nT o=nT o'):o=o':=by
 cases o <;> cases o' <;> simp[nT]at h ⊢
 ·omega
theorem sO {v:Value} {o:Option Nat} {ps:List MemPlace} (h:pp v=some (nT o,ps)):v=vD o:=by
 unfold pp at h
 split at h
 ·simp only[Option.some.injEq,Prod.mk.injEq]at h
  have:=mV (o:=none) (o':=o) h.1
  subst this;rfl
 ·rename_i k
  simp only[Option.some.injEq,Prod.mk.injEq]at h
  have:=mV (o:=some k) (o':=o) h.1
  subst this;rfl
 ·cases h
def DB (w:World) (b mA mb:Nat) (L:List R4):Prop:=
 ∃ cur:Array Value,w.heap[b]?=some (.cells cur 166 (0,0))∧cur.size=66∧cur[0]?=some (aa mA 0)∧cur[1]?=some (.map (some mb)) ∧
  ∀ i (h:i<L.length),L.length≤i+16→∀ f,f<4→cur[2+i % 16*4+f]?=(rv L[i])[f]?
theorem gl {w:World} {b i:Nat} {cur:Array Value} {t:TypeId} {fr:Nat × Nat} {v:Value} (h:w.heap[b]?=some (.cells cur t fr)) (hv:cur[i]?=some v):w.cell? ⟨b,i,none⟩=some v:=by
 simp[World.cell?,h,hv]
theorem DB.lt {w:World} {b mA mb:Nat} {L:List R4} (h:DB w b mA mb L):b<w.heap.size:=by
 obtain⟨cur,h,_⟩:=h;exact (Array.getElem?_eq_some_iff.1 h).1
theorem DB.c0 {w:World} {b mA mb:Nat} {L:List R4} (h:DB w b mA mb L):w.cell? ⟨b,0,none⟩=some (aa mA 0):=by
 obtain⟨cur,h,_,h0,_⟩:=h;exact gl h h0
theorem DB.c1 {w:World} {b mA mb:Nat} {L:List R4} (h:DB w b mA mb L):w.cell? ⟨b,1,none⟩=some (.map (some mb)):=by
 obtain⟨cur,h,_,_,h1,_⟩:=h;exact gl h h1
theorem DB.fz {w:World} {b mA mb:Nat} {L:List R4} (h:DB w b mA mb L) (j:Nat):w.frozen? ⟨b,j,none⟩=false:=by
 obtain⟨cur,h,_⟩:=h;exact frozen_of_row w b j _ _ h
theorem DB.off {l:List Nat} {w w':World} {b mA mb:Nat} {L:List R4} (h:DB w b mA mb L) (k:Off l w w') (hb:b ∉ l):DB w' b mA mb L:=by
 have hl:=h.lt
 obtain⟨cur,h,r⟩:=h;exact⟨cur,(k.block b hl hb).trans h,r⟩
theorem DB.some {w:World} {b mA mb:Nat} {L:List R4} (h:DB w b mA mb L) (j:Nat) (hj:j<66):∃ v,w.cell? ⟨b,j,none⟩=.some v:=by
 obtain⟨cur,h,hs,_⟩:=h
 exact⟨cur[j],gl h (Array.getElem?_eq_getElem (by omega))⟩
theorem DB.put {w:World} {b mA mb:Nat} {L:List R4} (h:DB w b mA mb L) (x:R4) :
  DB ((((w.setCell ⟨b,2+L.length % 16*4,none⟩ (.int .i64 x.1)).setCell ⟨b,2+L.length % 16*4+1,none⟩ (.int .i64 x.2.1)).setCell ⟨b,2+L.length % 16*4+2,none⟩ (.int .u32 x.2.2.1)).setCell ⟨b,2+L.length % 16*4+3,none⟩ (.int .u32 x.2.2.2)) b mA mb (L ++ [x]):=by
 obtain⟨cur,h,hs,h0,h1,hr⟩:=h
 refine⟨_,heap_setCell_same _ _ _ _ _ _ (heap_setCell_same _ _ _ _ _ _ (heap_setCell_same _ _ _ _ _ _ (heap_setCell_same _ _ _ _ _ _ h))),?_,?_,?_,?_⟩
 ·simp[hs]
 ·simp only[Array.getElem?_setIfInBounds]
  rw[if_neg (by omega),if_neg (by omega),if_neg (by omega),if_neg (by omega)];exact h0
 ·simp only[Array.getElem?_setIfInBounds]
  rw[if_neg (by omega),if_neg (by omega),if_neg (by omega),if_neg (by omega)];exact h1
 ·intro i hi h16 f hf
  simp only[List.length_append,List.length_cons,List.length_nil]at hi h16
  simp only[Array.getElem?_setIfInBounds,Array.size_setIfInBounds]
  by_cases hl:i<L.length
  ·rw[List.getElem_append_left hl,if_neg (by omega),if_neg (by omega),if_neg (by omega),if_neg (by omega)]
   exact hr i hl (by omega) f hf
  ·have e:i=L.length:=by omega
   subst e
   have hx:(L ++ [x])[L.length]'(by simp)=x:=by simp
   rw[hx]
   have c:f=0∨f=1∨f=2∨f=3:=by omega
   rcases c with rfl | rfl | rfl | rfl
   ·rw[if_neg (by omega),if_neg (by omega),if_neg (by omega),if_pos (by omega),if_pos (by omega)];rfl
   ·rw[if_neg (by omega),if_neg (by omega),if_pos (by omega),if_pos (by omega)];rfl
   ·rw[if_neg (by omega),if_pos (by omega),if_pos (by omega)];rfl
   ·rw[if_pos (by omega),if_pos (by omega)];rfl
structure DH (w:World) (b:Nat) (U:List Nat) (L:List R4) (mA mb nn:Nat) (D:DataW Unit) (mt:Int→Option Nat):Prop where
 blk:DB w b mA mb L
 all:Met w mA (L.length:Nat) none 0 0 none
 map:w.ownsMap prog 32 pp mb nn D
 nle:nn≤L.length
 at_:∀ c,(Lit.int .i64 c).wf=true→D.atKey (.int .i64 c) (nT none)=nT (mt c)
 has_:∀ c,has D (.int .i64 c)=decide (0<jU L c)
 no:∀ c,mt c=none→jU L c=0
 yes:∀ c k,mt c=some k→Met w k (jU L c:Nat) none 0 0 none∧0<jU L c∧k ∈ U∧k≠b∧k≠mA∧k≠mb
 one:∀ c c' k,mt c=some k→mt c'=some k→c=c'
 bU:b ∈ U
 aU:mA ∈ U
 mU:mb ∈ U
 ba:b≠mA
 bm:b≠mb
 am:mA≠mb
 ult:∀ k,k ∈ U→k<w.heap.size
 nmb:Nmb L
def DG (w:World) (b:Nat) (U:List Nat) (L:List R4):Prop:=∃ mA mb nn D mt,DH w b U L mA mb nn D mt
theorem aK {l:List Nat} {w w':World} {P:Program} {k:TypeId} {R:Value→Option (DataW Unit × List MemPlace)} {b n:Nat} {D:DataW Unit} (h:w.ownsMap P k R b n D) (ho:Off l w w') (hb:b ∉ l):w'.ownsMap P k R b n D:=by
 have hlt:=h.lt
 obtain⟨es,clock,hb',F,hs,hD⟩:=h
 exact⟨es,clock,(ho.block b hlt hb).trans hb',F,hs,hD⟩
theorem DH.off {l:List Nat} {w w':World} {b:Nat} {U:List Nat} {L:List R4} {mA mb nn:Nat} {D:DataW Unit} {mt:Int→Option Nat} (h:DH w b U L mA mb nn D mt) (ho:Off l w w') (hl:∀ k,k ∈ U→k ∉ l):DH w' b U L mA mb nn D mt where
 blk:=h.blk.off ho (hl _ h.bU)
 all:=h.all.off ho (hl _ h.aU)
 map:=aK h.map ho (hl _ h.mU)
 nle:=h.nle
 at_:=h.at_
 has_:=h.has_
 no:=h.no
 yes:=fun c k hk=>by obtain⟨h1,h2,h3,h4⟩:=h.yes c k hk;exact⟨h1.off ho (hl _ h3),h2,h3,h4⟩
 one:=h.one
 bU:=h.bU
 aU:=h.aU
 mU:=h.mU
 ba:=h.ba
 bm:=h.bm
 am:=h.am
 ult:=fun k hk=>Nat.lt_of_lt_of_le (h.ult k hk) ho.size
 nmb:=h.nmb
theorem DG.off {l:List Nat} {w w':World} {b:Nat} {U:List Nat} {L:List R4} (h:DG w b U L) (ho:Off l w w') (hl:∀ k,k ∈ U→k ∉ l):DG w' b U L:=by
 obtain⟨mA,mb,nn,D,mt,h⟩:=h;exact⟨mA,mb,nn,D,mt,h.off ho hl⟩
theorem rI (w:World):(zeroValue 68).run prog w=.ok (.pointer none) w:=by kernel_rfl
theorem nf:Keyed prog 32:=int_keyed underlying32
theorem kW (n p:Nat) (w:World) (hp:p=n % 16) (hn:n<1000000):Calls prog 123 #[.int .i64 ((n+1:Nat):Int)] w fun e w'=>e=.returned (.int .i64 (p:Int))∧w'=w:=by
 have h1:IntKind.i64.wrap (((n+1:Nat):Int)-1)=(n:Int):=by rw[IntKind.wrap_i64];omega
 go_enter func123,ntmps123
 go_wp2
 go_ret
 refine⟨?_,rfl⟩
 show Ending.returned (Value.int IntKind.i64 ((n:Int) % 16))=_
 rw[show ((n:Int) % 16)=(p:Int) from by omega]
def zD:Array Value:=#[.pointer none,.map none] ++ #[.int .i64 0,.int .i64 0,.int .u32 0,.int .u32 0,.int .i64 0,.int .i64 0,.int .u32 0,.int .u32 0,.int .i64 0,.int .i64 0,.int .u32 0,.int .u32 0,.int .i64 0,.int .i64 0,.int .u32 0,.int .u32 0,.int .i64 0,.int .i64 0,.int .u32 0,.int .u32 0,.int .i64 0,.int .i64 0,.int .u32 0,.int .u32 0,.int .i64 0,.int .i64 0,.int .u32 0,.int .u32 0,.int .i64 0,.int .i64 0,.int .u32 0,.int .u32 0,.int .i64 0,.int .i64 0,.int .u32 0,.int .u32 0,.int .i64 0,.int .i64 0,.int .u32 0,.int .u32 0,.int .i64 0,.int .i64 0,.int .u32 0,.int .u32 0,.int .i64 0,.int .i64 0,.int .u32 0,.int .u32 0,.int .i64 0,.int .i64 0,.int .u32 0,.int .u32 0,.int .i64 0,.int .i64 0,.int .u32 0,.int .u32 0,.int .i64 0,.int .i64 0,.int .u32 0,.int .u32 0,.int .i64 0,.int .i64 0,.int .u32 0,.int .u32 0]
theorem vJ (w:World):(zeroValue 166).run prog w=.ok (.agg zD) w:=by kernel_rfl
theorem fG:zD.size=66:=by kernel_rfl
theorem vj:(zD=#[])=False:=by
 refine eq_false fun h=>?_
 have:=congrArg Array.size h
 rw[fG]at this
 simp at this
theorem ui:(zD.size<2)=False:=by rw[fG];simp
theorem ke (w:World):Calls prog 27 #[] w fun e w'=>e=.returned (aa (w.heap.size+2) 0)∧Hid (Below w.heap.size w w'∧w'.heap.size=w.heap.size+3∧DG w' (w.heap.size+2) [w.heap.size,w.heap.size+1,w.heap.size+2] []):=by
 have hmk:=@run_makeMap prog
 have hz:=vJ
 have hz1:=vj
 have hz2:=ui
 go_enter func27,ntmps27
 go_wp2_with (go_at_call 24;refine (go _).mono ?_;rintro e w' ⟨rfl,rfl⟩)
 go_ret
 refine⟨rfl,?_⟩
 generalize hw1:w.alloc (Obj.cells (lE 0 none 0 0 none) 155)=w1
 generalize hw2:w1.alloc (Obj.map #[] 0)=w2
 have s1:w1.heap.size=w.heap.size+1:=by rw[← hw1];simp
 have s2:w2.heap.size=w.heap.size+2:=by rw[← hw2];simp[s1]
 have o1:Off [] w w1:=hw1 ▸ Off.alloc [] w _
 have o2:Off [] w1 w2:=hw2 ▸ Off.alloc [] w1 _
 have o3:∀ o,Off [] w2 (w2.alloc o):=fun o=>Off.alloc [] w2 o
 have m1:Met w1 w.heap.size 0 none 0 0 none:=hw1 ▸ gp w
 have m2:w2.ownsMap prog 32 pp (w.heap.size+1) 0 (.map []):=by
  have:=World.ownsMap_made w1 prog 32 pp
  rw[hw2,s1]at this
  exact this
 clear hz hz1 hz2 hmk
 refine⟨?_,?_,?_⟩
 ·have:=(o1.trans o2).trans (o3 (Obj.cells ((zD.setIfInBounds 0 (aa w.heap.size 0)).setIfInBounds 1 (Value.map (some (w.heap.size+1)))) 166))
  exact this.below (Below.refl _ _) (by simp) (Nat.le_refl _)
 ·simp[s2]
 ·generalize hcs:(zD.setIfInBounds 0 (aa w.heap.size 0)).setIfInBounds 1 (Value.map (some (w.heap.size+1)))=cs
  have hsz:cs.size=66:=by rw[← hcs];simp[fG]
  have h0:cs[0]?=some (aa w.heap.size 0):=by rw[← hcs];simp[fG]
  have h1:cs[1]?=some (Value.map (some (w.heap.size+1))):=by rw[← hcs];simp[fG]
  have hb:(w2.alloc (Obj.cells cs 166)).heap[w.heap.size+2]?=some (.cells cs 166 (0,0)):=by
   have:=aB w2 (Obj.cells cs 166)
   rw[s2]at this
   exact this
  refine⟨w.heap.size,w.heap.size+1,0,.map [],fun _=>none,⟨⟨cs,hb,hsz,h0,h1,fun i h=>by simp at h⟩,(m1.off o2 (by simp)).off (o3 _) (by simp),aK m2 (o3 _) (by simp),Nat.le_refl _,fun c _=>rfl,fun c=>rfl,fun c _=>rfl,fun c k h=>(by cases h),fun c c' k h=>(by cases h),by simp,by simp,by simp,by omega,by omega,by omega,?_,Nmb.nil⟩⟩
  intro k hk
  simp at hk
  simp[s2]
  omega
theorem kQ (b mb:Nat) (c:Int) (k:Nat) (w:World) (h1:w.cell? ⟨b,1,none⟩=some (.map (some mb)))
  (hk:(Instr.lookup 161 (.map (some mb)) (.int .i64 c) false).run prog w=.ok (aa k 0) w) :
  Calls prog 122 #[aa b 0,.int .i64 c] w fun e w'=>e=.returned (aa k 0)∧w'=w:=by
 go_enter func122,ntmps122
 go_wp2_with fail
 go_ret
 exact⟨rfl,rfl⟩
theorem kP (b mb nn:Nat) (D:DataW Unit) (c:Int) (w:World) (h1:w.cell? ⟨b,1,none⟩=some (.map (some mb))) (hlt:b<w.heap.size)
  (hk:(Instr.lookup 161 (.map (some mb)) (.int .i64 c) false).run prog w=.ok (.pointer none) w) (hmap:w.ownsMap prog 32 pp mb nn D) (hc:(Lit.int .i64 c).wf=true) (hn:nn<1000000) :
  Calls prog 122 #[aa b 0,.int .i64 c] w fun e w'=>e=.returned (aa w.heap.size 0)∧Hid (Off [mb] w w'∧Met w' w.heap.size 0 none 0 0 none∧w'.ownsMap prog 32 pp mb (nn+1) (D.put (.int .i64 c) (nT (some w.heap.size)))):=by
 have h1':(w.alloc (.cells (lE 0 none 0 0 none) 155)).cell? ⟨b,1,none⟩=some (.map (some mb)):=(World.cell?_of_block ((Off.alloc [] w _).block b hlt (by simp))).trans h1
 have hmm:(w.alloc (.cells (lE 0 none 0 0 none) 155)).ownsMap prog 32 pp mb nn D:=aK hmap (Off.alloc [] w _) (by simp)
 have hnn:nn<maxLen:=by unfold maxLen;omega
 obtain⟨w2,hrun,hown,hg⟩:=hmm.update nf underlying161 hnn (keyOf_int_mk underlying32 hc) (nv (some w.heap.size))
 change (Instr.mapUpdate 161 (.map (some mb)) (.int .i64 c) (aa w.heap.size 0)).run prog (w.alloc (.cells (lE 0 none 0 0 none) 155))=.ok () w2 at hrun
 have hmb:mb<w.heap.size:=hmap.lt
 have hO:Hid (Off [mb] w w2∧Met w2 w.heap.size 0 none 0 0 none∧w2.ownsMap prog 32 pp mb (nn+1) (D.put (.int .i64 c) (nT (some w.heap.size)))):=by
  have o1:Off [mb] w (w.alloc (.cells (lE 0 none 0 0 none) 155)):=Off.alloc [mb] w _
  have o2:Off [mb] (w.alloc (.cells (lE 0 none 0 0 none) 155)) w2:=⟨hg.os,hg.tape,hg.output,hg.size,fun k hk hb=>hg.block k hk (by simp at hb;simp;exact hb)⟩
  exact⟨o1.trans o2,(gp w).off o2 (by simp;omega),hown⟩
 clear hg hown hmm hmap
 go_enter func122,ntmps122
 go_wp2_with (go_at_call 24;refine (go _).mono ?_;rintro e w' ⟨rfl,rfl⟩)
 go_ret
 exact⟨rfl,hO⟩
def mr (w:World) (b o:Nat) (x:R4):World:=(((w.setCell ⟨b,o,none⟩ (.int .i64 x.1)).setCell ⟨b,o+1,none⟩ (.int .i64 x.2.1)).setCell ⟨b,o+2,none⟩ (.int .u32 x.2.2.1)).setCell ⟨b,o+3,none⟩ (.int .u32 x.2.2.2)
theorem g7 (w:World) (b o:Nat) (x:R4):Off [b] w (mr w b o x):=(((Off.setCell b o w _).trans (Off.setCell b (o+1) _ _)).trans (Off.setCell b (o+2) _ _)).trans (Off.setCell b (o+3) _ _)
theorem kf (b mA k p:Nat) (t q:Nat) (c s n:Int) (w w1:World) (R:World→Prop) (hne:c≠0) (hp:p=t % 16) (ht:t<1000000) (hq:q<1000000)
  (h0:w.cell? ⟨b,0,none⟩=some (aa mA 0))
  (ha:Calls prog 37 #[aa mA 0,.int .u64 1] w fun e w'=>e=.returned (.tuple #[.int .u64 ((t+1:Nat):Int),.int .i64 0])∧w'=w1)
  (hm:Calls prog 122 #[aa b 0,.int .i64 c] w1 fun e w'=>e=.returned (aa k 0)∧R w')
  (hR:∀ w2,R w2→Met w2 k (q:Nat) none 0 0 none∧∀ j,j<66→∃ v,(w2.setCell ⟨k,0,none⟩ (.int .u64 ((q+1:Nat):Int))).cell? ⟨b,j,none⟩=some v∧(w2.setCell ⟨k,0,none⟩ (.int .u64 ((q+1:Nat):Int))).frozen? ⟨b,j,none⟩=false) :
  Calls prog 80 #[aa b 0,.int .i64 c,.int .u32 s,.int .u32 n] w fun e w'=>e=.returned (.tuple #[.int .i64 ((t+1:Nat):Int),.int .i64 0])∧Hid (∃ w2,R w2∧w'=(mr (w2.setCell ⟨k,0,none⟩ (.int .u64 ((q+1:Nat):Int))) b (2+p*4) (((t+1:Nat):Int),c,s,n)).drew):=by
 have hp16:(p:Int)<16:=by omega
 have hb:2+p*4+3<66:=by omega
 have h1:IntKind.i64.wrap ((t+1:Nat):Int)=((t+1:Nat):Int):=by rw[IntKind.wrap_i64];omega
 have hpl:=fun w=>kW t p w hp ht
 have hR:Hid (_):=hR
 clear hp
 generalize t+1=t1 at *
 go_enter func80,ntmps80
 go_wp2_with fail
 refine ha.mono ?_
 rintro e w' ⟨rfl,rfl⟩
 go_wp2_with fail
 refine hm.mono ?_
 rintro e w2 ⟨rfl,hr⟩
 have hr:Hid (_):=hr
 obtain⟨hmt,hcs⟩:=hR.out w2 hr.out
 have ha2:=jp q 1 k none none 0 0 w2 (by omega) (by omega) hmt
 have es:mz q 1=q+1:=by unfold mz;rw[if_neg (by omega)]
 rw[es]at ha2
 obtain⟨v0,hv0,hf0⟩:=hcs (2+p*4) (by omega)
 obtain⟨v1,hv1,hf1⟩:=hcs (2+p*4+1) (by omega)
 obtain⟨v2,hv2,hf2⟩:=hcs (2+p*4+2) (by omega)
 obtain⟨v3,hv3,hf3⟩:=hcs (2+p*4+3) (by omega)
 clear hcs es hmt
 have hw3:Hid (∀ W,W=w2.setCell ⟨k,0,none⟩ (.int .u64 ((q+1:Nat):Int))→Hid (∃ w2,R w2∧(mr W b (2+p*4) ((t1:Int),c,s,n)).drew=(mr (w2.setCell ⟨k,0,none⟩ (.int .u64 ((q+1:Nat):Int))) b (2+p*4) ((t1:Int),c,s,n)).drew)):=fun W e=>⟨w2,hr.out,by rw[e]⟩
 have hw3:=hw3.out _ rfl
 generalize w2.setCell ⟨k,0,none⟩ (.int .u64 ((q+1:Nat):Int))=w3 at *
 have gv0:w3.drew.cell? ⟨b,2+p*4,none⟩=some v0:=hv0
 have gv1:w3.drew.cell? ⟨b,2+p*4+1,none⟩=some v1:=hv1
 have gv2:w3.drew.cell? ⟨b,2+p*4+2,none⟩=some v2:=hv2
 have gv3:w3.drew.cell? ⟨b,2+p*4+3,none⟩=some v3:=hv3
 have gf0:w3.drew.frozen? ⟨b,2+p*4,none⟩=false:=hf0
 have gf1:w3.drew.frozen? ⟨b,2+p*4+1,none⟩=false:=hf1
 have gf2:w3.drew.frozen? ⟨b,2+p*4+2,none⟩=false:=hf2
 have gf3:w3.drew.frozen? ⟨b,2+p*4+3,none⟩=false:=hf3
 go_wp2_with fail
 refine ha2.mono ?_
 rintro e w' ⟨rfl,rfl⟩
 go_wp2_with fail
 go_region_with (first | (go_at_call 123;refine (hpl _).mono ?_;rintro e w'' ⟨rfl,hw⟩;have hw:=hw.symm;subst hw))
 go_wp2_with fail
 go_ret2
 exact⟨rfl,hw3⟩
theorem DH.noted {w w1 w2:World} {b:Nat} {U U':List Nat} {L:List R4} {mA mb nn nn' k q:Nat} {D D':DataW Unit} {mt:Int→Option Nat} {c:Int} (s n:Int) (h:DH w b U L mA mb nn D mt)
  (o1:Off [mA] w w1) (m1:Met w1 mA ((L.length+1:Nat):Int) none 0 0 none) (o2:Off [mb] w1 w2) (hU:∀ x,x ∈ U→x ∈ U') (hU':∀ x,x ∈ U'→x ∈ U∨x=k) (kU:k ∈ U') (hk:Met w2 k (q:Nat) none 0 0 none) (hq:q=jU L c)
  (map:w2.ownsMap prog 32 pp mb nn' D') (hn':nn'≤L.length+1)
  (hat:∀ x,(Lit.int .i64 x).wf=true→D'.atKey (.int .i64 x) (nT none)=nT (if x=c then some k else mt x)) (hhas:∀ x,has D' (.int .i64 x)=(decide (x=c) || has D (.int .i64 x)))
  (dY:∀ x,x≠c→mt x≠some k) (kb:k≠b) (ka:k≠mA) (km:k≠mb) :
  DH ((mr (w2.setCell ⟨k,0,none⟩ (.int .u64 ((q+1:Nat):Int))) b (2+L.length % 16*4) (((L.length+1:Nat):Int),c,s,n)).drew) b U' (L ++ [(((L.length+1:Nat):Int),c,s,n)]) mA mb nn' D' (fun x=>if x=c then some k else mt x):=by
 have o3:Off [k] w2 (w2.setCell ⟨k,0,none⟩ (.int .u64 ((q+1:Nat):Int))):=Off.setCell k 0 w2 _
 have m3:=hk.s0 ((q+1:Nat):Int)
 generalize w2.setCell ⟨k,0,none⟩ (.int .u64 ((q+1:Nat):Int))=w3 at *
 have o4:=g7 w3 b (2+L.length % 16*4) (((L.length+1:Nat):Int),c,s,n)
 have B3:DB w3 b mA mb L:=((h.blk.off o1 (by simp[h.ba])).off o2 (by simp[h.bm])).off o3 (by simp;exact kb.symm)
 have B4:DB (mr w3 b (2+L.length % 16*4) (((L.length+1:Nat):Int),c,s,n)) b mA mb (L ++ [(((L.length+1:Nat):Int),c,s,n)]):=B3.put _
 generalize mr w3 b (2+L.length % 16*4) (((L.length+1:Nat):Int),c,s,n)=w4 at *
 have o5:Off [] w4 w4.drew:=Off.drew [] w4
 generalize w4.drew=w5 at *
 have hkb:k ∉ [b]:=by simp;exact kb
 refine⟨B4.off o5 (by simp),?_,?_,?_,hat,?_,?_,?_,?_,hU _ h.bU,hU _ h.aU,hU _ h.mU,h.ba,h.bm,h.am,?_,h.nmb.snoc c s n⟩
 ·have:(((L ++ [(((L.length+1:Nat):Int),c,s,n)]).length:Nat):Int)=((L.length+1:Nat):Int):=by simp
  rw[this]
  exact (((m1.off o2 (by simp[h.am])).off o3 (by simp;exact ka.symm)).off o4 (by simp;exact h.ba.symm)).off o5 (by simp)
 ·exact aK (aK (aK map o3 (by simp;exact km.symm)) o4 (by simp;exact h.bm.symm)) o5 (by simp)
 ·simp;omega
 ·intro x
  rw[hhas,h.has_,fi]
  by_cases e:x=c
  ·subst e;simp
  ·have e':¬ c=x:=fun h=>e h.symm
   simp[e,e']
 ·intro x hx
  by_cases e:x=c
  ·simp[e]at hx
  ·simp only[if_neg e]at hx
   have e':¬ c=x:=fun h=>e h.symm
   rw[fi,h.no x hx];simp[e']
 ·intro x k' hx
  by_cases e:x=c
  ·simp only[if_pos e]at hx
   obtain rfl:k=k':=by simpa using hx
   subst e
   have:jU (L ++ [(((L.length+1:Nat):Int),x,s,n)]) x=q+1:=by rw[fi,hq];simp
   rw[this]
   exact⟨(m3.off o4 hkb).off o5 (by simp),by omega,kU,kb,ka,km⟩
  ·simp only[if_neg e]at hx
   obtain⟨y1,y2,y3,y4,y5,y6⟩:=h.yes x k' hx
   have e':¬ c=x:=fun h=>e h.symm
   have:jU (L ++ [(((L.length+1:Nat):Int),c,s,n)]) x=jU L x:=by rw[fi];simp[e']
   rw[this]
   have hkk:k'≠k:=fun he=>dY x e (he ▸ hx)
   exact⟨((((y1.off o1 (by simp;exact y5)).off o2 (by simp;exact y6)).off o3 (by simp;exact hkk)).off o4 (by simp;exact y4)).off o5 (by simp),y2,hU _ y3,y4,y5,y6⟩
 ·intro x x' k' hx hx'
  by_cases e:x=c
  ·by_cases e':x'=c
   ·rw[e,e']
   ·simp only[if_pos e]at hx
    simp only[if_neg e']at hx'
    obtain rfl:k=k':=by simpa using hx
    exact absurd hx' (dY x' e')
  ·simp only[if_neg e]at hx
   by_cases e':x'=c
   ·simp only[if_pos e']at hx'
    obtain rfl:k=k':=by simpa using hx'
    exact absurd hx (dY x e)
   ·simp only[if_neg e']at hx'
    exact h.one x x' k' hx hx'
 ·intro x hx
  have s5:=o5.size
  have s4:=o4.size
  have s3:=o3.size
  have s2:=o2.size
  have s1:=o1.size
  rcases hU' x hx with hx | rfl
  ·have:=h.ult x hx;omega
  ·have:=m3.lt;omega
theorem iM (b:Nat) (U:List Nat) (L:List R4) (c s n:Int) (w:World) (h:DG w b U L) (hn:L.length<999999) (hc:(Lit.int .i64 c).wf=true) (hne:c≠0) :
  Calls prog 80 #[aa b 0,.int .i64 c,.int .u32 s,.int .u32 n] w fun e w'=>e=.returned (.tuple #[.int .i64 ((L.length+1:Nat):Int),.int .i64 0]) ∧
   Hid (∃ U',Off U w w'∧DG w' b U' (L ++ [(((L.length+1:Nat):Int),c,s,n)])∧(∀ x,x ∈ U'→x ∈ U∨w.heap.size≤x)):=by
 obtain⟨mA,mb,nn,D,mt,h⟩:=h
 have ha:=jp L.length 1 mA none none 0 0 w (by omega) (by omega) h.all
 have es:mz L.length 1=L.length+1:=by unfold mz;rw[if_neg (by omega)]
 rw[es]at ha
 have o1:Off [mA] w (w.setCell ⟨mA,0,none⟩ (.int .u64 ((L.length+1:Nat):Int))):=Off.setCell mA 0 w _
 have m1:=h.all.s0 ((L.length+1:Nat):Int)
 have sz1:(w.setCell ⟨mA,0,none⟩ (.int .u64 ((L.length+1:Nat):Int))).heap.size=w.heap.size:=by simp[World.setCell]
 generalize w.setCell ⟨mA,0,none⟩ (.int .u64 ((L.length+1:Nat):Int))=w1 at *
 have blk1:DB w1 b mA mb L:=h.blk.off o1 (by simp[h.ba])
 have map1:=aK h.map o1 (by simp;exact h.am.symm)
 have hle:=tI L c
 have fields:∀ w2 k (v:Value),k≠b→DB w2 b mA mb L→∀ j,j<66→∃ u,(w2.setCell ⟨k,0,none⟩ v).cell? ⟨b,j,none⟩=some u∧(w2.setCell ⟨k,0,none⟩ v).frozen? ⟨b,j,none⟩=false:=by
  intro w2 k v hk hb j hj
  have hb':=hb.off (Off.setCell k 0 w2 v) (by simp;exact hk.symm)
  obtain⟨u,hu⟩:=hb'.some j hj
  exact⟨u,hu,hb'.fz j⟩
 have look1:(Instr.lookup 161 (.map (some mb)) (.int .i64 c) false).run prog w1=.ok (vD (mt c)) w1:=by
  obtain⟨v,ps,hrun,hv⟩:=map1.lookup nf underlying161 (rI w1) (zd:=nT none) (zp:=[]) (nv none) (keyOf_int_mk underlying32 hc)
  rw[h.at_ c hc]at hv
  rw[hrun,sO hv]
 cases hm:mt c with
 | some k=>
  obtain⟨y1,y2,y3,y4,y5,y6⟩:=h.yes c k hm
  have hmo:Calls prog 122 #[aa b 0,.int .i64 c] w1 fun e w'=>e=.returned (aa k 0)∧w'=w1:=by
   rw[hm]at look1
   exact kQ b mb c k w1 blk1.c1 look1
  refine (kf b mA k (L.length % 16) L.length (jU L c) c s n w w1 (fun w2=>w2=w1) hne rfl (by omega) (by omega) h.blk.c0 ha hmo (fun w2 e=>by subst e;exact⟨y1.off o1 (by simp;exact y5),fields w2 k _ y4 blk1⟩)).mono ?_
  rintro e w' ⟨rfl,hw⟩
  refine⟨rfl,?_⟩
  obtain⟨w2,rfl,rfl⟩:=hw.out
  refine⟨U,?_,⟨mA,mb,nn,D,_,h.noted s n o1 m1 (Off.refl _ _) (fun x hx=>hx) (fun x hx=>.inl hx) y3 (y1.off o1 (by simp;exact y5)) rfl map1 (by have:=h.nle;omega) ?_ ?_ ?_ y4 y5 y6⟩,fun x hx=>.inl hx⟩
  ·have o2:Off U w w2:=o1.more (by simp;exact h.aU)
   have o3:Off U w2 (w2.setCell ⟨k,0,none⟩ (.int .u64 ((jU L c+1:Nat):Int))):=(Off.setCell k 0 w2 _).more (by simp;exact y3)
   exact ((o2.trans o3).trans ((g7 _ b _ _).more (by simp;exact h.bU))).trans (Off.drew U _)
  ·intro x hx
   rw[h.at_ x hx]
   by_cases e:x=c
   ·rw[if_pos e,e,hm]
   ·rw[if_neg e]
  ·intro x
   by_cases e:x=c
   ·subst e;rw[h.has_];simp[y2]
   ·simp[e]
  ·intro x hx he
   exact hx (h.one x c k he hm)
 | none=>
  have hmo:Calls prog 122 #[aa b 0,.int .i64 c] w1 fun e w'=>e=.returned (aa w.heap.size 0)∧Hid (Off [mb] w1 w'∧Met w' w.heap.size 0 none 0 0 none∧w'.ownsMap prog 32 pp mb (nn+1) (D.put (.int .i64 c) (nT (some w.heap.size)))):=by
   rw[hm]at look1
   have:=kP b mb nn D c w1 blk1.c1 blk1.lt look1 map1 hc (by have:=h.nle;omega)
   rw[sz1]at this
   exact this
  have nb:w.heap.size≠b:=by have:=h.blk.lt;omega
  have na:w.heap.size≠mA:=by have:=h.all.lt;omega
  have nm:w.heap.size≠mb:=by have:=h.map.lt;omega
  refine (kf b mA w.heap.size (L.length % 16) L.length 0 c s n w w1 _ hne rfl (by omega) (by omega) h.blk.c0 ha hmo (fun w2 e=>⟨e.out.2.1,fields w2 _ _ nb (blk1.off e.out.1 (by simp[h.bm]))⟩)).mono ?_
  rintro e w' ⟨rfl,hw⟩
  refine⟨rfl,?_⟩
  obtain⟨w2,hr,rfl⟩:=hw.out
  obtain⟨o2,mk,mp⟩:=hr.out
  have h0:=h.no c hm
  refine⟨w.heap.size :: U,?_,⟨mA,mb,nn+1,_,_,h.noted s n o1 m1 o2 (fun x hx=>List.mem_cons_of_mem _ hx) (fun x hx=>by rcases List.mem_cons.1 hx with rfl | hx;exact .inr rfl;exact .inl hx) (List.mem_cons_self ..) mk h0.symm mp (by have:=h.nle;omega) ?_ ?_ ?_ nb na nm⟩,?_⟩
  ·have o2:Off U w w2:=(o1.more (by simp;exact h.aU)).trans (o2.more (by simp;exact h.mU))
   have o3:Off (w.heap.size :: U) w2 (w2.setCell ⟨w.heap.size,0,none⟩ (.int .u64 ((0+1:Nat):Int))):=(Off.setCell w.heap.size 0 w2 _).more (by simp)
   have o4:=(((o2.more (fun x hx=>List.mem_cons_of_mem _ hx)).trans o3).trans ((g7 _ b (2+L.length % 16*4) (((L.length+1:Nat):Int),c,s,n)).more (by simp;exact .inr h.bU))).trans (Off.drew (w.heap.size :: U) _)
   exact o4.only (fun x hx hlt=>by rcases List.mem_cons.1 hx with rfl | hx;exact absurd hlt (Nat.lt_irrefl _);exact hx)
  ·intro x hx
   have im:IsMap D:=by obtain⟨es,clock,_,_,_,e⟩:=h.map;exact⟨_,e⟩
   by_cases e:x=c
   ·subst e;rw[if_pos rfl,atKey_put_same im (by trivial)]
   ·rw[if_neg e,atKey_put_other (by simpa using e),h.at_ x hx]
  ·intro x
   have im:IsMap D:=by obtain⟨es,clock,_,_,_,e⟩:=h.map;exact⟨_,e⟩
   by_cases e:x=c
   ·subst e;rw[has_put_same im (by trivial)];simp
   ·rw[has_put_other (by simpa using e)];simp[e]
  ·intro x hx he
   have:=h.ult _ (h.yes x _ he).2.2.1
   omega
  ·intro x hx
   rcases List.mem_cons.1 hx with rfl | hx
   ·exact .inr (Nat.le_refl _)
   ·exact .inl hx
structure Gr (U:List Nat) (w:World) (U':List Nat) (w':World):Prop where
 off:Off U w w'
 new:∀ k,k ∈ U'→k ∈ U∨w.heap.size≤k
theorem Gr.refl (U:List Nat) (w:World):Gr U w U w:=⟨Off.refl _ _,fun _ h=>.inl h⟩
theorem Gr.out {U U':List Nat} {w w':World} (h:Gr U w U' w') {k:Nat} (hk:k<w.heap.size) (hn:k ∉ U):k ∉ U':=fun hm=>by
 rcases h.new k hm with h1 | h1
 ·exact hn h1
 ·omega
theorem Gr.trans {U U1 U2:List Nat} {w w1 w2:World} (h:Gr U w U1 w1) (k:Gr U1 w1 U2 w2):Gr U w U2 w2:=by
 refine⟨⟨k.off.os.trans h.off.os,k.off.tape.trans h.off.tape,k.off.output.trans h.off.output,Nat.le_trans h.off.size k.off.size,fun i hi hb=>?_⟩,fun i hi=>?_⟩
 ·exact (k.off.block i (Nat.lt_of_lt_of_le hi h.off.size) (h.out hi hb)).trans (h.off.block i hi hb)
 ·rcases k.new i hi with h1 | h1
  ·exact h.new i h1
  ·exact .inr (Nat.le_trans h.off.size h1)
theorem Gr.same {U:List Nat} {l:List Nat} {w w':World} (h:Off l w w') (hl:∀ k,k ∈ l→k ∈ U):Gr U w U w':=⟨h.more hl,fun _ h=>.inl h⟩
theorem Gr.below {U:List Nat} {w w':World} (h:Below w.heap.size w w'):Gr U w U w':=Gr.same (l:=[]) (Off.of_below h) (by simp)
def iw (P:Pm) (m mx:Nat) (cp:Value) (lb db vb:Nat) (s:Sd) (av:Value):Array Value:=
 #[.int .u32 (P.c:Nat),.int .i64 (P.o:Nat),.int .i64 (P.i:Nat),.int .i64 (P.t:Nat),.int .u32 (P.n:Nat),aa m 0,.int .u32 (mx:Nat),cp,aa lb 0,
  aa db 0,aa vb 0,.int .i64 (s.st:Nat),.int .u32 (s.ss:Nat),.int .u32 (s.nm:Nat),.int .u32 (s.sn:Nat),.int .i64 (s.od:Nat),av,.bool s.hd]
structure Bk where
 c:Nat
 lb:Nat
 db:Nat
 vb:Nat
 vg:Nat
 M:List Nat
 Ul:List Nat
 cp:Value
 av:Value
 col:Nat→Nat
structure DX (w:World) (d m g n mx:Nat) (P:Pm) (U:List Nat) (s:Sd) (B:Bk) (A:Prop):Prop where
 dev:w.heap[d]?=some (.cells (iw P m mx B.cp B.lb B.db B.vb s B.av) 90 (0,0))
 mem:MR w m g n s.ms
 cel:A→B.cp=aa B.c 0∧CS w B.c m mx s.ms.bs false∧s.ms.off=false
 dog:DR w B.db P.t s.dc
 val:VR w B.vb B.vg B.M P.o s.v
 log:DG w B.lb B.Ul s.L
 app:w.ownsRow 0 5 1 B.av P.i (CB s.ap P.i)
 apb:∀ i,i<P.i→s.ap i<256
 ltU:∀ k,k ∈ U→k<w.heap.size
 kd:B.col d=0∧d ∈ U
 km:B.col m=1∧m ∈ U
 kg:B.col g=1∧g ∈ U
 kc:B.col B.c=2∧B.c ∈ U
 kb:B.col B.db=3∧B.db ∈ U
 kv:B.col B.vb=4∧B.vb ∈ U
 kw:B.col B.vg=4∧B.vg ∈ U
 kM:∀ k,k ∈ B.M→B.col k=4∧k ∈ U
 kl:∀ k,k ∈ B.Ul→B.col k=5∧k ∈ U
 ka:∀ k,B.av.ownBlock=some k→B.col k=6∧k ∈ U
 pok:Pok P
 n10:10≤n
 mx0:mx≠0
 mxl:mx<4294967296
def DV (w:World) (d m g n mx:Nat) (P:Pm) (U:List Nat) (s:Sd):Prop:=∃ B,DX w d m g n mx P U s B (s.st≠6)
section
variable {w w':World} {d m g n mx:Nat} {P:Pm} {U:List Nat} {s s':Sd} {B:Bk} {A A':Prop}
theorem DX.dlt (h:DX w d m g n mx P U s B A):d<w.heap.size:=h.ltU d h.kd.2
theorem DX.own (h:DX w d m g n mx P U s B A) (q:Off [d] w w') (e:w'.heap[d]?=some (.cells (iw P m mx B.cp B.lb B.db B.vb s' B.av) 90 (0,0)))
  (h1:s'.ms=s.ms) (h2:s'.dc=s.dc) (h3:s'.v=s.v) (h4:s'.L=s.L) (h5:s'.ap=s.ap) (h6:A'→A):DX w' d m g n mx P U s' B A':=by
 have hn:∀ k,B.col k≠0→k ∉ [d]:=fun k hk hm=>by simp at hm;rw[hm,h.kd.1]at hk;exact hk rfl
 refine⟨e,?_,?_,?_,?_,?_,?_,h5 ▸ h.apb,fun k hk=>Nat.lt_of_lt_of_le (h.ltU k hk) q.size,h.kd,h.km,h.kg,h.kc,h.kb,h.kv,h.kw,h.kM,h.kl,h.ka,h.pok,h.n10,h.mx0,h.mxl⟩
 ·rw[h1];exact h.mem.off q (hn _ (by rw[h.km.1];omega)) (hn _ (by rw[h.kg.1];omega))
 ·intro hs
  obtain⟨c1,c2,c3⟩:=h.cel (h6 hs)
  rw[h1]
  exact⟨c1,c2.off q (hn _ (by rw[h.kc.1];omega)),c3⟩
 ·rw[h2];exact h.dog.off q (hn _ (by rw[h.kb.1];omega))
 ·rw[h3];exact h.val.off q (hn _ (by rw[h.kv.1];omega)) (hn _ (by rw[h.kw.1];omega)) (fun k hk hM=>by simp at hk;subst hk;have:=(h.kM _ hM).1;rw[h.kd.1]at this;omega)
 ·rw[h4];exact h.log.off q (fun k hk=>hn _ (by rw[(h.kl k hk).1];omega))
 ·rw[h5];exact an h.app q (fun k hk=>hn _ (by rw[(h.ka k hk).1];omega))
theorem DX.dogd (h:DX w d m g n mx P U s B A) (q:Off [B.db] w w') {c:Nat} (e:DR w' B.db P.t c):DX w' d m g n mx P U { s with dc:=c } B A:=by
 have hn:∀ k,B.col k≠3→k ∉ [B.db]:=fun k hk hm=>by simp at hm;rw[hm,h.kb.1]at hk;exact hk rfl
 refine⟨(q.block d h.dlt (hn _ (by rw[h.kd.1];omega))).trans h.dev,?_,?_,e,?_,?_,?_,h.apb,fun k hk=>Nat.lt_of_lt_of_le (h.ltU k hk) q.size,h.kd,h.km,h.kg,h.kc,h.kb,h.kv,h.kw,h.kM,h.kl,h.ka,h.pok,h.n10,h.mx0,h.mxl⟩
 ·exact h.mem.off q (hn _ (by rw[h.km.1];omega)) (hn _ (by rw[h.kg.1];omega))
 ·intro hs
  obtain⟨c1,c2,c3⟩:=h.cel hs
  exact⟨c1,c2.off q (hn _ (by rw[h.kc.1];omega)),c3⟩
 ·exact h.val.off q (hn _ (by rw[h.kv.1];omega)) (hn _ (by rw[h.kw.1];omega)) (fun k hk hM=>by simp at hk;subst hk;have:=(h.kM _ hM).1;rw[h.kb.1]at this;omega)
 ·exact h.log.off q (fun k hk=>hn _ (by rw[(h.kl k hk).1];omega))
 ·exact an h.app q (fun k hk=>hn _ (by rw[(h.ka k hk).1];omega))
theorem DX.vald (h:DX w d m g n mx P U s B A) (q:Off [B.vb,B.vg] w w') {M:List Nat} {v:Vs} (e:VR w' B.vb B.vg M P.o v) (hM:∀ k,k ∈ M→k ∈ B.M∨w.heap.size≤k) (hl:∀ k,k ∈ M→k<w'.heap.size) :
  ∃ U' B',Gr U w U' w'∧DX w' d m g n mx P U' { s with v:=v } B' A:=by
 have hn:∀ k,B.col k≠4→k ∉ [B.vb,B.vg]:=fun k hk hm=>by simp at hm;rcases hm with hm | hm <;> rw[hm]at hk <;> first | exact hk h.kv.1 | exact hk h.kw.1
 let col':Nat→Nat:=fun k=>if k<w.heap.size then B.col k else 4
 have hc:∀ k x,B.col k=x∧k ∈ U→col' k=x∧k ∈ M ++ U:=fun k x hk=>⟨by show (if k<w.heap.size then B.col k else 4)=x;rw[if_pos (h.ltU k hk.2)];exact hk.1,by simp[hk.2]⟩
 refine⟨M ++ U,{ B with M:=M,col:=col' },⟨q.more (fun k hk=>by simp at hk;rcases hk with rfl | rfl <;> first | exact h.kv.2 | exact h.kw.2),fun k hk=>?_⟩,?_⟩
 ·rcases List.mem_append.1 hk with hk | hk
  ·rcases hM k hk with hk | hk
   ·exact .inl (h.kM k hk).2
   ·exact .inr hk
  ·exact .inl hk
 refine⟨(q.block d h.dlt (hn _ (by rw[h.kd.1];omega))).trans h.dev,?_,?_,?_,e,?_,?_,h.apb,?_,hc _ _ h.kd,hc _ _ h.km,hc _ _ h.kg,hc _ _ h.kc,hc _ _ h.kb,hc _ _ h.kv,hc _ _ h.kw,?_,fun k hk=>hc _ _ (h.kl k hk),fun k hk=>hc _ _ (h.ka k hk),h.pok,h.n10,h.mx0,h.mxl⟩
 ·exact h.mem.off q (hn _ (by rw[h.km.1];omega)) (hn _ (by rw[h.kg.1];omega))
 ·intro hs
  obtain⟨c1,c2,c3⟩:=h.cel hs
  exact⟨c1,c2.off q (hn _ (by rw[h.kc.1];omega)),c3⟩
 ·exact h.dog.off q (hn _ (by rw[h.kb.1];omega))
 ·exact h.log.off q (fun k hk=>hn _ (by rw[(h.kl k hk).1];omega))
 ·exact an h.app q (fun k hk=>hn _ (by rw[(h.ka k hk).1];omega))
 ·intro k hk
  rcases List.mem_append.1 hk with hk | hk
  ·exact hl k hk
  ·exact Nat.lt_of_lt_of_le (h.ltU k hk) q.size
 ·intro k hk
  rcases hM k hk with hk' | hk'
  ·exact⟨(hc k 4 (h.kM k hk')).1,List.mem_append.2 (.inl hk)⟩
  ·exact⟨by show (if k<w.heap.size then B.col k else 4)=4;rw[if_neg (by omega)],List.mem_append.2 (.inl hk)⟩
theorem DX.vals (h:DX w d m g n mx P U s B A) (q:Off [B.vb,B.vg] w w') {v:Vs} (e:VR w' B.vb B.vg B.M P.o v):∃ U' B',Gr U w U' w'∧DX w' d m g n mx P U' { s with v:=v } B' A:=
 h.vald q e (fun _ hk=>.inl hk) (fun k hk=>Nat.lt_of_lt_of_le (h.ltU k (h.kM k hk).2) q.size)
theorem DG.ult {w:World} {b:Nat} {U:List Nat} {L:List R4} (h:DG w b U L) (k:Nat) (hk:k ∈ U):k<w.heap.size:=by
 obtain⟨mA,mb,nn,D,mt,h⟩:=h
 exact h.ult k hk
theorem DX.logd (h:DX w d m g n mx P U s B A) {V:List Nat} {L:List R4} (q:Off B.Ul w w') (e:DG w' B.lb V L) (hV:∀ k,k ∈ V→k ∈ B.Ul∨w.heap.size≤k) :
  ∃ U' B',Gr U w U' w'∧DX w' d m g n mx P U' { s with L:=L } B' A:=by
 have hV:∀ k,k ∈ V→(k ∈ B.Ul∨w.heap.size≤k)∧k<w'.heap.size:=fun k hk=>⟨hV k hk,e.ult k hk⟩
 have hn:∀ k,B.col k≠5→k ∉ B.Ul:=fun k hk hm=>hk (h.kl k hm).1
 let col':Nat→Nat:=fun k=>if k<w.heap.size then B.col k else 5
 have hc:∀ k x,B.col k=x∧k ∈ U→col' k=x∧k ∈ V ++ U:=fun k x hk=>⟨by show (if k<w.heap.size then B.col k else 5)=x;rw[if_pos (h.ltU k hk.2)];exact hk.1,by simp[hk.2]⟩
 refine⟨V ++ U,{ B with Ul:=V,col:=col' },⟨q.more (fun k hk=>(h.kl k hk).2),fun k hk=>?_⟩,?_⟩
 ·rcases List.mem_append.1 hk with hk | hk
  ·rcases (hV k hk).1 with hk | hk
   ·exact .inl (h.kl k hk).2
   ·exact .inr hk
  ·exact .inl hk
 refine⟨(q.block d h.dlt (hn _ (by rw[h.kd.1];omega))).trans h.dev,?_,?_,?_,?_,e,?_,h.apb,?_,hc _ _ h.kd,hc _ _ h.km,hc _ _ h.kg,hc _ _ h.kc,hc _ _ h.kb,hc _ _ h.kv,hc _ _ h.kw,fun k hk=>hc _ _ (h.kM k hk),?_,fun k hk=>hc _ _ (h.ka k hk),h.pok,h.n10,h.mx0,h.mxl⟩
 ·exact h.mem.off q (hn _ (by rw[h.km.1];omega)) (hn _ (by rw[h.kg.1];omega))
 ·intro hs
  obtain⟨c1,c2,c3⟩:=h.cel hs
  exact⟨c1,c2.off q (hn _ (by rw[h.kc.1];omega)),c3⟩
 ·exact h.dog.off q (hn _ (by rw[h.kb.1];omega))
 ·exact h.val.off q (hn _ (by rw[h.kv.1];omega)) (hn _ (by rw[h.kw.1];omega)) (fun k hk hM=>by have:=(h.kM _ hM).1;rw[(h.kl k hk).1]at this;omega)
 ·exact an h.app q (fun k hk=>hn _ (by rw[(h.ka k hk).1];omega))
 ·intro k hk
  rcases List.mem_append.1 hk with hk | hk
  ·exact (hV k hk).2
  ·exact Nat.lt_of_lt_of_le (h.ltU k hk) q.size
 ·intro k hk
  rcases (hV k hk).1 with hk' | hk'
  ·exact⟨(hc k 5 (h.kl k hk')).1,List.mem_append.2 (.inl hk)⟩
  ·exact⟨by show (if k<w.heap.size then B.col k else 5)=5;rw[if_neg (by omega)],List.mem_append.2 (.inl hk)⟩
theorem DX.newd (h:DX w d m g n mx P U s B A) (q:Off [] w w'):DX w' d m g n mx P U s B A:=
 ⟨(q.block d h.dlt (by simp)).trans h.dev,h.mem.off q (by simp) (by simp),fun hs=>⟨(h.cel hs).1,(h.cel hs).2.1.off q (by simp),(h.cel hs).2.2⟩,h.dog.off q (by simp),h.val.off q (by simp) (by simp) (by simp),h.log.off q (by simp),an h.app q (by simp),h.apb,fun k hk=>Nat.lt_of_lt_of_le (h.ltU k hk) q.size,h.kd,h.km,h.kg,h.kc,h.kb,h.kv,h.kw,h.kM,h.kl,h.ka,h.pok,h.n10,h.mx0,h.mxl⟩
theorem DX.cells (h:DX w d m g n mx P U s B A):w.cell? ⟨d,0,none⟩=some (.int .u32 (P.c:Nat))∧w.cell? ⟨d,1,none⟩=some (.int .i64 (P.o:Nat))∧w.cell? ⟨d,2,none⟩=some (.int .i64 (P.i:Nat))∧w.cell? ⟨d,3,none⟩=some (.int .i64 (P.t:Nat)) ∧
  w.cell? ⟨d,4,none⟩=some (.int .u32 (P.n:Nat))∧w.cell? ⟨d,5,none⟩=some (aa m 0)∧w.cell? ⟨d,6,none⟩=some (.int .u32 (mx:Nat))∧w.cell? ⟨d,7,none⟩=some B.cp∧w.cell? ⟨d,8,none⟩=some (aa B.lb 0) ∧
  w.cell? ⟨d,9,none⟩=some (aa B.db 0)∧w.cell? ⟨d,10,none⟩=some (aa B.vb 0)∧w.cell? ⟨d,11,none⟩=some (.int .i64 (s.st:Nat))∧w.cell? ⟨d,12,none⟩=some (.int .u32 (s.ss:Nat)) ∧
  w.cell? ⟨d,13,none⟩=some (.int .u32 (s.nm:Nat))∧w.cell? ⟨d,14,none⟩=some (.int .u32 (s.sn:Nat))∧w.cell? ⟨d,15,none⟩=some (.int .i64 (s.od:Nat))∧w.cell? ⟨d,16,none⟩=some B.av∧w.cell? ⟨d,17,none⟩=some (.bool s.hd):=
 ⟨ab w d 0 _ _ _ h.dev,ab w d 1 _ _ _ h.dev,ab w d 2 _ _ _ h.dev,ab w d 3 _ _ _ h.dev,ab w d 4 _ _ _ h.dev,ab w d 5 _ _ _ h.dev,ab w d 6 _ _ _ h.dev,ab w d 7 _ _ _ h.dev,ab w d 8 _ _ _ h.dev,ab w d 9 _ _ _ h.dev,ab w d 10 _ _ _ h.dev,ab w d 11 _ _ _ h.dev,ab w d 12 _ _ _ h.dev,ab w d 13 _ _ _ h.dev,ab w d 14 _ _ _ h.dev,ab w d 15 _ _ _ h.dev,ab w d 16 _ _ _ h.dev,ab w d 17 _ _ _ h.dev⟩
theorem DX.fz (h:DX w d m g n mx P U s B A) (j:Nat):w.frozen? ⟨d,j,none⟩=false:=frozen_of_row w d j _ _ h.dev
end
end Go.Proofs.YtdpahjfekoikiaaGreat
namespace Go.Proofs.YtdpahjfekoikiaaGreat
open Tryz
open Go.RowKit
theorem dC (d m g n mx:Nat) (P:Pm) (U:List Nat) (s:Sd) (w:World) (h:DV w d m g n mx P U s) :
  Calls prog 181 #[aa d 9] w fun e w'=>e=.returned (.tuple #[])∧Hid (∃ U',Gr U w U' w'∧DV w' d m g n mx P U' (eE s)):=by
 obtain⟨B,h⟩:=h
 have o1:=Off.setCell d 15 w (.int .i64 0)
 have h1:=h.own o1 (s':={ s with od:=0 }) (heap_setCell_same _ _ _ _ _ _ h.dev) rfl rfl rfl rfl rfl id
 obtain⟨_,_,_,_,_,_,_,_,_,c9,_,_,_,_,_,c15,_⟩:=h.cells
 have z15:=h.fz 15
 have H:Hid (_):=And.intro h.kd.2 (And.intro o1 h1)
 clear h h1 o1
 go_enter func181,ntmps181
 go_wp2_with fail
 refine (jj _ _ _ _ H.out.2.2.dog).mono ?_
 rintro e w2 ⟨rfl,o2,d2⟩
 have h2:=H.out.2.2.dogd o2 d2
 have c10:=h2.cells.2.2.2.2.2.2.2.2.2.2.1
 have H2:Hid (_):=And.intro (H.out.2.1.more (m:=U) (by simp[H.out.1])) (And.intro (o2.more (m:=U) (by simp[H.out.2.2.kb.2])) h2)
 clear h2 o2 d2 H c9 c15 z15
 go_wp2_with fail
 refine (ip _ _ _ _ _ _ H2.out.2.2.val).mono ?_
 rintro e w3 ⟨rfl,h3⟩
 obtain⟨U',B',g3,x3⟩:=H2.out.2.2.vals h3.out.1 h3.out.2
 have H3:Hid (∃ U',Gr U w U' w3∧DV w3 d m g n mx P U' (eE s)):=⟨U',(Gr.trans (Gr.trans ⟨H2.out.1,fun _ h=>.inl h⟩ ⟨H2.out.2.1,fun _ h=>.inl h⟩) g3),B',x3⟩
 clear H2 h3 g3 x3 c10
 go_wp2_with fail
 go_end0
 exact⟨rfl,H3⟩
theorem eJ (d m g n mx:Nat) (P:Pm) (U:List Nat) (s:Sd) (k:Nat) (w:World) (h:DV w d m g n mx P U s) (hs:s.st≠6) :
  Calls prog 206 #[aa d 9,.int .i64 (k:Nat)] w fun e w'=>e=.returned (.tuple #[])∧Hid (∃ U',Gr U w U' w'∧DV w' d m g n mx P U' (bB s k)):=by
 obtain⟨B,h⟩:=h
 have c10:=h.cells.2.2.2.2.2.2.2.2.2.2.1
 have H:Hid (_):=h
 clear h
 go_enter func206,ntmps206
 go_wp2_with fail
 refine (eA _ _ _ _ _ _ _ H.out.val).mono ?_
 rintro e w2 ⟨rfl,h2⟩
 obtain⟨U',B',g2,x2⟩:=H.out.vals h2.out.1 h2.out.2
 have o3:=Off.setCell d 12 w2 (.int .u32 0)
 have o4:=o3.trans (Off.setCell d 13 _ (.int .u32 0))
 have o5:=o4.trans (Off.setCell d 14 _ (.int .u32 0))
 have o6:=o5.trans (Off.setCell d 15 _ (.int .i64 0))
 have o7:=o6.trans (Off.setCell d 11 _ (.int .i64 (k:Nat)))
 have x7:=x2.own o7 (A':=(bB s k).st≠6) (s':=bB s k) (heap_setCell_same _ _ _ _ _ _ (heap_setCell_same _ _ _ _ _ _ (heap_setCell_same _ _ _ _ _ _ (heap_setCell_same _ _ _ _ _ _ (heap_setCell_same _ _ _ _ _ _ x2.dev))))) rfl rfl rfl rfl rfl (fun _=>hs)
 have H7:Hid (_):=And.intro (Gr.trans g2 (Gr.same o7 (by simp[x2.kd.2]))) x7
 obtain⟨_,_,_,_,_,_,_,_,_,_,_,c11,c12,c13,c14,c15,_⟩:=x2.cells
 have z11:=x2.fz 11
 have z12:=x2.fz 12
 have z13:=x2.fz 13
 have z14:=x2.fz 14
 have z15:=x2.fz 15
 clear H h2 g2 x2 o3 o4 o5 o6 o7 x7 c10
 go_wp2_with fail
 go_end0
 exact⟨rfl,_,H7.out.1,_,H7.out.2⟩
theorem iD (d k:Nat) (w:World) (c11:w.cell? ⟨d,11,none⟩=some (.int .i64 (k:Nat))) :
  Calls prog 205 #[aa d 9] w fun e w'=>e=.returned (.bool (decide (k=2∨k=3∨k=4)))∧w'=w:=by
 go_enter func205,ntmps205
 go_wp2_with fail
 all_goals
  go_ret
  refine⟨congrArg (fun b=>Ending.returned (Value.bool b)) (?_:_=decide (k=2∨k=3∨k=4)),rfl⟩
  rw[Bool.eq_iff_iff]
  simp <;> omega
theorem fX (d:Nat) (w:World) (c11:w.cell? ⟨d,11,none⟩=some (.int .i64 (6:Nat))):Calls prog 32 #[aa d 0] w fun e w'=>e=.returned (.int .i64 70)∧w'=w:=by
 go_enter func32,ntmps32
 go_wp2_with fail
 go_ret
 exact⟨rfl,rfl⟩
theorem i6 (d k:Nat) (w:World) (c11:w.cell? ⟨d,11,none⟩=some (.int .i64 (k:Nat))) (h6:k≠6):Calls prog 32 #[aa d 0] w fun e w'=>e=.returned (.int .i64 0)∧w'=w:=by
 have e6:((k:Int)=6)=False:=by simp;omega
 go_enter func32,ntmps32
 go_wp2_with fail
 go_ret
 exact⟨rfl,rfl⟩
theorem gG (d m g n mx:Nat) (P:Pm) (U:List Nat) (s:Sd) (x:Int) (w:World) (h:DV w d m g n mx P U s) (hx:x≠0) (hw:(Lit.int .i64 x).wf=true) (hL:s.L.length<900000) :
  Calls prog 73 #[aa d 0,.int .i64 x] w fun e w'=>e=.returned (.tuple #[])∧Hid (∃ U',Gr U w U' w'∧DV w' d m g n mx P U' (fs s x)):=by
 obtain⟨B,h⟩:=h
 have hd:=h.newd (Off.drew [] w)
 have hC:=iM B.lb B.Ul s.L x (s.ss:Nat) (s.nm:Nat) w.drew hd.log (by omega) hw hx
 obtain⟨_,_,_,_,_,_,_,_,c8,_,_,_,c12,c13,_⟩:=h.cells
 have H:Hid (_):=hd
 clear h hd
 go_enter func73,ntmps73
 go_wp2_with fail
 go_region_with (go_at_call 80;refine hC.mono ?_;rintro e w2 ⟨rfl,h2⟩)
 all_goals
  obtain⟨V,o2,L2,hV⟩:=h2.out
  obtain⟨U',B',g3,x3⟩:=H.out.logd o2 L2 hV
  have H3:Hid (∃ U',Gr U w U' w2∧DV w2 d m g n mx P U' (fs s x)):=⟨U',Gr.trans (Gr.same (Off.drew [] w) (by simp)) g3,B',x3⟩
  clear hC H h2 o2 L2 hV g3 x3
  go_wp2_with fail
  go_end0
  exact⟨rfl,H3⟩
theorem ek (d m g n mx:Nat) (P:Pm) (U:List Nat) (s:Sd) (x:Int) (w:World) (h:DV w d m g n mx P U s) (hx:x≠0) (hw:(Lit.int .i64 x).wf=true) (hL:s.L.length<900000) :
  Calls prog 184 #[aa d 0,.int .i64 x] w fun e w'=>e=.returned (.tuple #[])∧Hid (∃ U',Gr U w U' w'∧DV w' d m g n mx P U' (aq s x)):=by
 obtain⟨B,h⟩:=h
 have c10:=h.cells.2.2.2.2.2.2.2.2.2.2.1
 have H:Hid (_):=h
 clear h
 unfold aq
 by_cases ht:eB s.v x=true
 ·rw[if_pos ht]
  go_enter func184,ntmps184
  go_wp2_with fail
  refine (eQ _ _ _ _ _ _ _ H.out.val).mono ?_
  rintro e w2 ⟨rfl,h2⟩
  rw[ht]
  obtain⟨U',B',g2,x2⟩:=H.out.vals h2.out.1 h2.out.2
  have hN:=gG d m g n mx P U' { s with v:=dH s.v x } x w2 ⟨B',x2⟩ hx hw hL
  have H2:Hid (_):=g2
  clear H h2 g2 x2 c10
  go_wp2_with (go_at_call 73;refine hN.mono ?_;rintro e w3 ⟨rfl,h3⟩)
  go_end0
  obtain⟨U3,g3,x3⟩:=h3.out
  exact⟨rfl,U3,H2.out.trans g3,x3⟩
 ·rw[if_neg ht]
  have ht':eB s.v x=false:=by simpa using ht
  go_enter func184,ntmps184
  go_wp2_with fail
  refine (eQ _ _ _ _ _ _ _ H.out.val).mono ?_
  rintro e w2 ⟨rfl,h2⟩
  rw[ht']
  obtain⟨U',B',g2,x2⟩:=H.out.vals h2.out.1 h2.out.2
  have H2:Hid (_):=And.intro g2 x2
  clear H h2 g2 x2 c10
  go_wp2_with fail
  go_end0
  exact⟨rfl,U',H2.out.1,B',H2.out.2⟩
end Go.Proofs.YtdpahjfekoikiaaGreat
