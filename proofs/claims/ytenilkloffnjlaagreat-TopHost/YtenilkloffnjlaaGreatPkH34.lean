/- Part 35: contracts that the proof rests on. -/
import Derived.Test.YtenilkloffnjlaaGreatPkH33
set_option maxHeartbeats 64000000
set_option maxRecDepth 100000
namespace Go.Proofs.YtenilkloffnjlaaGreat
open Tryz
open Go.RowKit
def abL (k c s n:Nat) (f:Int) (len:Nat) (bs:Nat→Nat):Fm:=if LW k c s n f len len=0 then (15+len+4,PM.sl (fr k c s n f.toNat len bs) (15+len)) else cZ
def P0:Pm:=⟨7,2,1,10,9⟩
theorem oJ:Pok P0:=⟨by unfold tW P0;decide,by decide,by decide⟩
def dJ (P:Pm):Fm:=(23,PM.sl (fr 1 P.c 0 0 0 4 (lL P)) 19)
theorem sf {c:Nat} (h:c≠0):LW 1 c 0 0 0 4 4=0:=by
 unfold LW
 rw[if_neg (by decide),if_neg (by omega),if_neg (by decide),if_neg (by decide),if_neg (by decide),if_neg (by decide)]
theorem xC (P:Pm) (h:Pok P):cS 1 P.c 0 0 0 4 (lL P)=dJ P:=by
 exact if_pos (sf h.c0)
theorem uC (f g:Nat→Nat) (n:Nat) (h:∀ i,i<n→f i=g i):BA f n=BA g n:=by
 unfold BA
 congr 1
 apply List.map_congr_left
 intro i hi
 rw[h i (List.mem_range.1 hi)]
theorem tG (P:Pm) (h:Pok P) (mx n:Nat) (s:Sd):bR P mx n s (dJ P).1 (dJ P).2=cj P mx n s:=by
 obtain⟨e1,e2,e3,e4,e5,e6,e7⟩:=m8 1 P.c 0 0 0 4 (lL P) h.c (by omega) (by omega) (by omega) (sf h.c0)
 have hd:DE (dJ P).2 (dJ P).1=0:=e1
 have h0:(dJ P).2 0=1:=e2
 have h1:aC (dJ P).2 1=P.c:=e3
 unfold bR
 rw[if_neg (by omega),if_neg (by rw[h0];decide),if_neg (by omega),h0]
 unfold bc
 rw[if_pos rfl,if_pos]
 unfold aX
 exact decide_eq_true (uC _ _ 4 (fun i hi=>e7 i hi))
def M0:Ms:=S0 fun _=>0
theorem zT (mx:Nat) (h:mx≠0):nK mx 16 M0=0∧j3 mx 16 M0=M0:=by
 have hm:dj M0.bs=[]:=by decide
 constructor
 ·unfold nK
  rw[if_neg (by omega),if_neg (by decide),hm]
  rfl
 ·unfold j3
  rw[if_neg (by omega),if_neg (by decide),hm]
  rfl
theorem abY (mx:Nat) (h:mx≠0):(nx mx 16 M0.bs false M0).e=0∧(nx mx 16 M0.bs false M0).v=1:=by
 have hv:vz M0.bs=0:=by decide
 have ht:tg M0.bs=0:=by decide
 unfold nx
 rw[if_neg (by decide),hv,if_neg (by omega),ht]
 rcases gd 16 (cY 0 (0+1)) M0 (fun x hx=>(fw _ _ 16 (by omega) (by omega) x hx).1) rfl (Int.le_refl _) with ⟨e,_⟩ | ⟨_,_,e,_⟩
 ·rw[if_pos e];exact⟨rfl,rfl⟩
 ·cases e
theorem kO (P:Pm) (h:Pok P) (mx:Nat) (hm:mx≠0) :
  (ay P mx 16 (dD M0) (dJ P).1 (dJ P).2).e=0∧(ay P mx 16 (dD M0) (dJ P).1 (dJ P).2).s.st=2∧(ay P mx 16 (dD M0) (dJ P).1 (dJ P).2).f=cS 17 P.c 1 0 0 4 (lL P):=by
 obtain⟨n1,n2⟩:=abY mx hm
 have hw:cj P mx 16 (dD M0)=bL P mx 16 (dD M0):=rfl
 have hb:bL P mx 16 (dD M0)=⟨{ d9 { dD M0 with ms:=(nx mx 16 M0.bs false M0).s } 2 with ss:=(nx mx 16 M0.bs false M0).v },kJ P { d9 { dD M0 with ms:=(nx mx 16 M0.bs false M0).s } 2 with ss:=(nx mx 16 M0.bs false M0).v },0⟩:=by
  unfold bL
  have e1:(nx mx 16 (dD M0).ms.bs false (dD M0).ms).e=0:=n1
  rw[if_neg (by rw[e1];decide),if_neg (by rw[e1];decide)]
  rfl
 unfold ay
 rw[if_neg (by show (1:Nat)≠6;omega),tG P h,hw,hb,if_neg (by rintro ⟨e,_⟩;exact e rfl)]
 refine⟨rfl,rfl,?_⟩
 show cS 17 P.c (nx mx 16 M0.bs false M0).v 0 0 4 (lL P)=_
 rw[n2]
theorem uE {c s:Nat} (h:c≠0) (hs:s≠0):LW 17 c s 0 0 4 4=0:=by
 unfold LW
 rw[if_neg (by decide),if_neg (by omega),if_neg (by decide),if_neg (by unfold dy;rw[if_neg (by omega),if_neg (by omega)];simp;omega),if_neg (by decide),if_neg (by decide)]
theorem Fr.row {w:World} {M:Nat} {v:Value} {f:Fm} (h:Fr w M v f) (hb:∀ i,i<f.1→f.2 i<256):∃ a cap,v=.slice a f.1 cap∧Row8 w a f.1 cap f.2:=aY h hb
theorem dH (k c s n f len:Nat) (bs:Nat→Nat) (hb:∀ i,i<len→bs i<256):∀ i,i < (cS k c s n f len bs).1→(cS k c s n f len bs).2 i<256:=by
 unfold cS
 by_cases h:LW k c s n f len len=0
 ·rw[if_pos h]
  have hz:=fO h
  intro i _
  have hfr:=zR (K:=k) (c:=c) (s:=s) (n:=n) (F:=f) (len:=len) (bs:=bs) (by omega) (by omega) (by omega) hb
  show PM.sl _ _ i<256
  unfold PM.sl PM.ct
  split
  ·rename_i h2;exact hfr i h2
  ·exact PM.w4_lt _ _
 ·rw[if_neg h];intro i hi;exact absurd hi (Nat.not_lt_zero i)
theorem fF (P:Pm):∀ i,i<4→lL P i<256:=fun i _=>PM.w4_lt _ i
structure Ow (w0 w:World) (d m g n mx:Nat) (P:Pm) (U:List Nat) (s:Sd):Prop where
 bel:Below w0.heap.size w0 w
 dv:DV w d m g n mx P U s
 ge:∀ k,k ∈ U→w0.heap.size≤k
theorem yE (m g n mx:Nat) (P:Pm) (hP:Pok P) (ms:Ms) (w:World) (hM:MR w m g n ms) (hx:mx<4294967296) (ht:ms.t<9223372036854774000) (h0:nK mx n ms=0) :
  Calls prog 45 #[.agg #[.int .u32 (P.c:Nat),.int .i64 (P.o:Nat),.int .i64 (P.i:Nat),.int .i64 (P.t:Nat),.int .u32 (P.n:Nat)],ac m 0,.int .u32 (mx:Nat)] w fun e w'=>∃ d,e=.returned (.tuple #[ac d 0,.int .i64 0])∧Hid (∃ U,Off [m,g] w w'∧DV w' d m g n mx P U (dD (j3 mx n ms))∧∀ k,k ∈ U→k=m∨k=g∨w.heap.size≤k):=by
 refine (vZ m g n mx P hP ms w hM hx ht).mono ?_
 rintro e w' ⟨p,rfl,h⟩
 obtain⟨o,_,hd,_⟩:=h.out
 obtain⟨d,U,rfl,D,hU⟩:=hd h0
 rw[h0]
 exact⟨d,rfl,U,o,D,hU⟩
theorem aaI (mx:Nat) (P:Pm) (hP:Pok P) (w0 w:World) (m g:Nat) (hb:Below w0.heap.size w0 w) (hm:w0.heap.size≤m) (hg:w0.heap.size≤g) (hM:MR w m g 16 M0) (hx:mx<4294967296) (h0:mx≠0) :
  Calls prog 45 #[.agg #[.int .u32 (P.c:Nat),.int .i64 (P.o:Nat),.int .i64 (P.i:Nat),.int .i64 (P.t:Nat),.int .u32 (P.n:Nat)],ac m 0,.int .u32 (mx:Nat)] w fun e w'=>∃ d,e=.returned (.tuple #[ac d 0,.int .i64 0])∧Hid (∃ U,Ow w0 w' d m g 16 mx P U (dD M0)):=by
 have hN:=yE m g 16 mx P hP M0 w hM hx (by decide) (zT mx h0).1
 rw[(zT mx h0).2]at hN
 refine hN.mono ?_
 rintro e w' ⟨d,rfl,h⟩
 obtain⟨U,o,D,hU⟩:=h.out
 refine⟨d,rfl,U,o.below hb (by simp;omega) hb.size,D,fun k hk=>?_⟩
 have:=hb.size
 rcases hU k hk with h | h | h <;> omega
theorem i6 (d m g n mx:Nat) (P:Pm) (U:List Nat) (s:Sd) (w:World) (h:DV w d m g n mx P U s) :
  Calls prog 31 #[ac d 0] w fun e w'=>∃ a cap,e=.returned (.agg (bO s.st s.ss s.nm s.sn s.dc s.v.lat (au s.v) (aE s.v) a P.o cap))∧Hid (Fr w' w.heap.size (.slice a P.o cap) (P.o,co s.v)∧Row8 w' a P.o cap (co s.v)∧Below w.heap.size w w'):=by
 obtain⟨B,x⟩:=id h
 refine (zi d m g n mx P U s w h).mono ?_
 rintro e w' ⟨v,rfl,h2⟩
 obtain⟨a,cap,hv,r⟩:=h2.out.1.row (ib x.val)
 subst hv
 exact⟨a,cap,rfl,h2.out.1,r,h2.out.2⟩
theorem jp (d:Nat) (P:Pm) (U:List Nat) (s:Sh) (w:World) (h:HV w d P U s) :
  Calls prog 30 #[ac d 0] w fun e w'=>∃ a cap,e=.returned (.agg (bO s.st s.ss s.nm s.sn s.dc s.v.lat (au s.v) (aE s.v) a P.i cap))∧Hid (Fr w' w.heap.size (.slice a P.i cap) (P.i,co s.v)∧Row8 w' a P.i cap (co s.v)∧Below w.heap.size w w'):=by
 obtain⟨B,x⟩:=id h
 refine (vC d P U s w h).mono ?_
 rintro e w' ⟨v,rfl,h2⟩
 obtain⟨a,cap,hv,r⟩:=h2.out.1.row (ib x.val)
 subst hv
 exact⟨a,cap,rfl,h2.out.1,r,h2.out.2⟩
open Go.RowKit Go.Maps
set_option linter.unusedVariables false
theorem yd (n:Nat) (h d m:Nat→Nat):(ij n h d m).length=n*3:=by
 induction n with
 | zero=>rfl
 | succ n ih=>
  have e:ij (n+1) h d m=ij n h d m ++ [ac (h n) 0,ac (d n) 0,ac (m n) 0]:=by
   unfold ij
   rw[List.range_succ,List.flatMap_append]
   simp
  rw[e,List.length_append,ih,Nat.succ_mul]
  rfl
theorem yc (n:Nat) (h d m:Nat→Nat):∀ k,k<n→(ij n h d m)[k*3]?=some (ac (h k) 0)∧(ij n h d m)[k*3+1]?=some (ac (d k) 0)∧(ij n h d m)[k*3+2]?=some (ac (m k) 0):=by
 induction n with
 | zero=>intro k hk;omega
 | succ n ih=>
  intro k hk
  have e:ij (n+1) h d m=ij n h d m ++ [ac (h n) 0,ac (d n) 0,ac (m n) 0]:=by
   unfold ij
   rw[List.range_succ,List.flatMap_append]
   simp
  have hl:(ij n h d m).length=n*3:=by
   exact yd n h d m
  rw[e]
  by_cases q:k=n
  ·subst q
   refine⟨?_,?_,?_⟩
   ·rw[List.getElem?_append_right (by omega),hl,Nat.sub_self]
    rfl
   ·rw[List.getElem?_append_right (by omega),hl,show k*3+1-k*3=1 by omega]
    rfl
   ·rw[List.getElem?_append_right (by omega),hl,show k*3+2-k*3=2 by omega]
    rfl
  ·have:=ih k (by omega)
   refine⟨?_,?_,?_⟩
   ·rw[List.getElem?_append_left (by omega)]
    exact this.1
   ·rw[List.getElem?_append_left (by omega)]
    exact this.2.1
   ·rw[List.getElem?_append_left (by omega)]
    exact this.2.2
def fd:Value→Nat
 | .slice (some a) _ _=>a.block
 | _=>0
def ik:Value→Nat
 | .slice _ _ c=>c
 | _=>0
theorem WB.conn {C:Wc} {w:World} (h:WB C w) {k:Nat} (hk:k<C.n):C.vc=.slice (af (fd C.vc) 0) C.n (ik C.vc)∧w.cell? ⟨fd C.vc,k*3,none⟩=some (ac (C.hd k) 0)∧w.cell? ⟨fd C.vc,k*3+1,none⟩=some (ac (C.dd k) 0)∧w.cell? ⟨fd C.vc,k*3+2,none⟩=some (ac (C.dm k) 0):=by
 obtain⟨h1,h2 | ⟨g,cap,cur,e,_,hg,rest⟩⟩:=h.rc
 ·have:C.n=0:=h2.2
  omega
 ·have hr:=h.rc
  obtain⟨c0,c1,c2⟩:=yc C.n C.hd C.dd C.dm k hk
  have e1:fd C.vc=g:=by rw[e];rfl
  have e2:ik C.vc=cap:=by rw[e];rfl
  rw[e1,e2]
  rw[e]at hr
  have hc:=fun j hj=>hr.cellAt j hj
  refine⟨e,?_,?_,?_⟩
  ·rw[hc _ (by omega)]
   exact c0
  ·rw[hc _ (by omega)]
   exact c1
  ·rw[hc _ (by omega)]
   exact c2
theorem pat (h d m:Nat) (s:Int) (w:World):Calls prog 55 #[.agg (aA h d m),.int .i64 s] w fun r w'=>r=.returned (if s=1 then .iface 76 (ac h 0) else .iface 77 (ac d 0))∧Below w.heap.size w w':=by
 have kA:=aB w (.cells (aA h d m) 80)
 have bA:=aF (Below.refl _ w) (.cells (aA h d m) 80)
 obtain⟨wa,hwa⟩:∃ y,w.alloc (.cells (aA h d m) 80)=y:=⟨_,rfl⟩
 rw[hwa]at kA bA
 have p0:wa.cell? ⟨w.heap.size,0,none⟩=some (ac h 0):=ae wa w.heap.size 0 _ _ _ kA
 have p1:wa.cell? ⟨w.heap.size,1,none⟩=some (ac d 0):=ae wa w.heap.size 1 _ _ _ kA
 have HB:Hid (_):=bA
 have HE:Hid (_=wa):=hwa
 clear kA bA hwa
 obtain⟨R,hR⟩:∃ y,(if s=1 then Value.iface 76 (ac h 0) else .iface 77 (ac d 0))=y:=⟨_,rfl⟩
 rw[hR]
 by_cases hs:s=1
 ·rw[if_pos hs]at hR
  subst hR
  have q:(s == 1)=true:=by simpa using hs
  clear hs
  go_enter func55,ntmps55
  go_upto_region 1 with fail
  rw[HE.out]
  go_wp2_with fail
  go_ret
  exact⟨rfl,HB.out⟩
 ·rw[if_neg hs]at hR
  subst hR
  have q:(s == 1)=false:=by simpa using hs
  clear hs
  go_enter func55,ntmps55
  go_upto_region 1 with fail
  rw[HE.out]
  go_wp2_with fail
  go_ret
  exact⟨rfl,HB.out⟩
theorem wo (h d m:Nat) (w:World):Calls prog 55 #[.agg (aA h d m),.int .i64 1] w fun r w'=>r=.returned (.iface 76 (ac h 0))∧Below w.heap.size w w':=by
 have:=pat h d m 1 w
 rwa [if_pos rfl]at this
theorem wn (h d m:Nat) (w:World):Calls prog 55 #[.agg (aA h d m),.int .i64 2] w fun r w'=>r=.returned (.iface 77 (ac d 0))∧Below w.heap.size w w':=by
 have:=pat h d m 2 w
 rwa [if_neg (by decide)]at this
theorem Fr.newY {w:World} {M:Nat} {a:Option Addr} {n c:Nat} {bs:Nat→Nat} (h:Fr w M (.slice a n c) (n,bs)):∀ y,a=some y→0<n→M≤y.block:=fun y hy hn=>by
 subst hy
 obtain⟨_,⟨e,_⟩ | ⟨b,cap,cur,e,hb,_⟩⟩:=h
 ·cases e
 ·injection e with e1
  injection e1 with e1
  subst e1
  exact hb
theorem wC (e:Nat→Nat) (w0 w:World) (t:Nat→Thing) (L:Pw) (k:Nat) (h:PW e w0 w t L) (hk:k<L.S.n) (hF:L.S.fs.length≤90000):Calls prog 29 #[ac L.x 0,.int .i64 (k:Nat)] w fun r w'=>r=.returned (.tuple #[])∧Hid (PWn e w0 t L w' (L.S.note [oH L.S k,oD L.S k])):=by
 have hA1:=wo (L.hd k) (L.dd k) (L.dm k)
 have hA2:=wn (L.hd k) (L.dd k) (L.dm k)
 have i0:∀ w,(Instr.index 133 (.agg #[.int .i64 1,.int .i64 2]) (.int .i64 0)).run prog w=.ok (.int .i64 1) w:=fun _=>by kernel_rfl
 have i1:∀ w,(Instr.index 133 (.agg #[.int .i64 1,.int .i64 2]) (.int .i64 1)).run prog w=.ok (.int .i64 2) w:=fun _=>by kernel_rfl
 have m1 : ∀ w, (method 438 76 (.pointer (some ⟨L.hd k, 0, none⟩)) "See").run prog w = .ok (30, .pointer (some ⟨L.hd k, 0, none⟩)) w := fun _ => by kernel_rfl
 have m2 : ∀ w, (method 438 77 (.pointer (some ⟨L.dd k, 0, none⟩)) "See").run prog w = .ok (31, .pointer (some ⟨L.dd k, 0, none⟩)) w := fun _ => by kernel_rfl
 have hlt:((k:Nat):Int) < ((L.S.n:Nat):Int):=by omega
 obtain⟨X,hX⟩:∃ y,L.x=y:=⟨_,rfl⟩
 obtain⟨g,hg⟩:∃ y,fd L.vc=y:=⟨_,rfl⟩
 obtain⟨cc,hcc⟩:∃ y,ik L.vc=y:=⟨_,rfl⟩
 obtain⟨n,hn⟩:∃ y,L.S.n=y:=⟨_,rfl⟩
 rw[hn]at hlt
 rw[hX]
 have H0:Hid (PWn e w0 t L w (L.S.note [])):=by
  have:=h.n
  have e1:L.S.note []=L.S:=by unfold Ws.note;rw[List.append_nil]
  show PWn e w0 t L w (L.S.note [])
  rw[e1]
  exact this
 go_enter func29,ntmps29
 go_wp2_with fail
 go_loopw [5,6,8,9,10,11,12,13,14,15,16,17,18,19,20,21,22,23,24,25,26,27,28,29,30,31,32] (fun _ _ c _ _ _ _ _ _ _ _ _ _ _ _ _ _ _ _ _ _ _ _ _ _ _ _ wr=>(c=.int .i64 0∧Hid (PWn e w0 t L wr (L.S.note [])))∨(c=.int .i64 1∧Hid (PWn e w0 t L wr (L.S.note [oH L.S k])))∨(c=.int .i64 2∧Hid (PWn e w0 t L wr (L.S.note [oH L.S k,oD L.S k])))) (fun _ _ c _ _ _ _ _ _ _ _ _ _ _ _ _ _ _ _ _ _ _ _ _ _ _ _ _=>match c with | .int _ i=>2-i.toNat | _=>0)
 case atStart=>exact Or.inl ⟨rfl,H0⟩
 case round=>
  rcases hrel with ⟨rfl,H⟩ | ⟨rfl,H⟩ | ⟨rfl,H⟩
  ·obtain⟨t1,L1,h1,hS1,hF1,hE1⟩:=H.out
   obtain⟨e1,c0',c1',c2'⟩:=(h1.2.wb h1.1).conn (k:=k) (by show k<L1.S.n;rw[hS1];exact hk)
   have cv:wr.cell? ⟨X,3,none⟩=some (.slice (af g 0) n cc):=by
    have:=(ae wr L1.x 3 _ _ _ (h1.2.wb h1.1).blk).trans (congrArg some e1)
    rw[← hX,← hg,← hcc,← hn,← hF1.x,← hF1.vc]
    refine this.trans ?_
    show some (Value.slice (af (fd L1.vc) 0) L1.S.n (ik L1.vc))=_
    rw[hS1]
    rfl
   have c0:wr.cell? ⟨g,k*3,none⟩=some (ac (L.hd k) 0):=by
    rw[← hg,← hF1.vc,← hF1.hd]
    exact c0'
   have c1:wr.cell? ⟨g,k*3+1,none⟩=some (ac (L.dd k) 0):=by
    rw[← hg,← hF1.vc,← hF1.dd]
    exact c1'
   have c2:wr.cell? ⟨g,k*3+2,none⟩=some (ac (L.dm k) 0):=by
    rw[← hg,← hF1.vc,← hF1.dm]
    exact c2'
   clear c0' c1' c2' e1
   go_wp2_with fail
   refine (hA1 _).mono ?_
   rintro r w1 ⟨rfl,b1⟩
   have gV:HV w1 (L.hd k) (L.S.PH k) (L1.hU k) (L.S.hs k):=by
    have:=(h1.below b1).2.hv (h1.below b1).1 (k:=k) (by rw[hS1];exact hk)
    rw[hS1,hF1.hd]at this
    exact this
   go_wp2_with fail
   refine (jp (L.hd k) (L.S.PH k) (L1.hU k) (L.S.hs k) w1 gV).mono ?_
   rintro r w2 ⟨a,cap,rfl,HS⟩
   have kA:=aB w2 (.cells #[.int .i64 ((L.S.hs k).st:Nat),.int .u32 ((L.S.hs k).ss:Nat),.int .u32 ((L.S.hs k).nm:Nat),.int .u32 ((L.S.hs k).sn:Nat),.int .i64 ((L.S.hs k).dc:Nat),.int .i64 (L.S.hs k).v.lat,.bool (au (L.S.hs k).v),.bool (aE (L.S.hs k).v),.slice a (L.S.PH k).i cap] 43)
   have bA:=aF (Below.refl _ w2) (.cells #[.int .i64 ((L.S.hs k).st:Nat),.int .u32 ((L.S.hs k).ss:Nat),.int .u32 ((L.S.hs k).nm:Nat),.int .u32 ((L.S.hs k).sn:Nat),.int .i64 ((L.S.hs k).dc:Nat),.int .i64 (L.S.hs k).v.lat,.bool (au (L.S.hs k).v),.bool (aE (L.S.hs k).v),.slice a (L.S.PH k).i cap] 43)
   obtain⟨wa,hwa⟩:∃ y,w2.alloc (.cells #[.int .i64 ((L.S.hs k).st:Nat),.int .u32 ((L.S.hs k).ss:Nat),.int .u32 ((L.S.hs k).nm:Nat),.int .u32 ((L.S.hs k).sn:Nat),.int .i64 ((L.S.hs k).dc:Nat),.int .i64 (L.S.hs k).v.lat,.bool (au (L.S.hs k).v),.bool (aE (L.S.hs k).v),.slice a (L.S.PH k).i cap] 43)=y:=⟨_,rfl⟩
   rw[hwa]at kA bA
   have p5:wa.cell? ⟨w2.heap.size,5,none⟩=some (.int .i64 (L.S.hs k).v.lat):=ae wa w2.heap.size 5 _ _ _ kA
   have p7:wa.cell? ⟨w2.heap.size,7,none⟩=some (.bool (aE (L.S.hs k).v)):=ae wa w2.heap.size 7 _ _ _ kA
   have p8:wa.cell? ⟨w2.heap.size,8,none⟩=some (.slice a (L.S.PH k).i cap):=ae wa w2.heap.size 8 _ _ _ kA
   have hb:Below wr.heap.size wr wa:=(b1.trans (HS.out.2.2.mono b1.size)).trans (bA.mono (Nat.le_trans b1.size HS.out.2.2.size))
   have hr:Row8 wa a (L.S.PH k).i cap (co (L.S.hs k).v):=HS.out.2.1.below bA
   have hnw:∀ y,a=some y→0 < (L.S.PH k).i→wr.heap.size≤y.block:=fun y hy hl=>Nat.le_trans b1.size (HS.out.1.newY y hy hl)
   have hN:=sL e w0 wr wa t1 L1 (oH L.S k) (a,cap) h1 hb hr hnw (by rw[hS1];show (L.S.fs ++ []).length≤100000;simp;omega)
   have hM:Calls prog 57 #[ac X 0,.agg #[.int .i64 8,.int .i64 (k:Nat),.int .i64 1,.int .u32 0,.int .u32 0,.bool (aE (L.S.hs k).v),.int .i64 (L.S.hs k).v.lat,.slice a (L.S.PH k).i cap]] wa fun r w'=>r=.returned (.tuple #[])∧Hid (PWn e w0 t L w' (L.S.note [oH L.S k])):=by
    rw[← hX,← hF1.x]
    refine hN.mono ?_
    rintro r w' ⟨rfl,HP⟩
    refine⟨rfl,?_⟩
    have:=PWn.bind hF1 hE1 HP.out
    rw[hS1]at this
    have e9:(L.S.note []).note [oH L.S k]=L.S.note [oH L.S k]:=by
     unfold Ws.note
     simp
    rw[e9]at this
    exact this
   clear hN
   have HE:Hid (_=wa):=hwa
   clear kA bA hwa hb hr hnw
   go_upto_region 4 with fail
   rw[HE.out]
   go_wp2_with fail
   refine hM.mono ?_
   rintro r w3 ⟨rfl,HP⟩
   go_wp2_with fail
   exact⟨Or.inr (Or.inl ⟨rfl,HP⟩),by decide⟩
  ·obtain⟨t1,L1,h1,hS1,hF1,hE1⟩:=H.out
   obtain⟨e1,c0',c1',c2'⟩:=(h1.2.wb h1.1).conn (k:=k) (by show k<L1.S.n;rw[hS1];exact hk)
   have cv:wr.cell? ⟨X,3,none⟩=some (.slice (af g 0) n cc):=by
    have:=(ae wr L1.x 3 _ _ _ (h1.2.wb h1.1).blk).trans (congrArg some e1)
    rw[← hX,← hg,← hcc,← hn,← hF1.x,← hF1.vc]
    refine this.trans ?_
    show some (Value.slice (af (fd L1.vc) 0) L1.S.n (ik L1.vc))=_
    rw[hS1]
    rfl
   have c0:wr.cell? ⟨g,k*3,none⟩=some (ac (L.hd k) 0):=by
    rw[← hg,← hF1.vc,← hF1.hd]
    exact c0'
   have c1:wr.cell? ⟨g,k*3+1,none⟩=some (ac (L.dd k) 0):=by
    rw[← hg,← hF1.vc,← hF1.dd]
    exact c1'
   have c2:wr.cell? ⟨g,k*3+2,none⟩=some (ac (L.dm k) 0):=by
    rw[← hg,← hF1.vc,← hF1.dm]
    exact c2'
   clear c0' c1' c2' e1
   go_wp2_with fail
   refine (hA2 _).mono ?_
   rintro r w1 ⟨rfl,b1⟩
   have gV:DV w1 (L.dd k) (L.dm k) (L1.dg k) 16 L.S.mx (L.S.PD k) (L1.dU k) (L.S.ds k):=by
    have:=(h1.below b1).2.dv (h1.below b1).1 (k:=k) (by rw[hS1];exact hk)
    rw[hS1,hF1.dd,hF1.dm]at this
    exact this
   go_wp2_with fail
   refine (i6 (L.dd k) (L.dm k) (L1.dg k) 16 L.S.mx (L.S.PD k) (L1.dU k) (L.S.ds k) w1 gV).mono ?_
   rintro r w2 ⟨a,cap,rfl,HS⟩
   have kA:=aB w2 (.cells #[.int .i64 ((L.S.ds k).st:Nat),.int .u32 ((L.S.ds k).ss:Nat),.int .u32 ((L.S.ds k).nm:Nat),.int .u32 ((L.S.ds k).sn:Nat),.int .i64 ((L.S.ds k).dc:Nat),.int .i64 (L.S.ds k).v.lat,.bool (au (L.S.ds k).v),.bool (aE (L.S.ds k).v),.slice a (L.S.PD k).o cap] 43)
   have bA:=aF (Below.refl _ w2) (.cells #[.int .i64 ((L.S.ds k).st:Nat),.int .u32 ((L.S.ds k).ss:Nat),.int .u32 ((L.S.ds k).nm:Nat),.int .u32 ((L.S.ds k).sn:Nat),.int .i64 ((L.S.ds k).dc:Nat),.int .i64 (L.S.ds k).v.lat,.bool (au (L.S.ds k).v),.bool (aE (L.S.ds k).v),.slice a (L.S.PD k).o cap] 43)
   obtain⟨wa,hwa⟩:∃ y,w2.alloc (.cells #[.int .i64 ((L.S.ds k).st:Nat),.int .u32 ((L.S.ds k).ss:Nat),.int .u32 ((L.S.ds k).nm:Nat),.int .u32 ((L.S.ds k).sn:Nat),.int .i64 ((L.S.ds k).dc:Nat),.int .i64 (L.S.ds k).v.lat,.bool (au (L.S.ds k).v),.bool (aE (L.S.ds k).v),.slice a (L.S.PD k).o cap] 43)=y:=⟨_,rfl⟩
   rw[hwa]at kA bA
   have p5:wa.cell? ⟨w2.heap.size,5,none⟩=some (.int .i64 (L.S.ds k).v.lat):=ae wa w2.heap.size 5 _ _ _ kA
   have p7:wa.cell? ⟨w2.heap.size,7,none⟩=some (.bool (aE (L.S.ds k).v)):=ae wa w2.heap.size 7 _ _ _ kA
   have p8:wa.cell? ⟨w2.heap.size,8,none⟩=some (.slice a (L.S.PD k).o cap):=ae wa w2.heap.size 8 _ _ _ kA
   have hb:Below wr.heap.size wr wa:=(b1.trans (HS.out.2.2.mono b1.size)).trans (bA.mono (Nat.le_trans b1.size HS.out.2.2.size))
   have hr:Row8 wa a (L.S.PD k).o cap (co (L.S.ds k).v):=HS.out.2.1.below bA
   have hnw:∀ y,a=some y→0 < (L.S.PD k).o→wr.heap.size≤y.block:=fun y hy hl=>Nat.le_trans b1.size (HS.out.1.newY y hy hl)
   have hN:=sL e w0 wr wa t1 L1 (oD L.S k) (a,cap) h1 hb hr hnw (by rw[hS1];show (L.S.fs ++ [oH L.S k]).length≤100000;simp;omega)
   have hM:Calls prog 57 #[ac X 0,.agg #[.int .i64 8,.int .i64 (k:Nat),.int .i64 2,.int .u32 0,.int .u32 0,.bool (aE (L.S.ds k).v),.int .i64 (L.S.ds k).v.lat,.slice a (L.S.PD k).o cap]] wa fun r w'=>r=.returned (.tuple #[])∧Hid (PWn e w0 t L w' (L.S.note [oH L.S k,oD L.S k])):=by
    rw[← hX,← hF1.x]
    refine hN.mono ?_
    rintro r w' ⟨rfl,HP⟩
    refine⟨rfl,?_⟩
    have:=PWn.bind hF1 hE1 HP.out
    rw[hS1]at this
    have e9:(L.S.note [oH L.S k]).note [oD L.S k]=L.S.note [oH L.S k,oD L.S k]:=by
     unfold Ws.note
     simp
    rw[e9]at this
    exact this
   clear hN
   have HE:Hid (_=wa):=hwa
   clear kA bA hwa hb hr hnw
   go_upto_region 4 with fail
   rw[HE.out]
   go_wp2_with fail
   refine hM.mono ?_
   rintro r w3 ⟨rfl,HP⟩
   go_wp2_with fail
   exact⟨Or.inr (Or.inr ⟨rfl,HP⟩),by decide⟩
  ·go_wp2_with fail
   go_end0
   exact⟨rfl,H⟩
def Pw.toB (L:Pw) (v:Value) (vs:List Value) (p:Option Addr) (f:Fm):Pw:={ L with bv:=v,bs:=vs,bp:=p,S:={ L.S with bg:=L.S.bg ++ [f] } }
theorem Pw.toB_t (L:Pw) (v:Value) (vs:List Value) (p:Option Addr) (f:Fm):(L.toB v vs p f).t 1=bgT L.b L.m v vs p (L.S.bg ++ [f])∧∀ i,i≠1→(L.toB v vs p f).t i=L.t i:=by
 refine⟨rfl,fun i hi=>?_⟩
 unfold Pw.t
 by_cases h0:i=0
 ·rw[if_pos h0,if_pos h0]
  rfl
 ·rw[if_neg h0,if_neg h0,if_neg hi,if_neg hi]
  rfl
theorem PW.stepB {e:Nat→Nat} {w0 w w':World} {t:Nat→Thing} {L:Pw} {f:Fm} (h:PW e w0 w t L)
  (g:∃ g cap' x p',Off (L.b :: L.m :: L.bv.ownBlock.toList) w w'∧Bg 0 w' L.b L.m (.slice (af g 0) (L.S.bg.length+1) cap') (L.bs ++ [x]) p' (L.S.bg ++ [f])∧(L.bv.ownBlock=some g∨w.heap.size≤g)∧(∀ k,x.ownBlock=some k→w.heap.size≤k)∧(p'=L.bp∨∃ y,p'=some y∧w.heap.size≤y.block)):PWn e w0 t L w' { L.S with bg:=L.S.bg ++ [f] }:=by
 obtain⟨g,cap',x,p',o,hb,hg,hx,hp⟩:=g
 obtain⟨q1,q2⟩:=L.toB_t (.slice (af g 0) (L.S.bg.length+1) cap') (L.bs ++ [x]) p' f
 have hlen:=(h.2.bg h.1).2
 have hl2:(L.bs ++ [x]).length=(L.S.bg ++ [f]).length:=by simp[hlen]
 refine⟨_,L.toB (.slice (af g 0) (L.S.bg.length+1) cap') (L.bs ++ [x]) p' f,⟨?_,h.2.put 1 q2⟩,rfl,⟨rfl,rfl,rfl,rfl,rfl,rfl⟩,Els.put _ _ _ _⟩
 rw[q1]
 refine h.1.step _ (bgT L.b L.m (.slice (af g 0) (L.S.bg.length+1) cap') (L.bs ++ [x]) p' (L.S.bg ++ [f])) (U:=lZ L.b L.m L.bv L.bs L.bp) (by rw[h.2.2];rfl) ⟨o.more (fun k hk=>?_),fun k hk=>?_⟩ ⟨hb,hl2⟩ (fun k hk=>hb.ltU hl2 k hk)
 ·simp only[lZ,List.mem_cons,List.mem_append]at hk ⊢
  rcases hk with hk | hk | hk
  ·exact .inl hk
  ·exact .inr (.inl hk)
  ·exact .inr (.inr (.inl hk))
 ·have hk:k ∈ lZ L.b L.m (.slice (af g 0) (L.S.bg.length+1) cap') (L.bs ++ [x]) p':=hk
  simp only[lZ,List.mem_cons,List.mem_append,List.mem_filterMap,Option.mem_toList,List.mem_map,List.not_mem_nil,or_false]at hk ⊢
  rcases hk with hk | hk | hk | ⟨y,hy,rfl⟩ | ⟨z,hz | hz,hz2⟩
  ·exact .inl (.inl hk)
  ·exact .inl (.inr (.inl hk))
  ·have:g=k:=by
    simp only[Value.ownBlock]at hk
    injection hk
   subst this
   rcases hg with hg | hg
   ·exact .inl (.inr (.inr (.inl hg)))
   ·exact .inr hg
  ·rcases hp with hp | ⟨y',hp,hy'⟩
   ·rw[hp]at hy
    exact .inl (.inr (.inr (.inr (.inl ⟨y,hy,rfl⟩))))
   ·rw[hp]at hy
    injection hy with hy
    subst hy
    exact .inr hy'
  ·exact .inl (.inr (.inr (.inr (.inr ⟨z,hz,hz2⟩))))
  ·rw[hz]at hz2
   exact .inr (hx k hz2)
theorem acP (e:Nat→Nat) (w0 w:World) (t:Nat→Thing) (L:Pw) (k s:Nat) (f:Fm) (a:Option Addr) (cap i:Nat) (h:PW e w0 w t L) (hF:L.S.fs.length≤90000) (hi:∀ j,i≠e j) (ht:t i=fi a f.1 cap f.2) (hf:f.1≤27) (hB:L.S.bg.length<4096):Calls prog 81 #[ac L.x 0,.int .i64 (k:Nat),.int .i64 (s:Nat),.slice a f.1 cap] w fun r w'=>r=.returned (.int .i64 (L.S.putI f))∧Hid (PWn e w0 t L w' (L.S.put k s f)):=by
 by_cases h0:f.1=0
 ·have e1:L.S.putI f = -1:=by unfold Ws.putI;rw[if_pos h0]
  have e2:L.S.put k s f=L.S:=by unfold Ws.put;rw[if_pos h0]
  rw[e1,e2,h0]
  have H0:Hid (PWn e w0 t L w L.S):=h.n
  clear h ht e1 e2 hf hB hF h0
  go_enter func81,ntmps81
  go_wp2_with fail
  go_ret
  exact⟨rfl,H0⟩
 ·have e1:L.S.putI f=((L.S.bg.length:Nat):Int):=by unfold Ws.putI;rw[if_neg h0]
  have e2:L.S.put k s f={ L.S.note (dW 1 k s f) with bg:=L.S.bg ++ [f] }:=by unfold Ws.put;rw[if_neg h0];rfl
  rw[e1,e2]
  have hN:Calls prog 106 #[ac L.x 0,.int .i64 1,.int .i64 (k:Nat),.int .i64 (s:Nat),.slice a f.1 cap] w fun r w'=>r=.returned (.tuple #[])∧Hid (PWn e w0 t L w' (L.S.note (dW 1 k s f))):=mG e w0 w t L 1 k s f a cap h (by omega) (h.row ht)
  have hP:∀ w1,PWn e w0 t L w1 (L.S.note (dW 1 k s f))→w1.cell? ⟨L.x,4,none⟩=some (ac L.b 0)∧Calls prog 107 #[ac L.b 0,.slice a f.1 cap] w1 fun r w'=>r=.returned (.tuple #[.int .i64 (L.S.bg.length:Nat),.int .i64 0])∧Hid (PWn e w0 t L w' { L.S.note (dW 1 k s f) with bg:=L.S.bg ++ [f] }):=fun w1 q=>by
   obtain⟨t1,L1,h1,hs,hx,he⟩:=q
   have ht1:t1 i=fi a f.1 cap f.2:=(he i hi).trans ht
   have hb:=h1.2.bg h1.1
   have e3:L1.S.bg=L.S.bg:=by rw[hs];rfl
   refine⟨?_,?_⟩
   ·have:=ae w1 L1.x 4 _ _ _ (h1.2.wb h1.1).blk
    rw[hx.x]at this
    refine this.trans ?_
    show some (ac L1.b 0)=_
    rw[hx.b]
   ·have hab:∀ y,a=some y→y.block≠L1.m:=fun y hy hm=>by
     refine h1.1.dis i (e 1) (hi 1) y.block ?_ ?_
     ·rw[ht1]
      show y.block ∈ (if 0<f.1 then a.toList.map (·.block) else [])
      rw[if_pos (by omega),hy]
      simp
     ·rw[h1.2.2 1]
      show y.block ∈ lZ L1.b L1.m L1.bv L1.bs L1.bp
      rw[hm]
      simp[lZ]
    have:=uR 0 L1.b L1.m L1.bv L1.bs L1.bp L1.S.bg a f.1 cap f.2 w1 hb.1 (h1.row ht1) hab hf (by rw[e3];exact hB) (Nat.zero_le _)
    rw[hx.b]at this
    refine this.mono ?_
    rintro r w' ⟨rfl,H⟩
    rw[e3]
    refine⟨rfl,PWn.bind hx he ?_⟩
    have h3:=h1.stepB (f:=f) (by rw[← hx.b]at H;exact H.out)
    have e4:({ L1.S with bg:=L1.S.bg ++ [f] }:Ws)={ L.S.note (dW 1 k s f) with bg:=L.S.bg ++ [f] }:=by
     rw[hs]
     rfl
    rw[← e4]
    exact h3
  obtain⟨X,hX⟩:∃ y,L.x=y:=⟨_,rfl⟩
  obtain⟨n,hn⟩:∃ y,f.1=y:=⟨_,rfl⟩
  have h0':(((n:Nat):Int) == 0)=false:=by
   rw[hn]at h0
   simp
   omega
  rw[hX,hn]at hN ⊢
  rw[hX,hn]at hP
  have HP:Hid (_):=hP
  clear h ht e1 e2 hf hB hF h0 hP
  go_enter func81,ntmps81
  go_wp2_with fail
  refine hN.mono ?_
  rintro r w1 ⟨rfl,H1⟩
  obtain⟨c4,hC⟩:=HP.out w1 H1.out
  clear hN
  go_wp2_with fail
  refine hC.mono ?_
  rintro r w2 ⟨rfl,H2⟩
  go_wp2_with fail
  go_ret
  exact⟨rfl,H2⟩
def fC (l:List (Nat × Obj)):Thing:=⟨l.map (·.1),fun w=>∀ p,p ∈ l→w.heap[p.1]?=some p.2,fun w w' q h o hl p hp=>(o.block p.1 (Array.getElem?_eq_some_iff.1 (h p hp)).1 (hl p.1 (List.mem_map_of_mem hp))).trans (h p hp)⟩
theorem PW.layL {e:Nat→Nat} {w0 w1 w:World} {t:Nat→Thing} {L:Pw} (h:PW e w0 w1 t L) (b:Below w1.heap.size w1 w) {i:Nat} (hi:∀ j,i≠e j) {l:List (Nat × Obj)} (R:∀ p,p ∈ l→w.heap[p.1]?=some p.2) (bV:∀ p,p ∈ l→w1.heap.size≤p.1):PW e w0 w (aJ t i (fC l)) L:=by
 have h2:=h.below b
 have hu:∀ k,k ∈ (fC l).U→∃ p,p ∈ l∧p.1=k:=fun k hk=>by
  have hk:k ∈ l.map (·.1):=hk
  simpa using hk
 refine⟨h2.1.turn i _ (Off.refl _ _) R (fun k hk=>?_) (fun k hk j hj hm=>?_),h.2.1,fun j=>?_⟩
 ·obtain⟨p,hp,rfl⟩:=hu k hk
  exact⟨Nat.le_trans h.1.size (bV p hp),(Array.getElem?_eq_some_iff.1 (R p hp)).1⟩
 ·obtain⟨p,hp,rfl⟩:=hu k hk
  have:=(h.1.lt j _ hm).2
  have:=bV p hp
  omega
 ·rw[an _ _ (fun q=>hi j q.symm)]
  exact h.2.2 j
def Fre (e:Nat→Nat) (t:Nat→Thing) (i:Nat):Prop:=∀ q,i≤q→(∀ j,2*q+1≠e j)∧t (2*q+1)=pQ
theorem Fre.put {e:Nat→Nat} {t:Nat→Thing} {i:Nat} (h:Fre e t i) (x:Thing):Fre e (aJ t (2*i+1) x) (i+1):=fun q hq=>⟨(h q (by omega)).1,by rw[an _ _ (by omega)];exact (h q (by omega)).2⟩
theorem Fre.els {e:Nat→Nat} {t t':Nat→Thing} {i:Nat} (h:Fre e t i) (l:Els e t t'):Fre e t' i:=fun q hq=>⟨(h q hq).1,by rw[l _ (h q hq).1];exact (h q hq).2⟩
theorem pY (e:Nat→Nat) (w0 w:World) (t:Nat→Thing) (L:Pw) (k:Nat) (a b:Sd) (n:Nat) (aa ab:Option Addr) (ca cb i:Nat) (h:PW e w0 w t L) (F:Fre e t i) (hF:L.S.fs.length≤90000):Calls prog 111 #[ac L.x 0,.int .i64 (k:Nat),.agg (bO a.st a.ss a.nm a.sn a.dc a.v.lat (au a.v) (aE a.v) aa n ca),.agg (bO b.st b.ss b.nm b.sn b.dc b.v.lat (au b.v) (aE b.v) ab n cb)] w fun r w'=>r=.returned (.tuple #[])∧Hid (PWn e w0 t L w' (L.S.note (ee k a b))):=by
 have kA:=aB w (.cells (bO a.st a.ss a.nm a.sn a.dc a.v.lat (au a.v) (aE a.v) aa n ca) 43)
 have bA:=aF (Below.refl _ w) (.cells (bO a.st a.ss a.nm a.sn a.dc a.v.lat (au a.v) (aE a.v) aa n ca) 43)
 have zA:(w.alloc (.cells (bO a.st a.ss a.nm a.sn a.dc a.v.lat (au a.v) (aE a.v) aa n ca) 43)).heap.size=w.heap.size+1:=Array.size_push ..
 obtain⟨wa,hwa⟩:∃ y,w.alloc (.cells (bO a.st a.ss a.nm a.sn a.dc a.v.lat (au a.v) (aE a.v) aa n ca) 43)=y:=⟨_,rfl⟩
 rw[hwa]at kA bA zA
 have kB:=aB wa (.cells (bO b.st b.ss b.nm b.sn b.dc b.v.lat (au b.v) (aE b.v) ab n cb) 43)
 have bB:=aF (Below.refl _ wa) (.cells (bO b.st b.ss b.nm b.sn b.dc b.v.lat (au b.v) (aE b.v) ab n cb) 43)
 obtain⟨wb,hwb⟩:∃ y,wa.alloc (.cells (bO b.st b.ss b.nm b.sn b.dc b.v.lat (au b.v) (aE b.v) ab n cb) 43)=y:=⟨_,rfl⟩
 rw[hwb]at kB bB
 obtain⟨x,hx⟩:∃ y,w.heap.size=y:=⟨_,rfl⟩
 obtain⟨y,hy⟩:∃ y,wa.heap.size=y:=⟨_,rfl⟩
 have kA2:wb.heap[x]?=some (.cells (bO a.st a.ss a.nm a.sn a.dc a.v.lat (au a.v) (aE a.v) aa n ca) 43 (0,0)):=by
  rw[← hx]
  exact (bB.block _ (by omega)).trans kA
 have kB2:wb.heap[y]?=some (.cells (bO b.st b.ss b.nm b.sn b.dc b.v.lat (au b.v) (aE b.v) ab n cb) 43 (0,0)):=by
  rw[← hy]
  exact kB
 have bW:Below w.heap.size w wb:=bA.trans (bB.mono bA.size)
 have h9:=h.layL bW (i:=2*i+1) (F i (Nat.le_refl _)).1 (l:=[(x,.cells (bO a.st a.ss a.nm a.sn a.dc a.v.lat (au a.v) (aE a.v) aa n ca) 43 (0,0)),(y,.cells (bO b.st b.ss b.nm b.sn b.dc b.v.lat (au b.v) (aE b.v) ab n cb) 43 (0,0))]) (by
  intro p hp
  simp only[List.mem_cons,List.not_mem_nil,or_false]at hp
  rcases hp with rfl | rfl
  ·exact kA2
  ·exact kB2) (by
  intro p hp
  simp only[List.mem_cons,List.not_mem_nil,or_false]at hp
  rcases hp with rfl | rfl
  ·exact Nat.le_of_eq hx
  ·show w.heap.size≤y
   omega)
 obtain⟨t9,ht9⟩:∃ z,aJ t (2*i+1) (fC [(x,.cells (bO a.st a.ss a.nm a.sn a.dc a.v.lat (au a.v) (aE a.v) aa n ca) 43 (0,0)),(y,.cells (bO b.st b.ss b.nm b.sn b.dc b.v.lat (au b.v) (aE b.v) ab n cb) 43 (0,0))])=z:=⟨_,rfl⟩
 have t9i:t9 (2*i+1)=fC [(x,.cells (bO a.st a.ss a.nm a.sn a.dc a.v.lat (au a.v) (aE a.v) aa n ca) 43 (0,0)),(y,.cells (bO b.st b.ss b.nm b.sn b.dc b.v.lat (au b.v) (aE b.v) ab n cb) 43 (0,0))]:=by
  rw[← ht9]
  exact al _ _ _
 have HZ:Hid (∀ w' S,PWn e w0 t9 L w' S→PWn e w0 t L w' S):=fun w' S q=>by
  rw[← ht9]at q
  exact q.drop (F i (Nat.le_refl _)).1 (F i (Nat.le_refl _)).2
 rw[ht9]at h9
 have hN:Calls prog 57 #[ac L.x 0,.agg #[.int .i64 7,.int .i64 (k:Nat),.int .i64 2,.int .u32 0,.int .u32 0,.bool false,.int .i64 0,.slice none 0 0]] wb fun r w'=>r=.returned (.tuple #[])∧Hid (PWn e w0 t9 L w' (L.S.note [dE 7 k 2])):=ld e w0 wb t9 L 7 k 2 0 0 h9 (by omega)
 have HK:Hid (∀ w1 l,PWn e w0 t9 L w1 (L.S.note l)→l.length≤1→w1.cell? ⟨x,1,none⟩=some (.int .u32 (a.ss:Nat))∧w1.cell? ⟨y,1,none⟩=some (.int .u32 (b.ss:Nat))∧Calls prog 57 #[ac L.x 0,.agg #[.int .i64 3,.int .i64 (k:Nat),.int .i64 2,.int .u32 (b.ss:Nat),.int .u32 0,.bool false,.int .i64 0,.slice none 0 0]] w1 fun r w'=>r=.returned (.tuple #[])∧Hid (PWn e w0 t9 L w' (L.S.note (l ++ [⟨3,k,2,b.ss,0,false,0,cZ⟩])))):=fun w1 l q hl=>by
  obtain⟨t1,L1,h1,hs,hf,he⟩:=q
  have ht:=h1.1.get (i:=2*i+1) ((he _ (F i (Nat.le_refl _)).1).trans t9i)
  have g1:w1.heap[x]?=_:=ht (x,.cells (bO a.st a.ss a.nm a.sn a.dc a.v.lat (au a.v) (aE a.v) aa n ca) 43 (0,0)) (by simp)
  have g2:w1.heap[y]?=_:=ht (y,.cells (bO b.st b.ss b.nm b.sn b.dc b.v.lat (au b.v) (aE b.v) ab n cb) 43 (0,0)) (by simp)
  refine⟨ae w1 x 1 _ _ _ g1,ae w1 y 1 _ _ _ g2,?_⟩
  have e1:L1.S.fs.length≤100000:=by
   rw[hs]
   show (L.S.fs ++ l).length≤100000
   rw[List.length_append]
   omega
  have:=ld e w0 w1 t1 L1 3 k 2 b.ss 0 h1 e1
  rw[hf.x]at this
  refine this.mono ?_
  rintro r w' ⟨rfl,H⟩
  refine⟨rfl,PWn.bind hf he ?_⟩
  have e2:L1.S.note [⟨3,k,2,b.ss,0,false,0,cZ⟩]=L.S.note (l ++ [⟨3,k,2,b.ss,0,false,0,cZ⟩]):=by
   rw[hs]
   unfold Ws.note
   simp
  rw[← e2]
  exact H.out
 have H0:Hid (PWn e w0 t9 L wb (L.S.note [])):=by
  have e1:L.S.note []=L.S:=by unfold Ws.note;rw[List.append_nil]
  show PWn e w0 t9 L wb (L.S.note [])
  rw[e1]
  exact h9.n
 obtain⟨d1',d2',hM0⟩:=HK.out wb [] H0.out (by simp)
 have d01:wb.cell? ⟨x,0,none⟩=some (.int .i64 (a.st:Nat)):=ae wb x 0 _ _ _ kA2
 have d02:wb.cell? ⟨y,0,none⟩=some (.int .i64 (b.st:Nat)):=ae wb y 0 _ _ _ kB2
 obtain⟨X,hX⟩:∃ y,L.x=y:=⟨_,rfl⟩
 rw[hX]at hN hM0 HK ⊢
 have HE:Hid (_=wa):=hwa
 have HE2:Hid (_=wb):=hwb
 have HS:Hid (w.heap.size=x):=hx
 have HS2:Hid (w.heap.size+1=y):=zA.symm.trans hy
 clear kA kB bA bB bW zA kA2 kB2 hwa hwb h h9 hx hy ht9 t9i F
 by_cases qb:b.st=6
 ·by_cases qa:a.st=6
  ·by_cases qs:b.ss=a.ss
   ·skip
    have hi:¬ (b.st=6∧a.st≠6):=fun q=>q.2 qa
    have hj:¬ (b.ss≠a.ss∧b.ss≠0):=fun q=>q.1 qs
    have eL:ee k a b=[]:=by unfold ee;rw[if_neg hi,if_neg hj];rfl
    rw[eL]
    have u1:(((b.st:Nat):Int) == 6)=true:=(bf b.st 6).trans (decide_eq_true qb)
    have u2:(((a.st:Nat):Int) == 6)=true:=(bf a.st 6).trans (decide_eq_true qa)
    have u3:(((b.ss:Nat):Int) == ((a.ss:Nat):Int))=true:=(bf b.ss a.ss).trans (decide_eq_true qs)
    have v2:(((a.st:Nat):Int) != 6)=false:=congrArg not u2
    have v3:(((b.ss:Nat):Int) != ((a.ss:Nat):Int))=false:=congrArg not u3
    clear hi hj eL qb qs qa
    go_enter func111,ntmps111
    go_upto_region 1 with fail
    rw[HE.out,HE2.out,HS2.out,HS.out]
    go_wp2_with fail
    go_end0
    exact⟨rfl,HZ.out _ _ H0.out⟩
   ·by_cases qz:b.ss=0
    ·skip
     have hi:¬ (b.st=6∧a.st≠6):=fun q=>q.2 qa
     have hj:¬ (b.ss≠a.ss∧b.ss≠0):=fun q=>q.2 qz
     have eL:ee k a b=[]:=by unfold ee;rw[if_neg hi,if_neg hj];rfl
     rw[eL]
     have u1:(((b.st:Nat):Int) == 6)=true:=(bf b.st 6).trans (decide_eq_true qb)
     have u2:(((a.st:Nat):Int) == 6)=true:=(bf a.st 6).trans (decide_eq_true qa)
     have u3:(((b.ss:Nat):Int) == ((a.ss:Nat):Int))=false:=(bf b.ss a.ss).trans (decide_eq_false qs)
     have u4:(((b.ss:Nat):Int) == 0)=true:=(bf b.ss 0).trans (decide_eq_true qz)
     have v2:(((a.st:Nat):Int) != 6)=false:=congrArg not u2
     have v3:(((b.ss:Nat):Int) != ((a.ss:Nat):Int))=true:=congrArg not u3
     have v4:(((b.ss:Nat):Int) != 0)=false:=congrArg not u4
     clear hi hj eL qb qs qa qz
     go_enter func111,ntmps111
     go_upto_region 1 with fail
     rw[HE.out,HE2.out,HS2.out,HS.out]
     go_wp2_with fail
     go_end0
     exact⟨rfl,HZ.out _ _ H0.out⟩
    ·skip
     have hi:¬ (b.st=6∧a.st≠6):=fun q=>q.2 qa
     have hj:b.ss≠a.ss∧b.ss≠0:=⟨qs,qz⟩
     have eL:ee k a b=[] ++ [⟨3,k,2,b.ss,0,false,0,cZ⟩]:=by unfold ee;rw[if_neg hi,if_pos hj]
     rw[eL]
     have u1:(((b.st:Nat):Int) == 6)=true:=(bf b.st 6).trans (decide_eq_true qb)
     have u2:(((a.st:Nat):Int) == 6)=true:=(bf a.st 6).trans (decide_eq_true qa)
     have u3:(((b.ss:Nat):Int) == ((a.ss:Nat):Int))=false:=(bf b.ss a.ss).trans (decide_eq_false qs)
     have u4:(((b.ss:Nat):Int) == 0)=false:=(bf b.ss 0).trans (decide_eq_false qz)
     have v2:(((a.st:Nat):Int) != 6)=false:=congrArg not u2
     have v3:(((b.ss:Nat):Int) != ((a.ss:Nat):Int))=true:=congrArg not u3
     have v4:(((b.ss:Nat):Int) != 0)=true:=congrArg not u4
     clear hi hj eL qb qs qa qz
     go_enter func111,ntmps111
     go_upto_region 1 with fail
     rw[HE.out,HE2.out,HS2.out,HS.out]
     go_wp2_with fail
     refine (hM0).mono ?_
     rintro r w3 ⟨rfl,H3⟩
     go_wp2_with fail
     go_end0
     exact⟨rfl,HZ.out _ _ H3.out⟩
  ·by_cases qs:b.ss=a.ss
   ·skip
    have hi:b.st=6∧a.st≠6:=⟨qb,qa⟩
    have hj:¬ (b.ss≠a.ss∧b.ss≠0):=fun q=>q.1 qs
    have eL:ee k a b=[dE 7 k 2]:=by unfold ee;rw[if_pos hi,if_neg hj];rfl
    rw[eL]
    have u1:(((b.st:Nat):Int) == 6)=true:=(bf b.st 6).trans (decide_eq_true qb)
    have u2:(((a.st:Nat):Int) == 6)=false:=(bf a.st 6).trans (decide_eq_false qa)
    have u3:(((b.ss:Nat):Int) == ((a.ss:Nat):Int))=true:=(bf b.ss a.ss).trans (decide_eq_true qs)
    have v2:(((a.st:Nat):Int) != 6)=true:=congrArg not u2
    have v3:(((b.ss:Nat):Int) != ((a.ss:Nat):Int))=false:=congrArg not u3
    clear hi hj eL qb qs qa
    go_enter func111,ntmps111
    go_upto_region 1 with fail
    rw[HE.out,HE2.out,HS2.out,HS.out]
    go_wp2_with fail
    refine hN.mono ?_
    rintro r w1 ⟨rfl,H1⟩
    obtain⟨d1,d2,hM⟩:=HK.out w1 _ H1.out (by simp)
    go_wp2_with fail
    go_end0
    exact⟨rfl,HZ.out _ _ H1.out⟩
   ·by_cases qz:b.ss=0
    ·skip
     have hi:b.st=6∧a.st≠6:=⟨qb,qa⟩
     have hj:¬ (b.ss≠a.ss∧b.ss≠0):=fun q=>q.2 qz
     have eL:ee k a b=[dE 7 k 2]:=by unfold ee;rw[if_pos hi,if_neg hj];rfl
     rw[eL]
     have u1:(((b.st:Nat):Int) == 6)=true:=(bf b.st 6).trans (decide_eq_true qb)
     have u2:(((a.st:Nat):Int) == 6)=false:=(bf a.st 6).trans (decide_eq_false qa)
     have u3:(((b.ss:Nat):Int) == ((a.ss:Nat):Int))=false:=(bf b.ss a.ss).trans (decide_eq_false qs)
     have u4:(((b.ss:Nat):Int) == 0)=true:=(bf b.ss 0).trans (decide_eq_true qz)
     have v2:(((a.st:Nat):Int) != 6)=true:=congrArg not u2
     have v3:(((b.ss:Nat):Int) != ((a.ss:Nat):Int))=true:=congrArg not u3
     have v4:(((b.ss:Nat):Int) != 0)=false:=congrArg not u4
     clear hi hj eL qb qs qa qz
     go_enter func111,ntmps111
     go_upto_region 1 with fail
     rw[HE.out,HE2.out,HS2.out,HS.out]
     go_wp2_with fail
     refine hN.mono ?_
     rintro r w1 ⟨rfl,H1⟩
     obtain⟨d1,d2,hM⟩:=HK.out w1 _ H1.out (by simp)
     go_wp2_with fail
     go_end0
     exact⟨rfl,HZ.out _ _ H1.out⟩
    ·skip
     have hi:b.st=6∧a.st≠6:=⟨qb,qa⟩
     have hj:b.ss≠a.ss∧b.ss≠0:=⟨qs,qz⟩
     have eL:ee k a b=[dE 7 k 2] ++ [⟨3,k,2,b.ss,0,false,0,cZ⟩]:=by unfold ee;rw[if_pos hi,if_pos hj]
     rw[eL]
     have u1:(((b.st:Nat):Int) == 6)=true:=(bf b.st 6).trans (decide_eq_true qb)
     have u2:(((a.st:Nat):Int) == 6)=false:=(bf a.st 6).trans (decide_eq_false qa)
     have u3:(((b.ss:Nat):Int) == ((a.ss:Nat):Int))=false:=(bf b.ss a.ss).trans (decide_eq_false qs)
     have u4:(((b.ss:Nat):Int) == 0)=false:=(bf b.ss 0).trans (decide_eq_false qz)
     have v2:(((a.st:Nat):Int) != 6)=true:=congrArg not u2
     have v3:(((b.ss:Nat):Int) != ((a.ss:Nat):Int))=true:=congrArg not u3
     have v4:(((b.ss:Nat):Int) != 0)=true:=congrArg not u4
     clear hi hj eL qb qs qa qz
     go_enter func111,ntmps111
     go_upto_region 1 with fail
     rw[HE.out,HE2.out,HS2.out,HS.out]
     go_wp2_with fail
     refine hN.mono ?_
     rintro r w1 ⟨rfl,H1⟩
     obtain⟨d1,d2,hM⟩:=HK.out w1 _ H1.out (by simp)
     go_wp2_with fail
     refine (hM).mono ?_
     rintro r w3 ⟨rfl,H3⟩
     go_wp2_with fail
     go_end0
     exact⟨rfl,HZ.out _ _ H3.out⟩
 ·by_cases qs:b.ss=a.ss
  ·skip
   have hi:¬ (b.st=6∧a.st≠6):=fun q=>qb q.1
   have hj:¬ (b.ss≠a.ss∧b.ss≠0):=fun q=>q.1 qs
   have eL:ee k a b=[]:=by unfold ee;rw[if_neg hi,if_neg hj];rfl
   rw[eL]
   have u1:(((b.st:Nat):Int) == 6)=false:=(bf b.st 6).trans (decide_eq_false qb)
   have u3:(((b.ss:Nat):Int) == ((a.ss:Nat):Int))=true:=(bf b.ss a.ss).trans (decide_eq_true qs)
   have v3:(((b.ss:Nat):Int) != ((a.ss:Nat):Int))=false:=congrArg not u3
   clear hi hj eL qb qs
   go_enter func111,ntmps111
   go_upto_region 1 with fail
   rw[HE.out,HE2.out,HS2.out,HS.out]
   go_wp2_with fail
   go_end0
   exact⟨rfl,HZ.out _ _ H0.out⟩
  ·by_cases qz:b.ss=0
   ·skip
    have hi:¬ (b.st=6∧a.st≠6):=fun q=>qb q.1
    have hj:¬ (b.ss≠a.ss∧b.ss≠0):=fun q=>q.2 qz
    have eL:ee k a b=[]:=by unfold ee;rw[if_neg hi,if_neg hj];rfl
    rw[eL]
    have u1:(((b.st:Nat):Int) == 6)=false:=(bf b.st 6).trans (decide_eq_false qb)
    have u3:(((b.ss:Nat):Int) == ((a.ss:Nat):Int))=false:=(bf b.ss a.ss).trans (decide_eq_false qs)
    have u4:(((b.ss:Nat):Int) == 0)=true:=(bf b.ss 0).trans (decide_eq_true qz)
    have v3:(((b.ss:Nat):Int) != ((a.ss:Nat):Int))=true:=congrArg not u3
    have v4:(((b.ss:Nat):Int) != 0)=false:=congrArg not u4
    clear hi hj eL qb qs qz
    go_enter func111,ntmps111
    go_upto_region 1 with fail
    rw[HE.out,HE2.out,HS2.out,HS.out]
    go_wp2_with fail
    go_end0
    exact⟨rfl,HZ.out _ _ H0.out⟩
   ·skip
    have hi:¬ (b.st=6∧a.st≠6):=fun q=>qb q.1
    have hj:b.ss≠a.ss∧b.ss≠0:=⟨qs,qz⟩
    have eL:ee k a b=[] ++ [⟨3,k,2,b.ss,0,false,0,cZ⟩]:=by unfold ee;rw[if_neg hi,if_pos hj]
    rw[eL]
    have u1:(((b.st:Nat):Int) == 6)=false:=(bf b.st 6).trans (decide_eq_false qb)
    have u3:(((b.ss:Nat):Int) == ((a.ss:Nat):Int))=false:=(bf b.ss a.ss).trans (decide_eq_false qs)
    have u4:(((b.ss:Nat):Int) == 0)=false:=(bf b.ss 0).trans (decide_eq_false qz)
    have v3:(((b.ss:Nat):Int) != ((a.ss:Nat):Int))=true:=congrArg not u3
    have v4:(((b.ss:Nat):Int) != 0)=true:=congrArg not u4
    clear hi hj eL qb qs qz
    go_enter func111,ntmps111
    go_upto_region 1 with fail
    rw[HE.out,HE2.out,HS2.out,HS.out]
    go_wp2_with fail
    refine (hM0).mono ?_
    rintro r w3 ⟨rfl,H3⟩
    go_wp2_with fail
    go_end0
    exact⟨rfl,HZ.out _ _ H3.out⟩
theorem PW.outH {e:Nat→Nat} {w0 w w':World} {t:Nat→Thing} {L:Pw} (h:PW e w0 w t L) {k:Nat} (hk:k<L.S.n) {i:Nat} (F:Fre e t i) {s:Sh} {f:Fm} {v:Value} (hb:∀ j,j<f.1→f.2 j<256) (g:aap (L.hU k) w w' (L.hd k) (L.S.PH k) s f v):∃ a cap,v=.slice a f.1 cap∧PWn e w0 (aJ t (2*i+1) (fi a f.1 cap f.2)) L w' (L.S.setH k s):=by
 obtain⟨U,g,hv,fr,hn⟩:=g
 obtain⟨a,cap,rfl,R⟩:=fr.row hb
 refine⟨a,cap,rfl,?_⟩
 obtain⟨h1,h2⟩:=h.2.stepH h.1 hk g hv
 obtain⟨q1,q2⟩:=L.toH_t s U hk
 have hi:=(F i (Nat.le_refl _)).1
 have hu:∀ q,q ∈ (fi a f.1 cap f.2).U→∃ y,a=some y∧0<f.1∧y.block=q:=fun q hq=>by
  have hq:q ∈ (if 0<f.1 then a.toList.map (·.block) else []):=hq
  split at hq
  ·next hl=>
   simp only[List.mem_map,Option.mem_toList]at hq
   obtain⟨y,hy,e⟩:=hq
   exact⟨y,hy,hl,e⟩
  ·cases hq
 have ho:∀ y,a=some y→0<f.1→(Value.slice a f.1 cap).ownBlock=some y.block:=fun y hy hl=>by
  subst hy
  rfl
 refine⟨aJ (aJ t (e (2+2*k)) ((L.toH k s U).t (2+2*k))) (2*i+1) (fi a f.1 cap f.2),L.toH k s U,⟨h1.turn _ _ (Off.refl _ _) R (fun q hq=>?_) (fun q hq j hj hm=>?_),h2.1,fun j=>?_⟩,rfl,⟨rfl,rfl,rfl,rfl,rfl,rfl⟩,fun q hq=>?_⟩
 ·obtain⟨y,hy,hl,rfl⟩:=hu q hq
  exact⟨Nat.le_trans h.1.size (fr.ge _ (ho y hy hl)),fr.lt _ (ho y hy hl)⟩
 ·obtain⟨y,hy,hl,rfl⟩:=hu q hq
  by_cases z:j=e (2+2*k)
  ·subst z
   rw[al,q1]at hm
   exact hn _ (ho y hy hl) hm
  ·rw[an _ _ z]at hm
   have:=(h.1.lt j _ hm).2
   have:=fr.ge _ (ho y hy hl)
   omega
 ·rw[an _ _ (fun q=>hi j q.symm)]
  exact h2.2 j
 ·by_cases z:q=2*i+1
  ·subst z
   rw[al,al]
  ·rw[an _ _ z,an _ _ z,an _ _ (hq _)]
theorem PW.outD {e:Nat→Nat} {w0 w w':World} {t:Nat→Thing} {L:Pw} (h:PW e w0 w t L) {k:Nat} (hk:k<L.S.n) {i:Nat} (F:Fre e t i) {s:Sd} {f:Fm} {v:Value} (hb:∀ j,j<f.1→f.2 j<256) (g:Out (L.dU k) w w' (L.dd k) (L.dm k) (L.dg k) 16 L.S.mx (L.S.PD k) s f v):∃ a cap,v=.slice a f.1 cap∧PWn e w0 (aJ t (2*i+1) (fi a f.1 cap f.2)) L w' (L.S.setD k s):=by
 obtain⟨U,g,hv,fr,hn⟩:=g
 obtain⟨a,cap,rfl,R⟩:=fr.row hb
 refine⟨a,cap,rfl,?_⟩
 obtain⟨h1,h2⟩:=h.2.stepD h.1 hk g hv
 obtain⟨q1,q2⟩:=L.toD_t s U hk
 have hi:=(F i (Nat.le_refl _)).1
 have hu:∀ q,q ∈ (fi a f.1 cap f.2).U→∃ y,a=some y∧0<f.1∧y.block=q:=fun q hq=>by
  have hq:q ∈ (if 0<f.1 then a.toList.map (·.block) else []):=hq
  split at hq
  ·next hl=>
   simp only[List.mem_map,Option.mem_toList]at hq
   obtain⟨y,hy,e⟩:=hq
   exact⟨y,hy,hl,e⟩
  ·cases hq
 have ho:∀ y,a=some y→0<f.1→(Value.slice a f.1 cap).ownBlock=some y.block:=fun y hy hl=>by
  subst hy
  rfl
 refine⟨aJ (aJ t (e (3+2*k)) ((L.toD k s U).t (3+2*k))) (2*i+1) (fi a f.1 cap f.2),L.toD k s U,⟨h1.turn _ _ (Off.refl _ _) R (fun q hq=>?_) (fun q hq j hj hm=>?_),h2.1,fun j=>?_⟩,rfl,⟨rfl,rfl,rfl,rfl,rfl,rfl⟩,fun q hq=>?_⟩
 ·obtain⟨y,hy,hl,rfl⟩:=hu q hq
  exact⟨Nat.le_trans h.1.size (fr.ge _ (ho y hy hl)),fr.lt _ (ho y hy hl)⟩
 ·obtain⟨y,hy,hl,rfl⟩:=hu q hq
  by_cases z:j=e (3+2*k)
  ·subst z
   rw[al,q1]at hm
   exact hn _ (ho y hy hl) hm
  ·rw[an _ _ z]at hm
   have:=(h.1.lt j _ hm).2
   have:=fr.ge _ (ho y hy hl)
   omega
 ·rw[an _ _ (fun q=>hi j q.symm)]
  exact h2.2 j
 ·by_cases z:q=2*i+1
  ·subst z
   rw[al,al]
  ·rw[an _ _ z,an _ _ z,an _ _ (hq _)]
theorem yZ (e:Nat→Nat) (w0 w:World) (t:Nat→Thing) (L:Pw) (k:Nat) (f:Fm) (a:Option Addr) (cap i:Nat) (h:PW e w0 w t L) (hk:k<L.S.n) (hF:L.S.fs.length≤90000) (hi:∀ j,i≠e j) (ht:t i=fi a f.1 cap f.2) (hL:(L.S.hs k).L.length<800000):Calls prog 82 #[ac L.x 0,.int .i64 (k:Nat),.slice a f.1 cap] w fun r w'=>r=.returned (.int .i64 (L.S.toH k f).e)∧Hid (PWn e w0 t L w' (L.S.toH k f).S):=by
 have hR:Calls prog 108 #[ac (L.hd k) 0,.slice a f.1 cap] w fun r w'=>r=.returned (.int .i64 (L.S.toH k f).e)∧Hid (PWn e w0 t L w' (L.S.setH k (bu (L.S.PH k) (L.S.hs k) f.1 f.2))):=by
  refine (nE (L.hd k) (L.S.PH k) (L.hU k) (L.S.hs k) a f.1 cap f.2 w (h.2.hv h.1 hk) (h.row ht) hL).mono ?_
  rintro r w' ⟨rfl,H⟩
  exact⟨rfl,h.stepH hk H.out⟩
 have hN:∀ w1,Hid (PWn e w0 t L w1 (L.S.setH k (bu (L.S.PH k) (L.S.hs k) f.1 f.2)))→Calls prog 109 #[ac L.x 0,.int .i64 (k:Nat),.int .i64 1,.slice a f.1 cap] w1 fun r w'=>r=.returned (.tuple #[])∧Hid (PWn e w0 t L w' ((L.S.setH k (bu (L.S.PH k) (L.S.hs k) f.1 f.2)).note (cO k 1 f))):=fun w1 q=>by
  obtain⟨t1,L1,h1,hs,hx,he⟩:=q.out
  have:=lf e w0 w1 t1 L1 k 1 f a cap i h1 (by rw[hs];exact hF) hi ((he i hi).trans ht)
  rw[hx.x,hs]at this
  refine this.mono ?_
  rintro r w' ⟨rfl,H⟩
  exact⟨rfl,PWn.bind hx he H.out⟩
 obtain⟨e1,c0',c1',c2'⟩:=(h.2.wb h.1).conn (k:=k) hk
 have cv:w.cell? ⟨L.x,3,none⟩=some (.slice (af (fd L.vc) 0) L.S.n (ik L.vc)):=(ae w L.x 3 _ _ _ (h.2.wb h.1).blk).trans (congrArg some e1)
 have c0:w.cell? ⟨fd L.vc,k*3,none⟩=some (ac (L.hd k) 0):=c0'
 have c1:w.cell? ⟨fd L.vc,k*3+1,none⟩=some (ac (L.dd k) 0):=c1'
 clear c0' c1' c2' e1
 obtain⟨X,hX⟩:∃ y,L.x=y:=⟨_,rfl⟩
 obtain⟨g,hg⟩:∃ y,fd L.vc=y:=⟨_,rfl⟩
 obtain⟨cc,hcc⟩:∃ y,ik L.vc=y:=⟨_,rfl⟩
 obtain⟨n,hn⟩:∃ y,L.S.n=y:=⟨_,rfl⟩
 have hlt:((k:Nat):Int) < ((n:Nat):Int):=by omega
 rw[hX,hg,hcc,hn]at cv
 rw[hg]at c0 c1
 have eS:(L.S.toH k f).S=if (L.S.toH k f).e=0 then (L.S.setH k (bu (L.S.PH k) (L.S.hs k) f.1 f.2)).note (cO k 1 f) else L.S.setH k (bu (L.S.PH k) (L.S.hs k) f.1 f.2):=rfl
 obtain⟨E,hE⟩:∃ y,(L.S.toH k f).e=y:=⟨_,rfl⟩
 obtain⟨l,hl⟩:∃ y,f.1=y:=⟨_,rfl⟩
 rw[eS,hE,hX,hl]
 rw[hE,hl]at hR
 rw[hX,hl]at hN
 have HN:Hid (_):=hN
 clear hN eS h ht hF
 by_cases h0:E=0
 ·rw[if_pos h0]
  subst h0
  go_enter func82,ntmps82
  go_wp2_with fail
  refine hR.mono ?_
  rintro r w1 ⟨rfl,H1⟩
  go_wp2_with fail
  refine (HN.out w1 (by rw[hl]at *;exact H1)).mono ?_
  rintro r w2 ⟨rfl,H2⟩
  go_wp2_with fail
  go_ret
  exact⟨rfl,H2⟩
 ·rw[if_neg h0]
  have h0':(E == 0)=false:=by simpa using h0
  go_enter func82,ntmps82
  go_wp2_with fail
  refine hR.mono ?_
  rintro r w1 ⟨rfl,H1⟩
  go_wp2_with fail
  go_ret
  exact⟨rfl,H1⟩
end Go.Proofs.YtenilkloffnjlaaGreat
