/- Part 20: contracts that the proof rests on. -/
import Derived.Test.YtenilkloffnjlaaGreatPkM18
set_option maxHeartbeats 64000000
set_option maxRecDepth 100000
namespace Go.Proofs.YtenilkloffnjlaaGreat
open Tryz
open Go.RowKit Go.Maps
set_option linter.unusedVariables false
theorem vX (n:Nat) (h d m:Nat→Nat):(gE n h d m).length=n*3:=by
 induction n with
 | zero=>rfl
 | succ n ih=>
  have e:gE (n+1) h d m=gE n h d m ++ [ac (h n) 0,ac (d n) 0,ac (m n) 0]:=by
   unfold gE
   rw[List.range_succ,List.flatMap_append]
   simp
  rw[e,List.length_append,ih,Nat.succ_mul]
  rfl
theorem vW (n:Nat) (h d m:Nat→Nat):∀ k,k<n→(gE n h d m)[k*3]?=some (ac (h k) 0)∧(gE n h d m)[k*3+1]?=some (ac (d k) 0)∧(gE n h d m)[k*3+2]?=some (ac (m k) 0):=by
 induction n with
 | zero=>intro k hk;omega
 | succ n ih=>
  intro k hk
  have e:gE (n+1) h d m=gE n h d m ++ [ac (h n) 0,ac (d n) 0,ac (m n) 0]:=by
   unfold gE
   rw[List.range_succ,List.flatMap_append]
   simp
  have hl:(gE n h d m).length=n*3:=by
   exact vX n h d m
  rw[e]
  by_cases q:k=n
  ·subst q
   refine⟨?_,?_,?_⟩
   ·rw[List.getElem?_append_right (by omega),hl,Nat.sub_self]
    rfl
   ·rw[List.getElem?_append_right (by omega),hl,show k*3+1-k*3=1 by omega]
    rfl
   ·rw[List.getElem?_append_right (by omega),hl,show k*3+2-k*3=2 by omega]
    rfl
  ·have:=ih k (by omega)
   refine⟨?_,?_,?_⟩
   ·rw[List.getElem?_append_left (by omega)]
    exact this.1
   ·rw[List.getElem?_append_left (by omega)]
    exact this.2.1
   ·rw[List.getElem?_append_left (by omega)]
    exact this.2.2
def eI:Value→Nat
 | .slice (some a) _ _=>a.block
 | _=>0
def gT:Value→Nat
 | .slice _ _ c=>c
 | _=>0
theorem WB.conn {C:Wc} {w:World} (h:WB C w) {k:Nat} (hk:k<C.n):C.vc=.slice (af (eI C.vc) 0) C.n (gT C.vc)∧w.cell? ⟨eI C.vc,k*3,none⟩=some (ac (C.hd k) 0)∧w.cell? ⟨eI C.vc,k*3+1,none⟩=some (ac (C.dd k) 0)∧w.cell? ⟨eI C.vc,k*3+2,none⟩=some (ac (C.dm k) 0):=by
 obtain⟨h1,h2 | ⟨g,cap,cur,e,_,hg,rest⟩⟩:=h.rc
 ·have:C.n=0:=h2.2
  omega
 ·have hr:=h.rc
  obtain⟨c0,c1,c2⟩:=vW C.n C.hd C.dd C.dm k hk
  have e1:eI C.vc=g:=by rw[e];rfl
  have e2:gT C.vc=cap:=by rw[e];rfl
  rw[e1,e2]
  rw[e]at hr
  have hc:=fun j hj=>hr.cellAt j hj
  refine⟨e,?_,?_,?_⟩
  ·rw[hc _ (by omega)]
   exact c0
  ·rw[hc _ (by omega)]
   exact c1
  ·rw[hc _ (by omega)]
   exact c2
theorem pat (h d m:Nat) (s:Int) (w:World):Calls prog 55 #[.agg (ay h d m),.int .i64 s] w fun r w'=>r=.returned (if s=1 then .iface 76 (ac h 0) else .iface 77 (ac d 0))∧Below w.heap.size w w':=by
 have kA:=aA w (.cells (ay h d m) 80)
 have bA:=aC (Below.refl _ w) (.cells (ay h d m) 80)
 obtain⟨wa,hwa⟩:∃ y,w.alloc (.cells (ay h d m) 80)=y:=⟨_,rfl⟩
 rw[hwa]at kA bA
 have p0:wa.cell? ⟨w.heap.size,0,none⟩=some (ac h 0):=ae wa w.heap.size 0 _ _ _ kA
 have p1:wa.cell? ⟨w.heap.size,1,none⟩=some (ac d 0):=ae wa w.heap.size 1 _ _ _ kA
 have HB:Hid (_):=bA
 have HE:Hid (_=wa):=hwa
 clear kA bA hwa
 obtain⟨R,hR⟩:∃ y,(if s=1 then Value.iface 76 (ac h 0) else .iface 77 (ac d 0))=y:=⟨_,rfl⟩
 rw[hR]
 by_cases hs:s=1
 ·rw[if_pos hs]at hR
  subst hR
  have q:(s == 1)=true:=by simpa using hs
  clear hs
  go_enter func55,ntmps55
  go_upto_region 1 with fail
  rw[HE.out]
  go_wp2_with fail
  go_ret
  exact⟨rfl,HB.out⟩
 ·rw[if_neg hs]at hR
  subst hR
  have q:(s == 1)=false:=by simpa using hs
  clear hs
  go_enter func55,ntmps55
  go_upto_region 1 with fail
  rw[HE.out]
  go_wp2_with fail
  go_ret
  exact⟨rfl,HB.out⟩
theorem wV (h d m:Nat) (w:World):Calls prog 55 #[.agg (ay h d m),.int .i64 1] w fun r w'=>r=.returned (.iface 76 (ac h 0))∧Below w.heap.size w w':=by
 have:=pat h d m 1 w
 rwa [if_pos rfl]at this
theorem wU (h d m:Nat) (w:World):Calls prog 55 #[.agg (ay h d m),.int .i64 2] w fun r w'=>r=.returned (.iface 77 (ac d 0))∧Below w.heap.size w w':=by
 have:=pat h d m 2 w
 rwa [if_neg (by decide)]at this
theorem Fr.newY {w:World} {M:Nat} {a:Option Addr} {n c:Nat} {bs:Nat→Nat} (h:Fr w M (.slice a n c) (n,bs)):∀ y,a=some y→0<n→M≤y.block:=fun y hy hn=>by
 subst hy
 obtain⟨_,⟨e,_⟩ | ⟨b,cap,cur,e,hb,_⟩⟩:=h
 ·cases e
 ·injection e with e1
  injection e1 with e1
  subst e1
  exact hb
theorem uv (e:Nat→Nat) (w0 w:World) (t:Nat→Thing) (L:Pw) (k:Nat) (h:PW e w0 w t L) (hk:k<L.S.n) (hF:L.S.fs.length≤90000):Calls prog 29 #[ac L.x 0,.int .i64 (k:Nat)] w fun r w'=>r=.returned (.tuple #[])∧Hid (PWn e w0 t L w' (L.S.note [oH L.S k,oD L.S k])):=by
 have hA1:=wV (L.hd k) (L.dd k) (L.dm k)
 have hA2:=wU (L.hd k) (L.dd k) (L.dm k)
 have i0:∀ w,(Instr.index 133 (.agg #[.int .i64 1,.int .i64 2]) (.int .i64 0)).run prog w=.ok (.int .i64 1) w:=fun _=>by kernel_rfl
 have i1:∀ w,(Instr.index 133 (.agg #[.int .i64 1,.int .i64 2]) (.int .i64 1)).run prog w=.ok (.int .i64 2) w:=fun _=>by kernel_rfl
 have m1 : ∀ w, (method 438 76 (.pointer (some ⟨L.hd k, 0, none⟩)) "See").run prog w = .ok (30, .pointer (some ⟨L.hd k, 0, none⟩)) w := fun _ => by kernel_rfl
 have m2 : ∀ w, (method 438 77 (.pointer (some ⟨L.dd k, 0, none⟩)) "See").run prog w = .ok (31, .pointer (some ⟨L.dd k, 0, none⟩)) w := fun _ => by kernel_rfl
 have hlt:((k:Nat):Int) < ((L.S.n:Nat):Int):=by omega
 obtain⟨X,hX⟩:∃ y,L.x=y:=⟨_,rfl⟩
 obtain⟨g,hg⟩:∃ y,eI L.vc=y:=⟨_,rfl⟩
 obtain⟨cc,hcc⟩:∃ y,gT L.vc=y:=⟨_,rfl⟩
 obtain⟨n,hn⟩:∃ y,L.S.n=y:=⟨_,rfl⟩
 rw[hn]at hlt
 rw[hX]
 have H0:Hid (PWn e w0 t L w (L.S.note [])):=by
  have:=h.n
  have e1:L.S.note []=L.S:=by unfold Ws.note;rw[List.append_nil]
  show PWn e w0 t L w (L.S.note [])
  rw[e1]
  exact this
 go_enter func29,ntmps29
 go_wp2_with fail
 go_loopw [5,6,8,9,10,11,12,13,14,15,16,17,18,19,20,21,22,23,24,25,26,27,28,29,30,31,32] (fun _ _ c _ _ _ _ _ _ _ _ _ _ _ _ _ _ _ _ _ _ _ _ _ _ _ _ wr=>(c=.int .i64 0∧Hid (PWn e w0 t L wr (L.S.note [])))∨(c=.int .i64 1∧Hid (PWn e w0 t L wr (L.S.note [oH L.S k])))∨(c=.int .i64 2∧Hid (PWn e w0 t L wr (L.S.note [oH L.S k,oD L.S k])))) (fun _ _ c _ _ _ _ _ _ _ _ _ _ _ _ _ _ _ _ _ _ _ _ _ _ _ _ _=>match c with | .int _ i=>2-i.toNat | _=>0)
 case atStart=>exact Or.inl ⟨rfl,H0⟩
 case round=>
  rcases hrel with ⟨rfl,H⟩ | ⟨rfl,H⟩ | ⟨rfl,H⟩
  ·obtain⟨t1,L1,h1,hS1,hF1,hE1⟩:=H.out
   obtain⟨e1,c0',c1',c2'⟩:=(h1.2.wb h1.1).conn (k:=k) (by show k<L1.S.n;rw[hS1];exact hk)
   have cv:wr.cell? ⟨X,3,none⟩=some (.slice (af g 0) n cc):=by
    have:=(ae wr L1.x 3 _ _ _ (h1.2.wb h1.1).blk).trans (congrArg some e1)
    rw[← hX,← hg,← hcc,← hn,← hF1.x,← hF1.vc]
    refine this.trans ?_
    show some (Value.slice (af (eI L1.vc) 0) L1.S.n (gT L1.vc))=_
    rw[hS1]
    rfl
   have c0:wr.cell? ⟨g,k*3,none⟩=some (ac (L.hd k) 0):=by
    rw[← hg,← hF1.vc,← hF1.hd]
    exact c0'
   have c1:wr.cell? ⟨g,k*3+1,none⟩=some (ac (L.dd k) 0):=by
    rw[← hg,← hF1.vc,← hF1.dd]
    exact c1'
   have c2:wr.cell? ⟨g,k*3+2,none⟩=some (ac (L.dm k) 0):=by
    rw[← hg,← hF1.vc,← hF1.dm]
    exact c2'
   clear c0' c1' c2' e1
   go_wp2_with fail
   refine (hA1 _).mono ?_
   rintro r w1 ⟨rfl,b1⟩
   have gV:HV w1 (L.hd k) (L.S.PH k) (L1.hU k) (L.S.hs k):=by
    have:=(h1.below b1).2.hv (h1.below b1).1 (k:=k) (by rw[hS1];exact hk)
    rw[hS1,hF1.hd]at this
    exact this
   go_wp2_with fail
   refine (kZ (L.hd k) (L.S.PH k) (L1.hU k) (L.S.hs k) w1 gV).mono ?_
   rintro r w2 ⟨a,cap,rfl,HS⟩
   have kA:=aA w2 (.cells #[.int .i64 ((L.S.hs k).st:Nat),.int .u32 ((L.S.hs k).ss:Nat),.int .u32 ((L.S.hs k).nm:Nat),.int .u32 ((L.S.hs k).sn:Nat),.int .i64 ((L.S.hs k).dc:Nat),.int .i64 (L.S.hs k).v.lat,.bool (aq (L.S.hs k).v),.bool (aB (L.S.hs k).v),.slice a (L.S.PH k).i cap] 43)
   have bA:=aC (Below.refl _ w2) (.cells #[.int .i64 ((L.S.hs k).st:Nat),.int .u32 ((L.S.hs k).ss:Nat),.int .u32 ((L.S.hs k).nm:Nat),.int .u32 ((L.S.hs k).sn:Nat),.int .i64 ((L.S.hs k).dc:Nat),.int .i64 (L.S.hs k).v.lat,.bool (aq (L.S.hs k).v),.bool (aB (L.S.hs k).v),.slice a (L.S.PH k).i cap] 43)
   obtain⟨wa,hwa⟩:∃ y,w2.alloc (.cells #[.int .i64 ((L.S.hs k).st:Nat),.int .u32 ((L.S.hs k).ss:Nat),.int .u32 ((L.S.hs k).nm:Nat),.int .u32 ((L.S.hs k).sn:Nat),.int .i64 ((L.S.hs k).dc:Nat),.int .i64 (L.S.hs k).v.lat,.bool (aq (L.S.hs k).v),.bool (aB (L.S.hs k).v),.slice a (L.S.PH k).i cap] 43)=y:=⟨_,rfl⟩
   rw[hwa]at kA bA
   have p5:wa.cell? ⟨w2.heap.size,5,none⟩=some (.int .i64 (L.S.hs k).v.lat):=ae wa w2.heap.size 5 _ _ _ kA
   have p7:wa.cell? ⟨w2.heap.size,7,none⟩=some (.bool (aB (L.S.hs k).v)):=ae wa w2.heap.size 7 _ _ _ kA
   have p8:wa.cell? ⟨w2.heap.size,8,none⟩=some (.slice a (L.S.PH k).i cap):=ae wa w2.heap.size 8 _ _ _ kA
   have hb:Below wr.heap.size wr wa:=(b1.trans (HS.out.2.2.mono b1.size)).trans (bA.mono (Nat.le_trans b1.size HS.out.2.2.size))
   have hr:Row8 wa a (L.S.PH k).i cap (cO (L.S.hs k).v):=HS.out.2.1.below bA
   have hnw:∀ y,a=some y→0 < (L.S.PH k).i→wr.heap.size≤y.block:=fun y hy hl=>Nat.le_trans b1.size (HS.out.1.newY y hy hl)
   have hN:=qY e w0 wr wa t1 L1 (oH L.S k) (a,cap) h1 hb hr hnw (by rw[hS1];show (L.S.fs ++ []).length≤100000;simp;omega)
   have hM:Calls prog 57 #[ac X 0,.agg #[.int .i64 8,.int .i64 (k:Nat),.int .i64 1,.int .u32 0,.int .u32 0,.bool (aB (L.S.hs k).v),.int .i64 (L.S.hs k).v.lat,.slice a (L.S.PH k).i cap]] wa fun r w'=>r=.returned (.tuple #[])∧Hid (PWn e w0 t L w' (L.S.note [oH L.S k])):=by
    rw[← hX,← hF1.x]
    refine hN.mono ?_
    rintro r w' ⟨rfl,HP⟩
    refine⟨rfl,?_⟩
    have:=PWn.bind hF1 hE1 HP.out
    rw[hS1]at this
    have e9:(L.S.note []).note [oH L.S k]=L.S.note [oH L.S k]:=by
     unfold Ws.note
     simp
    rw[e9]at this
    exact this
   clear hN
   have HE:Hid (_=wa):=hwa
   clear kA bA hwa hb hr hnw
   go_upto_region 4 with fail
   rw[HE.out]
   go_wp2_with fail
   refine hM.mono ?_
   rintro r w3 ⟨rfl,HP⟩
   go_wp2_with fail
   exact⟨Or.inr (Or.inl ⟨rfl,HP⟩),by decide⟩
  ·obtain⟨t1,L1,h1,hS1,hF1,hE1⟩:=H.out
   obtain⟨e1,c0',c1',c2'⟩:=(h1.2.wb h1.1).conn (k:=k) (by show k<L1.S.n;rw[hS1];exact hk)
   have cv:wr.cell? ⟨X,3,none⟩=some (.slice (af g 0) n cc):=by
    have:=(ae wr L1.x 3 _ _ _ (h1.2.wb h1.1).blk).trans (congrArg some e1)
    rw[← hX,← hg,← hcc,← hn,← hF1.x,← hF1.vc]
    refine this.trans ?_
    show some (Value.slice (af (eI L1.vc) 0) L1.S.n (gT L1.vc))=_
    rw[hS1]
    rfl
   have c0:wr.cell? ⟨g,k*3,none⟩=some (ac (L.hd k) 0):=by
    rw[← hg,← hF1.vc,← hF1.hd]
    exact c0'
   have c1:wr.cell? ⟨g,k*3+1,none⟩=some (ac (L.dd k) 0):=by
    rw[← hg,← hF1.vc,← hF1.dd]
    exact c1'
   have c2:wr.cell? ⟨g,k*3+2,none⟩=some (ac (L.dm k) 0):=by
    rw[← hg,← hF1.vc,← hF1.dm]
    exact c2'
   clear c0' c1' c2' e1
   go_wp2_with fail
   refine (hA2 _).mono ?_
   rintro r w1 ⟨rfl,b1⟩
   have gV:DV w1 (L.dd k) (L.dm k) (L1.dg k) 16 L.S.mx (L.S.PD k) (L1.dU k) (L.S.ds k):=by
    have:=(h1.below b1).2.dv (h1.below b1).1 (k:=k) (by rw[hS1];exact hk)
    rw[hS1,hF1.dd,hF1.dm]at this
    exact this
   go_wp2_with fail
   refine (jZ (L.dd k) (L.dm k) (L1.dg k) 16 L.S.mx (L.S.PD k) (L1.dU k) (L.S.ds k) w1 gV).mono ?_
   rintro r w2 ⟨a,cap,rfl,HS⟩
   have kA:=aA w2 (.cells #[.int .i64 ((L.S.ds k).st:Nat),.int .u32 ((L.S.ds k).ss:Nat),.int .u32 ((L.S.ds k).nm:Nat),.int .u32 ((L.S.ds k).sn:Nat),.int .i64 ((L.S.ds k).dc:Nat),.int .i64 (L.S.ds k).v.lat,.bool (aq (L.S.ds k).v),.bool (aB (L.S.ds k).v),.slice a (L.S.PD k).o cap] 43)
   have bA:=aC (Below.refl _ w2) (.cells #[.int .i64 ((L.S.ds k).st:Nat),.int .u32 ((L.S.ds k).ss:Nat),.int .u32 ((L.S.ds k).nm:Nat),.int .u32 ((L.S.ds k).sn:Nat),.int .i64 ((L.S.ds k).dc:Nat),.int .i64 (L.S.ds k).v.lat,.bool (aq (L.S.ds k).v),.bool (aB (L.S.ds k).v),.slice a (L.S.PD k).o cap] 43)
   obtain⟨wa,hwa⟩:∃ y,w2.alloc (.cells #[.int .i64 ((L.S.ds k).st:Nat),.int .u32 ((L.S.ds k).ss:Nat),.int .u32 ((L.S.ds k).nm:Nat),.int .u32 ((L.S.ds k).sn:Nat),.int .i64 ((L.S.ds k).dc:Nat),.int .i64 (L.S.ds k).v.lat,.bool (aq (L.S.ds k).v),.bool (aB (L.S.ds k).v),.slice a (L.S.PD k).o cap] 43)=y:=⟨_,rfl⟩
   rw[hwa]at kA bA
   have p5:wa.cell? ⟨w2.heap.size,5,none⟩=some (.int .i64 (L.S.ds k).v.lat):=ae wa w2.heap.size 5 _ _ _ kA
   have p7:wa.cell? ⟨w2.heap.size,7,none⟩=some (.bool (aB (L.S.ds k).v)):=ae wa w2.heap.size 7 _ _ _ kA
   have p8:wa.cell? ⟨w2.heap.size,8,none⟩=some (.slice a (L.S.PD k).o cap):=ae wa w2.heap.size 8 _ _ _ kA
   have hb:Below wr.heap.size wr wa:=(b1.trans (HS.out.2.2.mono b1.size)).trans (bA.mono (Nat.le_trans b1.size HS.out.2.2.size))
   have hr:Row8 wa a (L.S.PD k).o cap (cO (L.S.ds k).v):=HS.out.2.1.below bA
   have hnw:∀ y,a=some y→0 < (L.S.PD k).o→wr.heap.size≤y.block:=fun y hy hl=>Nat.le_trans b1.size (HS.out.1.newY y hy hl)
   have hN:=qY e w0 wr wa t1 L1 (oD L.S k) (a,cap) h1 hb hr hnw (by rw[hS1];show (L.S.fs ++ [oH L.S k]).length≤100000;simp;omega)
   have hM:Calls prog 57 #[ac X 0,.agg #[.int .i64 8,.int .i64 (k:Nat),.int .i64 2,.int .u32 0,.int .u32 0,.bool (aB (L.S.ds k).v),.int .i64 (L.S.ds k).v.lat,.slice a (L.S.PD k).o cap]] wa fun r w'=>r=.returned (.tuple #[])∧Hid (PWn e w0 t L w' (L.S.note [oH L.S k,oD L.S k])):=by
    rw[← hX,← hF1.x]
    refine hN.mono ?_
    rintro r w' ⟨rfl,HP⟩
    refine⟨rfl,?_⟩
    have:=PWn.bind hF1 hE1 HP.out
    rw[hS1]at this
    have e9:(L.S.note [oH L.S k]).note [oD L.S k]=L.S.note [oH L.S k,oD L.S k]:=by
     unfold Ws.note
     simp
    rw[e9]at this
    exact this
   clear hN
   have HE:Hid (_=wa):=hwa
   clear kA bA hwa hb hr hnw
   go_upto_region 4 with fail
   rw[HE.out]
   go_wp2_with fail
   refine hM.mono ?_
   rintro r w3 ⟨rfl,HP⟩
   go_wp2_with fail
   exact⟨Or.inr (Or.inr ⟨rfl,HP⟩),by decide⟩
  ·go_wp2_with fail
   go_end0
   exact⟨rfl,H⟩
def Pw.toB (L:Pw) (v:Value) (vs:List Value) (p:Option Addr) (f:Fm):Pw:={ L with bv:=v,bs:=vs,bp:=p,S:={ L.S with bg:=L.S.bg ++ [f] } }
theorem Pw.toB_t (L:Pw) (v:Value) (vs:List Value) (p:Option Addr) (f:Fm):(L.toB v vs p f).t 1=zC L.b L.m v vs p (L.S.bg ++ [f])∧∀ i,i≠1→(L.toB v vs p f).t i=L.t i:=by
 refine⟨rfl,fun i hi=>?_⟩
 unfold Pw.t
 by_cases h0:i=0
 ·rw[if_pos h0,if_pos h0]
  rfl
 ·rw[if_neg h0,if_neg h0,if_neg hi,if_neg hi]
  rfl
theorem PW.stepB {e:Nat→Nat} {w0 w w':World} {t:Nat→Thing} {L:Pw} {f:Fm} (h:PW e w0 w t L)
  (g:∃ g cap' x p',Off (L.b :: L.m :: L.bv.ownBlock.toList) w w'∧Bg 0 w' L.b L.m (.slice (af g 0) (L.S.bg.length+1) cap') (L.bs ++ [x]) p' (L.S.bg ++ [f])∧(L.bv.ownBlock=some g∨w.heap.size≤g)∧(∀ k,x.ownBlock=some k→w.heap.size≤k)∧(p'=L.bp∨∃ y,p'=some y∧w.heap.size≤y.block)):PWn e w0 t L w' { L.S with bg:=L.S.bg ++ [f] }:=by
 obtain⟨g,cap',x,p',o,hb,hg,hx,hp⟩:=g
 obtain⟨q1,q2⟩:=L.toB_t (.slice (af g 0) (L.S.bg.length+1) cap') (L.bs ++ [x]) p' f
 have hlen:=(h.2.bg h.1).2
 have hl2:(L.bs ++ [x]).length=(L.S.bg ++ [f]).length:=by simp[hlen]
 refine⟨_,L.toB (.slice (af g 0) (L.S.bg.length+1) cap') (L.bs ++ [x]) p' f,⟨?_,h.2.put 1 q2⟩,rfl,⟨rfl,rfl,rfl,rfl,rfl,rfl⟩,Els.put _ _ _ _⟩
 rw[q1]
 refine h.1.step _ (zC L.b L.m (.slice (af g 0) (L.S.bg.length+1) cap') (L.bs ++ [x]) p' (L.S.bg ++ [f])) (U:=kK L.b L.m L.bv L.bs L.bp) (by rw[h.2.2];rfl) ⟨o.more (fun k hk=>?_),fun k hk=>?_⟩ ⟨hb,hl2⟩ (fun k hk=>hb.ltU hl2 k hk)
 ·simp only[kK,List.mem_cons,List.mem_append]at hk ⊢
  rcases hk with hk | hk | hk
  ·exact .inl hk
  ·exact .inr (.inl hk)
  ·exact .inr (.inr (.inl hk))
 ·have hk:k ∈ kK L.b L.m (.slice (af g 0) (L.S.bg.length+1) cap') (L.bs ++ [x]) p':=hk
  simp only[kK,List.mem_cons,List.mem_append,List.mem_filterMap,Option.mem_toList,List.mem_map,List.not_mem_nil,or_false]at hk ⊢
  rcases hk with hk | hk | hk | ⟨y,hy,rfl⟩ | ⟨z,hz | hz,hz2⟩
  ·exact .inl (.inl hk)
  ·exact .inl (.inr (.inl hk))
  ·have:g=k:=by
    simp only[Value.ownBlock]at hk
    injection hk
   subst this
   rcases hg with hg | hg
   ·exact .inl (.inr (.inr (.inl hg)))
   ·exact .inr hg
  ·rcases hp with hp | ⟨y',hp,hy'⟩
   ·rw[hp]at hy
    exact .inl (.inr (.inr (.inr (.inl ⟨y,hy,rfl⟩))))
   ·rw[hp]at hy
    injection hy with hy
    subst hy
    exact .inr hy'
  ·exact .inl (.inr (.inr (.inr (.inr ⟨z,hz,hz2⟩))))
  ·rw[hz]at hz2
   exact .inr (hx k hz2)
theorem aa3 (e:Nat→Nat) (w0 w:World) (t:Nat→Thing) (L:Pw) (k s:Nat) (f:Fm) (a:Option Addr) (cap i:Nat) (h:PW e w0 w t L) (hF:L.S.fs.length≤90000) (hi:∀ j,i≠e j) (ht:t i=dF a f.1 cap f.2) (hf:f.1≤27) (hB:L.S.bg.length<4096):Calls prog 81 #[ac L.x 0,.int .i64 (k:Nat),.int .i64 (s:Nat),.slice a f.1 cap] w fun r w'=>r=.returned (.int .i64 (L.S.putI f))∧Hid (PWn e w0 t L w' (L.S.put k s f)):=by
 by_cases h0:f.1=0
 ·have e1:L.S.putI f = -1:=by unfold Ws.putI;rw[if_pos h0]
  have e2:L.S.put k s f=L.S:=by unfold Ws.put;rw[if_pos h0]
  rw[e1,e2,h0]
  have H0:Hid (PWn e w0 t L w L.S):=h.n
  clear h ht e1 e2 hf hB hF h0
  go_enter func81,ntmps81
  go_wp2_with fail
  go_ret
  exact⟨rfl,H0⟩
 ·have e1:L.S.putI f=((L.S.bg.length:Nat):Int):=by unfold Ws.putI;rw[if_neg h0]
  have e2:L.S.put k s f={ L.S.note (dq 1 k s f) with bg:=L.S.bg ++ [f] }:=by unfold Ws.put;rw[if_neg h0];rfl
  rw[e1,e2]
  have hN:Calls prog 106 #[ac L.x 0,.int .i64 1,.int .i64 (k:Nat),.int .i64 (s:Nat),.slice a f.1 cap] w fun r w'=>r=.returned (.tuple #[])∧Hid (PWn e w0 t L w' (L.S.note (dq 1 k s f))):=lw e w0 w t L 1 k s f a cap h (by omega) (h.row ht)
  have hP:∀ w1,PWn e w0 t L w1 (L.S.note (dq 1 k s f))→w1.cell? ⟨L.x,4,none⟩=some (ac L.b 0)∧Calls prog 107 #[ac L.b 0,.slice a f.1 cap] w1 fun r w'=>r=.returned (.tuple #[.int .i64 (L.S.bg.length:Nat),.int .i64 0])∧Hid (PWn e w0 t L w' { L.S.note (dq 1 k s f) with bg:=L.S.bg ++ [f] }):=fun w1 q=>by
   obtain⟨t1,L1,h1,hs,hx,he⟩:=q
   have ht1:t1 i=dF a f.1 cap f.2:=(he i hi).trans ht
   have hb:=h1.2.bg h1.1
   have e3:L1.S.bg=L.S.bg:=by rw[hs];rfl
   refine⟨?_,?_⟩
   ·have:=ae w1 L1.x 4 _ _ _ (h1.2.wb h1.1).blk
    rw[hx.x]at this
    refine this.trans ?_
    show some (ac L1.b 0)=_
    rw[hx.b]
   ·have hab:∀ y,a=some y→y.block≠L1.m:=fun y hy hm=>by
     refine h1.1.dis i (e 1) (hi 1) y.block ?_ ?_
     ·rw[ht1]
      show y.block ∈ (if 0<f.1 then a.toList.map (·.block) else [])
      rw[if_pos (by omega),hy]
      simp
     ·rw[h1.2.2 1]
      show y.block ∈ kK L1.b L1.m L1.bv L1.bs L1.bp
      rw[hm]
      simp[kK]
    have:=tv 0 L1.b L1.m L1.bv L1.bs L1.bp L1.S.bg a f.1 cap f.2 w1 hb.1 (h1.row ht1) hab hf (by rw[e3];exact hB) (Nat.zero_le _)
    rw[hx.b]at this
    refine this.mono ?_
    rintro r w' ⟨rfl,H⟩
    rw[e3]
    refine⟨rfl,PWn.bind hx he ?_⟩
    have h3:=h1.stepB (f:=f) (by rw[← hx.b]at H;exact H.out)
    have e4:({ L1.S with bg:=L1.S.bg ++ [f] }:Ws)={ L.S.note (dq 1 k s f) with bg:=L.S.bg ++ [f] }:=by
     rw[hs]
     rfl
    rw[← e4]
    exact h3
  obtain⟨X,hX⟩:∃ y,L.x=y:=⟨_,rfl⟩
  obtain⟨n,hn⟩:∃ y,f.1=y:=⟨_,rfl⟩
  have h0':(((n:Nat):Int) == 0)=false:=by
   rw[hn]at h0
   simp
   omega
  rw[hX,hn]at hN ⊢
  rw[hX,hn]at hP
  have HP:Hid (_):=hP
  clear h ht e1 e2 hf hB hF h0 hP
  go_enter func81,ntmps81
  go_wp2_with fail
  refine hN.mono ?_
  rintro r w1 ⟨rfl,H1⟩
  obtain⟨c4,hC⟩:=HP.out w1 H1.out
  clear hN
  go_wp2_with fail
  refine hC.mono ?_
  rintro r w2 ⟨rfl,H2⟩
  go_wp2_with fail
  go_ret
  exact⟨rfl,H2⟩
def cS (l:List (Nat × Obj)):Thing:=⟨l.map (·.1),fun w=>∀ p,p ∈ l→w.heap[p.1]?=some p.2,fun w w' q h o hl p hp=>(o.block p.1 (Array.getElem?_eq_some_iff.1 (h p hp)).1 (hl p.1 (List.mem_map_of_mem hp))).trans (h p hp)⟩
theorem PW.layL {e:Nat→Nat} {w0 w1 w:World} {t:Nat→Thing} {L:Pw} (h:PW e w0 w1 t L) (b:Below w1.heap.size w1 w) {i:Nat} (hi:∀ j,i≠e j) {l:List (Nat × Obj)} (R:∀ p,p ∈ l→w.heap[p.1]?=some p.2) (bu:∀ p,p ∈ l→w1.heap.size≤p.1):PW e w0 w (aF t i (cS l)) L:=by
 have h2:=h.below b
 have hu:∀ k,k ∈ (cS l).U→∃ p,p ∈ l∧p.1=k:=fun k hk=>by
  have hk:k ∈ l.map (·.1):=hk
  simpa using hk
 refine⟨h2.1.turn i _ (Off.refl _ _) R (fun k hk=>?_) (fun k hk j hj hm=>?_),h.2.1,fun j=>?_⟩
 ·obtain⟨p,hp,rfl⟩:=hu k hk
  exact⟨Nat.le_trans h.1.size (bu p hp),(Array.getElem?_eq_some_iff.1 (R p hp)).1⟩
 ·obtain⟨p,hp,rfl⟩:=hu k hk
  have:=(h.1.lt j _ hm).2
  have:=bu p hp
  omega
 ·rw[ag _ _ (fun q=>hi j q.symm)]
  exact h.2.2 j
def Fre (e:Nat→Nat) (t:Nat→Thing) (i:Nat):Prop:=∀ q,i≤q→(∀ j,2*q+1≠e j)∧t (2*q+1)=di
theorem Fre.put {e:Nat→Nat} {t:Nat→Thing} {i:Nat} (h:Fre e t i) (x:Thing):Fre e (aF t (2*i+1) x) (i+1):=fun q hq=>⟨(h q (by omega)).1,by rw[ag _ _ (by omega)];exact (h q (by omega)).2⟩
theorem Fre.els {e:Nat→Nat} {t t':Nat→Thing} {i:Nat} (h:Fre e t i) (l:Els e t t'):Fre e t' i:=fun q hq=>⟨(h q hq).1,by rw[l _ (h q hq).1];exact (h q hq).2⟩
theorem ot (e:Nat→Nat) (w0 w:World) (t:Nat→Thing) (L:Pw) (k:Nat) (a b:Sd) (n:Nat) (aa ab:Option Addr) (ca cb i:Nat) (h:PW e w0 w t L) (F:Fre e t i) (hF:L.S.fs.length≤90000):Calls prog 111 #[ac L.x 0,.int .i64 (k:Nat),.agg (bC a.st a.ss a.nm a.sn a.dc a.v.lat (aq a.v) (aB a.v) aa n ca),.agg (bC b.st b.ss b.nm b.sn b.dc b.v.lat (aq b.v) (aB b.v) ab n cb)] w fun r w'=>r=.returned (.tuple #[])∧Hid (PWn e w0 t L w' (L.S.note (dy k a b))):=by
 have kA:=aA w (.cells (bC a.st a.ss a.nm a.sn a.dc a.v.lat (aq a.v) (aB a.v) aa n ca) 43)
 have bA:=aC (Below.refl _ w) (.cells (bC a.st a.ss a.nm a.sn a.dc a.v.lat (aq a.v) (aB a.v) aa n ca) 43)
 have zA:(w.alloc (.cells (bC a.st a.ss a.nm a.sn a.dc a.v.lat (aq a.v) (aB a.v) aa n ca) 43)).heap.size=w.heap.size+1:=Array.size_push ..
 obtain⟨wa,hwa⟩:∃ y,w.alloc (.cells (bC a.st a.ss a.nm a.sn a.dc a.v.lat (aq a.v) (aB a.v) aa n ca) 43)=y:=⟨_,rfl⟩
 rw[hwa]at kA bA zA
 have kB:=aA wa (.cells (bC b.st b.ss b.nm b.sn b.dc b.v.lat (aq b.v) (aB b.v) ab n cb) 43)
 have bB:=aC (Below.refl _ wa) (.cells (bC b.st b.ss b.nm b.sn b.dc b.v.lat (aq b.v) (aB b.v) ab n cb) 43)
 obtain⟨wb,hwb⟩:∃ y,wa.alloc (.cells (bC b.st b.ss b.nm b.sn b.dc b.v.lat (aq b.v) (aB b.v) ab n cb) 43)=y:=⟨_,rfl⟩
 rw[hwb]at kB bB
 obtain⟨x,hx⟩:∃ y,w.heap.size=y:=⟨_,rfl⟩
 obtain⟨y,hy⟩:∃ y,wa.heap.size=y:=⟨_,rfl⟩
 have kA2:wb.heap[x]?=some (.cells (bC a.st a.ss a.nm a.sn a.dc a.v.lat (aq a.v) (aB a.v) aa n ca) 43 (0,0)):=by
  rw[← hx]
  exact (bB.block _ (by omega)).trans kA
 have kB2:wb.heap[y]?=some (.cells (bC b.st b.ss b.nm b.sn b.dc b.v.lat (aq b.v) (aB b.v) ab n cb) 43 (0,0)):=by
  rw[← hy]
  exact kB
 have bW:Below w.heap.size w wb:=bA.trans (bB.mono bA.size)
 have h9:=h.layL bW (i:=2*i+1) (F i (Nat.le_refl _)).1 (l:=[(x,.cells (bC a.st a.ss a.nm a.sn a.dc a.v.lat (aq a.v) (aB a.v) aa n ca) 43 (0,0)),(y,.cells (bC b.st b.ss b.nm b.sn b.dc b.v.lat (aq b.v) (aB b.v) ab n cb) 43 (0,0))]) (by
  intro p hp
  simp only[List.mem_cons,List.not_mem_nil,or_false]at hp
  rcases hp with rfl | rfl
  ·exact kA2
  ·exact kB2) (by
  intro p hp
  simp only[List.mem_cons,List.not_mem_nil,or_false]at hp
  rcases hp with rfl | rfl
  ·exact Nat.le_of_eq hx
  ·show w.heap.size≤y
   omega)
 obtain⟨t9,ht9⟩:∃ z,aF t (2*i+1) (cS [(x,.cells (bC a.st a.ss a.nm a.sn a.dc a.v.lat (aq a.v) (aB a.v) aa n ca) 43 (0,0)),(y,.cells (bC b.st b.ss b.nm b.sn b.dc b.v.lat (aq b.v) (aB b.v) ab n cb) 43 (0,0))])=z:=⟨_,rfl⟩
 have t9i:t9 (2*i+1)=cS [(x,.cells (bC a.st a.ss a.nm a.sn a.dc a.v.lat (aq a.v) (aB a.v) aa n ca) 43 (0,0)),(y,.cells (bC b.st b.ss b.nm b.sn b.dc b.v.lat (aq b.v) (aB b.v) ab n cb) 43 (0,0))]:=by
  rw[← ht9]
  exact al _ _ _
 have HZ:Hid (∀ w' S,PWn e w0 t9 L w' S→PWn e w0 t L w' S):=fun w' S q=>by
  rw[← ht9]at q
  exact q.drop (F i (Nat.le_refl _)).1 (F i (Nat.le_refl _)).2
 rw[ht9]at h9
 have hN:Calls prog 57 #[ac L.x 0,.agg #[.int .i64 7,.int .i64 (k:Nat),.int .i64 2,.int .u32 0,.int .u32 0,.bool false,.int .i64 0,.slice none 0 0]] wb fun r w'=>r=.returned (.tuple #[])∧Hid (PWn e w0 t9 L w' (L.S.note [cX 7 k 2])):=jV e w0 wb t9 L 7 k 2 0 0 h9 (by omega)
 have HK:Hid (∀ w1 l,PWn e w0 t9 L w1 (L.S.note l)→l.length≤1→w1.cell? ⟨x,1,none⟩=some (.int .u32 (a.ss:Nat))∧w1.cell? ⟨y,1,none⟩=some (.int .u32 (b.ss:Nat))∧Calls prog 57 #[ac L.x 0,.agg #[.int .i64 3,.int .i64 (k:Nat),.int .i64 2,.int .u32 (b.ss:Nat),.int .u32 0,.bool false,.int .i64 0,.slice none 0 0]] w1 fun r w'=>r=.returned (.tuple #[])∧Hid (PWn e w0 t9 L w' (L.S.note (l ++ [⟨3,k,2,b.ss,0,false,0,cG⟩])))):=fun w1 l q hl=>by
  obtain⟨t1,L1,h1,hs,hf,he⟩:=q
  have ht:=h1.1.get (i:=2*i+1) ((he _ (F i (Nat.le_refl _)).1).trans t9i)
  have g1:w1.heap[x]?=_:=ht (x,.cells (bC a.st a.ss a.nm a.sn a.dc a.v.lat (aq a.v) (aB a.v) aa n ca) 43 (0,0)) (by simp)
  have g2:w1.heap[y]?=_:=ht (y,.cells (bC b.st b.ss b.nm b.sn b.dc b.v.lat (aq b.v) (aB b.v) ab n cb) 43 (0,0)) (by simp)
  refine⟨ae w1 x 1 _ _ _ g1,ae w1 y 1 _ _ _ g2,?_⟩
  have e1:L1.S.fs.length≤100000:=by
   rw[hs]
   show (L.S.fs ++ l).length≤100000
   rw[List.length_append]
   omega
  have:=jV e w0 w1 t1 L1 3 k 2 b.ss 0 h1 e1
  rw[hf.x]at this
  refine this.mono ?_
  rintro r w' ⟨rfl,H⟩
  refine⟨rfl,PWn.bind hf he ?_⟩
  have e2:L1.S.note [⟨3,k,2,b.ss,0,false,0,cG⟩]=L.S.note (l ++ [⟨3,k,2,b.ss,0,false,0,cG⟩]):=by
   rw[hs]
   unfold Ws.note
   simp
  rw[← e2]
  exact H.out
 have H0:Hid (PWn e w0 t9 L wb (L.S.note [])):=by
  have e1:L.S.note []=L.S:=by unfold Ws.note;rw[List.append_nil]
  show PWn e w0 t9 L wb (L.S.note [])
  rw[e1]
  exact h9.n
 obtain⟨d1',d2',hM0⟩:=HK.out wb [] H0.out (by simp)
 have d01:wb.cell? ⟨x,0,none⟩=some (.int .i64 (a.st:Nat)):=ae wb x 0 _ _ _ kA2
 have d02:wb.cell? ⟨y,0,none⟩=some (.int .i64 (b.st:Nat)):=ae wb y 0 _ _ _ kB2
 obtain⟨X,hX⟩:∃ y,L.x=y:=⟨_,rfl⟩
 rw[hX]at hN hM0 HK ⊢
 have HE:Hid (_=wa):=hwa
 have HE2:Hid (_=wb):=hwb
 have HS:Hid (w.heap.size=x):=hx
 have HS2:Hid (w.heap.size+1=y):=zA.symm.trans hy
 clear kA kB bA bB bW zA kA2 kB2 hwa hwb h h9 hx hy ht9 t9i F
 by_cases qb:b.st=6
 ·by_cases qa:a.st=6
  ·by_cases qs:b.ss=a.ss
   ·skip
    have hi:¬ (b.st=6∧a.st≠6):=fun q=>q.2 qa
    have hj:¬ (b.ss≠a.ss∧b.ss≠0):=fun q=>q.1 qs
    have eL:dy k a b=[]:=by unfold dy;rw[if_neg hi,if_neg hj];rfl
    rw[eL]
    have u1:(((b.st:Nat):Int) == 6)=true:=(aT b.st 6).trans (decide_eq_true qb)
    have u2:(((a.st:Nat):Int) == 6)=true:=(aT a.st 6).trans (decide_eq_true qa)
    have u3:(((b.ss:Nat):Int) == ((a.ss:Nat):Int))=true:=(aT b.ss a.ss).trans (decide_eq_true qs)
    have v2:(((a.st:Nat):Int) != 6)=false:=congrArg not u2
    have v3:(((b.ss:Nat):Int) != ((a.ss:Nat):Int))=false:=congrArg not u3
    clear hi hj eL qb qs qa
    go_enter func111,ntmps111
    go_upto_region 1 with fail
    rw[HE.out,HE2.out,HS2.out,HS.out]
    go_wp2_with fail
    go_end0
    exact⟨rfl,HZ.out _ _ H0.out⟩
   ·by_cases qz:b.ss=0
    ·skip
     have hi:¬ (b.st=6∧a.st≠6):=fun q=>q.2 qa
     have hj:¬ (b.ss≠a.ss∧b.ss≠0):=fun q=>q.2 qz
     have eL:dy k a b=[]:=by unfold dy;rw[if_neg hi,if_neg hj];rfl
     rw[eL]
     have u1:(((b.st:Nat):Int) == 6)=true:=(aT b.st 6).trans (decide_eq_true qb)
     have u2:(((a.st:Nat):Int) == 6)=true:=(aT a.st 6).trans (decide_eq_true qa)
     have u3:(((b.ss:Nat):Int) == ((a.ss:Nat):Int))=false:=(aT b.ss a.ss).trans (decide_eq_false qs)
     have u4:(((b.ss:Nat):Int) == 0)=true:=(aT b.ss 0).trans (decide_eq_true qz)
     have v2:(((a.st:Nat):Int) != 6)=false:=congrArg not u2
     have v3:(((b.ss:Nat):Int) != ((a.ss:Nat):Int))=true:=congrArg not u3
     have v4:(((b.ss:Nat):Int) != 0)=false:=congrArg not u4
     clear hi hj eL qb qs qa qz
     go_enter func111,ntmps111
     go_upto_region 1 with fail
     rw[HE.out,HE2.out,HS2.out,HS.out]
     go_wp2_with fail
     go_end0
     exact⟨rfl,HZ.out _ _ H0.out⟩
    ·skip
     have hi:¬ (b.st=6∧a.st≠6):=fun q=>q.2 qa
     have hj:b.ss≠a.ss∧b.ss≠0:=⟨qs,qz⟩
     have eL:dy k a b=[] ++ [⟨3,k,2,b.ss,0,false,0,cG⟩]:=by unfold dy;rw[if_neg hi,if_pos hj]
     rw[eL]
     have u1:(((b.st:Nat):Int) == 6)=true:=(aT b.st 6).trans (decide_eq_true qb)
     have u2:(((a.st:Nat):Int) == 6)=true:=(aT a.st 6).trans (decide_eq_true qa)
     have u3:(((b.ss:Nat):Int) == ((a.ss:Nat):Int))=false:=(aT b.ss a.ss).trans (decide_eq_false qs)
     have u4:(((b.ss:Nat):Int) == 0)=false:=(aT b.ss 0).trans (decide_eq_false qz)
     have v2:(((a.st:Nat):Int) != 6)=false:=congrArg not u2
     have v3:(((b.ss:Nat):Int) != ((a.ss:Nat):Int))=true:=congrArg not u3
     have v4:(((b.ss:Nat):Int) != 0)=true:=congrArg not u4
     clear hi hj eL qb qs qa qz
     go_enter func111,ntmps111
     go_upto_region 1 with fail
     rw[HE.out,HE2.out,HS2.out,HS.out]
     go_wp2_with fail
     refine (hM0).mono ?_
     rintro r w3 ⟨rfl,H3⟩
     go_wp2_with fail
     go_end0
     exact⟨rfl,HZ.out _ _ H3.out⟩
  ·by_cases qs:b.ss=a.ss
   ·skip
    have hi:b.st=6∧a.st≠6:=⟨qb,qa⟩
    have hj:¬ (b.ss≠a.ss∧b.ss≠0):=fun q=>q.1 qs
    have eL:dy k a b=[cX 7 k 2]:=by unfold dy;rw[if_pos hi,if_neg hj];rfl
    rw[eL]
    have u1:(((b.st:Nat):Int) == 6)=true:=(aT b.st 6).trans (decide_eq_true qb)
    have u2:(((a.st:Nat):Int) == 6)=false:=(aT a.st 6).trans (decide_eq_false qa)
    have u3:(((b.ss:Nat):Int) == ((a.ss:Nat):Int))=true:=(aT b.ss a.ss).trans (decide_eq_true qs)
    have v2:(((a.st:Nat):Int) != 6)=true:=congrArg not u2
    have v3:(((b.ss:Nat):Int) != ((a.ss:Nat):Int))=false:=congrArg not u3
    clear hi hj eL qb qs qa
    go_enter func111,ntmps111
    go_upto_region 1 with fail
    rw[HE.out,HE2.out,HS2.out,HS.out]
    go_wp2_with fail
    refine hN.mono ?_
    rintro r w1 ⟨rfl,H1⟩
    obtain⟨d1,d2,hM⟩:=HK.out w1 _ H1.out (by simp)
    go_wp2_with fail
    go_end0
    exact⟨rfl,HZ.out _ _ H1.out⟩
   ·by_cases qz:b.ss=0
    ·skip
     have hi:b.st=6∧a.st≠6:=⟨qb,qa⟩
     have hj:¬ (b.ss≠a.ss∧b.ss≠0):=fun q=>q.2 qz
     have eL:dy k a b=[cX 7 k 2]:=by unfold dy;rw[if_pos hi,if_neg hj];rfl
     rw[eL]
     have u1:(((b.st:Nat):Int) == 6)=true:=(aT b.st 6).trans (decide_eq_true qb)
     have u2:(((a.st:Nat):Int) == 6)=false:=(aT a.st 6).trans (decide_eq_false qa)
     have u3:(((b.ss:Nat):Int) == ((a.ss:Nat):Int))=false:=(aT b.ss a.ss).trans (decide_eq_false qs)
     have u4:(((b.ss:Nat):Int) == 0)=true:=(aT b.ss 0).trans (decide_eq_true qz)
     have v2:(((a.st:Nat):Int) != 6)=true:=congrArg not u2
     have v3:(((b.ss:Nat):Int) != ((a.ss:Nat):Int))=true:=congrArg not u3
     have v4:(((b.ss:Nat):Int) != 0)=false:=congrArg not u4
     clear hi hj eL qb qs qa qz
     go_enter func111,ntmps111
     go_upto_region 1 with fail
     rw[HE.out,HE2.out,HS2.out,HS.out]
     go_wp2_with fail
     refine hN.mono ?_
     rintro r w1 ⟨rfl,H1⟩
     obtain⟨d1,d2,hM⟩:=HK.out w1 _ H1.out (by simp)
     go_wp2_with fail
     go_end0
     exact⟨rfl,HZ.out _ _ H1.out⟩
    ·skip
     have hi:b.st=6∧a.st≠6:=⟨qb,qa⟩
     have hj:b.ss≠a.ss∧b.ss≠0:=⟨qs,qz⟩
     have eL:dy k a b=[cX 7 k 2] ++ [⟨3,k,2,b.ss,0,false,0,cG⟩]:=by unfold dy;rw[if_pos hi,if_pos hj]
     rw[eL]
     have u1:(((b.st:Nat):Int) == 6)=true:=(aT b.st 6).trans (decide_eq_true qb)
     have u2:(((a.st:Nat):Int) == 6)=false:=(aT a.st 6).trans (decide_eq_false qa)
     have u3:(((b.ss:Nat):Int) == ((a.ss:Nat):Int))=false:=(aT b.ss a.ss).trans (decide_eq_false qs)
     have u4:(((b.ss:Nat):Int) == 0)=false:=(aT b.ss 0).trans (decide_eq_false qz)
     have v2:(((a.st:Nat):Int) != 6)=true:=congrArg not u2
     have v3:(((b.ss:Nat):Int) != ((a.ss:Nat):Int))=true:=congrArg not u3
     have v4:(((b.ss:Nat):Int) != 0)=true:=congrArg not u4
     clear hi hj eL qb qs qa qz
     go_enter func111,ntmps111
     go_upto_region 1 with fail
     rw[HE.out,HE2.out,HS2.out,HS.out]
     go_wp2_with fail
     refine hN.mono ?_
     rintro r w1 ⟨rfl,H1⟩
     obtain⟨d1,d2,hM⟩:=HK.out w1 _ H1.out (by simp)
     go_wp2_with fail
     refine (hM).mono ?_
     rintro r w3 ⟨rfl,H3⟩
     go_wp2_with fail
     go_end0
     exact⟨rfl,HZ.out _ _ H3.out⟩
 ·by_cases qs:b.ss=a.ss
  ·skip
   have hi:¬ (b.st=6∧a.st≠6):=fun q=>qb q.1
   have hj:¬ (b.ss≠a.ss∧b.ss≠0):=fun q=>q.1 qs
   have eL:dy k a b=[]:=by unfold dy;rw[if_neg hi,if_neg hj];rfl
   rw[eL]
   have u1:(((b.st:Nat):Int) == 6)=false:=(aT b.st 6).trans (decide_eq_false qb)
   have u3:(((b.ss:Nat):Int) == ((a.ss:Nat):Int))=true:=(aT b.ss a.ss).trans (decide_eq_true qs)
   have v3:(((b.ss:Nat):Int) != ((a.ss:Nat):Int))=false:=congrArg not u3
   clear hi hj eL qb qs
   go_enter func111,ntmps111
   go_upto_region 1 with fail
   rw[HE.out,HE2.out,HS2.out,HS.out]
   go_wp2_with fail
   go_end0
   exact⟨rfl,HZ.out _ _ H0.out⟩
  ·by_cases qz:b.ss=0
   ·skip
    have hi:¬ (b.st=6∧a.st≠6):=fun q=>qb q.1
    have hj:¬ (b.ss≠a.ss∧b.ss≠0):=fun q=>q.2 qz
    have eL:dy k a b=[]:=by unfold dy;rw[if_neg hi,if_neg hj];rfl
    rw[eL]
    have u1:(((b.st:Nat):Int) == 6)=false:=(aT b.st 6).trans (decide_eq_false qb)
    have u3:(((b.ss:Nat):Int) == ((a.ss:Nat):Int))=false:=(aT b.ss a.ss).trans (decide_eq_false qs)
    have u4:(((b.ss:Nat):Int) == 0)=true:=(aT b.ss 0).trans (decide_eq_true qz)
    have v3:(((b.ss:Nat):Int) != ((a.ss:Nat):Int))=true:=congrArg not u3
    have v4:(((b.ss:Nat):Int) != 0)=false:=congrArg not u4
    clear hi hj eL qb qs qz
    go_enter func111,ntmps111
    go_upto_region 1 with fail
    rw[HE.out,HE2.out,HS2.out,HS.out]
    go_wp2_with fail
    go_end0
    exact⟨rfl,HZ.out _ _ H0.out⟩
   ·skip
    have hi:¬ (b.st=6∧a.st≠6):=fun q=>qb q.1
    have hj:b.ss≠a.ss∧b.ss≠0:=⟨qs,qz⟩
    have eL:dy k a b=[] ++ [⟨3,k,2,b.ss,0,false,0,cG⟩]:=by unfold dy;rw[if_neg hi,if_pos hj]
    rw[eL]
    have u1:(((b.st:Nat):Int) == 6)=false:=(aT b.st 6).trans (decide_eq_false qb)
    have u3:(((b.ss:Nat):Int) == ((a.ss:Nat):Int))=false:=(aT b.ss a.ss).trans (decide_eq_false qs)
    have u4:(((b.ss:Nat):Int) == 0)=false:=(aT b.ss 0).trans (decide_eq_false qz)
    have v3:(((b.ss:Nat):Int) != ((a.ss:Nat):Int))=true:=congrArg not u3
    have v4:(((b.ss:Nat):Int) != 0)=true:=congrArg not u4
    clear hi hj eL qb qs qz
    go_enter func111,ntmps111
    go_upto_region 1 with fail
    rw[HE.out,HE2.out,HS2.out,HS.out]
    go_wp2_with fail
    refine (hM0).mono ?_
    rintro r w3 ⟨rfl,H3⟩
    go_wp2_with fail
    go_end0
    exact⟨rfl,HZ.out _ _ H3.out⟩
theorem PW.outH {e:Nat→Nat} {w0 w w':World} {t:Nat→Thing} {L:Pw} (h:PW e w0 w t L) {k:Nat} (hk:k<L.S.n) {i:Nat} (F:Fre e t i) {s:Sh} {f:Fm} {v:Value} (hb:∀ j,j<f.1→f.2 j<256) (g:yo (L.hU k) w w' (L.hd k) (L.S.PH k) s f v):∃ a cap,v=.slice a f.1 cap∧PWn e w0 (aF t (2*i+1) (dF a f.1 cap f.2)) L w' (L.S.setH k s):=by
 obtain⟨U,g,hv,fr,hn⟩:=g
 obtain⟨a,cap,rfl,R⟩:=fr.row hb
 refine⟨a,cap,rfl,?_⟩
 obtain⟨h1,h2⟩:=h.2.stepH h.1 hk g hv
 obtain⟨q1,q2⟩:=L.toH_t s U hk
 have hi:=(F i (Nat.le_refl _)).1
 have hu:∀ q,q ∈ (dF a f.1 cap f.2).U→∃ y,a=some y∧0<f.1∧y.block=q:=fun q hq=>by
  have hq:q ∈ (if 0<f.1 then a.toList.map (·.block) else []):=hq
  split at hq
  ·next hl=>
   simp only[List.mem_map,Option.mem_toList]at hq
   obtain⟨y,hy,e⟩:=hq
   exact⟨y,hy,hl,e⟩
  ·cases hq
 have ho:∀ y,a=some y→0<f.1→(Value.slice a f.1 cap).ownBlock=some y.block:=fun y hy hl=>by
  subst hy
  rfl
 refine⟨aF (aF t (e (2+2*k)) ((L.toH k s U).t (2+2*k))) (2*i+1) (dF a f.1 cap f.2),L.toH k s U,⟨h1.turn _ _ (Off.refl _ _) R (fun q hq=>?_) (fun q hq j hj hm=>?_),h2.1,fun j=>?_⟩,rfl,⟨rfl,rfl,rfl,rfl,rfl,rfl⟩,fun q hq=>?_⟩
 ·obtain⟨y,hy,hl,rfl⟩:=hu q hq
  exact⟨Nat.le_trans h.1.size (fr.ge _ (ho y hy hl)),fr.lt _ (ho y hy hl)⟩
 ·obtain⟨y,hy,hl,rfl⟩:=hu q hq
  by_cases z:j=e (2+2*k)
  ·subst z
   rw[al,q1]at hm
   exact hn _ (ho y hy hl) hm
  ·rw[ag _ _ z]at hm
   have:=(h.1.lt j _ hm).2
   have:=fr.ge _ (ho y hy hl)
   omega
 ·rw[ag _ _ (fun q=>hi j q.symm)]
  exact h2.2 j
 ·by_cases z:q=2*i+1
  ·subst z
   rw[al,al]
  ·rw[ag _ _ z,ag _ _ z,ag _ _ (hq _)]
theorem PW.outD {e:Nat→Nat} {w0 w w':World} {t:Nat→Thing} {L:Pw} (h:PW e w0 w t L) {k:Nat} (hk:k<L.S.n) {i:Nat} (F:Fre e t i) {s:Sd} {f:Fm} {v:Value} (hb:∀ j,j<f.1→f.2 j<256) (g:Out (L.dU k) w w' (L.dd k) (L.dm k) (L.dg k) 16 L.S.mx (L.S.PD k) s f v):∃ a cap,v=.slice a f.1 cap∧PWn e w0 (aF t (2*i+1) (dF a f.1 cap f.2)) L w' (L.S.setD k s):=by
 obtain⟨U,g,hv,fr,hn⟩:=g
 obtain⟨a,cap,rfl,R⟩:=fr.row hb
 refine⟨a,cap,rfl,?_⟩
 obtain⟨h1,h2⟩:=h.2.stepD h.1 hk g hv
 obtain⟨q1,q2⟩:=L.toD_t s U hk
 have hi:=(F i (Nat.le_refl _)).1
 have hu:∀ q,q ∈ (dF a f.1 cap f.2).U→∃ y,a=some y∧0<f.1∧y.block=q:=fun q hq=>by
  have hq:q ∈ (if 0<f.1 then a.toList.map (·.block) else []):=hq
  split at hq
  ·next hl=>
   simp only[List.mem_map,Option.mem_toList]at hq
   obtain⟨y,hy,e⟩:=hq
   exact⟨y,hy,hl,e⟩
  ·cases hq
 have ho:∀ y,a=some y→0<f.1→(Value.slice a f.1 cap).ownBlock=some y.block:=fun y hy hl=>by
  subst hy
  rfl
 refine⟨aF (aF t (e (3+2*k)) ((L.toD k s U).t (3+2*k))) (2*i+1) (dF a f.1 cap f.2),L.toD k s U,⟨h1.turn _ _ (Off.refl _ _) R (fun q hq=>?_) (fun q hq j hj hm=>?_),h2.1,fun j=>?_⟩,rfl,⟨rfl,rfl,rfl,rfl,rfl,rfl⟩,fun q hq=>?_⟩
 ·obtain⟨y,hy,hl,rfl⟩:=hu q hq
  exact⟨Nat.le_trans h.1.size (fr.ge _ (ho y hy hl)),fr.lt _ (ho y hy hl)⟩
 ·obtain⟨y,hy,hl,rfl⟩:=hu q hq
  by_cases z:j=e (3+2*k)
  ·subst z
   rw[al,q1]at hm
   exact hn _ (ho y hy hl) hm
  ·rw[ag _ _ z]at hm
   have:=(h.1.lt j _ hm).2
   have:=fr.ge _ (ho y hy hl)
   omega
 ·rw[ag _ _ (fun q=>hi j q.symm)]
  exact h2.2 j
 ·by_cases z:q=2*i+1
  ·subst z
   rw[al,al]
  ·rw[ag _ _ z,ag _ _ z,ag _ _ (hq _)]
theorem xi (e:Nat→Nat) (w0 w:World) (t:Nat→Thing) (L:Pw) (k:Nat) (f:Fm) (a:Option Addr) (cap i:Nat) (h:PW e w0 w t L) (hk:k<L.S.n) (hF:L.S.fs.length≤90000) (hi:∀ j,i≠e j) (ht:t i=dF a f.1 cap f.2) (hL:(L.S.hs k).L.length<800000):Calls prog 82 #[ac L.x 0,.int .i64 (k:Nat),.slice a f.1 cap] w fun r w'=>r=.returned (.int .i64 (L.S.toH k f).e)∧Hid (PWn e w0 t L w' (L.S.toH k f).S):=by
 have hR:Calls prog 108 #[ac (L.hd k) 0,.slice a f.1 cap] w fun r w'=>r=.returned (.int .i64 (L.S.toH k f).e)∧Hid (PWn e w0 t L w' (L.S.setH k (dk (L.S.PH k) (L.S.hs k) f.1 f.2))):=by
  refine (mf (L.hd k) (L.S.PH k) (L.hU k) (L.S.hs k) a f.1 cap f.2 w (h.2.hv h.1 hk) (h.row ht) hL).mono ?_
  rintro r w' ⟨rfl,H⟩
  exact⟨rfl,h.stepH hk H.out⟩
 have hN:∀ w1,Hid (PWn e w0 t L w1 (L.S.setH k (dk (L.S.PH k) (L.S.hs k) f.1 f.2)))→Calls prog 109 #[ac L.x 0,.int .i64 (k:Nat),.int .i64 1,.slice a f.1 cap] w1 fun r w'=>r=.returned (.tuple #[])∧Hid (PWn e w0 t L w' ((L.S.setH k (dk (L.S.PH k) (L.S.hs k) f.1 f.2)).note (cy k 1 f))):=fun w1 q=>by
  obtain⟨t1,L1,h1,hs,hx,he⟩:=q.out
  have:=jW e w0 w1 t1 L1 k 1 f a cap i h1 (by rw[hs];exact hF) hi ((he i hi).trans ht)
  rw[hx.x,hs]at this
  refine this.mono ?_
  rintro r w' ⟨rfl,H⟩
  exact⟨rfl,PWn.bind hx he H.out⟩
 obtain⟨e1,c0',c1',c2'⟩:=(h.2.wb h.1).conn (k:=k) hk
 have cv:w.cell? ⟨L.x,3,none⟩=some (.slice (af (eI L.vc) 0) L.S.n (gT L.vc)):=(ae w L.x 3 _ _ _ (h.2.wb h.1).blk).trans (congrArg some e1)
 have c0:w.cell? ⟨eI L.vc,k*3,none⟩=some (ac (L.hd k) 0):=c0'
 have c1:w.cell? ⟨eI L.vc,k*3+1,none⟩=some (ac (L.dd k) 0):=c1'
 clear c0' c1' c2' e1
 obtain⟨X,hX⟩:∃ y,L.x=y:=⟨_,rfl⟩
 obtain⟨g,hg⟩:∃ y,eI L.vc=y:=⟨_,rfl⟩
 obtain⟨cc,hcc⟩:∃ y,gT L.vc=y:=⟨_,rfl⟩
 obtain⟨n,hn⟩:∃ y,L.S.n=y:=⟨_,rfl⟩
 have hlt:((k:Nat):Int) < ((n:Nat):Int):=by omega
 rw[hX,hg,hcc,hn]at cv
 rw[hg]at c0 c1
 have eS:(L.S.toH k f).S=if (L.S.toH k f).e=0 then (L.S.setH k (dk (L.S.PH k) (L.S.hs k) f.1 f.2)).note (cy k 1 f) else L.S.setH k (dk (L.S.PH k) (L.S.hs k) f.1 f.2):=rfl
 obtain⟨E,hE⟩:∃ y,(L.S.toH k f).e=y:=⟨_,rfl⟩
 obtain⟨l,hl⟩:∃ y,f.1=y:=⟨_,rfl⟩
 rw[eS,hE,hX,hl]
 rw[hE,hl]at hR
 rw[hX,hl]at hN
 have HN:Hid (_):=hN
 clear hN eS h ht hF
 by_cases h0:E=0
 ·rw[if_pos h0]
  subst h0
  go_enter func82,ntmps82
  go_wp2_with fail
  refine hR.mono ?_
  rintro r w1 ⟨rfl,H1⟩
  go_wp2_with fail
  refine (HN.out w1 (by rw[hl]at *;exact H1)).mono ?_
  rintro r w2 ⟨rfl,H2⟩
  go_wp2_with fail
  go_ret
  exact⟨rfl,H2⟩
 ·rw[if_neg h0]
  have h0':(E == 0)=false:=by simpa using h0
  go_enter func82,ntmps82
  go_wp2_with fail
  refine hR.mono ?_
  rintro r w1 ⟨rfl,H1⟩
  go_wp2_with fail
  go_ret
  exact⟨rfl,H1⟩
theorem xY (e:Nat→Nat) (w0 w:World) (t:Nat→Thing) (L:Pw) (S:Ws) (k s:Nat) (f:Fm) (a:Option Addr) (cap i:Nat) (h:PWn e w0 (aF t (2*i+1) (dF a f.1 cap f.2)) L w S) (F:Fre e t i) (hF:S.fs.length≤90000) (hf:f.1≤27) (hB:S.bg.length<4096):Calls prog 81 #[ac L.x 0,.int .i64 (k:Nat),.int .i64 (s:Nat),.slice a f.1 cap] w fun r w'=>r=.returned (.int .i64 (S.putI f))∧Hid (PWn e w0 t L w' (S.put k s f)):=by
 have hi:=F i (Nat.le_refl _)
 obtain⟨t1,L1,h1,hs,hx,he⟩:=id h
 have:=aa3 e w0 w t1 L1 k s f a cap (2*i+1) h1 (by rw[hs];exact hF) hi.1 ((he _ hi.1).trans (al _ _ _)) hf (by rw[hs];exact hB)
 rw[hx.x,hs]at this
 refine this.mono ?_
 rintro r w' ⟨rfl,H⟩
 exact⟨rfl,(PWn.bind hx he H.out).drop hi.1 hi.2⟩
theorem aan (e:Nat→Nat) (w0 w:World) (t:Nat→Thing) (L:Pw) (k i:Nat) (h:PW e w0 w t L) (F:Fre e t i) (hk:k<L.S.n) (hF:L.S.fs.length≤90000) (hB:L.S.bg.length<4096) (ho:(L.S.hs k).ms<4) (h5:1 ≤ (L.S.hs k).st∧(L.S.hs k).st≤5) (hsn:(L.S.hs k).st=4→(L.S.hs k).sn+1<4294967296) (hL:(L.S.hs k).L.length<700000) (hb:∀ j,j < (aP (L.S.PH k) (L.S.hs k)).1→(aP (L.S.PH k) (L.S.hs k)).2 j<256) (hf:(aP (L.S.PH k) (L.S.hs k)).1≤27):Calls prog 53 #[ac L.x 0,.int .i64 (k:Nat)] w fun r w'=>r=.returned (.tuple #[.int .i64 (L.S.snd k).e,.int .i64 (L.S.snd k).i])∧Hid (PWn e w0 t L w' (L.S.snd k).S):=by
 have hR:Calls prog 80 #[ac (L.hd k) 0] w fun r w'=>∃ a cap,r=.returned (.tuple #[.slice a (aP (L.S.PH k) (L.S.hs k)).1 cap,.int .i64 (L.S.snd k).e])∧Hid (PWn e w0 (aF t (2*i+1) (dF a (aP (L.S.PH k) (L.S.hs k)).1 cap (aP (L.S.PH k) (L.S.hs k)).2)) L w' (L.S.setH k (cF (L.S.PH k) (L.S.hs k)))):=by
  refine (sc (L.hd k) (L.S.PH k) (L.hU k) (L.S.hs k) w (h.2.hv h.1 hk) ho h5 hsn hL).mono ?_
  rintro r w' ⟨v,rfl,H⟩
  obtain⟨a,cap,rfl,hp⟩:=h.outH hk F hb H.out
  exact⟨a,cap,rfl,hp⟩
 have hN:∀ a cap w1,Hid (PWn e w0 (aF t (2*i+1) (dF a (aP (L.S.PH k) (L.S.hs k)).1 cap (aP (L.S.PH k) (L.S.hs k)).2)) L w1 (L.S.setH k (cF (L.S.PH k) (L.S.hs k))))→Calls prog 81 #[ac L.x 0,.int .i64 (k:Nat),.int .i64 1,.slice a (aP (L.S.PH k) (L.S.hs k)).1 cap] w1 fun r w'=>r=.returned (.int .i64 (L.S.snd k).i)∧Hid (PWn e w0 t L w' (L.S.snd k).S):=fun a cap w1 q=>xY e w0 w1 t L _ k 1 (aP (L.S.PH k) (L.S.hs k)) a cap i q.out F hF hf hB
 obtain⟨e1,c0',c1',c2'⟩:=(h.2.wb h.1).conn (k:=k) hk
 have cv:w.cell? ⟨L.x,3,none⟩=some (.slice (af (eI L.vc) 0) L.S.n (gT L.vc)):=(ae w L.x 3 _ _ _ (h.2.wb h.1).blk).trans (congrArg some e1)
 have c0:w.cell? ⟨eI L.vc,k*3,none⟩=some (ac (L.hd k) 0):=c0'
 have c1:w.cell? ⟨eI L.vc,k*3+1,none⟩=some (ac (L.dd k) 0):=c1'
 clear c0' c1' c2' e1
 obtain⟨X,hX⟩:∃ y,L.x=y:=⟨_,rfl⟩
 obtain⟨g,hg⟩:∃ y,eI L.vc=y:=⟨_,rfl⟩
 obtain⟨cc,hcc⟩:∃ y,gT L.vc=y:=⟨_,rfl⟩
 obtain⟨n,hn⟩:∃ y,L.S.n=y:=⟨_,rfl⟩
 have hlt:((k:Nat):Int) < ((n:Nat):Int):=by omega
 rw[hX,hg,hcc,hn]at cv
 rw[hg]at c0 c1
 obtain⟨E,hE⟩:∃ y,(L.S.snd k).e=y:=⟨_,rfl⟩
 obtain⟨I,hI⟩:∃ y,(L.S.snd k).i=y:=⟨_,rfl⟩
 obtain⟨S',hS'⟩:∃ y,(L.S.snd k).S=y:=⟨_,rfl⟩
 obtain⟨S1,hS1⟩:∃ y,L.S.setH k (cF (L.S.PH k) (L.S.hs k))=y:=⟨_,rfl⟩
 obtain⟨f,hf'⟩:∃ y,aP (L.S.PH k) (L.S.hs k)=y:=⟨_,rfl⟩
 rw[hE,hI,hS',hX]
 rw[hE,hf',hS1]at hR
 rw[hX,hI,hS',hf',hS1]at hN
 obtain⟨fl,fb⟩:=f
 have HN:Hid (_):=hN
 clear hN h hF hb hf hf' hS1 hS' F
 go_enter func53,ntmps53
 go_wp2_with fail
 refine hR.mono ?_
 rintro r w1 ⟨a,cap,rfl,H1⟩
 clear hR
 go_wp2_with fail
 refine (HN.out a cap w1 H1).mono ?_
 rintro r w2 ⟨rfl,H2⟩
 go_wp2_with fail
 go_ret2
 exact⟨rfl,H2⟩
theorem PWn.below {e:Nat→Nat} {w0 w:World} {t:Nat→Thing} {L:Pw} {S:Ws} {w':World} (h:PWn e w0 t L w S) (b:Below w.heap.size w w'):PWn e w0 t L w' S:=by
 obtain⟨t1,L1,h1,r⟩:=h
 exact⟨t1,L1,h1.below b,r⟩
theorem PWn.box {e:Nat→Nat} {w0 w:World} {t:Nat→Thing} {L:Pw} {S:Ws} {q:Nat} {l:List (Nat × Obj)} (h:PWn e w0 t L w S) (hq:∀ j,q≠e j) (ht:t q=cS l):∀ p,p ∈ l→w.heap[p.1]?=some p.2:=by
 obtain⟨t1,L1,h1,_,_,he⟩:=h
 exact h1.1.get ((he q hq).trans ht)
theorem PWn.rowq {e:Nat→Nat} {w0 w:World} {t:Nat→Thing} {L:Pw} {S:Ws} {q:Nat} {a:Option Addr} {n c:Nat} {bs:Nat→Nat} (h:PWn e w0 t L w S) (hq:∀ j,q≠e j) (ht:t q=dF a n c bs):Row8 w a n c bs:=by
 obtain⟨t1,L1,h1,_,_,he⟩:=h
 exact h1.row ((he q hq).trans ht)
theorem mz {e:Nat→Nat} {w0 w:World} {t:Nat→Thing} {L:Pw} {S:Ws} (k:Nat) (a b:Sd) (n:Nat) (aa ab:Option Addr) (ca cb i:Nat) (h:PWn e w0 t L w S) (F:Fre e t i) (hF:S.fs.length≤90000):Calls prog 111 #[ac L.x 0,.int .i64 (k:Nat),.agg (bC a.st a.ss a.nm a.sn a.dc a.v.lat (aq a.v) (aB a.v) aa n ca),.agg (bC b.st b.ss b.nm b.sn b.dc b.v.lat (aq b.v) (aB b.v) ab n cb)] w fun r w'=>r=.returned (.tuple #[])∧Hid (PWn e w0 t L w' (S.note (dy k a b))):=by
 obtain⟨t1,L1,h1,hs,hx,he⟩:=h
 have:=ot e w0 w t1 L1 k a b n aa ab ca cb i h1 (F.els he) (by rw[hs];exact hF)
 rw[hx.x,hs]at this
 refine this.mono ?_
 rintro r w' ⟨rfl,H⟩
 exact⟨rfl,PWn.bind hx he H.out⟩
theorem ox {e:Nat→Nat} {w0 w:World} {t:Nat→Thing} {L:Pw} {S:Ws} (k s:Nat) (f:Fm) (a:Option Addr) (cap i:Nat) (h:PWn e w0 t L w S) (hF:S.fs.length≤90000) (hi:∀ j,i≠e j) (ht:t i=dF a f.1 cap f.2):Calls prog 109 #[ac L.x 0,.int .i64 (k:Nat),.int .i64 (s:Nat),.slice a f.1 cap] w fun r w'=>r=.returned (.tuple #[])∧Hid (PWn e w0 t L w' (S.note (cy k s f))):=by
 obtain⟨t1,L1,h1,hs,hx,he⟩:=h
 have:=jW e w0 w t1 L1 k s f a cap i h1 (by rw[hs];exact hF) hi ((he i hi).trans ht)
 rw[hx.x,hs]at this
 refine this.mono ?_
 rintro r w' ⟨rfl,H⟩
 exact⟨rfl,PWn.bind hx he H.out⟩
theorem uA {e:Nat→Nat} {w0 w:World} {t:Nat→Thing} {L:Pw} {S:Ws} {k:Nat} (h:PWn e w0 t L w S) (hk:k<S.n):Calls prog 31 #[ac (L.dd k) 0] w fun r w'=>∃ a cap,r=.returned (.agg #[.int .i64 ((S.ds k).st:Nat),.int .u32 ((S.ds k).ss:Nat),.int .u32 ((S.ds k).nm:Nat),.int .u32 ((S.ds k).sn:Nat),.int .i64 ((S.ds k).dc:Nat),.int .i64 (S.ds k).v.lat,.bool (aq (S.ds k).v),.bool (aB (S.ds k).v),.slice a (S.PD k).o cap])∧Hid (Below w.heap.size w w'):=by
 obtain⟨t1,L1,h1,hs,hx,he⟩:=h
 subst hs
 have:=jZ _ _ _ _ _ _ _ _ w (h1.2.dv h1.1 hk)
 rw[hx.dd]at this
 refine this.mono ?_
 rintro r w' ⟨a,cap,rfl,H⟩
 exact⟨a,cap,rfl,H.out.2.2⟩
theorem jE (k:Nat) (a b:Sd):(dy k a b).length≤2:=by
 unfold dy
 rw[List.length_append]
 split <;> split <;> simp
theorem fd (k s:Nat) (f:Fm):(cy k s f).length≤2:=by
 unfold cy dq
 split <;> simp
theorem yw {w:World} {x:Nat} {s:Sd} {o ca:Nat} {aa:Option Addr} (h:w.heap[x]?=some (.cells (bC s.st s.ss s.nm s.sn s.dc s.v.lat (aq s.v) (aB s.v) aa o ca) 43 (0,0))):w.cell? ⟨x,0,none⟩=some (.int .i64 (s.st:Nat))∧w.cell? ⟨x,1,none⟩=some (.int .u32 (s.ss:Nat))∧w.cell? ⟨x,2,none⟩=some (.int .u32 (s.nm:Nat))∧w.cell? ⟨x,3,none⟩=some (.int .u32 (s.sn:Nat))∧w.cell? ⟨x,4,none⟩=some (.int .i64 (s.dc:Nat))∧w.cell? ⟨x,5,none⟩=some (.int .i64 s.v.lat)∧w.cell? ⟨x,6,none⟩=some (.bool (aq s.v))∧w.cell? ⟨x,7,none⟩=some (.bool (aB s.v))∧w.cell? ⟨x,8,none⟩=some (.slice aa o ca):=
 ⟨ae w x 0 _ _ _ h,ae w x 1 _ _ _ h,ae w x 2 _ _ _ h,ae w x 3 _ _ _ h,ae w x 4 _ _ _ h,ae w x 5 _ _ _ h,ae w x 6 _ _ _ h,ae w x 7 _ _ _ h,ae w x 8 _ _ _ h⟩
theorem zv (X k g cc n dd fl cap:Nat) (a:Option Addr) (s b:Sd) (o m:Nat) (E I:Int) (br:Bool) (w:World) (Q1:Nat→Option Addr→Nat→World→Prop) (Q2 Q3 Q4:Nat→Option Addr→Nat→Option Addr→Nat→World→Prop) (Z:World→Prop)
  (cv:w.cell? ⟨X,3,none⟩=some (.slice (af g 0) n cc)) (c1:w.cell? ⟨g,k*3+1,none⟩=some (ac dd 0)) (hlt:((k:Nat):Int) < ((n:Nat):Int))
  (hA:Calls prog 31 #[ac dd 0] w fun r w'=>∃ aa ca,r=.returned (.agg (bC s.st s.ss s.nm s.sn s.dc s.v.lat (aq s.v) (aB s.v) aa o ca))∧Hid (Below w.heap.size w w'))
  (hLay:∀ w1 wa aa ca,Below w.heap.size w w1→wa=w1.alloc (.cells (bC s.st s.ss s.nm s.sn s.dc s.v.lat (aq s.v) (aB s.v) aa o ca) 43)→Q1 w1.heap.size aa ca wa)
  (hR:∀ x aa ca wa,Q1 x aa ca wa→Calls prog 110 #[ac dd 0,.slice a fl cap] wa fun r w'=>∃ ab cb,r=.returned (.tuple #[.slice ab m cb,.int .i64 E])∧Hid (Q2 x aa ca ab cb w'))
  (hB2:∀ x aa ca ab cb w2,Hid (Q2 x aa ca ab cb w2)→Calls prog 31 #[ac dd 0] w2.drew fun r w'=>∃ a3 c3,r=.returned (.agg (bC b.st b.ss b.nm b.sn b.dc b.v.lat (aq b.v) (aB b.v) a3 o c3))∧Hid (Q2 x aa ca ab cb w'))
  (hC:∀ x aa ca ab cb a3 c3 w3,Hid (Q2 x aa ca ab cb w3)→Calls prog 111 #[ac X 0,.int .i64 (k:Nat),.agg (bC s.st s.ss s.nm s.sn s.dc s.v.lat (aq s.v) (aB s.v) aa o ca),.agg (bC b.st b.ss b.nm b.sn b.dc b.v.lat (aq b.v) (aB b.v) a3 o c3)] w3 fun r w'=>r=.returned (.tuple #[])∧Hid (Q3 x aa ca ab cb w'))
  (hX2:∀ x aa ca ab cb w2,Hid (Q2 x aa ca ab cb w2)→w2.heap[x]?=some (.cells (bC s.st s.ss s.nm s.sn s.dc s.v.lat (aq s.v) (aB s.v) aa o ca) 43 (0,0)))
  (hX3:∀ x aa ca ab cb w2,Hid (Q3 x aa ca ab cb w2)→w2.heap[x]?=some (.cells (bC s.st s.ss s.nm s.sn s.dc s.v.lat (aq s.v) (aB s.v) aa o ca) 43 (0,0)))
  (hBr:∀ x aa ca ab cb w4,Hid (Q3 x aa ca ab cb w4)→Calls prog 112 #[.slice a fl cap,.int .i64 (s.st:Nat)] w4 fun r w'=>r=.returned (.bool br)∧Hid (Q3 x aa ca ab cb w'))
  (hFr:∀ x aa ca ab cb w5,Hid (Q3 x aa ca ab cb w5)→Calls prog 109 #[ac X 0,.int .i64 (k:Nat),.int .i64 2,.slice a fl cap] w5 fun r w'=>r=.returned (.tuple #[])∧Hid (Q4 x aa ca ab cb w'))
  (hPu:∀ x aa ca ab cb w6,(if E=0∧br=true then Q4 x aa ca ab cb w6 else Q3 x aa ca ab cb w6)→Calls prog 81 #[ac X 0,.int .i64 (k:Nat),.int .i64 2,.slice ab m cb] w6 fun r w'=>r=.returned (.int .i64 I)∧Hid (Z w')) :
  Calls prog 83 #[ac X 0,.int .i64 (k:Nat),.slice a fl cap] w fun r w'=>r=.returned (.tuple #[.int .i64 E,.int .i64 I])∧Hid (Z w'):=by
 have HLay:Hid (_):=hLay
 have HR:Hid (_):=hR
 have HB2:Hid (_):=hB2
 have HC:Hid (_):=hC
 have HX2:Hid (_):=hX2
 have HX3:Hid (_):=hX3
 have HBr:Hid (_):=hBr
 have HFr:Hid (_):=hFr
 have HPu:Hid (_):=hPu
 clear hLay hR hB2 hC hX2 hX3 hBr hFr hPu
 go_enter func83,ntmps83
 go_wp2_with fail
 refine hA.mono ?_
 rintro r w1 ⟨aa,ca,rfl,H1⟩
 clear hA
 obtain⟨wa,hwa⟩:∃ y,w1.alloc (.cells (bC s.st s.ss s.nm s.sn s.dc s.v.lat (aq s.v) (aB s.v) aa o ca) 43)=y:=⟨_,rfl⟩
 obtain⟨x,hx⟩:∃ y,w1.heap.size=y:=⟨_,rfl⟩
 have hq1:=HLay.out w1 wa aa ca H1.out hwa.symm
 rw[hx]at hq1
 have hRc:=HR.out x aa ca wa hq1
 have HE:Hid (_=wa):=hwa
 have HS:Hid (_=x):=hx
 clear hwa hx hq1
 go_upto_region 3 with fail
 rw[HE.out,HS.out]
 go_wp2_with fail
 refine hRc.mono ?_
 rintro r w2 ⟨ab,cb,rfl,H2⟩
 clear hRc
 have HSx:=yw ((Below.drew (Below.refl w2.heap.size w2)).block x (Array.getElem?_eq_some_iff.1 (HX2.out x aa ca ab cb w2 H2)).1 |>.trans (HX2.out x aa ca ab cb w2 H2))
 go_wp2_with fail
 refine wp_region_held_drew (S:=fun w'=>w'.cell? ⟨x,0,none⟩=some (Value.int .i64 (s.st:Nat))∧w'.cell? ⟨x,1,none⟩=some (Value.int .u32 (s.ss:Nat))∧w'.cell? ⟨x,2,none⟩=some (Value.int .u32 (s.nm:Nat))∧w'.cell? ⟨x,3,none⟩=some (Value.int .u32 (s.sn:Nat))∧w'.cell? ⟨x,4,none⟩=some (Value.int .i64 (s.dc:Nat))∧w'.cell? ⟨x,5,none⟩=some (Value.int .i64 s.v.lat)∧w'.cell? ⟨x,6,none⟩=some (Value.bool (aq s.v))∧w'.cell? ⟨x,7,none⟩=some (Value.bool (aB s.v))∧w'.cell? ⟨x,8,none⟩=some (Value.slice aa o ca)) (by kernel_rfl) HSx (fun _=>?_)
 refine an (i:=0) (v:=ac X 0) ?_
 refine an (i:=1) (v:=Value.int .i64 (k:Nat)) ?_
 refine an (i:=2) (v:=Value.agg (bC s.st s.ss s.nm s.sn s.dc s.v.lat (aq s.v) (aB s.v) aa o ca)) ?_
 refine an (i:=3) (v:=ac dd 0) ?_
 refine aE (i:=4) 31 #[ac dd 0] (by kernel_rfl) rfl (by kernel_rfl) (by go_simp) ?_
 refine (HB2.out x aa ca ab cb w2 H2).mono ?_
 rintro r w3 ⟨a3,c3,rfl,H3⟩
 have HSy:=yw (HX2.out x aa ca ab cb w3 H3)
 refine⟨_,rfl,HSy,?_⟩
 refine aE (i:=5) 111 #[ac X 0,Value.int .i64 (k:Nat),Value.agg (bC s.st s.ss s.nm s.sn s.dc s.v.lat (aq s.v) (aB s.v) aa o ca),Value.agg (bC b.st b.ss b.nm b.sn b.dc b.v.lat (aq b.v) (aB b.v) a3 o c3)] (by kernel_rfl) rfl (by kernel_rfl) (by go_simp) ?_
 refine (HC.out x aa ca ab cb a3 c3 w3 H3).mono ?_
 rintro r w4 ⟨rfl,H4⟩
 have HSz:=yw (HX3.out x aa ca ab cb w4 H4)
 refine⟨_,rfl,HSz,?_⟩
 refine wpAnyH_done (by kernel_rfl) ?_ _
 have cst:=HSz.1
 have hBc:=HBr.out x aa ca ab cb w4 H4
 clear HSx HSy HSz H2 H3 HB2 HC HX2 HX3 HR HLay cv c1
 by_cases h0:E=0
 ·subst h0
  cases br
  ·go_wp2_with fail
   refine hBc.mono ?_
   rintro r w5 ⟨rfl,H5⟩
   have hPc:=HPu.out x aa ca ab cb w5 (by rw[if_neg (by simp)];exact H5.out)
   go_wp2_with fail
   refine hPc.mono ?_
   rintro r w6 ⟨rfl,H6⟩
   go_wp2_with fail
   go_ret2
   exact⟨rfl,H6⟩
  ·go_wp2_with fail
   refine hBc.mono ?_
   rintro r w5 ⟨rfl,H5⟩
   have hFc:=HFr.out x aa ca ab cb w5 H5
   go_wp2_with fail
   refine hFc.mono ?_
   rintro r w6 ⟨rfl,H6⟩
   have hPc:=HPu.out x aa ca ab cb w6 (by rw[if_pos (by simp)];exact H6.out)
   go_wp2_with fail
   refine hPc.mono ?_
   rintro r w7 ⟨rfl,H7⟩
   go_wp2_with fail
   go_ret2
   exact⟨rfl,H7⟩
 ·have h0':(E == 0)=false:=by simpa using h0
  have hPc:=HPu.out x aa ca ab cb w4 (by rw[if_neg (fun q=>h0 q.1)];exact H4.out)
  go_wp2_with fail
  refine hPc.mono ?_
  rintro r w6 ⟨rfl,H6⟩
  go_wp2_with fail
  go_ret2
  exact⟨rfl,H6⟩
theorem zh (e:Nat→Nat) (w0 w:World) (t:Nat→Thing) (L:Pw) (k:Nat) (f:Fm) (a:Option Addr) (cap i q:Nat) (h:PW e w0 w t L) (F:Fre e t i) (hk:k<L.S.n) (hF:L.S.fs.length≤80000) (hB:L.S.bg.length<4096) (hq:∀ j,q≠e j) (hqi:q<2*i+1) (ht:t q=dF a f.1 cap f.2) (hsn:(L.S.ds k).st=4→(L.S.ds k).sn+1<4294967296) (ho:(L.S.ds k).od<4) (hL:(L.S.ds k).L.length<800000) (htm:(L.S.ds k).ms.t<9223372036854774000) (hb:∀ j,j < (az (L.S.PD k) L.S.mx 16 (L.S.ds k) f.1 f.2).f.1→(az (L.S.PD k) L.S.mx 16 (L.S.ds k) f.1 f.2).f.2 j<256) (hf:(az (L.S.PD k) L.S.mx 16 (L.S.ds k) f.1 f.2).f.1≤27) :
  Calls prog 83 #[ac L.x 0,.int .i64 (k:Nat),.slice a f.1 cap] w fun r w'=>r=.returned (.tuple #[.int .i64 (L.S.toD k f).e,.int .i64 (L.S.toD k f).i])∧Hid (PWn e w0 t L w' (L.S.toD k f).S):=by
 have hA:=uA (k:=k) h.n hk
 obtain⟨s,hs⟩:∃ y,L.S.ds k=y:=⟨_,rfl⟩
 obtain⟨P,hP⟩:∃ y,L.S.PD k=y:=⟨_,rfl⟩
 obtain⟨tx,htx⟩:∃ y:Nat→Option Addr→Nat→Nat→Thing,y=fun x aa ca=>aF t (2*i+1) (cS [(x,.cells (bC s.st s.ss s.nm s.sn s.dc s.v.lat (aq s.v) (aB s.v) aa P.o ca) 43 (0,0))]):=⟨_,rfl⟩
 obtain⟨ty,hty⟩:∃ y:Nat→Option Addr→Nat→Option Addr→Nat→Nat→Thing,y=fun x aa ca ab cb=>aF (tx x aa ca) (2 * (i+1)+1) (dF ab (az (L.S.PD k) L.S.mx 16 (L.S.ds k) f.1 f.2).f.1 cb (az (L.S.PD k) L.S.mx 16 (L.S.ds k) f.1 f.2).f.2):=⟨_,rfl⟩
 have Fx:∀ x aa ca,Fre e (tx x aa ca) (i+1):=fun x aa ca=>by
  rw[htx]
  exact F.put _
 have Fy:∀ x aa ca ab cb,Fre e (ty x aa ca ab cb) (i+1+1):=fun x aa ca ab cb=>by
  rw[hty]
  exact (Fx x aa ca).put _
 have i1:=(F i (Nat.le_refl _)).1
 have yx:∀ x aa ca ab cb,ty x aa ca ab cb (2*i+1)=cS [(x,.cells (bC s.st s.ss s.nm s.sn s.dc s.v.lat (aq s.v) (aB s.v) aa P.o ca) 43 (0,0))]:=fun x aa ca ab cb=>by
  rw[hty,htx]
  dsimp only
  rw[ag _ _ (by omega),al]
 have yq:∀ x aa ca ab cb,ty x aa ca ab cb q=dF a f.1 cap f.2:=fun x aa ca ab cb=>by
  rw[hty,htx]
  dsimp only
  rw[ag _ _ (by omega),ag _ _ (by omega)]
  exact ht
 have xq:∀ x aa ca,tx x aa ca q=dF a f.1 cap f.2:=fun x aa ca=>by
  rw[htx]
  dsimp only
  rw[ag _ _ (by omega)]
  exact ht
 have hR:∀ x aa ca wa,PW e w0 wa (tx x aa ca) L→Calls prog 110 #[ac (L.dd k) 0,.slice a f.1 cap] wa fun r w'=>∃ ab cb,r=.returned (.tuple #[.slice ab (az (L.S.PD k) L.S.mx 16 (L.S.ds k) f.1 f.2).f.1 cb,.int .i64 (az (L.S.PD k) L.S.mx 16 (L.S.ds k) f.1 f.2).e])∧Hid (PWn e w0 (ty x aa ca ab cb) L w' (L.S.setD k (az (L.S.PD k) L.S.mx 16 (L.S.ds k) f.1 f.2).s)):=fun x aa ca wa hp=>by
  refine (mD (L.dd k) (L.dm k) (L.dg k) 16 L.S.mx (L.S.PD k) (L.dU k) (L.S.ds k) a f.1 cap f.2 wa (hp.2.dv hp.1 hk) (hp.row (xq x aa ca)) hsn ho hL htm).mono ?_
  rintro r w' ⟨v,rfl,H⟩
  obtain⟨ab,cb,rfl,h9⟩:=hp.outD hk (Fx x aa ca) hb H.out
  refine⟨ab,cb,rfl,?_⟩
  rw[hty]
  exact h9
 have e0:(L.S.setD k (az (L.S.PD k) L.S.mx 16 (L.S.ds k) f.1 f.2).s).ds k=(az (L.S.PD k) L.S.mx 16 (L.S.ds k) f.1 f.2).s:=by
  unfold Ws.setD bf
  exact if_pos rfl
 have hB2:∀ x aa ca ab cb w2,Hid (PWn e w0 (ty x aa ca ab cb) L w2 (L.S.setD k (az (L.S.PD k) L.S.mx 16 (L.S.ds k) f.1 f.2).s))→Calls prog 31 #[ac (L.dd k) 0] w2.drew fun r w'=>∃ a3 c3,r=.returned (.agg #[.int .i64 ((az (L.S.PD k) L.S.mx 16 (L.S.ds k) f.1 f.2).s.st:Nat),.int .u32 ((az (L.S.PD k) L.S.mx 16 (L.S.ds k) f.1 f.2).s.ss:Nat),.int .u32 ((az (L.S.PD k) L.S.mx 16 (L.S.ds k) f.1 f.2).s.nm:Nat),.int .u32 ((az (L.S.PD k) L.S.mx 16 (L.S.ds k) f.1 f.2).s.sn:Nat),.int .i64 ((az (L.S.PD k) L.S.mx 16 (L.S.ds k) f.1 f.2).s.dc:Nat),.int .i64 (az (L.S.PD k) L.S.mx 16 (L.S.ds k) f.1 f.2).s.v.lat,.bool (aq (az (L.S.PD k) L.S.mx 16 (L.S.ds k) f.1 f.2).s.v),.bool (aB (az (L.S.PD k) L.S.mx 16 (L.S.ds k) f.1 f.2).s.v),.slice a3 P.o c3])∧Hid (PWn e w0 (ty x aa ca ab cb) L w' (L.S.setD k (az (L.S.PD k) L.S.mx 16 (L.S.ds k) f.1 f.2).s)):=fun x aa ca ab cb w2 H=>by
  have hd:PWn e w0 (ty x aa ca ab cb) L w2.drew (L.S.setD k (az (L.S.PD k) L.S.mx 16 (L.S.ds k) f.1 f.2).s):=H.out.below (Below.drew (Below.refl _ _))
  have:=uA (k:=k) hd hk
  rw[e0]at this
  refine this.mono ?_
  rintro r w' ⟨a3,c3,rfl,H3⟩
  refine⟨a3,c3,?_,hd.below H3.out⟩
  rw[← hP]
  rfl
 have hC:∀ x aa ca ab cb a3 c3 w3,Hid (PWn e w0 (ty x aa ca ab cb) L w3 (L.S.setD k (az (L.S.PD k) L.S.mx 16 (L.S.ds k) f.1 f.2).s))→Calls prog 111 #[ac L.x 0,.int .i64 (k:Nat),.agg (bC s.st s.ss s.nm s.sn s.dc s.v.lat (aq s.v) (aB s.v) aa P.o ca),.agg #[.int .i64 ((az (L.S.PD k) L.S.mx 16 (L.S.ds k) f.1 f.2).s.st:Nat),.int .u32 ((az (L.S.PD k) L.S.mx 16 (L.S.ds k) f.1 f.2).s.ss:Nat),.int .u32 ((az (L.S.PD k) L.S.mx 16 (L.S.ds k) f.1 f.2).s.nm:Nat),.int .u32 ((az (L.S.PD k) L.S.mx 16 (L.S.ds k) f.1 f.2).s.sn:Nat),.int .i64 ((az (L.S.PD k) L.S.mx 16 (L.S.ds k) f.1 f.2).s.dc:Nat),.int .i64 (az (L.S.PD k) L.S.mx 16 (L.S.ds k) f.1 f.2).s.v.lat,.bool (aq (az (L.S.PD k) L.S.mx 16 (L.S.ds k) f.1 f.2).s.v),.bool (aB (az (L.S.PD k) L.S.mx 16 (L.S.ds k) f.1 f.2).s.v),.slice a3 P.o c3]] w3 fun r w'=>r=.returned (.tuple #[])∧Hid (PWn e w0 (ty x aa ca ab cb) L w' (L.S.toD1 k f)):=fun x aa ca ab cb a3 c3 w3 H=>by
  have:=mz k s (az (L.S.PD k) L.S.mx 16 (L.S.ds k) f.1 f.2).s P.o aa a3 ca c3 _ H.out (Fy x aa ca ab cb) (by show L.S.fs.length≤90000;omega)
  rw[← hs]at this
  rw[← hs]
  exact this
 have hBox:∀ x aa ca ab cb w2 S,Hid (PWn e w0 (ty x aa ca ab cb) L w2 S)→w2.heap[x]?=some (.cells (bC s.st s.ss s.nm s.sn s.dc s.v.lat (aq s.v) (aB s.v) aa P.o ca) 43 (0,0)):=fun x aa ca ab cb w2 S H=>H.out.box i1 (yx x aa ca ab cb) (x,_) (by simp)
 have hBr:∀ x aa ca ab cb w4 S,Hid (PWn e w0 (ty x aa ca ab cb) L w4 S)→Calls prog 112 #[.slice a f.1 cap,.int .i64 (s.st:Nat)] w4 fun r w'=>r=.returned (.bool (yy f s.st))∧Hid (PWn e w0 (ty x aa ca ab cb) L w' S):=fun x aa ca ab cb w4 S H=>by
  refine (wW f a cap s.st w4 (H.out.rowq hq (yq x aa ca ab cb))).mono ?_
  rintro r w' ⟨rfl,b⟩
  exact⟨rfl,H.out.below b⟩
 have l1:(L.S.toD1 k f).fs.length≤80002:=by
  show (L.S.fs ++ dy k (L.S.ds k) (az (L.S.PD k) L.S.mx 16 (L.S.ds k) f.1 f.2).s).length≤_
  have:=jE k (L.S.ds k) (az (L.S.PD k) L.S.mx 16 (L.S.ds k) f.1 f.2).s
  rw[List.length_append]
  omega
 have hFr:∀ x aa ca ab cb w5,Hid (PWn e w0 (ty x aa ca ab cb) L w5 (L.S.toD1 k f))→Calls prog 109 #[ac L.x 0,.int .i64 (k:Nat),.int .i64 2,.slice a f.1 cap] w5 fun r w'=>r=.returned (.tuple #[])∧Hid (PWn e w0 (ty x aa ca ab cb) L w' ((L.S.toD1 k f).note (cy k 2 f))):=fun x aa ca ab cb w5 H=>ox k 2 f a cap q H.out (by omega) hq (yq x aa ca ab cb)
 have l2:(L.S.toD2 k f).fs.length≤90000∧(L.S.toD2 k f).bg=L.S.bg:=by
  unfold Ws.toD2
  split
  ·refine⟨?_,rfl⟩
   show ((L.S.toD1 k f).fs ++ cy k 2 f).length≤_
   have:=fd k 2 f
   rw[List.length_append]
   omega
  ·exact⟨by omega,rfl⟩
 have hPu:∀ x aa ca ab cb w6,Hid (PWn e w0 (ty x aa ca ab cb) L w6 (L.S.toD2 k f))→Calls prog 81 #[ac L.x 0,.int .i64 (k:Nat),.int .i64 2,.slice ab (az (L.S.PD k) L.S.mx 16 (L.S.ds k) f.1 f.2).f.1 cb] w6 fun r w'=>r=.returned (.int .i64 (L.S.toD k f).i)∧Hid (PWn e w0 t L w' (L.S.toD k f).S):=fun x aa ca ab cb w6 H=>by
  have H':=H.out
  rw[hty]at H'
  refine (xY e w0 w6 (tx x aa ca) L (L.S.toD2 k f) k 2 (az (L.S.PD k) L.S.mx 16 (L.S.ds k) f.1 f.2).f ab cb (i+1) H' (Fx x aa ca) l2.1 hf (by rw[l2.2];exact hB)).mono ?_
  rintro r w' ⟨rfl,H7⟩
  refine⟨rfl,?_⟩
  have H8:=H7.out
  rw[htx]at H8
  exact PWn.drop H8 i1 (F i (Nat.le_refl _)).2
 have hLay:∀ w1 wa aa ca,Below w.heap.size w w1→wa=w1.alloc (.cells (bC s.st s.ss s.nm s.sn s.dc s.v.lat (aq s.v) (aB s.v) aa P.o ca) 43)→PW e w0 wa (tx w1.heap.size aa ca) L:=fun w1 wa aa ca b1 ew=>by
  subst ew
  rw[htx]
  refine (h.below b1).layL (aC (Below.refl _ w1) _) i1 (fun p hp=>?_) (fun p hp=>?_)
  ·simp only[List.mem_cons,List.not_mem_nil,or_false]at hp
   subst hp
   exact aA w1 _
  ·simp only[List.mem_cons,List.not_mem_nil,or_false]at hp
   subst hp
   exact Nat.le_refl _
 rw[hs,hP]at hA
 obtain⟨e1,c0',c1',c2'⟩:=(h.2.wb h.1).conn (k:=k) hk
 have cv:w.cell? ⟨L.x,3,none⟩=some (.slice (af (eI L.vc) 0) L.S.n (gT L.vc)):=(ae w L.x 3 _ _ _ (h.2.wb h.1).blk).trans (congrArg some e1)
 have c0:w.cell? ⟨eI L.vc,k*3,none⟩=some (ac (L.hd k) 0):=c0'
 have c1:w.cell? ⟨eI L.vc,k*3+1,none⟩=some (ac (L.dd k) 0):=c1'
 clear c0' c1' c2' e1
 obtain⟨X,hX⟩:∃ y,L.x=y:=⟨_,rfl⟩
 obtain⟨g,hg⟩:∃ y,eI L.vc=y:=⟨_,rfl⟩
 obtain⟨cc,hcc⟩:∃ y,gT L.vc=y:=⟨_,rfl⟩
 obtain⟨n,hn⟩:∃ y,L.S.n=y:=⟨_,rfl⟩
 have hlt:((k:Nat):Int) < ((n:Nat):Int):=by omega
 rw[hX,hg,hcc,hn]at cv
 rw[hg]at c0 c1
 have e2:L.S.toD2 k f=if (az (L.S.PD k) L.S.mx 16 (L.S.ds k) f.1 f.2).e=0∧yy f s.st=true then (L.S.toD1 k f).note (cy k 2 f) else L.S.toD1 k f:=by
  rw[← hs]
  rfl
 rw[hX]at hC hFr hPu ⊢
 exact zv X k g cc n (L.dd k) f.1 cap a s (az (L.S.PD k) L.S.mx 16 (L.S.ds k) f.1 f.2).s P.o (az (L.S.PD k) L.S.mx 16 (L.S.ds k) f.1 f.2).f.1 (az (L.S.PD k) L.S.mx 16 (L.S.ds k) f.1 f.2).e (L.S.toD k f).i (yy f s.st) w (fun x aa ca wa=>PW e w0 wa (tx x aa ca) L) (fun x aa ca ab cb w2=>PWn e w0 (ty x aa ca ab cb) L w2 (L.S.setD k (az (L.S.PD k) L.S.mx 16 (L.S.ds k) f.1 f.2).s)) (fun x aa ca ab cb w2=>PWn e w0 (ty x aa ca ab cb) L w2 (L.S.toD1 k f)) (fun x aa ca ab cb w2=>PWn e w0 (ty x aa ca ab cb) L w2 ((L.S.toD1 k f).note (cy k 2 f))) (fun w'=>PWn e w0 t L w' (L.S.toD k f).S) cv c1 hlt hA hLay hR (fun x aa ca ab cb w2 q=>hB2 x aa ca ab cb w2 q) (fun x aa ca ab cb a3 c3 w3 q=>hC x aa ca ab cb a3 c3 w3 q) (fun x aa ca ab cb w2 q=>hBox x aa ca ab cb w2 _ q) (fun x aa ca ab cb w2 q=>hBox x aa ca ab cb w2 _ q) (fun x aa ca ab cb w2 q=>hBr x aa ca ab cb w2 _ q) (fun x aa ca ab cb w2 q=>hFr x aa ca ab cb w2 q) (fun x aa ca ab cb w6 q=>hPu x aa ca ab cb w6 (by
  rw[e2]
  split at q
  ·next h9=>
   rw[if_pos h9]
   exact q
  ·next h9=>
   rw[if_neg h9]
   exact q))
theorem tp:∀ b0 b1 b2 b3 b4 b5 b6 b7:Bool,(2 * (2 * (2 * (2 * (2 * (2 * (2 * (2*0+b0.toNat)+b1.toNat)+b2.toNat)+b3.toNat)+b4.toNat)+b5.toNat)+b6.toNat)+b7.toNat)<256∧∀ j:Fin 8,(2 * (2 * (2 * (2 * (2 * (2 * (2 * (2*0+b0.toNat)+b1.toNat)+b2.toNat)+b3.toNat)+b4.toNat)+b5.toNat)+b6.toNat)+b7.toNat).testBit (7-j.val)=[b0,b1,b2,b3,b4,b5,b6,b7].getD j.val false:=by decide
theorem pK (at_ x i:Nat):yE at_ x i<256:=(tp _ _ _ _ _ _ _ _).1
theorem wv (at_ x i j:Nat) (hj:j<8):(yE at_ x i).testBit (7-j)=PM.ly at_ (PM.bl x) x (PM.bl x) (8*i+j):=by
 refine ((tp _ _ _ _ _ _ _ _).2 ⟨j,hj⟩).trans ?_
 rcases j with _ | _ | _ | _ | _ | _ | _ | _ | j
 all_goals first | rfl | omega
theorem yF (at_ x k:Nat):PM.fb (yE at_ x) k=PM.ly at_ (PM.bl x) x (PM.bl x) k:=by
 have h:=PM.fb_at (yE at_ x) (k / 8) (k % 8) (by omega)
 rw[show 8 * (k / 8)+k % 8=k by omega]at h
 rw[h,wv _ _ _ _ (by omega),show 8 * (k / 8)+k % 8=k by omega]
theorem Grb.fr {B:Nat} {w:World} {f:Fm} {at_ x:Nat} {v:Value} (h:Grb B w f.1 at_ x f.2 v):Fr w B v (rS f at_ x):=by
 obtain⟨g,ho,hb,hf⟩:=h
 have e:∀ i,i<f.1→g i=yE at_ x i:=PM.byte_ext hb (fun i _=>pK at_ x i) (fun k hk=>(hf k hk).trans (yF at_ x k).symm)
 have e2:CB (xr f.2 g) f.1=CB (xr f.2 (yE at_ x)) f.1:=dH _ _ _ (fun i hi=>by unfold xr;rw[e i hi])
 rw[e2]at ho
 exact ho
theorem oX (X b:Nat) (m:Mv) (d:Option Addr) (c:Nat) (f:Fm) (w:World) (Z:Option Addr→Nat→World→Prop)
  (cb:w.cell? ⟨X,4,none⟩=some (ac b 0))
  (hG:∀ wx,m.k=4→Below w.heap.size w wx→Calls prog 102 #[ac b 0,.int .i64 m.f,.int .i64 m.a,.int .u32 (m.w:Nat)] wx fun r w'=>∃ a cap,r=.returned (.tuple #[.slice a f.1 cap,.int .i64 0])∧Z a cap w'∧Below wx.heap.size wx w')
  (hT:∀ wx,m.k≠4→Below w.heap.size w wx→Calls prog 64 #[ac b 0,.int .i64 m.f] wx fun r w'=>∃ a cap,r=.returned (.tuple #[.slice a f.1 cap,.int .i64 0])∧Z a cap w'∧Below wx.heap.size wx w') :
  Calls prog 78 #[ac X 0,.agg (ak m m.c d c)] w fun r w'=>∃ a cap,r=.returned (.tuple #[.slice a f.1 cap,.int .i64 0])∧Hid (Z a cap w'):=by
 have kA:=aA w (.cells (ak m m.c d c) 39)
 have bA:=aC (Below.refl _ w) (.cells (ak m m.c d c) 39)
 obtain⟨wa,hwa⟩:∃ y,w.alloc (.cells (ak m m.c d c) 39)=y:=⟨_,rfl⟩
 rw[hwa]at kA bA
 obtain⟨x,hx⟩:∃ y,w.heap.size=y:=⟨_,rfl⟩
 have kB:wa.heap[x]?=some (.cells (ak m m.c d c) 39 (0,0)):=by
  rw[← hx]
  exact kA
 have bd:Below wa.heap.size wa wa.drew:=Below.drew (Below.refl _ _)
 have q0:wa.cell? ⟨x,0,none⟩=some (.int .i64 m.k):=ae wa x 0 _ _ _ kB
 have hs:∀ wx,Below wa.heap.size wa wx→wx.cell? ⟨X,4,none⟩=some (ac b 0)∧wx.cell? ⟨x,3,none⟩=some (Value.int .i64 m.f)∧wx.cell? ⟨x,4,none⟩=some (Value.int .i64 m.a)∧wx.cell? ⟨x,5,none⟩=some (Value.int .u32 (m.w:Nat)):=fun wx bx=>⟨ai (ai cb bA) bx,ai (ae wa x 3 _ _ _ kB) bx,ai (ae wa x 4 _ _ _ kB) bx,ai (ae wa x 5 _ _ _ kB) bx⟩
 have HSx:=hs wa.drew bd
 have hG:m.k=4→Calls prog 102 #[ac b 0,.int .i64 m.f,.int .i64 m.a,.int .u32 (m.w:Nat)] wa.drew fun r w'=>∃ a cap,r=.returned (.tuple #[.slice a f.1 cap,.int .i64 0])∧Hid (Hid (Z a cap w')∧w'.cell? ⟨X,4,none⟩=some (ac b 0)∧w'.cell? ⟨x,3,none⟩=some (Value.int .i64 m.f)∧w'.cell? ⟨x,4,none⟩=some (Value.int .i64 m.a)∧w'.cell? ⟨x,5,none⟩=some (Value.int .u32 (m.w:Nat))):=fun hk=>by
  refine (hG wa.drew hk (bA.trans (bd.mono bA.size))).mono ?_
  rintro r w' ⟨a,cap,rfl,hz,b2⟩
  exact⟨a,cap,rfl,hz,hs w' (bd.trans (b2.mono bd.size))⟩
 have hT:m.k≠4→Calls prog 64 #[ac b 0,.int .i64 m.f] wa.drew fun r w'=>∃ a cap,r=.returned (.tuple #[.slice a f.1 cap,.int .i64 0])∧Hid (Hid (Z a cap w')∧w'.cell? ⟨X,4,none⟩=some (ac b 0)∧w'.cell? ⟨x,3,none⟩=some (Value.int .i64 m.f)∧w'.cell? ⟨x,4,none⟩=some (Value.int .i64 m.a)∧w'.cell? ⟨x,5,none⟩=some (Value.int .u32 (m.w:Nat))):=fun hk=>by
  refine (hT wa.drew hk (bA.trans (bd.mono bA.size))).mono ?_
  rintro r w' ⟨a,cap,rfl,hz,b2⟩
  exact⟨a,cap,rfl,hz,hs w' (bd.trans (b2.mono bd.size))⟩
 have HE:Hid (_=wa):=hwa
 have HS:Hid (_=x):=hx
 clear kA kB bA bd hs hwa hx cb
 obtain⟨fl,fb⟩:=f
 by_cases hk:m.k=4
 ·have hG:=hG hk
  have q:(m.k == 4)=true:=by simpa using hk
  clear hT hk
  go_enter func78,ntmps78
  go_upto_region 1 with fail
  rw[HE.out,HS.out]
  go_wp2_with fail
  refine wp_region_held_drew (S:=fun w'=>w'.cell? ⟨X,4,none⟩=some (ac b 0)∧w'.cell? ⟨x,3,none⟩=some (Value.int .i64 m.f)∧w'.cell? ⟨x,4,none⟩=some (Value.int .i64 m.a)∧w'.cell? ⟨x,5,none⟩=some (Value.int .u32 (m.w:Nat))) (by kernel_rfl) HSx (fun _=>?_)
  refine an (i:=0) (v:=ac X 0) ?_
  refine an (i:=1) (v:=ac X 0) ?_
  refine an (i:=2) (v:=ac X 4) ?_
  refine an (i:=3) (v:=ac b 0) ?_
  refine an (i:=4) (v:=ac x 3) ?_
  refine an (i:=5) (v:=Value.int .i64 m.f) ?_
  refine an (i:=6) (v:=ac x 4) ?_
  refine an (i:=7) (v:=Value.int .i64 m.a) ?_
  refine an (i:=8) (v:=ac x 5) ?_
  refine an (i:=9) (v:=Value.int .u32 (m.w:Nat)) ?_
  refine aE (i:=10) 102 #[ac b 0,Value.int .i64 m.f,Value.int .i64 m.a,Value.int .u32 (m.w:Nat)] (by kernel_rfl) rfl (by kernel_rfl) (by go_simp) ?_
  refine hG.mono ?_
  rintro r w3 ⟨a,cap,rfl,H3⟩
  have HSy:w3.cell? ⟨X,4,none⟩=some (ac b 0)∧w3.cell? ⟨x,3,none⟩=some (Value.int .i64 m.f)∧w3.cell? ⟨x,4,none⟩=some (Value.int .i64 m.a)∧w3.cell? ⟨x,5,none⟩=some (Value.int .u32 (m.w:Nat)):=H3.out.2
  refine⟨_,rfl,HSy,?_⟩
  refine an (i:=11) (v:=Value.slice a fl cap) ?_
  refine an (i:=12) (v:=Value.int .i64 0) ?_
  refine an (i:=13) (v:=Value.slice a fl cap) ?_
  refine an (i:=14) (v:=Value.int .i64 0) ?_
  refine wpAnyH_done (by kernel_rfl) ?_ _
  clear HSx HSy
  go_wp2_with fail
  go_ret2
  exact⟨a,cap,by kernel_rfl,H3.out.1⟩
 ·have hT:=hT hk
  have q:(m.k == 4)=false:=by simpa using hk
  clear hG hk
  go_enter func78,ntmps78
  go_upto_region 1 with fail
  rw[HE.out,HS.out]
  go_wp2_with fail
  refine wp_region_held_drew (S:=fun w'=>w'.cell? ⟨X,4,none⟩=some (ac b 0)∧w'.cell? ⟨x,3,none⟩=some (Value.int .i64 m.f)∧w'.cell? ⟨x,4,none⟩=some (Value.int .i64 m.a)∧w'.cell? ⟨x,5,none⟩=some (Value.int .u32 (m.w:Nat))) (by kernel_rfl) HSx (fun _=>?_)
  refine an (i:=0) (v:=ac X 0) ?_
  refine an (i:=1) (v:=ac X 0) ?_
  refine an (i:=2) (v:=ac X 4) ?_
  refine an (i:=3) (v:=ac b 0) ?_
  refine an (i:=4) (v:=ac x 3) ?_
  refine an (i:=5) (v:=Value.int .i64 m.f) ?_
  refine aE (i:=6) 64 #[ac b 0,Value.int .i64 m.f] (by kernel_rfl) rfl (by kernel_rfl) (by go_simp) ?_
  refine hT.mono ?_
  rintro r w3 ⟨a,cap,rfl,H3⟩
  have HSy:w3.cell? ⟨X,4,none⟩=some (ac b 0)∧w3.cell? ⟨x,3,none⟩=some (Value.int .i64 m.f)∧w3.cell? ⟨x,4,none⟩=some (Value.int .i64 m.a)∧w3.cell? ⟨x,5,none⟩=some (Value.int .u32 (m.w:Nat)):=H3.out.2
  refine⟨_,rfl,HSy,?_⟩
  refine an (i:=7) (v:=Value.slice a fl cap) ?_
  refine an (i:=8) (v:=Value.int .i64 0) ?_
  refine an (i:=9) (v:=Value.slice a fl cap) ?_
  refine an (i:=10) (v:=Value.int .i64 0) ?_
  refine wpAnyH_done (by kernel_rfl) ?_ _
  clear HSx HSy
  go_wp2_with fail
  go_ret2
  exact⟨a,cap,by kernel_rfl,H3.out.1⟩
theorem PW.layF {e:Nat→Nat} {w0 w w':World} {t:Nat→Thing} {L:Pw} (h:PW e w0 w t L) {i:Nat} (F:Fre e t i) (b:Below w.heap.size w w') {f:Fm} {a:Option Addr} {cap:Nat} (fr:Fr w' w.heap.size (.slice a f.1 cap) f) (hb:∀ j,j<f.1→f.2 j<256):PW e w0 w' (aF t (2*i+1) (dF a f.1 cap f.2)) L:=by
 obtain⟨a',cap',e1,R⟩:=fr.row hb
 injection e1 with e1 _ e2
 subst e1 e2
 exact h.lay b (F i (Nat.le_refl _)).1 R (fun y hy hl=>fr.newY y hy hl)
theorem uo (e:Nat→Nat) (w0 w:World) (t:Nat→Thing) (L:Pw) (i:Nat) (m:Mv) (d:Option Addr) (c:Nat) (h:PW e w0 w t L) (F:Fre e t i) (h0:0≤m.f) (h1:m.f < ((L.S.bg.length:Nat):Int)) (hw:m.w<4294967296) (h4:m.k=4→cq (((L.S.bg.getD m.f.toNat cG).1:Nat):Int) m.a m.w=0) :
  Calls prog 78 #[ac L.x 0,.agg (ak m m.c d c)] w fun r w'=>∃ a cap,r=.returned (.tuple #[.slice a (L.S.fr m).1 cap,.int .i64 0])∧Hid (PW e w0 w' (aF t (2*i+1) (dF a (L.S.fr m).1 cap (L.S.fr m).2)) L):=by
 have hlt:m.f.toNat<L.S.bg.length:=by omega
 have hI:((m.f.toNat:Nat):Int)=m.f:=by omega
 obtain⟨f,hf⟩:∃ y,L.S.bg.getD m.f.toNat cG=y:=⟨_,rfl⟩
 have hg:L.S.bg[m.f.toNat]?=some f:=by
  rw[← hf,List.getD_eq_getElem?_getD,List.getElem?_eq_getElem hlt]
  rfl
 rw[hf]at h4
 have hby:f.1≤27∧∀ j,j<f.1→f.2 j<256:=(h.2.bg h.1).1.fl.small f (List.mem_of_getElem? hg)
 refine oX L.x L.b m d c (L.S.fr m) w (fun a cap w'=>PW e w0 w' (aF t (2*i+1) (dF a (L.S.fr m).1 cap (L.S.fr m).2)) L) (ae w L.x 4 _ _ _ (h.2.wb h.1).blk) (fun wx hk bx=>?_) (fun wx hk bx=>?_)
 ·have hp:=h.below bx
  have e1:L.S.fr m=rS f m.a.toNat m.w:=by
   unfold Ws.fr
   rw[if_pos hk,hf]
  have hm:=h4 hk
  have hm2:¬ (m.w=0∨m.a<0∨8 * ((f.1:Nat):Int)<m.a + ((PM.bl m.w:Nat):Int)):=fun q=>by
   unfold cq at hm
   rw[if_neg (by omega),if_pos q]at hm
   omega
  have hA:((m.a.toNat:Nat):Int)=m.a:=by omega
  have:=ju 0 L.b L.m L.bv L.bs L.bp L.S.bg m.f.toNat f m.a.toNat m.w wx (hp.2.bg hp.1).1 hg hw (fun q=>hm2 (.inl q)) (by omega)
  rw[hI,hA]at this
  refine this.mono ?_
  rintro r w' ⟨g,cap,rfl,H⟩
  rw[e1]
  refine⟨af g 0,cap,rfl,hp.layF F H.out.1 (Grb.fr H.out.2.1) (fun j hj=>?_),H.out.1⟩
  exact yi (n:=f.1) hby.2 (fun i _=>pK _ _ i) j hj
 ·have hp:=h.below bx
  have e1:L.S.fr m=f:=by
   unfold Ws.fr
   rw[if_neg hk,hf]
  have:=gX 0 L.b L.m L.bv L.bs L.bp L.S.bg m.f.toNat f wx (hp.2.bg hp.1).1 hg
  rw[hI]at this
  refine this.mono ?_
  rintro r w' ⟨a,cap,rfl,H⟩
  rw[e1]
  exact⟨a,cap,rfl,hp.layF F H.out.1 H.out.2 hby.2,H.out.1⟩
end Go.Proofs.YtenilkloffnjlaaGreat
