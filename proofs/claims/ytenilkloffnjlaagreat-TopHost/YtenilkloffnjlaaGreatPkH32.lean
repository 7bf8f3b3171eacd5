/- Part 33: contracts that the proof rests on. -/
import Derived.Deep.RegionLaw
import Derived.Test.YtenilkloffnjlaaGreatPkH30
import Derived.Test.YtenilkloffnjlaaGreatPkH31
set_option maxHeartbeats 64000000
set_option maxRecDepth 100000
namespace Go.Proofs.YtenilkloffnjlaaGreat
open Tryz
open Go.RowKit Go.Maps
set_option linter.unusedVariables false
def Pm.cs (P:Pm):List Value:=[.int .u32 (P.c:Nat),.int .i64 (P.o:Nat),.int .i64 (P.i:Nat),.int .i64 (P.t:Nat),.int .u32 (P.n:Nat)]
def zQ (n:Nat) (P:Nat→Pm):List Value:=(List.range n).flatMap fun i=>(P i).cs
abbrev Dl:=Option Addr × Nat
def Fa.cs (f:Fa) (d:Dl):List Value:=[.int .i64 (f.k:Nat),.int .i64 (f.c:Nat),.int .i64 (f.s:Nat),.int .u32 (f.ss:Nat),.int .u32 (f.nn:Nat),.bool f.on,.int .i64 f.cd,.slice d.1 f.d.1 d.2]
def vj:List Fa→List Dl→List Value
 | f :: F,d :: D=>f.cs d ++ vj F D
 | _,_=>[]
theorem sy:∀ (F:List Fa) (D:List Dl) (f:Fa) (d:Dl),D.length=F.length→vj (F ++ [f]) (D ++ [d])=vj F D ++ f.cs d
 | [],[],f,d,_=>by simp[vj]
 | g :: F,e :: D,f,d,h=>by
  have:=sy F D f d (by simpa using h)
  simp only[List.cons_append,vj,this,List.append_assoc]
def ij (n:Nat) (h d m:Nat→Nat):List Value:=(List.range n).flatMap fun k=>[ac (h k) 0,ac (d k) 0,ac (m k) 0]
structure Pw where
 x:Nat
 v0:Value
 v1:Value
 vc:Value
 vf:Value
 D:List Dl
 V:List Nat
 b:Nat
 m:Nat
 bv:Value
 bs:List Value
 bp:Option Addr
 hd:Nat→Nat
 hU:Nat→List Nat
 dd:Nat→Nat
 dm:Nat→Nat
 dg:Nat→Nat
 dU:Nat→List Nat
 S:Ws
structure Wc where
 x:Nat
 v0:Value
 v1:Value
 vc:Value
 vf:Value
 D:List Dl
 V:List Nat
 b:Nat
 n:Nat
 PH:Nat→Pm
 PD:Nat→Pm
 hd:Nat→Nat
 dd:Nat→Nat
 dm:Nat→Nat
 mx:Nat
 mv:Nat
 fs:List Fa
def Pw.core (L:Pw):Wc:=⟨L.x,L.v0,L.v1,L.vc,L.vf,L.D,L.V,L.b,L.S.n,L.S.PH,L.S.PD,L.hd,L.dd,L.dm,L.S.mx,L.S.mv,L.S.fs⟩
def Wc.cells (L:Wc):Array Value:=#[L.v0,L.v1,.int .u32 (L.mx:Nat),L.vc,ac L.b 0,.int .i64 (L.mv:Nat),L.vf]
structure WB (L:Wc) (w:World):Prop where
 blk:w.heap[L.x]?=some (.cells L.cells 75 (0,0))
 r0:w.ownsRow 0 83 5 L.v0 L.n (zQ L.n L.PH)
 r1:w.ownsRow 0 83 5 L.v1 L.n (zQ L.n L.PD)
 rc:w.ownsRow 0 80 3 L.vc L.n (ij L.n L.hd L.dd L.dm)
 rf:w.ownsRow 0 130 8 L.vf L.fs.length (vj L.fs L.D)
 dl:L.D.length=L.fs.length
 dr:∀ (i:Nat) (f:Fa) (d:Dl),L.fs[i]?=some f→L.D[i]?=some d→Row8 w d.1 f.d.1 d.2 f.d.2∧∀ y,d.1=some y→0<f.d.1→y.block ∈ L.V
 vl:∀ k,k ∈ L.V→k<w.heap.size∧k≠L.x∧L.v0.ownBlock≠some k∧L.v1.ownBlock≠some k∧L.vc.ownBlock≠some k∧L.vf.ownBlock≠some k
def Wc.U (L:Wc):List Nat:=L.x :: (L.v0.ownBlock.toList ++ (L.v1.ownBlock.toList ++ (L.vc.ownBlock.toList ++ (L.vf.ownBlock.toList ++ L.V))))
theorem Row8.offY {l:List Nat} {w w':World} {a:Option Addr} {len cap:Nat} {bs:Nat→Nat} (h:Row8 w a len cap bs) (q:Off l w w') (hl:∀ x,a=some x→0<len→x.block ∉ l):Row8 w' a len cap bs:=by
 refine⟨h.byte,h.nil,fun x hx i hi=>?_,h.le⟩
 have h1:=h.src x hx i hi
 have hlt:=World.block_lt_of_cell? w _ h1
 have hb:(x.add i).block=x.block:=by unfold Addr.add;split <;> rfl
 rw[hb]at hlt
 have he:w'.heap[(x.add i).block]?=w.heap[(x.add i).block]?:=by
  rw[hb]
  exact q.block x.block hlt (hl x hx (by omega))
 rw[← h1]
 unfold World.cell?
 rw[he]
theorem WB.off {L:Wc} {w w':World} {l:List Nat} (h:WB L w) (o:Off l w w') (hl:∀ k,k ∈ L.U→k ∉ l):WB L w':=by
 have hx:=(Array.getElem?_eq_some_iff.1 h.blk).1
 refine⟨(o.block L.x hx (hl _ (by simp[Wc.U]))).trans h.blk,bG h.r0 o (fun k hk=>hl k (by simp[Wc.U,hk])),bG h.r1 o (fun k hk=>hl k (by simp[Wc.U,hk])),bG h.rc o (fun k hk=>hl k (by simp[Wc.U,hk])),bG h.rf o (fun k hk=>hl k (by simp[Wc.U,hk])),h.dl,fun i f d hf hd=>?_,fun k hk=>⟨Nat.lt_of_lt_of_le (h.vl k hk).1 o.size,(h.vl k hk).2⟩⟩
 obtain⟨R,hV⟩:=h.dr i f d hf hd
 exact⟨R.offY o (fun y hy hn=>hl _ (by simp[Wc.U,hV y hy hn])),hV⟩
theorem WB.lt {L:Wc} {w:World} (h:WB L w):∀ k,k ∈ L.U→k<w.heap.size:=by
 intro k hk
 simp only[Wc.U,List.mem_cons,List.mem_append,Option.mem_toList]at hk
 rcases hk with rfl | hk | hk | hk | hk | hk
 ·exact (Array.getElem?_eq_some_iff.1 h.blk).1
 ·obtain⟨c,hc⟩:=aT h.r0 hk
  exact (Array.getElem?_eq_some_iff.1 hc).1
 ·obtain⟨c,hc⟩:=aT h.r1 hk
  exact (Array.getElem?_eq_some_iff.1 hc).1
 ·obtain⟨c,hc⟩:=aT h.rc hk
  exact (Array.getElem?_eq_some_iff.1 hc).1
 ·obtain⟨c,hc⟩:=aT h.rf hk
  exact (Array.getElem?_eq_some_iff.1 hc).1
 ·exact (h.vl k hk).1
def wT (L:Wc):Thing:=⟨L.U,fun w=>WB L w,fun _ _ _ h o hl=>h.off o hl⟩
structure Hr where
 d:Nat
 P:Pm
 s:Sh
def tR (x:Hr) (U:List Nat):Thing:=⟨U,fun w=>HV w x.d x.P U x.s,fun _ _ _ h o hl=>HV.off h o hl⟩
def uA (x:Dr) (U:List Nat):Thing:=⟨U,fun w=>DV w x.d x.m x.g x.n x.mx x.P U x.s,fun _ _ _ h o hl=>DV.offY h o hl⟩
def Pw.t (L:Pw) (j:Nat):Thing:=
 if j=0 then wT L.core else if j=1 then bgT L.b L.m L.bv L.bs L.bp L.S.bg
 else if j-2<2*L.S.n then (if (j-2) % 2=0 then tR ⟨L.hd ((j-2) / 2),L.S.PH ((j-2) / 2),L.S.hs ((j-2) / 2)⟩ (L.hU ((j-2) / 2)) else uA ⟨L.dd ((j-2) / 2),L.dm ((j-2) / 2),L.dg ((j-2) / 2),16,L.S.mx,L.S.PD ((j-2) / 2),L.S.ds ((j-2) / 2)⟩ (L.dU ((j-2) / 2)))
 else pQ
theorem Pw.t_h (L:Pw) {k:Nat} (hk:k<L.S.n):L.t (2+2*k)=tR ⟨L.hd k,L.S.PH k,L.S.hs k⟩ (L.hU k):=by
 unfold Pw.t
 rw[if_neg (by omega),if_neg (by omega),if_pos (by omega),if_pos (by omega)]
 rw[show (2+2*k-2) / 2=k by omega]
theorem Pw.t_d (L:Pw) {k:Nat} (hk:k<L.S.n):L.t (3+2*k)=uA ⟨L.dd k,L.dm k,L.dg k,16,L.S.mx,L.S.PD k,L.S.ds k⟩ (L.dU k):=by
 unfold Pw.t
 rw[if_neg (by omega),if_neg (by omega),if_pos (by omega),if_neg (by omega)]
 rw[show (3+2*k-2) / 2=k by omega]
def Wat (e:Nat→Nat) (t:Nat→Thing) (L:Pw):Prop:=(∀ i j,e i=e j→i=j)∧∀ j,t (e j)=L.t j
theorem Wat.put {e:Nat→Nat} {t:Nat→Thing} {L L':Pw} (h:Wat e t L) (j:Nat) (hL:∀ i,i≠j→L'.t i=L.t i):Wat e (aJ t (e j) (L'.t j)) L':=by
 refine⟨h.1,fun i=>?_⟩
 by_cases q:i=j
 ·subst q
  rw[al]
 ·rw[an _ _ (fun x=>q (h.1 _ _ x)),hL i q]
  exact h.2 i
def Pw.toH (L:Pw) (k:Nat) (s:Sh) (U:List Nat):Pw:={ L with S:=L.S.setH k s,hU:=aG L.hU k U }
def Pw.toD (L:Pw) (k:Nat) (s:Sd) (U:List Nat):Pw:={ L with S:=L.S.setD k s,dU:=aG L.dU k U }
theorem Pw.toH_t (L:Pw) {k:Nat} (s:Sh) (U:List Nat) (hk:k<L.S.n):(L.toH k s U).t (2+2*k)=tR ⟨L.hd k,L.S.PH k,s⟩ U∧∀ i,i≠2+2*k→(L.toH k s U).t i=L.t i:=by
 refine⟨?_,fun i hi=>?_⟩
 ·have:=(L.toH k s U).t_h hk
  rw[this]
  show tR ⟨L.hd k,L.S.PH k,aG L.S.hs k s k⟩ (aG L.hU k U k)=_
  rw[ai,ai]
 ·unfold Pw.t
  by_cases h0:i=0
  ·rw[if_pos h0,if_pos h0]
   rfl
  rw[if_neg h0,if_neg h0]
  by_cases h1:i=1
  ·rw[if_pos h1,if_pos h1]
   rfl
  rw[if_neg h1,if_neg h1]
  show (if i-2<2*L.S.n then _ else _)=_
  by_cases h2:i-2<2*L.S.n
  ·rw[if_pos h2,if_pos h2]
   by_cases h3:(i-2) % 2=0
   ·rw[if_pos h3,if_pos h3]
    have hne:(i-2) / 2≠k:=by omega
    show tR ⟨L.hd ((i-2) / 2),L.S.PH ((i-2) / 2),aG L.S.hs k s ((i-2) / 2)⟩ (aG L.hU k U ((i-2) / 2))=_
    rw[cG _ _ hne,cG _ _ hne]
   ·rw[if_neg h3,if_neg h3]
    rfl
  ·rw[if_neg h2,if_neg h2]
theorem Pw.toD_t (L:Pw) {k:Nat} (s:Sd) (U:List Nat) (hk:k<L.S.n):(L.toD k s U).t (3+2*k)=uA ⟨L.dd k,L.dm k,L.dg k,16,L.S.mx,L.S.PD k,s⟩ U∧∀ i,i≠3+2*k→(L.toD k s U).t i=L.t i:=by
 refine⟨?_,fun i hi=>?_⟩
 ·have:=(L.toD k s U).t_d hk
  rw[this]
  show uA ⟨L.dd k,L.dm k,L.dg k,16,L.S.mx,L.S.PD k,aG L.S.ds k s k⟩ (aG L.dU k U k)=_
  rw[ai,ai]
 ·unfold Pw.t
  by_cases h0:i=0
  ·rw[if_pos h0,if_pos h0]
   rfl
  rw[if_neg h0,if_neg h0]
  by_cases h1:i=1
  ·rw[if_pos h1,if_pos h1]
   rfl
  rw[if_neg h1,if_neg h1]
  show (if i-2<2*L.S.n then _ else _)=_
  by_cases h2:i-2<2*L.S.n
  ·rw[if_pos h2,if_pos h2]
   by_cases h3:(i-2) % 2=0
   ·rw[if_pos h3,if_pos h3]
    rfl
   ·rw[if_neg h3,if_neg h3]
    have hne:(i-2) / 2≠k:=by omega
    show uA ⟨L.dd ((i-2) / 2),L.dm ((i-2) / 2),L.dg ((i-2) / 2),16,L.S.mx,L.S.PD ((i-2) / 2),aG L.S.ds k s ((i-2) / 2)⟩ (aG L.dU k U ((i-2) / 2))=_
    rw[cG _ _ hne,cG _ _ hne]
  ·rw[if_neg h2,if_neg h2]
section
variable {w0 w w':World} {t:Nat→Thing} {e:Nat→Nat} {L:Pw}
theorem Wat.wb (h:Wat e t L) (a:Al w0 w t):WB L.core w:=a.get (i:=e 0) (x:=wT L.core) (h.2 0)
theorem Wat.bg (h:Wat e t L) (a:Al w0 w t):Bg 0 w L.b L.m L.bv L.bs L.bp L.S.bg∧L.bs.length=L.S.bg.length:=a.get (i:=e 1) (x:=bgT L.b L.m L.bv L.bs L.bp L.S.bg) (h.2 1)
theorem Wat.hv (h:Wat e t L) (a:Al w0 w t) {k:Nat} (hk:k<L.S.n):HV w (L.hd k) (L.S.PH k) (L.hU k) (L.S.hs k):=a.get (i:=e (2+2*k)) (x:=tR ⟨L.hd k,L.S.PH k,L.S.hs k⟩ (L.hU k)) ((h.2 _).trans (L.t_h hk))
theorem Wat.dv (h:Wat e t L) (a:Al w0 w t) {k:Nat} (hk:k<L.S.n):DV w (L.dd k) (L.dm k) (L.dg k) 16 L.S.mx (L.S.PD k) (L.dU k) (L.S.ds k):=a.get (i:=e (3+2*k)) (x:=uA ⟨L.dd k,L.dm k,L.dg k,16,L.S.mx,L.S.PD k,L.S.ds k⟩ (L.dU k)) ((h.2 _).trans (L.t_d hk))
theorem Wat.stepH (h:Wat e t L) (a:Al w0 w t) {k:Nat} (hk:k<L.S.n) {s:Sh} {U:List Nat} (g:Gr (L.hU k) w U w') (v:HV w' (L.hd k) (L.S.PH k) U s):Al w0 w' (aJ t (e (2+2*k)) ((L.toH k s U).t (2+2*k)))∧Wat e (aJ t (e (2+2*k)) ((L.toH k s U).t (2+2*k))) (L.toH k s U):=by
 obtain⟨q1,q2⟩:=L.toH_t s U hk
 refine⟨?_,h.put _ q2⟩
 rw[q1]
 exact a.step _ (tR ⟨L.hd k,L.S.PH k,s⟩ U) (by rw[h.2,L.t_h hk];rfl) g v (fun k hk=>HV.ult v k hk)
theorem Wat.stepD (h:Wat e t L) (a:Al w0 w t) {k:Nat} (hk:k<L.S.n) {s:Sd} {U:List Nat} (g:Gr (L.dU k) w U w') (v:DV w' (L.dd k) (L.dm k) (L.dg k) 16 L.S.mx (L.S.PD k) U s):Al w0 w' (aJ t (e (3+2*k)) ((L.toD k s U).t (3+2*k)))∧Wat e (aJ t (e (3+2*k)) ((L.toD k s U).t (3+2*k))) (L.toD k s U):=by
 obtain⟨q1,q2⟩:=L.toD_t s U hk
 refine⟨?_,h.put _ q2⟩
 rw[q1]
 exact a.step _ (uA ⟨L.dd k,L.dm k,L.dg k,16,L.S.mx,L.S.PD k,s⟩ U) (by rw[h.2,L.t_d hk];rfl) g v (fun k hk=>DV.ult v k hk)
def Els (e:Nat→Nat) (t t':Nat→Thing):Prop:=∀ i,(∀ j,i≠e j)→t' i=t i
theorem Els.refl (e:Nat→Nat) (t:Nat→Thing):Els e t t:=fun _ _=>rfl
theorem Els.put (e:Nat→Nat) (t:Nat→Thing) (j:Nat) (x:Thing):Els e t (aJ t (e j) x):=fun i hi=>an _ _ (hi j)
theorem Els.trans {e:Nat→Nat} {t t' t'':Nat→Thing} (h:Els e t t') (k:Els e t' t''):Els e t t'':=fun i hi=>(k i hi).trans (h i hi)
end
def PW (e:Nat→Nat) (w0 w:World) (t:Nat→Thing) (L:Pw):Prop:=Al w0 w t∧Wat e t L
structure Fix (L L':Pw):Prop where
 x:L'.x=L.x
 hd:L'.hd=L.hd
 dd:L'.dd=L.dd
 dm:L'.dm=L.dm
 b:L'.b=L.b
 vc:L'.vc=L.vc
theorem Fix.refl (L:Pw):Fix L L:=⟨rfl,rfl,rfl,rfl,rfl,rfl⟩
theorem Fix.trans {L L' L'':Pw} (h:Fix L L') (k:Fix L' L''):Fix L L'':=⟨k.x.trans h.x,k.hd.trans h.hd,k.dd.trans h.dd,k.dm.trans h.dm,k.b.trans h.b,k.vc.trans h.vc⟩
def PWn (e:Nat→Nat) (w0:World) (t:Nat→Thing) (L:Pw) (w':World) (S:Ws):Prop:=∃ t' L',PW e w0 w' t' L'∧L'.S=S∧Fix L L'∧Els e t t'
theorem PW.n {e:Nat→Nat} {w0 w:World} {t:Nat→Thing} {L:Pw} (h:PW e w0 w t L):PWn e w0 t L w L.S:=⟨t,L,h,rfl,Fix.refl _,Els.refl _ _⟩
theorem PW.below {e:Nat→Nat} {w0 w w':World} {t:Nat→Thing} {L:Pw} (h:PW e w0 w t L) (b:Below w.heap.size w w'):PW e w0 w' t L:=⟨h.1.below b,h.2⟩
theorem PW.stepH {e:Nat→Nat} {w0 w w':World} {t:Nat→Thing} {L:Pw} (h:PW e w0 w t L) {k:Nat} (hk:k<L.S.n) {s:Sh} (g:∃ U,Gr (L.hU k) w U w'∧HV w' (L.hd k) (L.S.PH k) U s):PWn e w0 t L w' (L.S.setH k s):=by
 obtain⟨U,g,v⟩:=g
 exact⟨_,L.toH k s U,h.2.stepH h.1 hk g v,rfl,⟨rfl,rfl,rfl,rfl,rfl,rfl⟩,Els.put _ _ _ _⟩
theorem PW.stepD {e:Nat→Nat} {w0 w w':World} {t:Nat→Thing} {L:Pw} (h:PW e w0 w t L) {k:Nat} (hk:k<L.S.n) {s:Sd} (g:∃ U,Gr (L.dU k) w U w'∧DV w' (L.dd k) (L.dm k) (L.dg k) 16 L.S.mx (L.S.PD k) U s):PWn e w0 t L w' (L.S.setD k s):=by
 obtain⟨U,g,v⟩:=g
 exact⟨_,L.toD k s U,h.2.stepD h.1 hk g v,rfl,⟨rfl,rfl,rfl,rfl,rfl,rfl⟩,Els.put _ _ _ _⟩
end Go.Proofs.YtenilkloffnjlaaGreat
namespace Go.Proofs.YtenilkloffnjlaaGreat
open Tryz
open Go.RowKit Go.Maps
set_option linter.unusedVariables false
theorem aF {w0 w:World} (h:Below w0.heap.size w0 w) (o:Obj):Below w0.heap.size w0 (w.alloc o):=h.alloc h.size o
theorem ag {w w':World} {b i:Nat} {v:Value} (h:w.cell? ⟨b,i,none⟩=some v) (hb:Below w.heap.size w w'):w'.cell? ⟨b,i,none⟩=some v:=(World.cell?_of_block (a:=⟨b,i,none⟩) (hb.block b (World.block_lt_of_cell? w _ h))).trans h
theorem yB:(prog.info? 130).map (fun i=>(i.zero,i.size,i.bytes))=some (some (.agg #[.int .i64 0,.int .i64 0,.int .i64 0,.int .u32 0,.int .u32 0,.bool false,.int .i64 0,.slice none 0 0]),8,72):=by kernel_rfl
def Fa.ca (f:Fa) (d:Dl):Array Value:=#[.int .i64 (f.k:Nat),.int .i64 (f.c:Nat),.int .i64 (f.s:Nat),.int .u32 (f.ss:Nat),.int .u32 (f.nn:Nat),.bool f.on,.int .i64 f.cd,.slice d.1 f.d.1 d.2]
theorem Fa.ca_one (f:Fa) (d:Dl):∀ u ∈ (f.ca d).toList,u.oneCell'=true:=fun v hv=>by
 unfold Fa.ca at hv
 simp only[List.mem_cons,List.not_mem_nil,or_false]at hv
 rcases hv with rfl | rfl | rfl | rfl | rfl | rfl | rfl | rfl <;> rfl
theorem rP {ops:Array Oper} {o:Oper} {a:Act} {w:World} {K:Act→World→Prop} {Q:Exit→Act→World→Prop} {E:Prop}
  (hg:o.guard=none) (s x:Operand) (hop:o.op=Op.call { callee:=Callee.builtin Builtin.append,args:=#[s,x],argTypes:=#[73,73] }) (hty:o.type=73)
  (v:Value) (l:Nat) (xs:List Value) (A:Array Value) (one:∀ u ∈ A.toList,u.oneCell'=true) (lA:A.toList.length=1*8) (hs:a.eval s=v) (h1:w.ownsRow 0 130 8 v l xs) (q:Nat) (hx:a.eval x=.slice (af q 0) 1 1) (hq:∀ j u,A.toList[j]?=some u→w.cell? ((⟨q,0,none⟩:Addr).add j)=some u) (hl:l≤1000000)
  (hK:∀ a' c' w',Hid (w'.ownsRow 0 130 8 (.slice a' (l+1) c') (l+1) (xs ++ A.toList)∧w.grownBy w' v.ownBlock∧((Value.slice a' (l+1) c').ownBlock=v.ownBlock∨(Value.slice a' (l+1) c').ownBlock=some w.heap.size))→K (a.put o.dst (.slice a' (l+1) c')) w') :
  if Region.wanted o (yielded ops a.tmps)=true then Oper.wp prog o a w K Q else E:=by
 have hw:Region.wanted o (yielded ops a.tmps)=true:=by simp[Region.wanted,hg]
 rw[if_pos hw]
 obtain⟨i0,hI,hz0,hz1,hz2⟩:=info_parts yB
 obtain⟨v',w',hr',k1,k2,_,k4⟩:=run_append_own_at (P:=prog) w 0 73 73 130 i0 (.agg #[.int .i64 0,.int .i64 0,.int .i64 0,.int .u32 0,.int .u32 0,.bool false,.int .i64 0,.slice none 0 0]) 8 72 underlying73 hI hz0 hz1 hz2 rfl (by decide) v l xs h1 ⟨q,0,none⟩ 1 1 A.toList lA hq one (by unfold maxLen;omega) (by omega) (Nat.zero_le _)
 obtain⟨a',c',rfl⟩:=cy k1
 unfold Oper.wp execOp
 simp only[hop,hty,resolve,invoke,builtin,Sem.run_bind,Sem.run_pure,Result.andThen_ok,List.map_toArray,List.map_cons,List.map_nil,hs,hx,hr']
 exact hK _ _ w' ⟨k1,k2,k4⟩
theorem yb (f:Fa) (d:Dl) (w:World):(Instr.buildSlice 73 1 #[(0,.agg (f.ca d))]).run prog w=.ok (.slice (af w.heap.size 0) 1 1) (w.alloc (.cells (f.ca d) 130)):=by
 show (Instr.buildSlice 73 1 #[(0,.agg #[.int .i64 (f.k:Nat),.int .i64 (f.c:Nat),.int .i64 (f.s:Nat),.int .u32 (f.ss:Nat),.int .u32 (f.nn:Nat),.bool f.on,.int .i64 f.cd,.slice d.1 f.d.1 d.2])]).run prog w=.ok (.slice (af w.heap.size 0) 1 1) (w.alloc (.cells #[.int .i64 (f.k:Nat),.int .i64 (f.c:Nat),.int .i64 (f.s:Nat),.int .u32 (f.ss:Nat),.int .u32 (f.nn:Nat),.bool f.on,.int .i64 f.cd,.slice d.1 f.d.1 d.2] 130))
 kernel_rfl
def dlB (f:Fa) (d:Dl):List Nat:=if 0<f.d.1 then d.1.toList.map (·.block) else []
def Wc.more (L:Wc) (v:Value) (f:Fa) (d:Dl):Wc:={ L with vf:=v,D:=L.D ++ [d],V:=L.V ++ dlB f d,fs:=L.fs ++ [f] }
def Pw.more (L:Pw) (v:Value) (f:Fa) (d:Dl):Pw:={ L with vf:=v,D:=L.D ++ [d],V:=L.V ++ dlB f d,S:=L.S.note [f] }
theorem rB {w w':World} {B e size n:Nat} {v:Value} {xs:List Value} {row:Option Nat} (h:w.ownsRow B e size v n xs) (g:w.grownBy w' row) (hr:∀ k,v.ownBlock=some k→row≠some k):w'.ownsRow B e size v n xs:=by
 refine gC h fun k hk=>?_
 obtain⟨c,hc⟩:=aT h hk
 exact g.block k (Array.getElem?_eq_some_iff.1 hc).1 (fun q=>hr k hk q.symm)
theorem WB.more {L:Wc} {w wa wb wc:World} {f:Fa} {d:Dl} {a':Option Addr} {c':Nat} (h:WB L w) (R:Row8 w d.1 f.d.1 d.2 f.d.2) (hfr:∀ y,d.1=some y→0<f.d.1→y.block ∉ L.U) (ba:Below w.heap.size w wa) (hO:wb.ownsRow 0 130 8 (.slice a' (L.fs.length+1) c') (L.fs.length+1) (vj L.fs L.D ++ (f.ca d).toList)) (hG:wa.grownBy wb L.vf.ownBlock) (hN:(Value.slice a' (L.fs.length+1) c').ownBlock=L.vf.ownBlock∨(Value.slice a' (L.fs.length+1) c').ownBlock=some wa.heap.size) :
  WB (L.more (.slice a' (L.fs.length+1) c') f d) (wb.setCell ⟨L.x,6,none⟩ (.slice a' (L.fs.length+1) c'))∧Off (L.x :: L.vf.ownBlock.toList) w (wb.setCell ⟨L.x,6,none⟩ (.slice a' (L.fs.length+1) c'))∧∀ k,(Value.slice a' (L.fs.length+1) c').ownBlock=some k→L.vf.ownBlock=some k∨w.heap.size≤k:=by
 have hx:=(Array.getElem?_eq_some_iff.1 h.blk).1
 have h2:WB L wa:=h.off (Off.of_below (l:=[]) ba) (by simp)
 have tx:∀ {k:Nat} {e:TypeId} {c:Array Value},wa.heap[k]?=some (.cells c e (0,0))→e≠75→k≠L.x:=fun hk he=>ey hk h2.blk he
 have f0:L.vf.ownBlock≠some L.x:=fun q=>by
  obtain⟨c,hc⟩:=aT h2.rf q
  exact tx hc (by decide) rfl
 have hxb:wb.heap[L.x]?=_:=(hG.block L.x (Nat.lt_of_lt_of_le hx ba.size) (fun q=>f0 q.symm)).trans h2.blk
 have oS:=Off.setCell L.x 6 wb (.slice a' (L.fs.length+1) c')
 have keep:∀ {B e size n:Nat} {v:Value} {xs:List Value},wb.ownsRow B e size v n xs→e≠75→(wb.setCell ⟨L.x,6,none⟩ (.slice a' (L.fs.length+1) c')).ownsRow B e size v n xs:=fun ho he=>bG ho oS (fun k hk hm=>by
  simp only[List.mem_singleton]at hm
  subst hm
  obtain⟨c,hc⟩:=aT ho hk
  exact ey hc hxb he rfl)
 have nf:∀ {B e size n:Nat} {v:Value} {xs:List Value},wa.ownsRow B e size v n xs→e≠130→e≠75→(wb.setCell ⟨L.x,6,none⟩ (.slice a' (L.fs.length+1) c')).ownsRow B e size v n xs:=fun ho h1 h2'=>keep (rB ho hG (fun k hk q=>by
  obtain⟨c,hc⟩:=aT ho hk
  obtain⟨c2,hc2⟩:=aT h2.rf q
  exact ey hc hc2 h1 rfl)) h2'
 have rk:∀ {q:Option Addr} {l c:Nat} {b:Nat→Nat},Row8 wa q l c b→(∀ y,q=some y→0<l→y.block≠L.x∧L.vf.ownBlock≠some y.block)→Row8 (wb.setCell ⟨L.x,6,none⟩ (.slice a' (L.fs.length+1) c')) q l c b:=fun hr hq=>by
  have o1:Off L.vf.ownBlock.toList wa wb:=⟨hG.os,hG.tape,hG.output,hG.size,fun k hk hm=>hG.block k hk (fun e=>hm (by rw[← e];simp))⟩
  exact (hr.offY o1 (fun y hy hl hm=>(hq y hy hl).2 (by simpa using hm))).offY oS (fun y hy hl hm=>(hq y hy hl).1 (by simpa using hm))
 have szb:wa.heap.size≤wb.heap.size:=hG.size
 have szs:wb.heap.size ≤ (wb.setCell ⟨L.x,6,none⟩ (.slice a' (L.fs.length+1) c')).heap.size:=oS.size
 have dlen:=h.dl
 refine⟨⟨?_,nf h2.r0 (by decide) (by decide),nf h2.r1 (by decide) (by decide),nf h2.rc (by decide) (by decide),?_,?_,?_,?_⟩,?_,?_⟩
 ·exact heap_setCell_same wb L.x 6 _ _ _ hxb
 ·have:=keep hO (by decide)
  show (wb.setCell ⟨L.x,6,none⟩ (.slice a' (L.fs.length+1) c')).ownsRow 0 130 8 (.slice a' (L.fs.length+1) c') (L.fs ++ [f]).length (vj (L.fs ++ [f]) (L.D ++ [d]))
  rw[sy _ _ _ _ dlen,List.length_append]
  exact this
 ·show (L.D ++ [d]).length=(L.fs ++ [f]).length
  rw[List.length_append,List.length_append,dlen]
  rfl
 ·intro i g q hg hq
  have hg:(L.fs ++ [f])[i]?=some g:=hg
  have hq:(L.D ++ [d])[i]?=some q:=hq
  by_cases hi:i<L.fs.length
  ·rw[List.getElem?_append_left hi]at hg
   rw[List.getElem?_append_left (by omega)]at hq
   obtain⟨r1,r2⟩:=h2.dr i g q hg hq
   refine⟨rk r1 (fun y hy hl=>?_),fun y hy hl=>List.mem_append.2 (.inl (r2 y hy hl))⟩
   have:=h2.vl _ (r2 y hy hl)
   exact⟨this.2.1,this.2.2.2.2.2⟩
  ·have hlt:=(List.getElem?_eq_some_iff.1 hg).1
   rw[List.length_append]at hlt
   have hi':i=L.fs.length:=by simp at hlt;omega
   subst hi'
   rw[List.getElem?_append_right (Nat.le_refl _)]at hg
   rw[List.getElem?_append_right (by omega)]at hq
   rw[dlen]at hq
   simp only[Nat.sub_self,List.getElem?_cons_zero,Option.some.injEq]at hg hq
   subst hg hq
   refine⟨rk (R.below ba) (fun y hy hl=>?_),fun y hy hl=>List.mem_append.2 (.inr ?_)⟩
   ·have:=hfr y hy hl
    simp only[Wc.U,List.mem_cons,List.mem_append,Option.mem_toList,not_or]at this
    exact⟨this.1,this.2.2.2.2.1⟩
   ·unfold dlB
    rw[if_pos hl,hy]
    simp
 ·intro k hk
  have hk:k ∈ L.V ++ dlB f d:=hk
  have bV:∀ k,k<wa.heap.size→L.vf.ownBlock≠some k→(Value.slice a' (L.fs.length+1) c').ownBlock≠some k:=fun k h1 h2 q=>by
   rcases hN with e | e
   ·exact h2 (e.symm.trans q)
   ·rw[e]at q
    simp at q
    omega
  rcases List.mem_append.1 hk with hv | hv
  ·obtain⟨v1,v2,v3,v4,v5,v6⟩:=h2.vl k hv
   exact⟨by omega,v2,v3,v4,v5,bV k v1 v6⟩
  ·unfold dlB at hv
   split at hv
   ·next hl=>
    simp only[List.mem_map,Option.mem_toList]at hv
    obtain⟨y,hy,rfl⟩:=hv
    have:=hfr y hy hl
    simp only[Wc.U,List.mem_cons,List.mem_append,Option.mem_toList,not_or]at this
    have c0:=(R.below ba).src y hy 0 hl
    have hb:(y.add 0).block=y.block:=by unfold Addr.add;split <;> rfl
    have hlt:=World.block_lt_of_cell? wa _ c0
    rw[hb]at hlt
    exact⟨by omega,this.1,this.2.1,this.2.2.1,this.2.2.2.1,bV _ hlt this.2.2.2.2.1⟩
   ·cases hv
 ·have o0:Off (L.x :: L.vf.ownBlock.toList) w wa:=Off.of_below ba
  have o1:Off (L.x :: L.vf.ownBlock.toList) wa wb:=⟨hG.os,hG.tape,hG.output,hG.size,fun k hk hm=>hG.block k hk (fun e=>hm (by rw[← e];simp))⟩
  exact (o0.trans o1).trans (oS.more (by simp))
 ·intro k hk
  rcases hN with e | e
  ·exact .inl (e.symm.trans hk)
  ·rw[e]at hk
   simp at hk
   have:=ba.size
   exact .inr (by omega)
theorem acq (L:Wc) (f:Fa) (d:Dl) (w:World) (h:WB L w) (R:Row8 w d.1 f.d.1 d.2 f.d.2) (hfr:∀ y,d.1=some y→0<f.d.1→y.block ∉ L.U) (hF:L.fs.length≤100000):Calls prog 57 #[ac L.x 0,.agg #[.int .i64 (f.k:Nat),.int .i64 (f.c:Nat),.int .i64 (f.s:Nat),.int .u32 (f.ss:Nat),.int .u32 (f.nn:Nat),.bool f.on,.int .i64 f.cd,.slice d.1 f.d.1 d.2]] w fun r w'=>r=.returned (.tuple #[])∧Hid (∃ v,WB (L.more v f d) w'∧Off (L.x :: L.vf.ownBlock.toList) w w'∧∀ k,v.ownBlock=some k→L.vf.ownBlock=some k∨w.heap.size≤k):=by
 have kA:(w.alloc (.cells #[.int .i64 (f.k:Nat),.int .i64 (f.c:Nat),.int .i64 (f.s:Nat),.int .u32 (f.ss:Nat),.int .u32 (f.nn:Nat),.bool f.on,.int .i64 f.cd,.slice d.1 f.d.1 d.2] 130)).heap[w.heap.size]?=some (.cells #[.int .i64 (f.k:Nat),.int .i64 (f.c:Nat),.int .i64 (f.s:Nat),.int .u32 (f.ss:Nat),.int .u32 (f.nn:Nat),.bool f.on,.int .i64 f.cd,.slice d.1 f.d.1 d.2] 130 (0,0)):=aB _ _
 have bA:Below w.heap.size w (w.alloc (.cells #[.int .i64 (f.k:Nat),.int .i64 (f.c:Nat),.int .i64 (f.s:Nat),.int .u32 (f.ss:Nat),.int .u32 (f.nn:Nat),.bool f.on,.int .i64 f.cd,.slice d.1 f.d.1 d.2] 130)):=aF (Below.refl _ w) _
 have sA:(w.alloc (.cells #[.int .i64 (f.k:Nat),.int .i64 (f.c:Nat),.int .i64 (f.s:Nat),.int .u32 (f.ss:Nat),.int .u32 (f.nn:Nat),.bool f.on,.int .i64 f.cd,.slice d.1 f.d.1 d.2] 130)).heap.size=w.heap.size+1:=by simp
 obtain⟨wa,hwa⟩:∃ y,w.alloc (.cells #[.int .i64 (f.k:Nat),.int .i64 (f.c:Nat),.int .i64 (f.s:Nat),.int .u32 (f.ss:Nat),.int .u32 (f.nn:Nat),.bool f.on,.int .i64 f.cd,.slice d.1 f.d.1 d.2] 130)=y:=⟨_,rfl⟩
 rw[hwa]at kA bA sA
 have cx:∀ wx,Below wa.heap.size wa wx→wx.cell? ⟨L.x,6,none⟩=some L.vf:=fun wx bx=>ag (ag (ae w L.x 6 _ _ _ h.blk) bA) bx
 have hp:∀ wx,Below wa.heap.size wa wx→∀ (j:Nat) u,(#[.int .i64 (f.k:Nat),.int .i64 (f.c:Nat),.int .i64 (f.s:Nat),.int .u32 (f.ss:Nat),.int .u32 (f.nn:Nat),.bool f.on,.int .i64 f.cd,.slice d.1 f.d.1 d.2]:Array Value)[j]?=some u→wx.cell? ⟨w.heap.size,j,none⟩=some u:=fun wx bx j u hu=>ag ((ae wa w.heap.size j _ _ _ kA).trans hu) bx
 obtain⟨a0,c0,e0⟩:=cy h.rf
 have hown:∀ wx,Below wa.heap.size wa wx→wx.ownsRow 0 130 8 L.vf L.fs.length (vj L.fs L.D):=fun wx bx=>bG h.rf (Off.of_below (l:=[]) (bA.trans (bx.mono bA.size))) (by simp)
 have hxl:L.x<wa.heap.size:=Nat.lt_of_lt_of_le (Array.getElem?_eq_some_iff.1 h.blk).1 bA.size
 have fin:Hid (∀ (wb wy:World) (a':Option Addr) (c':Nat),Below wa.heap.size wa wy→wb.ownsRow 0 130 8 (.slice a' (L.fs.length+1) c') (L.fs.length+1) (vj L.fs L.D ++ (f.ca d).toList)→wy.grownBy wb L.vf.ownBlock→((Value.slice a' (L.fs.length+1) c').ownBlock=L.vf.ownBlock∨(Value.slice a' (L.fs.length+1) c').ownBlock=some wy.heap.size)→((wb.cell? ⟨L.x,6,none⟩=some L.vf∧∀ i,wb.frozen? ⟨L.x,i,none⟩=false)∧(WB (L.more (.slice a' (L.fs.length+1) c') f d) (wb.setCell ⟨L.x,6,none⟩ (.slice a' (L.fs.length+1) c'))∧Off (L.x :: L.vf.ownBlock.toList) w (wb.setCell ⟨L.x,6,none⟩ (.slice a' (L.fs.length+1) c'))∧∀ k,(Value.slice a' (L.fs.length+1) c').ownBlock=some k→L.vf.ownBlock=some k∨w.heap.size≤k))):=fun wb wy a' c' by_ ho hg hn=>by
  have bw:Below w.heap.size w wy:=bA.trans (by_.mono bA.size)
  have hx:=(Array.getElem?_eq_some_iff.1 h.blk).1
  have hk:wy.heap[L.x]?=some (.cells L.cells 75 (0,0)):=(bw.block L.x hx).trans h.blk
  have hb:wb.heap[L.x]?=some (.cells L.cells 75 (0,0)):=by
   refine (hg.block L.x (Nat.lt_of_lt_of_le hx bw.size) (fun q=>?_)).trans hk
   obtain⟨c2,hc2⟩:=aT (bG h.rf (Off.of_below (l:=[]) bw) (by simp)) q.symm
   exact ey hk hc2 (by decide) rfl
  exact⟨⟨ae wb L.x 6 _ _ _ hb,fun i=>frozen_of_row wb L.x i _ _ hb⟩,WB.more (wc:=wb) h R hfr bw ho hg hn⟩
 have one:=f.ca_one d
 have hca:∀ (j:Nat) u,(f.ca d).toList[j]?=some u→(#[.int .i64 (f.k:Nat),.int .i64 (f.c:Nat),.int .i64 (f.s:Nat),.int .u32 (f.ss:Nat),.int .u32 (f.nn:Nat),.bool f.on,.int .i64 f.cd,.slice d.1 f.d.1 d.2]:Array Value)[j]?=some u:=fun j u hu=>by rw[← hu];exact (Array.getElem?_toList ..).symm
 obtain⟨N,hN⟩:∃ y,L.fs.length=y:=⟨_,rfl⟩
 rw[hN]at e0 hown fin hF
 obtain⟨X,hX⟩:∃ y,L.x=y:=⟨_,rfl⟩
 obtain⟨vf,hvf⟩:∃ y,L.vf=y:=⟨_,rfl⟩
 rw[hvf]at cx e0 hown fin ⊢
 rw[hX]at cx hxl fin ⊢
 obtain⟨XS,hXS⟩:∃ y,vj L.fs L.D=y:=⟨_,rfl⟩
 rw[hXS]at hown fin
 subst e0
 have HA:Hid (_):=And.intro cx (And.intro hp (And.intro hown (And.intro hxl sA)))
 have s1:=cx wa (Below.refl _ _)
 have s2:∀ ob,(wa.alloc ob).cell? ⟨X,6,none⟩=some (.slice a0 N c0):=fun ob=>cx _ (aF (Below.refl _ _) ob)
 have s3:wa.drew.cell? ⟨X,6,none⟩=some (.slice a0 N c0):=cx _ (Below.drew (Below.refl _ _))
 have s4:∀ ob,((wa.alloc ob).drew).cell? ⟨X,6,none⟩=some (.slice a0 N c0):=fun ob=>cx _ (Below.drew (aF (Below.refl _ _) ob))
 have p0:wa.cell? ⟨w.heap.size,0,none⟩=some (.int .i64 (f.k:Nat)):=hp _ (Below.refl _ _) 0 _ rfl
 have p1:wa.cell? ⟨w.heap.size,1,none⟩=some (.int .i64 (f.c:Nat)):=hp _ (Below.refl _ _) 1 _ rfl
 have p2:wa.cell? ⟨w.heap.size,2,none⟩=some (.int .i64 (f.s:Nat)):=hp _ (Below.refl _ _) 2 _ rfl
 have p3:wa.cell? ⟨w.heap.size,3,none⟩=some (.int .u32 (f.ss:Nat)):=hp _ (Below.refl _ _) 3 _ rfl
 have p4:wa.cell? ⟨w.heap.size,4,none⟩=some (.int .u32 (f.nn:Nat)):=hp _ (Below.refl _ _) 4 _ rfl
 have p5:wa.cell? ⟨w.heap.size,5,none⟩=some (.bool f.on):=hp _ (Below.refl _ _) 5 _ rfl
 have p6:wa.cell? ⟨w.heap.size,6,none⟩=some (.int .i64 f.cd):=hp _ (Below.refl _ _) 6 _ rfl
 have p7:wa.cell? ⟨w.heap.size,7,none⟩=some (.slice d.1 f.d.1 d.2):=hp _ (Below.refl _ _) 7 _ rfl
 have q0:∀ ob,(wa.alloc ob).cell? ⟨w.heap.size,0,none⟩=some (.int .i64 (f.k:Nat)):=fun ob=>hp _ (aF (Below.refl _ _) ob) 0 _ rfl
 have q1:∀ ob,(wa.alloc ob).cell? ⟨w.heap.size,1,none⟩=some (.int .i64 (f.c:Nat)):=fun ob=>hp _ (aF (Below.refl _ _) ob) 1 _ rfl
 have q2:∀ ob,(wa.alloc ob).cell? ⟨w.heap.size,2,none⟩=some (.int .i64 (f.s:Nat)):=fun ob=>hp _ (aF (Below.refl _ _) ob) 2 _ rfl
 have q3:∀ ob,(wa.alloc ob).cell? ⟨w.heap.size,3,none⟩=some (.int .u32 (f.ss:Nat)):=fun ob=>hp _ (aF (Below.refl _ _) ob) 3 _ rfl
 have q4:∀ ob,(wa.alloc ob).cell? ⟨w.heap.size,4,none⟩=some (.int .u32 (f.nn:Nat)):=fun ob=>hp _ (aF (Below.refl _ _) ob) 4 _ rfl
 have q5:∀ ob,(wa.alloc ob).cell? ⟨w.heap.size,5,none⟩=some (.bool f.on):=fun ob=>hp _ (aF (Below.refl _ _) ob) 5 _ rfl
 have q6:∀ ob,(wa.alloc ob).cell? ⟨w.heap.size,6,none⟩=some (.int .i64 f.cd):=fun ob=>hp _ (aF (Below.refl _ _) ob) 6 _ rfl
 have q7:∀ ob,(wa.alloc ob).cell? ⟨w.heap.size,7,none⟩=some (.slice d.1 f.d.1 d.2):=fun ob=>hp _ (aF (Below.refl _ _) ob) 7 _ rfl
 have hbd:=yb f d
 have hbd2:∀ wx:World,(Instr.buildSlice 73 1 #[(0,.agg #[.int .i64 (f.k:Nat),.int .i64 (f.c:Nat),.int .i64 (f.s:Nat),.int .u32 (f.ss:Nat),.int .u32 (f.nn:Nat),.bool f.on,.int .i64 f.cd,.slice d.1 f.d.1 d.2])]).run prog wx=.ok (.slice (af wx.heap.size 0) 1 1) (wx.alloc (.cells #[.int .i64 (f.k:Nat),.int .i64 (f.c:Nat),.int .i64 (f.s:Nat),.int .u32 (f.ss:Nat),.int .u32 (f.nn:Nat),.bool f.on,.int .i64 f.cd,.slice d.1 f.d.1 d.2] 130)):=hbd
 clear cx hp hown hxl bA kA h R hfr hN hX hvf hXS hbd
 go_enter func57,ntmps57
 go_upto_region 1 with fail
 try rw[hwa]
 clear hwa
 go_region_law (first
  | (refine rP rfl (.tmp 8) (.tmp 10) rfl rfl (.slice a0 N c0) N XS (f.ca d) one rfl rfl (HA.out.2.2.1 _ (by repeat (first | with_reducible assumption | with_reducible exact Below.refl _ _ | with_reducible refine Below.drew ?_ | with_reducible refine aF ?_ _))) (w.heap.size+1) rfl (by intro j u hu;rw[Addr.add_mid,Nat.zero_add,← HA.out.2.2.2.2];exact (ae _ _ j _ _ _ (aB wa _)).trans (hca j u hu)) (by omega) ?_;intro a' c' w9 h9;have z9:=fin.out w9 _ a' c' (by repeat (first | with_reducible assumption | with_reducible exact Below.refl _ _ | with_reducible refine Below.drew ?_ | with_reducible refine aF ?_ _)) h9.out.1 h9.out.2.1 h9.out.2.2;have c9:=z9.1.1;have f9:=z9.1.2;have HF:Hid (_):=z9.2;clear z9)
  | fail)
 all_goals
  go_wp2_with fail
  go_end0
  exact⟨rfl,_,HF.out⟩
theorem Pw.more_t (L:Pw) (v:Value) (f:Fa) (d:Dl):∀ i,i≠0→(L.more v f d).t i=L.t i:=fun i hi=>by
 unfold Pw.t
 rw[if_neg hi,if_neg hi]
 rfl
theorem yh {f:Fa} {d:Dl} {k:Nat} (h:k ∈ dlB f d):∃ y,d.1=some y∧0<f.d.1∧y.block=k:=by
 unfold dlB at h
 split at h
 ·next hl=>
  simp only[List.mem_map,Option.mem_toList]at h
  obtain⟨y,hy,e⟩:=h
  exact⟨y,hy,hl,e⟩
 ·cases h
def fi (a:Option Addr) (len cap:Nat) (bs:Nat→Nat):Thing:=⟨if 0<len then a.toList.map (·.block) else [],fun w=>Row8 w a len cap bs,fun _ _ _ h o hl=>h.offY o (fun x hx hn=>hl _ (by rw[if_pos hn,hx];simp))⟩
theorem PW.row {e:Nat→Nat} {w0 w:World} {t:Nat→Thing} {L:Pw} (h:PW e w0 w t L) {i:Nat} {a:Option Addr} {len cap:Nat} {bs:Nat→Nat} (ht:t i=fi a len cap bs):Row8 w a len cap bs:=h.1.get (x:=fi a len cap bs) ht
theorem PW.lay {e:Nat→Nat} {w0 w1 w:World} {t:Nat→Thing} {L:Pw} (h:PW e w0 w1 t L) (b:Below w1.heap.size w1 w) {i:Nat} (hi:∀ j,i≠e j) {a:Option Addr} {len cap:Nat} {bs:Nat→Nat} (R:Row8 w a len cap bs) (bV:∀ y,a=some y→0<len→w1.heap.size≤y.block):PW e w0 w (aJ t i (fi a len cap bs)) L:=by
 have h2:=h.below b
 have hu:∀ k,k ∈ (fi a len cap bs).U→∃ y,a=some y∧0<len∧y.block=k:=fun k hk=>by
  have hk:k ∈ (if 0<len then a.toList.map (·.block) else []):=hk
  split at hk
  ·next hl=>
   simp only[List.mem_map,Option.mem_toList]at hk
   obtain⟨y,hy,e⟩:=hk
   exact⟨y,hy,hl,e⟩
  ·cases hk
 refine⟨h2.1.turn i _ (Off.refl _ _) R (fun k hk=>?_) (fun k hk j hj hm=>?_),h.2.1,fun j=>?_⟩
 ·obtain⟨y,hy,hl,rfl⟩:=hu k hk
  have c0:=R.src y hy 0 hl
  have hb:(y.add 0).block=y.block:=by unfold Addr.add;split <;> rfl
  have hlt:=World.block_lt_of_cell? w _ c0
  rw[hb]at hlt
  exact⟨Nat.le_trans h.1.size (bV y hy hl),hlt⟩
 ·obtain⟨y,hy,hl,rfl⟩:=hu k hk
  have:=(h.1.lt j _ hm).2
  have:=bV y hy hl
  omega
 ·rw[an _ _ (fun q=>hi j q.symm)]
  exact h.2.2 j
theorem PWn.drop {e:Nat→Nat} {w0 w:World} {t:Nat→Thing} {L:Pw} {S:Ws} {i:Nat} {x:Thing} (h:PWn e w0 (aJ t i x) L w S) (hi:∀ j,i≠e j) (ht:t i=pQ):PWn e w0 t L w S:=by
 obtain⟨t',L',hp,hs,hf,he⟩:=h
 refine⟨aJ t' i pQ,L',⟨hp.1.drop i,hp.2.1,fun j=>?_⟩,hs,hf,fun q hq=>?_⟩
 ·rw[an _ _ (fun z=>hi j z.symm)]
  exact hp.2.2 j
 ·by_cases z:q=i
  ·subst z
   rw[al,ht]
  ·rw[an _ _ z,he q hq,an _ _ z]
theorem bf (n m:Nat):(((n:Nat):Int) == ((m:Nat):Int))=decide (n=m):=by
 rw[Bool.eq_iff_iff]
 simp only[beq_iff_eq,decide_eq_true_eq]
 omega
theorem PWn.bind {e:Nat→Nat} {w0 w':World} {t t1:Nat→Thing} {L L1:Pw} {S:Ws} (f:Fix L L1) (l:Els e t t1) (h:PWn e w0 t1 L1 w' S):PWn e w0 t L w' S:=by
 obtain⟨t',L',hp,hs,hf,he⟩:=h
 exact⟨t',L',hp,hs,f.trans hf,l.trans he⟩
theorem PW.more {e:Nat→Nat} {w0 w1 w w':World} {t:Nat→Thing} {L:Pw} {f:Fa} {d:Dl} (h:PW e w0 w1 t L) (b:Below w1.heap.size w1 w) (bV:∀ y,d.1=some y→0<f.d.1→w1.heap.size≤y.block) (g:∃ v,WB (L.core.more v f d) w'∧Off (L.x :: L.vf.ownBlock.toList) w w'∧∀ k,v.ownBlock=some k→L.vf.ownBlock=some k∨w.heap.size≤k):PWn e w0 t L w' (L.S.note [f]):=by
 obtain⟨v,hW,o,hv⟩:=g
 have h2:=h.below b
 have U0:(t (e 0)).U=L.core.U:=by rw[h.2.2 0];rfl
 have o':Off (t (e 0)).U w w':=by
  rw[U0]
  exact o.more (fun k hk=>by
   simp only[List.mem_cons,Option.mem_toList]at hk
   simp only[Wc.U,Pw.core,List.mem_cons,List.mem_append,Option.mem_toList]
   rcases hk with hk | hk
   ·exact .inl hk
   ·exact .inr (.inr (.inr (.inr (.inl hk)))))
 have cases_:∀ k,k ∈ (L.core.more v f d).U→k ∈ L.core.U∨w1.heap.size≤k:=fun k hk=>by
  simp only[Wc.U,Wc.more,Pw.core,List.mem_cons,List.mem_append,Option.mem_toList]at hk ⊢
  rcases hk with hk | hk | hk | hk | hk | hk | hk
  ·exact .inl (.inl hk)
  ·exact .inl (.inr (.inl hk))
  ·exact .inl (.inr (.inr (.inl hk)))
  ·exact .inl (.inr (.inr (.inr (.inl hk))))
  ·rcases hv k hk with q | q
   ·exact .inl (.inr (.inr (.inr (.inr (.inl q)))))
   ·exact .inr (Nat.le_trans b.size q)
  ·exact .inl (.inr (.inr (.inr (.inr (.inr hk)))))
  ·obtain⟨y,hy,hl,rfl⟩:=yh hk
   exact .inr (bV y hy hl)
 refine⟨aJ t (e 0) ((L.more v f d).t 0),L.more v f d,⟨?_,h.2.put 0 (fun i hi=>L.more_t v f d i hi)⟩,rfl,⟨rfl,rfl,rfl,rfl,rfl,rfl⟩,Els.put _ _ _ _⟩
 refine h2.1.turn (e 0) _ o' hW (fun k hk=>⟨?_,hW.lt k hk⟩) (fun k hk j hj hm=>?_)
 ·rcases cases_ k hk with q | q
  ·exact (h.1.lt (e 0) k (by rw[U0];exact q)).1
  ·exact Nat.le_trans h.1.size q
 ·rcases cases_ k hk with q | q
  ·exact h.1.dis j (e 0) hj k hm (by rw[U0];exact q)
  ·have:=(h.1.lt j k hm).2
   omega
theorem sL (e:Nat→Nat) (w0 w1 w:World) (t:Nat→Thing) (L:Pw) (f:Fa) (d:Dl) (h:PW e w0 w1 t L) (b:Below w1.heap.size w1 w) (R:Row8 w d.1 f.d.1 d.2 f.d.2) (bV:∀ y,d.1=some y→0<f.d.1→w1.heap.size≤y.block) (hF:L.S.fs.length≤100000):Calls prog 57 #[ac L.x 0,.agg #[.int .i64 (f.k:Nat),.int .i64 (f.c:Nat),.int .i64 (f.s:Nat),.int .u32 (f.ss:Nat),.int .u32 (f.nn:Nat),.bool f.on,.int .i64 f.cd,.slice d.1 f.d.1 d.2]] w fun r w'=>r=.returned (.tuple #[])∧Hid (PWn e w0 t L w' (L.S.note [f])):=by
 refine (acq L.core f d w ((h.below b).2.wb (h.below b).1) R (fun y hy hl hm=>?_) hF).mono ?_
 ·have:=(h.2.wb h.1).lt _ hm
  have:=bV y hy hl
  omega
 ·rintro r w' ⟨rfl,H⟩
  exact⟨rfl,h.more b bV H.out⟩
theorem ze (w:World) (bs:Nat→Nat):Row8 w none 0 0 bs:=⟨(fun i hi=>by simp at hi),(fun _=>⟨rfl,rfl⟩),(fun x hx=>by cases hx),Nat.le_refl _⟩
theorem ld (e:Nat→Nat) (w0 w:World) (t:Nat→Thing) (L:Pw) (k c s ss nn:Nat) (h:PW e w0 w t L) (hF:L.S.fs.length≤100000):Calls prog 57 #[ac L.x 0,.agg #[.int .i64 (k:Nat),.int .i64 (c:Nat),.int .i64 (s:Nat),.int .u32 (ss:Nat),.int .u32 (nn:Nat),.bool false,.int .i64 0,.slice none 0 0]] w fun r w'=>r=.returned (.tuple #[])∧Hid (PWn e w0 t L w' (L.S.note [⟨k,c,s,ss,nn,false,0,cZ⟩])):=
 sL e w0 w w t L ⟨k,c,s,ss,nn,false,0,cZ⟩ (none,0) h (Below.refl _ _) (ze w _) (fun y hy=>by cases hy) hF
theorem yW (e:Nat→Nat) (w0 w:World) (t:Nat→Thing) (L:Pw) (x:Int) (k c s ss nn:Nat) (h:PW e w0 w t L) (hF:L.S.fs.length≤100000):Calls prog 56 #[ac L.x 0,.int .i64 x,.agg #[.int .i64 (k:Nat),.int .i64 (c:Nat),.int .i64 (s:Nat),.int .u32 (ss:Nat),.int .u32 (nn:Nat),.bool false,.int .i64 0,.slice none 0 0]] w fun r w'=>r=.returned (.tuple #[])∧Hid (PWn e w0 t L w' (L.S.note (if x=0 then [⟨k,c,s,ss,nn,false,0,cZ⟩] else []))):=by
 have kA:(w.alloc (.cells #[.int .i64 (k:Nat),.int .i64 (c:Nat),.int .i64 (s:Nat),.int .u32 (ss:Nat),.int .u32 (nn:Nat),.bool false,.int .i64 0,.slice none 0 0] 130)).heap[w.heap.size]?=some (.cells #[.int .i64 (k:Nat),.int .i64 (c:Nat),.int .i64 (s:Nat),.int .u32 (ss:Nat),.int .u32 (nn:Nat),.bool false,.int .i64 0,.slice none 0 0] 130 (0,0)):=aB _ _
 have bA:Below w.heap.size w (w.alloc (.cells #[.int .i64 (k:Nat),.int .i64 (c:Nat),.int .i64 (s:Nat),.int .u32 (ss:Nat),.int .u32 (nn:Nat),.bool false,.int .i64 0,.slice none 0 0] 130)):=aF (Below.refl _ w) _
 obtain⟨wa,hwa⟩:∃ y,w.alloc (.cells #[.int .i64 (k:Nat),.int .i64 (c:Nat),.int .i64 (s:Nat),.int .u32 (ss:Nat),.int .u32 (nn:Nat),.bool false,.int .i64 0,.slice none 0 0] 130)=y:=⟨_,rfl⟩
 rw[hwa]at kA bA
 have hN:=ld e w0 wa t L k c s ss nn (h.below bA) hF
 have p0:wa.cell? ⟨w.heap.size,0,none⟩=some (.int .i64 (k:Nat)):=ae wa w.heap.size 0 _ _ _ kA
 have p1:wa.cell? ⟨w.heap.size,1,none⟩=some (.int .i64 (c:Nat)):=ae wa w.heap.size 1 _ _ _ kA
 have p2:wa.cell? ⟨w.heap.size,2,none⟩=some (.int .i64 (s:Nat)):=ae wa w.heap.size 2 _ _ _ kA
 have p3:wa.cell? ⟨w.heap.size,3,none⟩=some (.int .u32 (ss:Nat)):=ae wa w.heap.size 3 _ _ _ kA
 have p4:wa.cell? ⟨w.heap.size,4,none⟩=some (.int .u32 (nn:Nat)):=ae wa w.heap.size 4 _ _ _ kA
 have p5:wa.cell? ⟨w.heap.size,5,none⟩=some (.bool false):=ae wa w.heap.size 5 _ _ _ kA
 have p6:wa.cell? ⟨w.heap.size,6,none⟩=some (.int .i64 0):=ae wa w.heap.size 6 _ _ _ kA
 have p7:wa.cell? ⟨w.heap.size,7,none⟩=some (.slice none 0 0):=ae wa w.heap.size 7 _ _ _ kA
 have H0:Hid (PWn e w0 t L wa (L.S.note [])):=by
  have:=(h.below bA).n
  show PWn e w0 t L wa (L.S.note [])
  have e1:L.S.note []=L.S:=by unfold Ws.note;rw[List.append_nil]
  rw[e1]
  exact this
 have HE:Hid (_=wa):=hwa
 clear kA bA hwa h
 by_cases hx:x=0
 ·rw[if_pos hx]
  have q:(x == 0)=true:=by simpa using hx
  clear hx
  go_enter func56,ntmps56
  go_upto_region 1 with fail
  rw[HE.out]
  go_wp2_with fail
  refine hN.mono ?_
  rintro r w2 ⟨rfl,H2⟩
  clear hN
  go_wp2_with fail
  go_end0
  exact⟨rfl,H2⟩
 ·rw[if_neg hx]
  have q:(x == 0)=false:=by simpa using hx
  clear hx
  go_enter func56,ntmps56
  go_upto_region 1 with fail
  rw[HE.out]
  go_wp2_with fail
  go_end0
  exact⟨rfl,H0⟩
theorem yP (f:Fm) (a:Option Addr) (cap:Nat) (st:Nat) (w:World) (R:Row8 w a f.1 cap f.2):Calls prog 112 #[.slice a f.1 cap,.int .i64 (st:Nat)] w fun r w'=>r=.returned (.bool (brF f st))∧Below w.heap.size w w':=by
 have hD:Calls prog 134 #[.slice a f.1 cap] w fun e w'=>∃ (c s n g:Int) (a':Option Addr) (l' c':Nat) (er:Int),e=.returned (.tuple #[.agg #[.int .i64 (pI f:Nat),.int .u32 c,.int .u32 s,.int .u32 n,.int .i64 g,.slice a' l' c'],.int .i64 er])∧Hid (Below w.heap.size w w'):=by
  by_cases h:DE f.2 f.1=0
  ·refine (gP a f.1 cap f.2 w R h).mono ?_
   rintro e w' ⟨a',c',rfl,H⟩
   refine⟨((aC f.2 1:Nat):Int),((aC f.2 5:Nat):Int),((aC f.2 9:Nat):Int),((f.2 13:Nat):Int),a',f.1-19,c',0,?_,H.out.2⟩
   unfold pI
   rw[if_pos h]
  ·refine (gO a f.1 cap f.2 w R h).mono ?_
   rintro e w' ⟨rfl,b⟩
   refine⟨0,0,0,0,none,0,0,DE f.2 f.1,?_,b⟩
   unfold pI
   rw[if_neg h]
   rfl
 obtain⟨kd,hk⟩:∃ y,pI f=y:=⟨_,rfl⟩
 rw[hk]at hD
 have eB:brF f st=if kd=1 then false else if kd=2 then decide (st=2) else if kd=3 then decide (st=3) else true:=by unfold brF;rw[hk]
 obtain⟨n,hn⟩:∃ y,f.1=y:=⟨_,rfl⟩
 rw[hn]at hD ⊢
 clear R hn hk
 have four:kd=1∨kd=2∨kd=3∨(kd≠1∧kd≠2∧kd≠3):=by omega
 rw[eB]
 clear eB
 obtain⟨Rv,hRv⟩:∃ y,(if kd=1 then false else if kd=2 then decide (st=2) else if kd=3 then decide (st=3) else true)=y:=⟨_,rfl⟩
 rw[hRv]
 have HRv:Hid (_):=hRv
 clear hRv
 go_enter func112,ntmps112
 go_wp2_with fail
 refine hD.mono ?_
 rintro e w1 ⟨c,s,m,g,a',l',c',er,rfl,H1⟩
 clear hD
 have k1:=aB w1 (.cells #[.int .i64 (kd:Nat),.int .u32 c,.int .u32 s,.int .u32 m,.int .i64 g,.slice a' l' c'] 50)
 have b1:=aF H1.out (.cells #[.int .i64 (kd:Nat),.int .u32 c,.int .u32 s,.int .u32 m,.int .i64 g,.slice a' l' c'] 50)
 obtain⟨w2,hw2⟩:∃ y,w1.alloc (.cells #[.int .i64 (kd:Nat),.int .u32 c,.int .u32 s,.int .u32 m,.int .i64 g,.slice a' l' c'] 50)=y:=⟨_,rfl⟩
 rw[hw2]at k1 b1
 have HE:Hid (_=w2):=hw2
 have p0:w2.cell? ⟨w1.heap.size,0,none⟩=some (.int .i64 (kd:Nat)):=ae w2 w1.heap.size 0 _ _ _ k1
 have HB:Hid (Below w.heap.size w w2):=b1
 clear hw2 k1 b1 H1
 go_upto_region 2 with fail
 rw[HE.out]
 rcases four with rfl | rfl | rfl | ⟨n1,n2,n3⟩
 ·obtain rfl:Rv=false:=HRv.out.symm.trans rfl
  go_wp2_with fail
  go_ret
  exact⟨rfl,HB.out⟩
 ·obtain rfl:Rv=(((st:Nat):Int) == 2):=by
   rw[← HRv.out]
   exact (bf st 2).symm
  go_wp2_with fail
  go_ret
  exact⟨rfl,HB.out⟩
 ·obtain rfl:Rv=(((st:Nat):Int) == 3):=by
   rw[← HRv.out]
   exact (bf st 3).symm
  go_wp2_with fail
  go_ret
  exact⟨rfl,HB.out⟩
 ·have m1:(((kd:Nat):Int) == 1)=false:=beq_eq_false_iff_ne.2 (by omega)
  have m2:(((kd:Nat):Int) == 2)=false:=beq_eq_false_iff_ne.2 (by omega)
  have m3:(((kd:Nat):Int) == 3)=false:=beq_eq_false_iff_ne.2 (by omega)
  have HK:Hid (kd≠1∧kd≠2∧kd≠3):=⟨n1,n2,n3⟩
  obtain rfl:Rv=true:=by rw[← HRv.out,if_neg n1,if_neg n2,if_neg n3]
  clear n1 n2 n3
  go_wp2_with fail
  go_ret
  exact⟨rfl,HB.out⟩
theorem mG (e:Nat→Nat) (w0 w:World) (t:Nat→Thing) (L:Pw) (K k s:Nat) (f:Fm) (a:Option Addr) (cap:Nat) (h:PW e w0 w t L) (hF:L.S.fs.length≤100000) (R:Row8 w a f.1 cap f.2):Calls prog 106 #[ac L.x 0,.int .i64 (K:Nat),.int .i64 (k:Nat),.int .i64 (s:Nat),.slice a f.1 cap] w fun r w'=>r=.returned (.tuple #[])∧Hid (PWn e w0 t L w' (L.S.note (dW K k s f))):=by
 have hD:Calls prog 134 #[.slice a f.1 cap] w fun e w'=>∃ (c:Int) (s5 s9:Nat) (g:Int) (a':Option Addr) (l' c':Nat) (er:Int),e=.returned (.tuple #[.agg #[.int .i64 (pI f:Nat),.int .u32 c,.int .u32 (s5:Nat),.int .u32 (s9:Nat),.int .i64 g,.slice a' l' c'],.int .i64 er])∧Hid (Below w.heap.size w w'∧(DE f.2 f.1=0→s5=aC f.2 5∧s9=aC f.2 9∧l'=f.1-19∧Row8 w' a' l' c' (fun i=>f.2 (15+i))∧∀ y,a'=some y→0<l'→w.heap.size≤y.block)):=by
  by_cases hd:DE f.2 f.1=0
  ·refine (gP a f.1 cap f.2 w R hd).mono ?_
   rintro e w' ⟨a',c',rfl,H⟩
   obtain⟨a2,c2,e2,R2⟩:=aY H.out.1 (fun i hi=>R.byte (15+i) (by omega))
   simp only[Value.slice.injEq,true_and]at e2
   obtain⟨rfl,rfl⟩:=e2
   refine⟨((aC f.2 1:Nat):Int),aC f.2 5,aC f.2 9,((f.2 13:Nat):Int),a',f.1-19,c',0,?_,H.out.2,fun _=>⟨rfl,rfl,rfl,R2,fun y hy _=>(H.out.1.lt y.block (by rw[hy];rfl)).1⟩⟩
   unfold pI
   rw[if_pos hd]
  ·refine (gO a f.1 cap f.2 w R hd).mono ?_
   rintro e w' ⟨rfl,b⟩
   refine⟨0,0,0,0,none,0,0,DE f.2 f.1,?_,b,fun q=>absurd q hd⟩
   unfold pI
   rw[if_neg hd]
   rfl
 have hdz:pI f≠0→DE f.2 f.1=0:=fun q=>by
  unfold pI at q
  split at q
  ·assumption
  ·exact absurd rfl q
 have eD:dW K k s f=if pI f=4∨pI f=20 then [⟨K,k,s,aC f.2 5,aC f.2 9,false,0,(f.1-19,fun i=>f.2 (15+i))⟩] else []:=rfl
 obtain⟨kd,hk⟩:∃ y,pI f=y:=⟨_,rfl⟩
 rw[hk]at hD eD hdz
 have H0:Hid (PW e w0 w t L):=h
 have HR:Hid (dW K k s f=if kd=4∨kd=20 then [⟨K,k,s,aC f.2 5,aC f.2 9,false,0,(f.1-19,fun i=>f.2 (15+i))⟩] else []):=eD
 have HZ:Hid (_):=hdz
 obtain⟨X,hX⟩:∃ y,L.x=y:=⟨_,rfl⟩
 rw[hX]
 have HX:Hid (L.x=X):=hX
 clear R hk eD h hdz hX
 go_enter func106,ntmps106
 go_wp2_with fail
 refine hD.mono ?_
 rintro r w1 ⟨c,s5,s9,g,a',l',c',er,rfl,H1⟩
 clear hD
 have k1:=aB w1 (.cells #[.int .i64 (kd:Nat),.int .u32 c,.int .u32 (s5:Nat),.int .u32 (s9:Nat),.int .i64 g,.slice a' l' c'] 50)
 have b1:=aF (Below.refl _ w1) (.cells #[.int .i64 (kd:Nat),.int .u32 c,.int .u32 (s5:Nat),.int .u32 (s9:Nat),.int .i64 g,.slice a' l' c'] 50)
 obtain⟨w2,hw2⟩:∃ y,w1.alloc (.cells #[.int .i64 (kd:Nat),.int .u32 c,.int .u32 (s5:Nat),.int .u32 (s9:Nat),.int .i64 g,.slice a' l' c'] 50)=y:=⟨_,rfl⟩
 rw[hw2]at k1 b1
 have HE:Hid (_=w2):=hw2
 have p0:w2.cell? ⟨w1.heap.size,0,none⟩=some (.int .i64 (kd:Nat)):=ae w2 w1.heap.size 0 _ _ _ k1
 have p1:w2.cell? ⟨w1.heap.size,1,none⟩=some (.int .u32 c):=ae w2 w1.heap.size 1 _ _ _ k1
 have p2:w2.cell? ⟨w1.heap.size,2,none⟩=some (.int .u32 (s5:Nat)):=ae w2 w1.heap.size 2 _ _ _ k1
 have p3:w2.cell? ⟨w1.heap.size,3,none⟩=some (.int .u32 (s9:Nat)):=ae w2 w1.heap.size 3 _ _ _ k1
 have p4:w2.cell? ⟨w1.heap.size,4,none⟩=some (.int .i64 g):=ae w2 w1.heap.size 4 _ _ _ k1
 have p5:w2.cell? ⟨w1.heap.size,5,none⟩=some (.slice a' l' c'):=ae w2 w1.heap.size 5 _ _ _ k1
 have HB:Hid (Below w.heap.size w w2∧Below w1.heap.size w1 w2):=⟨H1.out.1.trans (b1.mono H1.out.1.size),b1⟩
 clear hw2 k1 b1
 go_upto_region 1 with fail
 rw[HE.out]
 clear HE
 by_cases hk:kd=4∨kd=20
 ·have hN:Calls prog 57 #[ac X 0,.agg #[.int .i64 (K:Nat),.int .i64 (k:Nat),.int .i64 (s:Nat),.int .u32 (s5:Nat),.int .u32 (s9:Nat),.bool false,.int .i64 0,.slice a' l' c']] w2 fun r w'=>r=.returned (.tuple #[])∧Hid (PWn e w0 t L w' (L.S.note (dW K k s f))):=by
   obtain⟨z1,z2,z3,z4,z5⟩:=H1.out.2 (HZ.out (by rcases hk with q | q <;> rw[q] <;> decide))
   have hh:=sL e w0 w w2 t L ⟨K,k,s,s5,s9,false,0,(l',fun i=>f.2 (15+i))⟩ (a',c') H0.out HB.out.1 (z4.below HB.out.2) z5 hF
   have ef:dW K k s f=[⟨K,k,s,s5,s9,false,0,(l',fun i=>f.2 (15+i))⟩]:=by
    rw[HR.out,if_pos hk]
    subst z1 z2 z3
    rfl
   rw[ef,← HX.out]
   exact hh
  have HH:Hid (_):=hN
  clear H0 hF HR HZ H1
  rcases hk with rfl | rfl
  all_goals
   go_wp2_with fail
   refine Calls.mono hN ?_
   rintro r w3 ⟨rfl,H3⟩
   clear hN HH
   go_wp2_with fail
   go_end0
   exact⟨rfl,H3⟩
 ·have HF:Hid (PWn e w0 t L w2 (L.S.note (dW K k s f))):=by
   have:=(H0.out.below HB.out.1).n
   show PWn e w0 t L w2 (L.S.note (dW K k s f))
   rw[HR.out,if_neg hk]
   have e1:L.S.note []=L.S:=by unfold Ws.note;rw[List.append_nil]
   rw[e1]
   exact this
  have m4:(((kd:Nat):Int) == 4)=false:=beq_eq_false_iff_ne.2 (by omega)
  have m20:(((kd:Nat):Int) == 20)=false:=beq_eq_false_iff_ne.2 (by omega)
  clear H0 hF HR HZ H1 hk
  go_wp2_with fail
  go_end0
  exact⟨rfl,HF⟩
theorem lf (e:Nat→Nat) (w0 w:World) (t:Nat→Thing) (L:Pw) (k s:Nat) (f:Fm) (a:Option Addr) (cap i:Nat) (h:PW e w0 w t L) (hF:L.S.fs.length≤90000) (hi:∀ j,i≠e j) (ht:t i=fi a f.1 cap f.2):Calls prog 109 #[ac L.x 0,.int .i64 (k:Nat),.int .i64 (s:Nat),.slice a f.1 cap] w fun r w'=>r=.returned (.tuple #[])∧Hid (PWn e w0 t L w' (L.S.note (cO k s f))):=by
 have hN:=ld e w0 w t L 4 k s 0 0 h (by omega)
 have hD:∀ w1,PWn e w0 t L w1 (L.S.note [dE 4 k s])→Calls prog 106 #[ac L.x 0,.int .i64 (2:Nat),.int .i64 (k:Nat),.int .i64 (s:Nat),.slice a f.1 cap] w1 fun r w'=>r=.returned (.tuple #[])∧Hid (PWn e w0 t L w' (L.S.note (cO k s f))):=fun w1 q=>by
  obtain⟨t1,L1,hp,hs,hf,he⟩:=q
  have e1:L1.S.fs.length≤100000:=by
   rw[hs]
   show (L.S.fs ++ [dE 4 k s]).length≤100000
   rw[List.length_append]
   simp
   omega
  have:=mG e w0 w1 t1 L1 2 k s f a cap hp e1 (hp.row ((he i hi).trans ht))
  rw[hf.x]at this
  refine this.mono ?_
  rintro r w' ⟨rfl,H⟩
  refine⟨rfl,PWn.bind hf he ?_⟩
  have e2:L1.S.note (dW 2 k s f)=L.S.note (cO k s f):=by
   rw[hs]
   unfold Ws.note cO
   simp
  rw[← e2]
  exact H.out
 have hD2:∀ w1,Hid (PWn e w0 t L w1 (L.S.note [dE 4 k s]))→Calls prog 106 #[ac L.x 0,.int .i64 2,.int .i64 (k:Nat),.int .i64 (s:Nat),.slice a f.1 cap] w1 fun r w'=>r=.returned (.tuple #[])∧Hid (PWn e w0 t L w' (L.S.note (cO k s f))):=fun w1 q=>hD w1 q.out
 have HD:Hid (_):=hD2
 obtain⟨n,hn⟩:∃ y,f.1=y:=⟨_,rfl⟩
 obtain⟨X,hX⟩:∃ y,L.x=y:=⟨_,rfl⟩
 rw[hn,hX]at HD ⊢
 rw[hX]at hN
 clear hD hD2 h hF hi ht hn hX
 go_enter func109,ntmps109
 go_wp2_with fail
 refine Calls.mono hN ?_
 rintro r w1 ⟨rfl,H1⟩
 have hE:=HD.out w1 H1
 clear hN HD H1
 go_wp2_with fail
 refine hE.mono ?_
 rintro r w2 ⟨rfl,H2⟩
 clear hE
 go_wp2_with fail
 go_end0
 exact⟨rfl,H2⟩
open Go.RowKit
end Go.Proofs.YtenilkloffnjlaaGreat
