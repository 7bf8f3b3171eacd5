/- Part 1: contracts that the proof rests on. -/
import Derived.Test.YtenilkloffnjlaaGreatProg
import Derived.WalkKit
import Derived.WalkSpells
import Derived.OpenShut
import Derived.Deep.RegionHeld3
import Derived.Laws.Rows
import Derived.Laws.IdiomRangeMap
import Derived.Laws.AppendOwnNone
import Derived.Laws.CopyOwn
import Derived.WalkSmall
set_option maxHeartbeats 64000000
set_option maxRecDepth 100000
namespace Go.Proofs.YtenilkloffnjlaaGreat
open Tryz
open Go.RowKit Go.Maps
theorem aq {P:Program} {md:Region.Mode} {ops:Array Oper} {Q:Exit→Act→World→Prop} {S:World→Prop} {i:Nat} {oi:Oper} {v:Value} {fuel:Nat} {listed:Array Bool} {a:Act} {w:World}
  (h:wpAnyH P md ops Q S fuel (listed.setIfInBounds i true) (a.put oi.dst v) w) (hi:ops[i]?=some oi:=by rfl) (hs:Region.noSelect ops=true:=by kernel_rfl) (hf:Region.free md ops listed i=true:=by kernel_rfl) (hr:(Region.ready md ops listed).contains i=true:=by kernel_rfl)
  (hQ:∀ c a w,Q (.panic c) (a.put oi.dst v) w→Q (.panic c) a w:=by exact fun _ _ _ h=>h) (hy:YieldsIf P ops S oi v a:=by exact Or.inl ⟨by kernel_rfl,fun w hSw=>by go_simp⟩) (hS:S w:=by assumption):wpAnyH P md ops Q S (fuel+1) listed a w:=
 wpAnyH_take hi hs hf hr hQ hy hS h
theorem ae (w:World) (g j:Nat) (cs:Array Value) (t:TypeId) (fr:Nat × Nat) (hg:w.heap[g]?=some (.cells cs t fr)):w.cell? ⟨g,j,none⟩=cs[j]?:=cell_of_row w g j cs t fr hg
theorem aB (w:World) (o:Obj):(w.alloc o).heap[w.heap.size]?=some o:=heap_alloc_new w o
abbrev ac (b o:Nat):Value:=.pointer (some ⟨b,o,none⟩)
abbrev af (b o:Nat):Option Addr:=some ⟨b,o,none⟩
abbrev aA (a b c:Nat):Array Value:=#[.pointer (some ⟨a,0,none⟩),.pointer (some ⟨b,0,none⟩),.pointer (some ⟨c,0,none⟩)]
abbrev aQ:Array Value:=#[.pointer none,.pointer none,.pointer none]
abbrev dA:Array Value:=#[.int .i64 0,.int .u32 0,.int .u32 0,.int .u32 0,.int .i64 0,.int .i64 0,.bool false,.bool false,.slice none 0 0]
abbrev bH:Array Value:=#[.int .i64 0,.int .u32 0,.int .u32 0,.int .u32 0,.int .i64 0,.slice none 0 0]
abbrev dw:Array Value:=#[.int .i64 0,.int .i64 0,.int .i64 0,.int .i64 0,.int .i64 0,.int .u32 0,.int .i64 0,.bool false,.slice none 0 0,.int .i64 0,.int .i64 0,.int .i64 0,.int .u32 0,.int .u32 0,.int .u32 0,.int .i64 0,.int .i64 0,.bool false,.bool false,.slice none 0 0,.int .i64 0,.int .u32 0,.int .u32 0,.int .u32 0,.int .i64 0,.int .i64 0,.bool false,.bool false,.slice none 0 0]
abbrev bC:Array Value:=#[.int .u32 7,.int .i64 2,.int .i64 1,.int .i64 10,.int .u32 9]
abbrev bO (st ss nm sn dc:Nat) (l:Int) (q o:Bool) (a:Option Addr) (n c:Nat):Array Value:=#[.int .i64 (st:Nat),.int .u32 (ss:Nat),.int .u32 (nm:Nat),.int .u32 (sn:Nat),.int .i64 (dc:Nat),.int .i64 l,.bool q,.bool o,.slice a n c]
abbrev iZZ (x:Int):Value:=.int .i64 x
abbrev wZZ (x:Int):Value:=.int .u32 x
abbrev jZZ (x:Nat):Value:=.int .i64 (x:Nat)
abbrev uZZ (x:Nat):Value:=.int .u32 (x:Nat)
abbrev ac9 (k c s f a:Int) (x:Nat) (n:Int) (h:Bool) (d:Option Addr) (l e:Nat):Array Value:=#[.int .i64 k,.int .i64 c,.int .i64 s,.int .i64 f,.int .i64 a,.int .u32 (x:Nat),.int .i64 n,.bool h,.slice d l e]
open Go.RowKit
def BRow (k:IntKind) (w:World) (a:Option Addr) (len cap:Nat) (zs:List Int):Prop:=
 (a=none∧len=0∧cap=0∧zs=[]) ∨
 ∃ x,a=some x∧len≤cap∧cap≤maxLen∧zs.length=cap∧(∀ i,i<zs.length→w.cell? (x.add i)=some (.int k (zs.getD i 0)))∧∀ n ∈ zs,(Lit.int k n).wf=true
structure Row8 (w:World) (a:Option Addr) (len cap:Nat) (bs:Nat→Nat):Prop where
 byte:∀ i,i<len→bs i<256
 nil:a=none→len=0∧cap=0
 src:∀ x,a=some x→∀ i,i<len→w.cell? (x.add i)=some (.int .u8 (bs i))
 le:len≤cap
theorem BRow.row8 {w:World} {a:Option Addr} {len cap:Nat} {zs:List Int} (h:BRow .u8 w a len cap zs):Row8 w a len cap (fun i=>(zs.getD i 0).toNat):=by
 rcases h with ⟨rfl,rfl,rfl,rfl⟩ | ⟨x,rfl,hl,_,hz,hc,hw⟩
 ·exact⟨fun i hi=>by omega,fun _=>⟨rfl,rfl⟩,(fun x hx=>by cases hx),Nat.le_refl _⟩
 ·have hb:∀ i,i<len→0≤zs.getD i 0∧zs.getD i 0≤255:=fun i hi=>by
   have:=bounds_u8 (hw (zs.getD i 0) (by
    rw[List.getD_eq_getElem?_getD,List.getElem?_eq_getElem (by omega)]
    exact List.getElem_mem _))
   exact this
  refine⟨fun i hi=>?_,(fun hx=>by cases hx),fun y hy i hi=>?_,hl⟩
  ·have:=hb i hi;omega
  ·cases hy
   have h1:=hc i (by omega)
   have h2:=hb i hi
   rw[h1,Int.toNat_of_nonneg h2.1]
theorem Row8.plain {w:World} {a:Option Addr} {len cap:Nat} {bs:Nat→Nat} (h:Row8 w a len cap bs) (hp:0<len) :
  ∃ b off,a=some ⟨b,off,none⟩∧b<w.heap.size∧∀ i,i<len→bs i<256∧w.cell? ⟨b,off+i,none⟩=some (.int .u8 (bs i)):=by
 cases a with
 | none=>have:=(h.nil rfl).1;omega
 | some x=>
  obtain⟨b,off,spot⟩:=x
  have h0:=h.src _ rfl 0 hp
  have hspot:spot=none:=by simpa [Addr.add] using World.cell?_spot h0
  subst hspot
  refine⟨b,off,rfl,?_,fun i hi=>⟨h.byte i hi,?_⟩⟩
  ·simpa [Addr.add] using World.block_lt_of_cell? w _ h0
  ·rw[← Go.WideShapes.add_plain];exact h.src _ rfl i hi
theorem Row8.below {w w':World} {a:Option Addr} {len cap:Nat} {bs:Nat→Nat} (h:Row8 w a len cap bs) (hb:Below w.heap.size w w'):Row8 w' a len cap bs:=
 ⟨h.byte,h.nil,fun x hx i hi=>by
  have h1:=h.src x hx i hi
  exact (hb.cell (World.block_lt_of_cell? w _ h1)).trans h1,h.le⟩
def CB (bs:Nat→Nat) (n:Nat):List Value:=(List.range n).map fun t=>Value.int .u8 (bs t)
theorem az (bs:Nat→Nat) (n:Nat):(CB bs n).length=n:=by simp[CB]
theorem aZ (bs:Nat→Nat) (n i:Nat) (h:i<n):(CB bs n)[i]?=some (.int .u8 (bs i)):=by simp[CB,h]
theorem cz (bs:Nat→Nat) (n i:Nat) (h:n≤i):(CB bs n)[i]?=none:=by simp[CB,h]
theorem ke (bs:Nat→Nat) (n:Nat):∀ u ∈ CB bs n,u.oneCell'=true:=by
 intro u hu
 simp only[CB,List.mem_map]at hu
 obtain⟨t,_,rfl⟩:=hu
 rfl
theorem jg (f g:Nat→Nat) (n m:Nat):CB f n ++ CB g m=CB (fun i=>if i<n then f i else g (i-n)) (n+m):=by
 apply List.ext_getElem?
 intro i
 by_cases h:i<n
 ·rw[List.getElem?_append_left (by rw[az];exact h),aZ f n i h,aZ _ _ i (by omega),if_pos h]
 ·rw[List.getElem?_append_right (by rw[az];omega),az]
  by_cases h2:i<n+m
  ·rw[aZ g m _ (by omega),aZ _ _ i h2,if_neg h]
  ·rw[cz _ _ _ (by omega),cz _ _ _ (by omega)]
theorem aP {P:Program} {w:World} {ops:Array Oper} {rest:List Oper} {o:Oper} {a:Act} {Q:Exit→Act→World→Prop} (hgd:o.guard=none) (s x:Operand) (t:TypeId)
  (ho:o.op=.call { callee:=.builtin .append,args:=#[s,x],argTypes:=#[t,t] })
  (base:Nat) (e:TypeId) (i:TypeInfo) (z:Value) (ht:P.underlying t=some (.slice e)) (hi:P.info? e=some i) (hz:i.zero=some z)
  (hsize:i.size=1) (hby:i.bytes=1) (hzs:z.cells.size=1)
  (v:Value) (n:Nat) (xs:List Value) (hs:a.eval s=v) (hown:w.ownsRow base e 1 v n xs)
  (ao:Option Addr) (m c:Nat) (bs:Nat→Nat) (hx:a.eval x=.slice ao m c) (hrow:Row8 w ao m c bs)
  (h63:n+m≤maxLen) (hbytes:n+m≤140737488355328) (hbase:base≤w.heap.size)
  (h:∀ v' w',w'.ownsRow base e 1 v' (n+m) (xs ++ CB bs m)→w.grownBy w' v.ownBlock→wpList P ops Q rest (a.put o.dst v') w'):wpList P ops Q (o :: rest) a w:=by
 cases ao with
 | none=>
  obtain⟨rfl,rfl⟩:=hrow.nil rfl
  refine wpList_append_own_none hgd s x t ho base e i 1 ht hi v n xs hs hown hx ?_
  have he:xs ++ CB bs 0=xs:=by simp[CB]
  exact h v w (by rw[he];exact hown) ⟨rfl,rfl,rfl,Nat.le_refl _,fun _ _ _=>rfl⟩
 | some ad=>
  refine wpList_append_own _ hgd s x t ho base e i z 1 1 ht hi hz hsize hby hzs (by decide) v n xs hs hown ad m c (CB bs m) hx (by rw[az,Nat.mul_one]) ?_ (ke bs m) h63 (by omega) hbase (fun v' w' h1 h2 _=>h v' w' h1 h2)
  intro j u hj
  by_cases hlt:j<m
  ·rw[aZ bs m j hlt]at hj
   cases hj
   exact hrow.src ad rfl j hlt
  ·rw[cz bs m j (by omega)]at hj;cases hj
theorem cq:(prog.info? 5).map (fun i=>(i.zero,i.size,i.bytes))=some (some (.int .u8 0),1,1):=by kernel_rfl
theorem nZ:(prog.info? 5).map (·.size)=some 1:=by kernel_rfl
theorem cU {w w':World} {B e size n:Nat} {v:Value} {xs:List Value} (h:w.ownsRow B e size v n xs) (hb:Below w.heap.size w w'):w'.ownsRow B e size v n xs:=by
 refine⟨h.1,?_⟩
 rcases h.2 with hn | ⟨g,cap,cur,rfl,hg,hgg,rest⟩
 ·exact .inl hn
 ·exact .inr ⟨g,cap,cur,rfl,hg,by rw[hb.block g (Array.getElem?_eq_some_iff.1 hgg).1];exact hgg,rest⟩
theorem aS {w:World} {B B' e size n:Nat} {v:Value} {xs:List Value} (h:w.ownsRow B e size v n xs) (hb:B'≤B):w.ownsRow B' e size v n xs:=by
 refine⟨h.1,?_⟩
 rcases h.2 with hn | ⟨g,cap,cur,rfl,hg,rest⟩
 ·exact .inl hn
 ·exact .inr ⟨g,cap,cur,rfl,Nat.le_trans hb hg,rest⟩
theorem bD {B:Nat} {w0 w w':World} (h:Below B w0 w) (hB:B≤w.heap.size) (k:Below w.heap.size w w'):Below B w0 w':=h.trans (k.mono hB)
theorem aY {w:World} {B e n:Nat} {v:Value} {bs:Nat→Nat} (h:w.ownsRow B e 1 v n (CB bs n)) (hb:∀ i,i<n→bs i<256) :
  ∃ a cap,v=.slice a n cap∧Row8 w a n cap bs:=by
 rcases h.2 with ⟨rfl,rfl⟩ | ⟨g,cap,cur,hv,_,_,hnc,_⟩
 ·exact⟨none,0,rfl,hb,fun _=>⟨rfl,rfl⟩,(fun x hx=>by cases hx),Nat.le_refl _⟩
 ·subst hv
  refine⟨_,cap,rfl,hb,(fun hx=>by cases hx),fun x hx i hi=>?_,hnc⟩
  cases hx
  rw[Go.WideShapes.add_plain,Nat.zero_add,h.cellAt i (by omega),aZ bs n i hi]
theorem ll (w:World) (cs:Array Value) (e:TypeId) (bs:Nat→Nat) (n:Nat) (hb:∀ i,i<n→bs i<256) (hc:∀ i,i<n→cs[i]?=some (.int .u8 (bs i:Nat))) :
  Row8 (w.alloc (.cells cs e)) (some ⟨w.heap.size,0,none⟩) n n bs:=by
 refine⟨hb,(fun hx=>by cases hx),fun x hx i hi=>?_,Nat.le_refl _⟩
 cases hx
 rw[Go.WideShapes.add_plain,Nat.zero_add,ae _ _ _ cs e (0,0) (aB w _)]
 exact hc i hi
theorem Row8.from_ {w:World} {b off len cap:Nat} {bs:Nat→Nat} (h:Row8 w (some ⟨b,off,none⟩) len cap bs) (n:Nat) (hn:n≤len):Row8 w (some ⟨b,off+n,none⟩) (len-n) (cap-n) (fun i=>bs (n+i)):=by
 refine⟨fun i hi=>h.byte _ (by omega),(fun hx=>by cases hx),fun x hx i hi=>?_,by have:=h.le;omega⟩
 cases hx
 have:=h.src _ rfl (n+i) (by omega)
 rw[Go.WideShapes.add_plain]at this ⊢
 rw[show off+n+i=off + (n+i) by omega]
 exact this
theorem Row8.upto {w:World} {a:Option Addr} {len cap:Nat} {bs:Nat→Nat} (h:Row8 w a len cap bs) (n:Nat) (hn:n≤len):Row8 w a n cap bs:=
 ⟨fun i hi=>h.byte _ (by omega),(fun hx=>by have:=h.nil hx;exact⟨by omega,this.2⟩),fun x hx i hi=>h.src x hx i (by omega),by have:=h.le;omega⟩
theorem Row8.drewN {w:World} {a:Option Addr} {len cap:Nat} {bs:Nat→Nat} (h:Row8 w a len cap bs) (n:Nat):Row8 (w.drewN n) a len cap bs:=h.below (below_drewN (Below.refl _ _) n)
theorem dM (f g:Nat→Nat) (n:Nat) (h:∀ i,i<n→f i=g i):CB f n=CB g n:=by
 apply List.ext_getElem?
 intro i
 by_cases hi:i<n
 ·rw[aZ f n i hi,aZ g n i hi,h i hi]
 ·rw[cz f n i (by omega),cz g n i (by omega)]
theorem xL (f:Nat→Nat) (n k:Nat) (h:k≤n):(CB f n).take k=CB f k:=by
 apply List.ext_getElem?
 intro i
 rw[List.getElem?_take]
 by_cases hi:i<k
 ·rw[if_pos hi,aZ f n i (by omega),aZ f k i hi]
 ·rw[if_neg hi,cz f k i (by omega)]
theorem fN (f:Nat→Nat) (n j x:Nat):(CB f n).set j (.int .u8 (x:Nat))=CB (fun i=>if i=j then x else f i) n:=by
 apply List.ext_getElem?
 intro i
 rw[List.getElem?_set]
 by_cases hj:j=i
 ·subst hj
  by_cases hi:j<n
  ·rw[if_pos rfl,if_pos (by rw[az];exact hi),aZ _ n j hi,if_pos rfl]
  ·rw[if_pos rfl,if_neg (by rw[az];exact hi),cz _ n j (by omega)]
 ·rw[if_neg hj]
  by_cases hi:i<n
  ·rw[aZ f n i hi,aZ _ n i hi,if_neg (by omega)]
  ·rw[cz f n i (by omega),cz _ n i (by omega)]
theorem xM (n:Nat):List.replicate n (Value.int .u8 0)=CB (fun _=>0) n:=by
 apply List.ext_getElem?
 intro i
 by_cases hi:i<n
 ·rw[aZ _ n i hi,List.getElem?_replicate,if_pos hi];rfl
 ·rw[cz _ n i (by omega),List.getElem?_replicate,if_neg hi]
theorem bk {P:Program} (w:World) {ops:Array Oper} {rest:List Oper} {o:Oper} {a:Act} {Q:Exit→Act→World→Prop}
  (hg:o.guard=none) (l c:Operand) (t:TypeId) (hop:o.op=Op.makeSlice t l c)
  (base:Nat) (e:TypeId) (i:TypeInfo) (h1:P.underlying t=some (.slice e)) (h2:P.info? e=some i) (h3:i.zero=some (.int .u8 0)) (h4:i.size=1) (h5:i.bytes=1)
  (kl kc:IntKind) (L C:Int) (n m:Nat) (hl:a.eval l=.int kl L) (hc:a.eval c=.int kc C) (hL:L=(n:Int)) (hC:C=(m:Int)) (hnm:n≤m) (b2:m≤281474976710656) (b4:base≤w.heap.size)
  (hK:∀ w',w'.ownsRow base e 1 (.slice (some ⟨w.heap.size,0,none⟩) n m) n (CB (fun _=>0) n)→Below base w w'→wpList P ops Q rest (a.put o.dst (.slice (some ⟨w.heap.size,0,none⟩) n m)) w') :
  wpList P ops Q (o :: rest) a w:=by
 refine wpList_plain hg fun K hK'=>?_
 subst hL
 subst hC
 have hr:=run_make (P:=P) w t e i _ h1 h2 h3 kl kc n m (by omega) (by omega) (by rw[h5];omega) (by omega)
 simp only[Int.toNat_natCast]at hr
 rw[h4,Nat.mul_one]at hr
 have hz:(madeCells (Value.int .u8 0).cells m).toList=CB (fun _=>0) m:=(toList_madeCells_one (.int .u8 0) m).trans (xM m)
 have hml:m≤maxLen:=by unfold maxLen;omega
 have hsz:(madeCells (Value.int .u8 0).cells m).size=m*1:=by rw[size_madeCells];omega
 have hln:(CB (fun _=>0) n).length=n*1:=by rw[az];omega
 have htk:(madeCells (Value.int .u8 0).cells m).toList.take (n*1)=CB (fun _=>0) n:=by rw[hz,Nat.mul_one,xL _ _ _ hnm]
 have hk:=hK _ ⟨hln,.inr ⟨w.heap.size,m,_,rfl,b4,aB w _,hnm,hml,hsz,htk⟩⟩ ((Below.refl _ _).alloc b4 _)
 unfold Oper.wp
 simp[execOp,hop,hl,hc,hr,Result.andThen]
 exact hK' _ _ hk
theorem ot {P:Program} {w:World} {ops:Array Oper} {rest:List Oper} {o:Oper} {a:Act} {Q:Exit→Act→World→Prop} (hgd:o.guard=none) (d s:Operand) (dT sT:TypeId)
  (ho:o.op=.call { callee:=.builtin .copy,args:=#[d,s],argTypes:=#[dT,sT] }) (elem:TypeId) (hu:P.underlying dT=some (.slice elem)) (hsz:(P.info? elem).map (·.size)=some 1)
  (base g n cap:Nat) (f:Nat→Nat) (hd:a.eval d=.slice (some ⟨g,0,none⟩) n cap) (hown:w.ownsRow base elem 1 (.slice (some ⟨g,0,none⟩) n cap) n (CB f n))
  (ao:Option Addr) (m c:Nat) (bs:Nat→Nat) (hs:a.eval s=.slice ao m c) (hrow:Row8 w ao m c bs)
  (w0:World) (hb:Below base w0 w)
  (h:∀ w',w'.ownsRow base elem 1 (.slice (some ⟨g,0,none⟩) n cap) n (CB (fun i=>if i<m then bs i else f i) n)→Below base w0 w'→wpList P ops Q rest (a.put o.dst (goInt (min m n:Nat))) w') :
  wpList P ops Q (o :: rest) a w:=by
 rcases hown.2 with ⟨h',_⟩ | ⟨g',cap',cur,h',hbg,hg,hnc,hcm,hcs,cr⟩
 ·simp at h'
 ·simp only[Value.slice.injEq,Option.some.injEq,Addr.mk.injEq,and_true,true_and]at h'
  obtain⟨rfl,rfl⟩:=h'
  have hmin:Nat.min m n=min m n:=rfl
  refine wpList_copy_splice hgd d s dT sT ho elem hu hsz _ ao n cap m c hd hs g 0 cur.toList elem (by simpa using hg) (CB bs (min m n)) (by rw[az,hmin]) ?_ (by rw[az,Array.length_toList,hcs];omega) (ke _ _) base w0 hb hbg ?_
  ·intro hpos
   refine⟨rfl,?_⟩
   rw[az]at hpos
   cases ao with
   | none=>have:=(hrow.nil rfl).1;omega
   | some ad=>
    refine⟨ad,rfl,fun j v hj=>?_⟩
    by_cases hlt:j<min m n
    ·rw[aZ _ _ _ hlt]at hj
     cases hj
     exact hrow.src ad rfl j (by omega)
    ·rw[cz _ _ _ (by omega)]at hj;cases hj
  ·intro w' hg' hb'
   rw[az]
   refine h w' ⟨by rw[az];omega,.inr ⟨g,cap,_,rfl,hbg,hg'.out,hnc,hcm,?_,?_⟩⟩ hb'
   ·rw[List.size_toArray,length_splice _ _ _ (by rw[az,Array.length_toList,hcs];omega),Array.length_toList,hcs]
   ·rw[Nat.mul_one]at cr ⊢
    simp only[splice,List.take_zero,List.nil_append,Nat.zero_add,az]
    apply List.ext_getElem?
    intro i
    rw[List.getElem?_take]
    by_cases hi:i<n
    ·rw[if_pos hi,aZ _ n i hi]
     by_cases him:i<m
     ·rw[if_pos him,List.getElem?_append_left (by rw[az];omega),aZ _ _ _ (by omega)]
     ·rw[if_neg him,List.getElem?_append_right (by rw[az];omega),az,List.getElem?_drop,show min m n + (i-min m n)=i by omega]
      have:=congrArg (·[i]?) cr
      simp only[List.getElem?_take,if_pos hi,aZ f n i hi]at this
      exact this
    ·rw[if_neg hi,cz _ n i (by omega)]
end Go.Proofs.YtenilkloffnjlaaGreat
