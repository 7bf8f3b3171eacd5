/- Part 32: contracts that the proof rests on. -/
import Derived.Shelf.SlIter.Collect
import Derived.Shelf.AbstractIn
import Derived.Test.YtdpahjfekoikiaaGreatPkX25
import Derived.Test.YtdpahjfekoikiaaGreatPkX26
import Derived.Test.YtdpahjfekoikiaaGreatPkX27
import Derived.Test.YtdpahjfekoikiaaGreatPkX28
import Derived.Test.YtdpahjfekoikiaaGreatPkX29
import Derived.Test.YtdpahjfekoikiaaGreatPkX30
set_option maxHeartbeats 64000000
set_option maxRecDepth 100000
namespace Go.Proofs.YtdpahjfekoikiaaGreat
open Tryz
open Go.RowKit
theorem pU (d m g n mx:Nat) (P:Pm) (U:List Nat) (s:Sd) (K N fl:Int) (odd:Bool) (a:Option Addr) (len cap:Nat) (bs:Nat→Nat) (p:Int) (x:Nat) (w:World) (h:RW w d m g n mx P U s) (hr:Row8 w a len cap bs) (ha:∀ y,a=some y→0<len→y.block<w.heap.size) (hss:s.ss<4294967296) (hx:x<4294967296) (hlen:len≤140737488351232) (hk:1≤K∧K≤7) :
  Calls prog 21 #[aa d 0,.agg #[.int .i64 K,.int .i64 N,.int .i64 fl,.bool odd,.slice a len cap,.int .i64 p,.int .u32 (x:Nat)]] w fun e w'=>∃ v,e=.returned (.tuple #[v,.bool true])∧Hid (Below w.heap.size w w'∧∃ f,Fr w' w.heap.size v f∧(∀ i,i<f.1→f.2 i<256)∧f.1≤140737488351232∧Fo P s K N fl odd len bs x f):=by
 have:K=1∨K=2∨K=3∨K=4∨K=5∨K=6∨K=7:=by omega
 rcases this with rfl | rfl | rfl | rfl | rfl | rfl | rfl
 ·exact lU d m g n mx P U s N fl odd a len cap bs p x w h hr ha hss
 ·exact lV d m g n mx P U s N fl odd a len cap bs p x w h hr ha hss
 ·exact lX d m g n mx P U s N fl odd a len cap bs p x w h hr ha hss
 ·exact lY d m g n mx P U s N fl odd a len cap bs p x w h hr ha hss
 ·exact lZ d m g n mx P U s N fl odd a len cap bs p x w h hr ha hss
 ·exact l9 d m g n mx P U s N fl odd a len cap bs p x w h hr ha hss hlen
 ·exact ma d m g n mx P U s N fl odd a len cap bs p x w h hr ha hss hx
open Go.RowKit Go.Maps Go.Sort Go.Shelf
def bQ (x:Int):Value:=.int .u32 x
theorem pQ {x y:Int} (h:bQ x=bQ y):x=y:=by simpa [bQ] using h
structure Kcol (D:DataW Unit) (left:Lit→Bool) (ss:List Int):Prop where
 nd:ss.Nodup
 mem:∀ x,x ∈ ss ↔ (has D (.int .u32 x)=true∧left (.int .u32 x)=false)
theorem Kcol.start (D:DataW Unit):Kcol D (has D) []:=⟨List.nodup_nil,fun x=>by cases has D (.int .u32 x) <;> simp⟩
theorem Kcol.step {D:DataW Unit} {left:Lit→Bool} {ss:List Int} (h:Kcol D left ss) {x:Int} {y:DataW Unit} (hl:left (.int .u32 x)=true) (ha:∀ z,D.atKey (.int .u32 x) z=y):Kcol D (fun z=>left z && !z.sameKey (.int .u32 x)) (ss ++ [x]):=by
 have hx:has D (.int .u32 x)=true:=has_true_of_atKey ha
 have hn:x ∉ ss:=fun hm=>by
  have:=((h.mem x).1 hm).2
  rw[hl]at this
  cases this
 refine⟨List.nodup_append.2 ⟨h.nd,by simp,fun a hA b hB e=>?_⟩,fun z=>?_⟩
 ·simp at hB
  subst hB;subst e
  exact hn hA
 ·simp only[List.mem_append,List.mem_singleton,h.mem z,Bool.and_eq_false_iff,Bool.not_eq_false']
  by_cases e:z=x
  ·subst e
   simp[hx,Lit.sameKey]
  ·have:Lit.sameKey (.int .u32 z) (.int .u32 x)=false:=sameKey_ne (by simpa using e)
   simp[e,this]
def rK (D:DataW Unit) (ss:List Int):Prop:=ss.Nodup∧∀ x,x ∈ ss ↔ has D (.int .u32 x)=true
theorem tK (l Bm b nn n:Nat) (hn:1≤n) (D:DataW Unit) (J:List Int→World→Prop)
  (hY:∀ pre x W,J pre W→pre.length<Maps.size D→YieldAt Fence.wide (n-1) prog l #[bQ x] W fun e W'=>e=.returned (.bool true)∧J (pre ++ [x]) W'∧KeepsWalks W W')
  (W:World) (hJ:AbidesFrom W.heap.size J) (hm:W.cell? ⟨Bm,0,none⟩=some (.map (some b))) (hown:W.ownsMap prog 27 qQ b nn D) (h0:J [] W) :
  CallsIn Fence.wide n prog 98 #[.func (.yield l) #[] #[],aa Bm 0] W fun e W'=>(∃ v,e=.returned v)∧∃ ss:List Int,rK D ss∧J ss W':=by
 refine callsIn_of_wp func98 rfl trivial ?_ rfl
 simp only[ntmps98,List.size_toArray,List.length_cons,List.length_nil,Nat.reduceAdd,Nat.reduceSub,Array.replicate_succ,Array.replicate_zero,List.push_toArray,List.append_toArray,List.nil_append,List.cons_append]
 gi_wp2_with (first
  | (gi_at_range;refine wpListIn_range_own _ rfl _ 67 rfl 27 97 eI underlying67 _ b nn _ rfl hown ?_;intro w0 hr0 hg0 hs0)
  | gi_in)
 go_frame
 gi_loopw [3] (fun _ wr=>∃ (left:Lit→Bool) (jU:Nat) (ss:List Int),wr.ranges prog 27 qQ b W.heap.size nn D left jU∧ss.length+jU≤Maps.size D∧Kcol D left ss∧J ss wr)
  (fun _ wr=>wr.rangeLeft b W.heap.size)
 case atStart=>
  exact⟨_,_,[],hr0,by simp,Kcol.start D,hJ [] W w0 none h0 hg0 (fun r e=>by cases e)⟩
 case round=>
  obtain⟨left,jU,ss,hr,hc,hK,hJs⟩:=hrel
  gi_wp2_with (first
   | (gi_at_next;refine wpListIn_next_ranges _ rfl _ rfl 27 eI qQ bQ id (fun key kl hk=>by obtain⟨x,hx,_⟩:=Maps.keyOf_int_inv underlying27 hk;exact⟨x,hx⟩) (fun v _ _=>⟨v,rfl⟩) b W.heap.size nn _ _ _ rfl hr ?_ ?_)
   | gi_in)
  ·intro hc0 hl0
   gi_wp2
   go_end0
   exact⟨⟨_,rfl⟩,ss,⟨hK.nd,fun x=>by rw[hK.mem x,hl0];simp⟩,hJs⟩
  ·intro x c kl yd yp w2 cnt2 hkey hlk hv hat hr2 hlt hg2 hs2 hen
   obtain⟨x',ex,rfl,_⟩:=Maps.keyOf_int_inv underlying27 hkey
   obtain rfl:x=x':=pQ ex
   have hJ2:J ss w2:=hJ ss wr w2 (some W.heap.size) hJs hg2 (fun r e=>by cases e;exact⟨Nat.le_refl _,hr.iter_walk⟩)
   obtain⟨fn,tmps,assign,body,hy,hR⟩:=hY ss x w2 hJ2 (by omega)
   clear hs2
   change (Instr.yield l #[.int .u32 x]).run prog w2=_ at hy
   gi_wp2
   refine hR.mono ?_
   rintro e W3 ⟨rfl,hJ3,hk3⟩
   gi_wp2
   have hr3:=hr2.of_walks hk3
   go_roundw
   case rel=>exact⟨_,cnt2,ss ++ [x],hr3,by simp;omega,hK.step hlk hat,hJ3⟩
   case measure=>rw[hr3.left_eq,hr.left_eq];exact hlt
theorem uB (mb:Option Nat) (n:Nat) (w:World):CallsIn Fence.wide n prog 55 #[.map mb] w fun e w'=>e=.returned (.func (.func 98) #[] #[aa w.heap.size 0])∧w'=w.alloc (.cells #[.map mb] 67):=by
 refine callsIn_of_wp func55 rfl trivial ?_ rfl
 simp only[ntmps55,List.size_toArray,List.length_cons,List.length_nil,Nat.reduceAdd,Nat.reduceSub,Array.replicate_succ,Array.replicate_zero,List.push_toArray,List.append_toArray,List.nil_append,List.cons_append]
 gi_wp2
 go_ret
 exact⟨rfl,rfl⟩
theorem kN (Bm b nn n:Nat) (hn:1≤n) (D:DataW Unit) (w:World) (hB:Bm<w.heap.size) (hm:w.cell? ⟨Bm,0,none⟩=some (.map (some b))) (hown:w.ownsMap prog 27 qQ b nn D) :
  SeqGives Fence.wide n prog 98 #[aa Bm 0] bQ (rK D) (Maps.size D) w:=fun l J W hW hJ hY h0=>
 tK l Bm b nn n hn D J hY W hJ ((hW.cell (p:=⟨Bm,0,none⟩) hB).trans hm) (aK hown (Off.of_below (l:=[]) hW) (by simp)) h0
theorem kK:(prog.info? 27).map (fun i=>(i.zero,i.size,i.bytes))=some (some (.int .u32 0),1,4):=by kernel_rfl
def sP:Ren:=⟨fun n=>n,fun n=>if n=26 then 27 else if n=24 then 55 else 0,fun n=>n⟩
abbrev jF (fn:FuncId) (sv:Value) (Bs D:Nat) (st:LoopState) (pend:Option Code):Loop:=AnyZ.apRec sP fn sv Bs D st pend
structure ApU (w0:World) (fn:FuncId) (sv:Value) (Bs l D:Nat) (ss:List Int) (W:World):Prop where
 box:∃ v,W.heap[Bs]?=some (.cells #[v] 55 (0,0))∧W.ownsRow w0.heap.size 27 1 v ss.length (ss.map bQ)∧(v=.slice none 0 0 ↔ ss=[])
 lop:W.heap[l]?=some (.loop (jF fn sv Bs D .ready none))
 dfr:W.heap[D]?=some (.deferred (some []))
 bel:Below w0.heap.size w0 W
theorem ApU.abides (w0:World) (fn:FuncId) (sv:Value) (Bs l D B:Nat) (hB:w0.heap.size≤B):AbidesFrom B (ApU w0 fn sv Bs l D):=fun s W W' row h hg hrow=>by
 have hw:∀ r,row=some r→∃ o:Obj,W.heap[r]?=some o∧o.isWalk=true:=fun r e=>(hrow r e).2
 obtain⟨v,hv,hr,hn⟩:=h.box
 refine⟨⟨v,(grownBy_keeps hg hw hv rfl).trans hv,ownsRow_abides_a hr hg hw,hn⟩,(grownBy_keeps hg hw h.lop rfl).trans h.lop,(grownBy_keeps hg hw h.dfr rfl).trans h.dfr,?_⟩
 exact h.bel.grown hg h.bel.size (fun k e=>Nat.le_trans hB (hrow k e).1)
theorem ApU.yield (m:Nat) (w0:World) (fn:FuncId) (sv:Value) (Bs l D:Nat) (hBl:Bs≠l) (hDl:D≠l) (hDB:D≠Bs) (h0B:w0.heap.size≤Bs) (h0l:w0.heap.size≤l) (N:Nat) (hN:N≤1000000) (ss:List Int) (x:Int) (W:World) (h:ApU w0 fn sv Bs l D ss W) (hlen:ss.length<N) :
  YieldAt Fence.wide m prog l #[bQ x] W fun e W'=>e=.returned (.bool true)∧ApU w0 fn sv Bs l D (ss ++ [x]) W'∧KeepsWalks W W':=by
 have hne:∀ (v:Value) (cur:Array Value),(Obj.cells #[v] 55 (0,0)) ≠ .cells cur 27 (0,0):=fun v cur e=>by cases e
 have hnl:∀ (L:Loop) (cur:Array Value),(Obj.loop L) ≠ .cells cur 27 (0,0):=fun v cur e=>by cases e
 have hnd:∀ (L:Option (List Deferred)) (cur:Array Value),(Obj.deferred L) ≠ .cells cur 27 (0,0):=fun v cur e=>by cases e
 obtain⟨i0,hi,hz0,hz1,hz2⟩:=info_parts kK
 obtain⟨v,hv,hrow,_⟩:=h.box
 refine⟨fn,#[.slice none 0 0,sv,aa Bs 0,undef,.slice none 0 0,undef,sv,.int .u32 x,undef,undef,undef,undef,undef],AnyZ.apAssign sP,AnyZ.apBody sP,by simpa [AnyZ.apRec,bQ] using run_yield (P:=prog) (args:=#[bQ x]) h.lop rfl,roundIn_of_wpIn trivial ?_⟩
 have hl:l<W.heap.size:=(Array.getElem?_eq_some_iff.1 h.lop).1
 have hbr:=run_beginRound (P:=prog) h.lop rfl
 obtain⟨W2,hW2⟩:∃ W2,W.putObj l (.loop { jF fn sv Bs D .ready none with state:=.busy })=W2:=⟨_,rfl⟩
 rw[hW2]at hbr
 have g2:W.grownBy W2 (some l):=by rw[← hW2];exact grownBy_putObj_a _ _ _
 have k2:KeepsWalks W W2:=by rw[← hW2];exact KeepsWalks.putObj _ h.lop rfl
 have v2:W2.heap[Bs]?=some (.cells #[v] 55 (0,0)):=by rw[← hW2];exact (World.putObj_heap_other hBl).trans hv
 have d2:W2.heap[D]?=some (.deferred (some [])):=by rw[← hW2];exact (World.putObj_heap_other hDl).trans h.dfr
 have l2:W2.heap[l]?=some (.loop { jF fn sv Bs D .ready none with state:=.busy }):=by rw[← hW2];exact World.putObj_heap_same hl
 have r2:W2.ownsRow w0.heap.size 27 1 v ss.length (ss.map bQ):=hrow.kept g2 (ownsRow_ne_a hrow h.lop (hnl _))
 have b2:Below w0.heap.size w0 W2:=h.bel.grown g2 h.bel.size (fun k e=>by cases e;exact h0l)
 obtain⟨c2,f2⟩:=cell_of_box_a v2
 have vl:Bs<W2.heap.size:=(Array.getElem?_eq_some_iff.1 v2).1
 have ll:l<W2.heap.size:=(Array.getElem?_eq_some_iff.1 l2).1
 have dl:D<W2.heap.size:=(Array.getElem?_eq_some_iff.1 d2).1
 have nof:∀ {j:Nat} {o:Obj},W2.heap[j]?=some o→(∀ cur,o ≠ .cells cur 27 (0,0))→some j≠v.ownBlock:=fun hj hno=>by
  rcases ownsRow_ne_a r2 hj hno with e | e
  ·rw[e];simp
  ·exact fun e'=>e e'.symm
 clear hW2
 have sb:=b2.size
 unfold AnyZ.apAssign
 gi_wp2_with gi_round_op_a
 unfold AnyZ.apBody
 simp only[sP]
 gi_wp2_with (first
  | (gi_at_builtin;refine wpListIn_append_own _ rfl _ _ 55 rfl w0.heap.size 27 i0 (.int .u32 0) 1 4 underlying55 hi hz0 hz1 hz2 rfl (by decide) _ _ _ rfl (r2.alloc _) ⟨W2.heap.size,0,none⟩ 1 1 [.int .u32 x] rfl rfl (cell_one_new _ _ _) (by simp[Value.oneCell']) (by unfold maxLen;omega) (by omega) (by simp;omega) ?_;intro v' w3 own3 g3 nil3
     have v3:w3.heap[Bs]?=some (.cells #[v] 55 (0,0)):=(g3.block Bs (by simp;omega) (nof v2 (hne _))).trans ((Below.heap_alloc _ _ Bs vl).trans v2)
     obtain⟨c3,f3⟩:=cell_of_box_a v3
     obtain⟨g',cap',cur',rfl,_,_,_,_,_,_⟩:∃ g' cap' cur',v'=.slice (ac g' 0) (ss.length+1) cap'∧w0.heap.size≤g'∧w3.heap[g']?=some (.cells cur' 27 (0,0))∧ss.length+1≤cap'∧cap'≤maxLen∧cur'.size=cap'*1∧cur'.toList.take ((ss.length+1)*1)=ss.map bQ ++ [.int .u32 x]:=by
      rcases own3.2 with ⟨_,h0⟩ | h'
      ·exact absurd h0 (by omega)
      ·exact h'
     go_frame)
  | gi_round_op_a)
 have g3':(W2.alloc (.cells #[.int .u32 x] 27)).grownBy w3 v.ownBlock:=g3
 have l3:w3.heap[l]?=some (.loop { jF fn sv Bs D .ready none with state:=.busy }):=(g3'.block l (by simp;omega) (nof l2 (hnl _))).trans ((Below.heap_alloc _ _ l ll).trans l2)
 have d3:w3.heap[D]?=some (.deferred (some [])):=(g3'.block D (by simp;omega) (nof d2 (hnd _))).trans ((Below.heap_alloc _ _ D dl).trans d2)
 obtain⟨w4,hw4⟩:∃ w4,w3.setCell ⟨Bs,0,none⟩ (.slice (ac g' 0) (ss.length+1) cap')=w4:=⟨_,rfl⟩
 rw[hw4]
 have g4:w3.grownBy w4 (some Bs):=by rw[← hw4];exact grownBy_setCell0_a _ _ _
 have v4:w4.heap[Bs]?=some (.cells #[.slice (ac g' 0) (ss.length+1) cap'] 55 (0,0)):=by rw[← hw4];exact heap_setCell_box_a _ v3
 have l4:w4.heap[l]?=some (.loop { jF fn sv Bs D .ready none with state:=.busy }):=(g4.block l (Array.getElem?_eq_some_iff.1 l3).1 (fun e=>hBl (by cases e;rfl))).trans l3
 have d4:w4.heap[D]?=some (.deferred (some [])):=(g4.block D (Array.getElem?_eq_some_iff.1 d3).1 (fun e=>hDB (by cases e;rfl))).trans d3
 have r4:=own3.kept g4 (ownsRow_ne_a own3 v3 (hne _))
 have b3:Below w0.heap.size w0 w3:=(b2.alloc b2.size _).grown g3' (by simp;omega) (fun k e=>(r2.lt k e).1)
 have b4:Below w0.heap.size w0 w4:=b3.grown g4 b3.size (fun k e=>by cases e;exact h0B)
 have k4:KeepsWalks W w4:=((k2.trans (KeepsWalks.alloc _ _)).trans (KeepsWalks.of_grownBy g3' (ownsRow_not_walk_a (r2.alloc _)))).trans (by rw[← hw4];exact KeepsWalks.setCell _ _ _)
 have l4s:l<w4.heap.size:=(Array.getElem?_eq_some_iff.1 l4).1
 clear hw4
 refine⟨_,_,run_endRound none l4,rfl,⟨⟨_,(World.putObj_heap_other hBl).trans v4,?_,by simp⟩,World.putObj_heap_same l4s,(World.putObj_heap_other hDl).trans d4,b4.grown (grownBy_putObj_a _ _ _) b4.size (fun k e=>by cases e;exact h0l)⟩,k4.trans (KeepsWalks.putObj _ l4 rfl)⟩
 have:=r4.kept (grownBy_putObj_a w4 l (.loop { { jF fn sv Bs D .ready none with state:=.busy } with state:=if (none:Option Code).isNone then .ready else .done,pending:=none })) (ownsRow_ne_a r4 l4 (hnl _))
 simpa [bQ] using this
theorem rS (n:Nat) (hn:2≤n) (g:Nat) (lb:Array Value) (eg:∀ args w,(callFunc g args).run prog w=.ok (.enter g args) w) (S:List Int→Prop) (N:Nat) (hN:N≤1000000) (w:World) (hseq:SeqGives Fence.wide (n-1) prog g lb bQ S N w) :
  CallsIn Fence.wide n prog 137 #[.slice none 0 0,.func (.func g) #[] lb] w fun e w'=>∃ (v:Value) (ss:List Int),e=.returned v∧S ss∧w'.ownsRow w.heap.size 27 1 v ss.length (ss.map bQ)∧(v=.slice none 0 0 ↔ ss=[])∧Below w.heap.size w w':=by
 have h1:1≤n:=by omega
 have hne:∀ (v:Value) (cur:Array Value),(Obj.cells #[v] 55 (0,0)) ≠ .cells cur 27 (0,0):=fun v cur e=>by cases e
 have hnl:∀ (L:Loop) (cur:Array Value),(Obj.loop L) ≠ .cells cur 27 (0,0):=fun v cur e=>by cases e
 have hnd:∀ (L:Option (List Deferred)) (cur:Array Value),(Obj.deferred L) ≠ .cells cur 27 (0,0):=fun v cur e=>by cases e
 refine callsIn_of_wp_marks func137 rfl trivial ?_ rfl
 simp only[ntmps137,List.size_toArray,List.length_cons,List.length_nil,Nat.reduceAdd,Nat.reduceSub,Array.replicate_succ,Array.replicate_zero,List.push_toArray,List.append_toArray,List.nil_append,List.cons_append]
 gi_wp2
 refine wpIn_rangeFunc ?_
 intro fn hfn
 obtain⟨W0,hW0⟩:∃ W0,w.alloc (.cells #[.slice none 0 0] 55)=W0:=⟨_,rfl⟩
 have s0:W0.heap.size=w.heap.size+1:=by rw[← hW0];simp
 have v0:W0.heap[w.heap.size]?=some (.cells #[.slice none 0 0] 55 (0,0)):=by rw[← hW0];exact World.alloc_heap_new w _
 have b0:Below w.heap.size w W0:=by rw[← hW0];exact (Below.refl _ w).alloc (Nat.le_refl _) _
 rw[hW0]
 obtain⟨W1,hW1⟩:∃ W1,(W0.alloc (.deferred (some []))).alloc (.loop (jF fn (.func (.func g) #[] lb) w.heap.size W0.heap.size .ready none))=W1:=⟨_,rfl⟩
 have old:∀ k,k<W0.heap.size→W1.heap[k]?=W0.heap[k]?:=fun k hk=>by
  rw[← hW1];exact (Below.heap_alloc _ _ k (by simp;omega)).trans (Below.heap_alloc _ _ k hk)
 have sb:=b0.size
 have b1:Below w.heap.size w W1:=by rw[← hW1];exact (b0.alloc b0.size _).alloc (by simp;omega) _
 have hA:ApU w fn (.func (.func g) #[] lb) w.heap.size (W0.heap.size+1) W0.heap.size [] W1:=by
  refine⟨⟨_,(old w.heap.size (by omega)).trans v0,⟨rfl,.inl ⟨rfl,rfl⟩⟩,by simp⟩,?_,?_,b1⟩
  ·rw[← hW1]
   have:=World.alloc_heap_new (W0.alloc (.deferred (some []))) (.loop (jF fn (.func (.func g) #[] lb) w.heap.size W0.heap.size .ready none))
   rwa [World.size_alloc]at this
  ·rw[← hW1]
   exact (Below.heap_alloc _ _ _ (by simp)).trans (World.alloc_heap_new W0 _)
 refine⟨W0.heap.size+1,[{ target:=.collected W0.heap.size,args:=#[] }],W1,{ target:=.fn (.func g) lb,args:=#[.func (.yield (W0.heap.size+1)) #[] #[]] },W1,g,#[.func (.yield (W0.heap.size+1)) #[] #[]] ++ lb,W1,?_,?_,?_,?_,fun _=>h1,?_⟩
 ·rw[← hW1];exact run_enterLoop_outer _ _ _ _ _
 ·simp[resolve,go_sem]
 ·intro f' _;trivial
 ·simp[invoke,go_sem,eg]
 ·refine (hseq (W0.heap.size+1) (ApU w fn (.func (.func g) #[] lb) w.heap.size (W0.heap.size+1) W0.heap.size) W1 b1 (ApU.abides _ _ _ _ _ _ _ b1.size)
   (fun pre x W hJ hl=>ApU.yield (n-1-1) w fn _ w.heap.size (W0.heap.size+1) W0.heap.size (by omega) (by omega) (by omega) (Nat.le_refl _) (by omega) N hN pre x W hJ hl) hA).mono ?_
  rintro e W2 ⟨⟨u,rfl⟩,ss,hS,h2⟩
  obtain⟨v,hv,hrow,hnil⟩:=h2.box
  have hend:=run_endLoop (P:=prog) h2.lop (by simp[AnyZ.apRec])
  obtain⟨W3,hW3⟩:∃ W3,W2.putObj (W0.heap.size+1) (.loop { jF fn (.func (.func g) #[] lb) w.heap.size W0.heap.size .ready none with state:=.exhausted })=W3:=⟨_,rfl⟩
  rw[hW3]at hend
  have g3:W2.grownBy W3 (some (W0.heap.size+1)):=by rw[← hW3];exact grownBy_putObj_a _ _ _
  have v3:W3.heap[w.heap.size]?=some (.cells #[v] 55 (0,0)):=by rw[← hW3];exact (World.putObj_heap_other (by omega)).trans hv
  have d3:W3.heap[W0.heap.size]?=some (.deferred (some [])):=by rw[← hW3];exact (World.putObj_heap_other (by omega)).trans h2.dfr
  have r3:=hrow.kept g3 (ownsRow_ne_a hrow h2.lop (hnl _))
  have b3:Below w.heap.size w W3:=h2.bel.grown g3 h2.bel.size (fun k e=>by cases e;omega)
  obtain⟨c3,f3⟩:=cell_of_box_a v3
  clear hW3
  refine⟨none,W3,hend,?_⟩
  gi_wp2
  rw[← s0]
  refine⟨by simp,.inl ⟨_,_,rfl,run_takeDeferred d3,?_⟩⟩
  exact⟨_,results_tmp rfl _ _ _,v,ss,rfl,hS,r3.kept (grownBy_putObj_a _ _ _) (ownsRow_ne_a r3 d3 (hnd _)),hnil,b3.grown (grownBy_putObj_a _ _ _) b3.size (fun k e=>by cases e;omega)⟩
theorem pJ (n:Nat) (hn:3≤n) (g:Nat) (lb:Array Value) (eg:∀ args w,(callFunc g args).run prog w=.ok (.enter g args) w) (S:List Int→Prop) (N:Nat) (hN:N≤1000000) (w:World) (hseq:SeqGives Fence.wide (n-1-1) prog g lb bQ S N w) :
  CallsIn Fence.wide n prog 96 #[.func (.func g) #[] lb] w fun e w'=>∃ (v:Value) (ss:List Int),e=.returned v∧S ss∧w'.ownsRow w.heap.size 27 1 v ss.length (ss.map bQ)∧(v=.slice none 0 0 ↔ ss=[])∧Below w.heap.size w w':=by
 have hA:=rS (n-1) (by omega) g lb eg S N hN w hseq
 have hf:Fence.wide.fn 137:=trivial
 have h1:1≤n:=by omega
 refine callsIn_of_wp func96 rfl trivial ?_ rfl
 simp only[ntmps96,List.size_toArray,List.length_cons,List.length_nil,Nat.reduceAdd,Nat.reduceSub,Array.replicate_succ,Array.replicate_zero,List.push_toArray,List.append_toArray,List.nil_append,List.cons_append]
 gi_wp2_with (gi_at_call 137;refine hA.mono ?_;rintro e w' ⟨v,ss,rfl,hS,hrow,hnil,hb⟩)
 go_ret
 exact⟨v,ss,rfl,hS,hrow,hnil,hb⟩
open Go.RowKit Go.Maps
def Ro (w:World) (g n C:Nat) (f:Nat→Int):Prop:=∃ cur:Array Value,w.heap[g]?=some (.cells cur 27 (0,0))∧cur.size=C∧∀ i,i<n→cur[i]?=some (.int .u32 (f i))
theorem Ro.cell {w:World} {g n C:Nat} {f:Nat→Int} (h:Ro w g n C f) {i:Nat} (hi:i<n):w.cell? ⟨g,i,none⟩=some (.int .u32 (f i)):=by
 obtain⟨cur,h1,hC,h2⟩:=h
 simp[World.cell?,h1,h2 i hi]
theorem Ro.fz {w:World} {g n C:Nat} {f:Nat→Int} (h:Ro w g n C f) (i:Nat):w.frozen? ⟨g,i,none⟩=false:=by
 obtain⟨cur,h1,hC,h2⟩:=h
 exact frozen_of_row w g i _ _ h1
theorem Ro.off {l:List Nat} {w w':World} {g n C:Nat} {f:Nat→Int} (h:Ro w g n C f) (o:Off l w w') (hg:g ∉ l):Ro w' g n C f:=by
 obtain⟨cur,h1,hC,h2⟩:=h
 exact⟨cur,(o.block g (Array.getElem?_eq_some_iff.1 h1).1 hg).trans h1,hC,h2⟩
theorem Ro.set {w:World} {g n C:Nat} {f:Nat→Int} (h:Ro w g n C f) (j:Nat) (x:Int):Ro (w.setCell ⟨g,j,none⟩ (.int .u32 x)) g n C (fun i=>if i=j then x else f i):=by
 obtain⟨cur,h1,hC,h2⟩:=h
 refine⟨_,heap_setCell_same _ _ _ _ _ _ h1,by simpa using hC,fun i hi=>?_⟩
 have:=h2 i hi
 have hl:=(Array.getElem?_eq_some_iff.1 this).1
 rw[Array.getElem?_setIfInBounds]
 by_cases e:i=j
 ·subst e;simp[hl]
 ·rw[if_neg (Ne.symm e),this];simp[e]
def nU:Value→Nat
 | .int _ x=>x.toNat
 | _=>0
def eL (n:Nat) (f:Nat→Int):List Int:=(List.range n).map f
def tu (f:Nat→Int) (j:Nat):Nat→Int:=fun i=>if i=j-1 then f j else if i=j then f (j-1) else f i
theorem rq (n:Nat) (f:Nat→Int) (j:Nat) (h0:0<j) (hj:j<n):(eL n (tu f j)).Perm (eL n f):=by
 have h1:j-1 < (eL n f).length:=by simp[eL];omega
 have h2:j < (eL n f).length:=by simp[eL];omega
 have e:eL n (tu f j)=((eL n f).set j (eL n f)[j-1]).set (j-1) (eL n f)[j]:=by
  refine List.ext_getElem (by simp[eL]) fun i hi1 hi2=>?_
  simp only[eL,List.getElem_map,List.getElem_range,List.getElem_set,tu]
  by_cases e1:i=j-1
  ·simp[e1]
  ·rw[if_neg e1,if_neg (Ne.symm e1)]
   by_cases e2:i=j
   ·simp[e2]
   ·rw[if_neg e2,if_neg (Ne.symm e2)]
 rw[e]
 exact List.set_set_perm h2 h1
def Srt (f:Nat→Int) (i j:Nat):Prop:=∀ p q,p<q→q≤i→q≠j→f p≤f q
theorem Srt.swap {f:Nat→Int} {i j:Nat} (h:Srt f i j) (h0:0<j) (hj:j≤i) (hl:f j<f (j-1)):Srt (tu f j) i (j-1):=by
 intro p q hpq hqi hne
 have a1:∀ p q,p<q→q≤i→q≠j→f p≤f q:=h
 simp only[tu]
 rw[if_neg hne]
 by_cases e:q=j
 ·rw[if_pos e]
  by_cases e2:p=j-1
  ·rw[if_pos e2];omega
  ·rw[if_neg e2,if_neg (by omega)];exact a1 p (j-1) (by omega) (by omega) (by omega)
 ·rw[if_neg e]
  by_cases e2:p=j-1
  ·rw[if_pos e2];exact a1 j q (by omega) hqi e
  ·rw[if_neg e2]
   by_cases e3:p=j
   ·rw[if_pos e3];exact a1 (j-1) q (by omega) hqi e
   ·rw[if_neg e3];exact a1 p q hpq hqi e
theorem Srt.done {f:Nat→Int} {i j:Nat} (h:Srt f i j) (hj:j=0∨f (j-1)≤f j):∀ p q,p<q→q≤i→f p≤f q:=by
 intro p q hpq hqi
 by_cases e:q=j
 ·subst e
  rcases hj with hj | hj
  ·omega
  ·by_cases e2:p=q-1
   ·rw[e2];exact hj
   ·exact Int.le_trans (h p (q-1) (by omega) (by omega) (by omega)) hj
 ·exact h p q hpq hqi e
theorem toZ (a b:Int) (w:World):Calls prog 167 #[.int .u32 a,.int .u32 b] w fun e w'=>e=.returned (.bool (decide (a<b)))∧w'=w:=by
 go_enter func167,ntmps167
 go_wp2
 go_ret
 exact⟨rfl,rfl⟩
theorem sB (g n C cap:Nat) (f:Nat→Int) (w:World) (h:Ro w g n C f) (hn:n≤12) :
  Calls prog 161 #[.slice (ac g 0) n cap,.int .i64 0,.int .i64 (n:Nat)] w fun e w'=>e=.returned (.tuple #[])∧Hid (∃ f',Off [g] w w'∧Ro w' g n C f'∧(eL n f').Perm (eL n f)∧∀ p q,p<q→q<n→f' p≤f' q):=by
 go_enter func161,ntmps161
 go_wp2_with fail
 go_loopw [6,7] (fun ci _ wr=>∃ (i:Nat) (f':Nat→Int),1≤i∧(i≤n∨i=1)∧ci=.int .i64 ((i:Nat):Int)∧Ro wr g n C f'∧Off [g] w wr∧(eL n f').Perm (eL n f)∧∀ p q,p<q→q<i→f' p≤f' q) (fun ci _ _=>n-nU ci)
 case atStart=>exact⟨1,f,by omega,.inr rfl,rfl,h,Off.refl _ _,List.Perm.refl _,fun p q h1 h2=>by omega⟩
 case round=>
  clear h
  obtain⟨i,f1,hi1,hin,rfl,R1,o1,p1,s1⟩:=hrel
  by_cases hlt:i<n
  ·have hdI:decide ((i:Int) < (n:Int))=true:=by simp;omega
   have HL:Hid (_):=And.intro R1 (And.intro o1 (And.intro p1 s1))
   clear R1 o1 p1 s1
   go_wp2_with fail
   go_loopw [7] (fun cj wr=>∃ (j:Nat) (f':Nat→Int),j≤i∧cj=.int .i64 ((j:Nat):Int)∧Ro wr g n C f'∧Off [g] w wr∧(eL n f').Perm (eL n f)∧Srt f' i j) (fun cj _=>nU cj)
   case atStart=>exact⟨i,f1,by omega,rfl,HL.out.1,HL.out.2.1,HL.out.2.2.1,fun p q h1 h2 h3=>HL.out.2.2.2 p q h1 (by omega)⟩
   case round=>
    clear HL
    obtain⟨j,f2,hj,rfl,R2,o2,p2,s2⟩:=hrel
    by_cases h0:0<j
    ·have hd0:decide ((0:Int) < (j:Int))=true:=by simp;omega
     have hjw:IntKind.i64.wrap ((j:Int)-1)=((j-1:Nat):Int):=by rw[IntKind.wrap_i64];omega
     have c1:wr.cell? ⟨g,j,none⟩=some (.int .u32 (f2 j)):=R2.cell (by omega)
     have c0:wr.cell? ⟨g,j-1,none⟩=some (.int .u32 (f2 (j-1))):=R2.cell (by omega)
     have z1:=R2.fz j
     have z0:=R2.fz (j-1)
     have hb1:(j:Int) < (n:Int):=by omega
     have hb0:((j-1:Nat):Int) < (n:Int):=by omega
     have HR:Hid (_):=And.intro R2 (And.intro o2 (And.intro p2 s2))
     clear R2 o2 p2 s2
     by_cases hl:f2 j<f2 (j-1)
     ·have hdl:decide (f2 j<f2 (j-1))=true:=by simpa using hl
      go_wp2_with fail
      go_quiet ((go_at_call 167;exact Calls.quiet_of_same (toZ _ _ _)))
      have e1:(wr.drewN nq).cell? ⟨g,j,none⟩=some (.int .u32 (f2 j)):=c1
      have e0:(wr.drewN nq).cell? ⟨g,j-1,none⟩=some (.int .u32 (f2 (j-1))):=c0
      have y1:(wr.drewN nq).frozen? ⟨g,j,none⟩=false:=z1
      have y0:(wr.drewN nq).frozen? ⟨g,j-1,none⟩=false:=z0
      have HW:Hid (Off [] wr (wr.drewN nq)∧f2 j<f2 (j-1)):=⟨Off.drewN [] wr nq,hl⟩
      generalize wr.drewN nq=wq at *
      clear c1 c0 z1 z0 hl hdl
      have nj:¬ j=j-1:=by omega
      have nj':¬ j-1=j:=by omega
      obtain⟨x1,hx1⟩:∃ x,f2 j=x:=⟨_,rfl⟩
      obtain⟨x0,hx0⟩:∃ x,f2 (j-1)=x:=⟨_,rfl⟩
      rw[hx1]at e1
      rw[hx0]at e0
      have HX:Hid (f2 j=x1∧f2 (j-1)=x0):=⟨hx1,hx0⟩
      rw[hx1,hx0]
      clear hx1 hx0
      go_wp2_with fail
      go_region_with fail
      all_goals
       go_wp2_with fail
       obtain⟨R2,o2,p2,s2⟩:=HR.out
       obtain⟨oq,hl⟩:=HW.out
       have R3:Ro ((wq.setCell ⟨g,j,none⟩ (.int .u32 x0)).setCell ⟨g,j-1,none⟩ (.int .u32 x1)) g n C (tu f2 j):=by
        have:=((R2.off oq (by simp)).set j (f2 (j-1))).set (j-1) (f2 j)
        rw[HX.out.1,HX.out.2]at this
        unfold tu
        rw[HX.out.1,HX.out.2]
        exact this
       have o3:Off [g] w ((wq.setCell ⟨g,j,none⟩ (.int .u32 x0)).setCell ⟨g,j-1,none⟩ (.int .u32 x1)):=((o2.trans (oq.more (by simp))).trans (Off.setCell g j _ _)).trans (Off.setCell g (j-1) _ _)
       refine⟨⟨j-1,tu f2 j,by omega,rfl,R3.off (Off.drew [] _) (by simp),o3.trans (Off.drew _ _),(rq n f2 j h0 (by omega)).trans p2,s2.swap h0 hj hl⟩,?_⟩
       show ((j-1:Nat):Int).toNat < (j:Int).toNat
       omega
     ·have hdl:decide (f2 j<f2 (j-1))=false:=by simpa using hl
      go_wp2_with fail
      go_quiet ((go_at_call 167;exact Calls.quiet_of_same (toZ _ _ _)))
      have HW:Hid (Off [] wr (wr.drewN nq)):=Off.drewN [] wr nq
      generalize wr.drewN nq=wq at *
      clear c1 c0 z1 z0 hdl
      go_wp2_with fail
      obtain⟨R2,o2,p2,s2⟩:=HR.out
      refine⟨⟨i+1,f2,by omega,.inl (by omega),by simp,R2.off HW.out (by simp),o2.trans (HW.out.more (by simp)),p2,fun p q h1 h2=>s2.done (.inr (by omega)) p q h1 (by omega)⟩,?_⟩
      show n - ((i:Int)+1).toNat<n - ((i:Int)).toNat
      omega
    ·have hd0:decide ((0:Int) < (j:Int))=false:=by simp;omega
     have hd0':decide (0<j)=false:=by simp;omega
     have HR:Hid (_):=And.intro R2 (And.intro o2 (And.intro p2 s2))
     clear R2 o2 p2 s2
     go_wp2_with fail
     go_region
     go_wp2_with fail
     obtain⟨R2,o2,p2,s2⟩:=HR.out
     refine⟨⟨i+1,f2,by omega,.inl (by omega),by simp,R2.off (Off.drew [] wr) (by simp),o2.trans (Off.drew _ _),p2,fun p q h1 h2=>s2.done (.inl (by omega)) p q h1 (by omega)⟩,?_⟩
     show n - ((i:Int)+1).toNat<n - ((i:Int)).toNat
     omega
  ·have hdI:decide ((i:Int) < (n:Int))=false:=by simp;omega
   have HR:Hid (_):=And.intro R1 (And.intro o1 (And.intro p1 s1))
   clear R1 o1 p1 s1
   go_wp2_with fail
   go_end0
   obtain⟨R1,o1,p1,s1⟩:=HR.out
   exact⟨rfl,f1,o1,R1,p1,fun p q h1 h2=>s1 p q h1 (by omega)⟩
theorem vA (g n C cap:Nat) (lim:Int) (f:Nat→Int) (w:World) (h:Ro w g n C f) (hn:n≤12) :
  Calls prog 138 #[.slice (ac g 0) n cap,.int .i64 0,.int .i64 (n:Nat),.int .i64 lim] w fun e w'=>e=.returned (.tuple #[])∧Hid (∃ f',Off [g] w w'∧Ro w' g n C f'∧(eL n f').Perm (eL n f)∧∀ p q,p<q→q<n→f' p≤f' q):=by
 have hI:=sB g n C cap f w h hn
 have hw:IntKind.i64.wrap ((n:Int)-0)=(n:Int):=by rw[IntKind.wrap_i64];omega
 have h12:(n:Int)≤12:=by omega
 clear h
 go_enter func138,ntmps138
 go_wp2_with fail
 refine wp_loop_once ?_
 go_wp2_with (go_at_call 161;refine hI.mono ?_;rintro e w2 ⟨rfl,h2⟩)
 refine bodyPost_ret (results_none rfl _ _ _) rfl ?_
 exact⟨rfl,h2⟩
theorem tL (k:Nat) (hk:k≤12) (w:World):Calls prog 171 #[.int .u64 (k:Nat)] w fun e w'=>(∃ x,e=.returned (.int .i64 x))∧w'=w:=by
 have:k=0∨k=1∨k=2∨k=3∨k=4∨k=5∨k=6∨k=7∨k=8∨k=9∨k=10∨k=11∨k=12:=by omega
 clear hk
 rcases this with rfl | rfl | rfl | rfl | rfl | rfl | rfl | rfl | rfl | rfl | rfl | rfl | rfl
 all_goals
  go_enter func171,ntmps171
  go_wp2_with fail
  go_ret
  exact⟨⟨_,rfl⟩,rfl⟩
theorem uC (k:Nat) (hk:k≤12) (w:World):Calls prog 139 #[.int .u64 (k:Nat)] w fun e w'=>(∃ x,e=.returned (.int .i64 x))∧w'=w:=by
 have hL:=tL k hk w
 go_enter func139,ntmps139
 go_wp2_with (go_at_call 171;refine hL.mono ?_;rintro e w2 ⟨⟨x,rfl⟩,rfl⟩)
 go_ret
 exact⟨⟨_,rfl⟩,rfl⟩
theorem uW (g n C cap:Nat) (f:Nat→Int) (w:World) (h:Ro w g n C f) (hn:n≤12) :
  Calls prog 97 #[.slice (ac g 0) n cap] w fun e w'=>e=.returned (.tuple #[])∧Hid (∃ f',Off [g] w w'∧Ro w' g n C f'∧(eL n f').Perm (eL n f)∧∀ p q,p<q→q<n→f' p≤f' q):=by
 have hL:=uC n hn w
 have hP:=fun lim=>vA g n C cap lim f w h hn
 have hw:IntKind.u64.wrap (n:Int)=(n:Int):=by rw[IntKind.wrap_u64];omega
 clear h
 go_enter func97,ntmps97
 go_wp2_with (first
  | (go_at_call 139;refine hL.mono ?_;rintro e w2 ⟨⟨x,rfl⟩,hw⟩;have hw:=hw.symm;subst hw)
  | (go_at_call 138;refine (hP _).mono ?_;rintro e w2 ⟨rfl,h2⟩))
 go_end0
 exact⟨rfl,h2⟩
theorem kL (w:World):Calls prog 161 #[.slice none 0 0,.int .i64 0,.int .i64 0] w fun e w'=>e=.returned (.tuple #[])∧w'=w:=by
 go_enter func161,ntmps161
 go_wp2_with fail
 refine wp_loop_once ?_
 go_wp2_with fail
 go_end0
 exact⟨rfl,rfl⟩
theorem qM (lim:Int) (w:World):Calls prog 138 #[.slice none 0 0,.int .i64 0,.int .i64 0,.int .i64 lim] w fun e w'=>e=.returned (.tuple #[])∧w'=w:=by
 have hI:=kL w
 go_enter func138,ntmps138
 go_wp2_with fail
 refine wp_loop_once ?_
 go_wp2_with (go_at_call 161;refine hI.mono ?_;rintro e w2 ⟨rfl,hw⟩;have hw:=hw.symm;subst hw)
 refine bodyPost_ret (results_none rfl _ _ _) rfl ?_
 exact⟨rfl,rfl⟩
theorem oQ (w:World):Calls prog 97 #[.slice none 0 0] w fun e w'=>e=.returned (.tuple #[])∧w'=w:=by
 have hL:Calls prog 139 #[.int .u64 0] w fun e w'=>(∃ x,e=.returned (.int .i64 x))∧w'=w:=uC 0 (by omega) w
 have hP:=fun lim=>qM lim w
 go_enter func97,ntmps97
 go_wp2_with (first
  | (go_at_call 139;refine hL.mono ?_;rintro e w2 ⟨⟨x,rfl⟩,hw⟩;have hw:=hw.symm;subst hw)
  | (go_at_call 138;refine (hP _).mono ?_;rintro e w2 ⟨rfl,hw⟩;have hw:=hw.symm;subst hw))
 go_end0
 exact⟨rfl,rfl⟩
theorem sE (ss:List Int):eL ss.length (fun i=>ss[i]!)=ss:=by
 refine List.ext_getElem (by simp[eL]) fun i h1 h2=>?_
 simp[eL,h2]
theorem nI {W:World} {g:Nat} {cur:Array Value} {ss:List Int} (h:W.heap[g]?=some (.cells cur 27 (0,0))) (ht:cur.toList.take (ss.length*1)=ss.map bQ):Ro W g ss.length cur.size (fun i=>ss[i]!):=by
 refine⟨cur,h,rfl,fun i hi=>?_⟩
 have h1:(cur.toList.take (ss.length*1))[i]?=(ss.map bQ)[i]?:=by rw[ht]
 rw[List.getElem?_take_of_lt (by omega),List.getElem?_map,List.getElem?_eq_getElem hi]at h1
 simpa [bQ,hi] using h1
theorem Ro.take {W:World} {g n C:Nat} {f:Nat→Int} (h:Ro W g n C f) (hn:n≤C):∃ cur:Array Value,W.heap[g]?=some (.cells cur 27 (0,0))∧cur.size=C∧cur.toList.take (n*1)=(eL n f).map bQ:=by
 obtain⟨cur,h1,hC,h2⟩:=h
 refine⟨cur,h1,hC,List.ext_getElem? fun i=>?_⟩
 by_cases hi:i<n
 ·rw[List.getElem?_take_of_lt (by omega)]
  simpa [eL,bQ,hi] using h2 i hi
 ·rw[List.getElem?_eq_none (by simp;omega),List.getElem?_eq_none (by simp[eL];omega)]
theorem tN {n:Nat} {f:Nat→Int} (h:∀ p q,p<q→q<n→f p≤f q):(eL n f).Pairwise (· ≤ ·):=by
 refine List.pairwise_iff_getElem.2 fun i j hi hj hij=>?_
 simp[eL]at hi hj ⊢
 exact h i j hij hj
theorem ta (n:Nat) (hn:4≤n) (g:Nat) (lb:Array Value) (eg:∀ args w,(callFunc g args).run prog w=.ok (.enter g args) w) (S:List Int→Prop) (N:Nat) (hN:N≤1000000) (hS:∀ ss,S ss→ss.length≤12) (w:World) (hseq:SeqGives Fence.wide (n-1-1-1) prog g lb bQ S N w) :
  CallsIn Fence.wide n prog 54 #[.func (.func g) #[] lb] w fun e w'=>∃ (v:Value) (ls:List Int),e=.returned v∧Hid ((∃ ss,S ss∧ls.Perm ss)∧ls.Pairwise (· ≤ ·)∧w'.ownsRow w.heap.size 27 1 v ls.length (ls.map bQ)∧(v=.slice none 0 0 ↔ ls=[])∧Below w.heap.size w w'):=by
 have hA:=pJ (n-1) (by omega) g lb eg S N hN w hseq
 have hf:Fence.wide.fn 96:=trivial
 have hf2:Fence.wide.fn 97:=trivial
 have h1:1≤n:=by omega
 refine callsIn_of_wp func54 rfl trivial ?_ rfl
 simp only[ntmps54,List.size_toArray,List.length_cons,List.length_nil,Nat.reduceAdd,Nat.reduceSub,Array.replicate_succ,Array.replicate_zero,List.push_toArray,List.append_toArray,List.nil_append,List.cons_append]
 gi_wp2_with (gi_at_call 96;refine hA.mono ?_;rintro e W ⟨v,ss,rfl,hs,hrow,hnil,hb⟩)
 have hl:=hS ss hs
 rcases hrow.2 with ⟨rfl,hz⟩ | ⟨gb,cap,cur,rfl,hbase,hgb,r1,r2,r3,r4⟩
 ·have e0:ss=[]:=List.eq_nil_of_length_eq_zero hz
  subst e0
  have hN2:=(callsIn_wide (n:=n-1)).2 (oQ W)
  gi_wp2_with (gi_at_call 97;refine hN2.mono ?_;rintro e w2 ⟨rfl,hw⟩;have hw:=hw.symm;subst hw)
  go_ret
  exact⟨_,[],rfl,⟨[],hs,List.Perm.refl _⟩,List.Pairwise.nil,by simpa using hrow,by simp,hb⟩
 ·have hR:=nI hgb r4
  have hN2:=(callsIn_wide (n:=n-1)).2 (uW gb ss.length cur.size cap _ W hR hl)
  gi_wp2_with (gi_at_call 97;refine hN2.mono ?_;rintro e w2 ⟨rfl,h2⟩)
  go_ret
  obtain⟨f',o2,R2,p2,s2⟩:=h2.out
  rw[sE]at p2
  obtain⟨cur2,q1,q2,q3⟩:=R2.take (by omega)
  have hlen:(eL ss.length f').length=ss.length:=by simp[eL]
  refine⟨_,eL ss.length f',rfl,⟨ss,hs,p2⟩,tN s2,?_,?_,o2.below hb (by simp;exact hbase) hb.size⟩
  ·rw[hlen]
   exact⟨by simp[eL],.inr ⟨gb,cap,cur2,rfl,hbase,q1,r1,r2,by rw[q2,r3],q3⟩⟩
  ·constructor
   ·intro e;cases e
   ·intro e
    have:ss.length=0:=by rw[← hlen,e];rfl
    have e0:ss=[]:=List.eq_nil_of_length_eq_zero this
    exact hnil.2 e0
def lM (L:List Prt):List Int:=L.map fun p=>(p.c:Int)
theorem MX.codes {w:World} {b:Nat} {L:List Prt} {lost l mb nn:Nat} {D:DataW Unit} (h:MX w b L lost l mb nn D) {ss:List Int} (hs:rK D ss):ss.Perm (lM L):=by
 refine (List.perm_ext_iff_of_nodup hs.1 ?_).2 fun x=>?_
 ·unfold lM
  refine List.pairwise_map.2 (h.one.imp fun {p q} hpq e=>hpq.1 (by omega))
 ·rw[hs.2 x]
  constructor
  ·intro hx
   obtain⟨p,hp,e⟩:=h.key x hx
   exact List.mem_map.2 ⟨p,hp,e.symm⟩
  ·intro hx
   obtain⟨p,hp,rfl⟩:=List.mem_map.1 hx
   rw[h.has_ p.c (h.met p hp).2.2]
   cases hq:dO L p.c with
   | none=>exact absurd rfl (kq hq p hp)
   | some q=>rfl
theorem gX (b:Nat) (L:List Prt) (lost:Nat) (V:List Nat) (w:World) (h:Mxx w b L lost V) (hL:L.length≤12) :
  Calls prog 23 #[aa b 0] w fun e w'=>∃ (v:Value) (ls:List Int),e=.returned v∧Hid (ls.Perm (lM L)∧ls.Pairwise (· ≤ ·)∧w'.ownsRow w.heap.size 27 1 v ls.length (ls.map bQ)∧(v=.slice none 0 0 ↔ ls=[])∧Below w.heap.size w w'):=by
 obtain⟨l,mb,nn,D,h,_⟩:=h
 have c0:=h.c0
 have hlt:=h.map.lt
 have hseq:=kN w.heap.size mb nn 2 (by omega) D (w.alloc (.cells #[.map (some mb)] 67)) (by simp) (by simp) (aK h.map (Off.alloc [] w _) (by simp))
 have cQ:=(callsIn_wide (n:=5)).2 (dS b mb w c0)
 have cK:=uB (some mb) 5 w
 have cS:=ta 5 (by omega) 98 #[aa w.heap.size 0] (enters_of func98 (by kernel_rfl) rfl) (rK D) (Maps.size D) (by rw[h.siz];omega) (fun ss hs=>by rw[(h.codes hs).length_eq];simpa [lM] using hL) _ hseq
 have f1:Fence.wide.fn 30:=trivial
 have f2:Fence.wide.fn 55:=trivial
 have f3:Fence.wide.fn 54:=trivial
 have H:Hid (_):=h
 clear h hseq
 refine (callsIn_wide (n:=6)).1 ?_
 refine callsIn_of_wp func23 rfl trivial ?_ rfl
 simp only[ntmps23,List.size_toArray,List.length_cons,List.length_nil,Nat.reduceAdd,Nat.reduceSub,Array.replicate_succ,Array.replicate_zero,List.push_toArray,List.append_toArray,List.nil_append,List.cons_append]
 gi_wp2_with (first
  | (gi_at_call 30;refine cQ.mono ?_;rintro e w' ⟨rfl,hw⟩;have hw:=hw.symm;subst hw)
  | (gi_at_call 55;refine cK.mono ?_;rintro e w' ⟨rfl,rfl⟩)
  | (gi_at_call 54;refine cS.mono ?_;rintro e w' ⟨v,ls,rfl,h2⟩))
 go_ret
 obtain⟨⟨ss,hs,hp⟩,hup,hrow,hnil,hb⟩:=h2.out
 exact⟨v,ls,rfl,hp.trans (H.out.codes hs),hup,ownsRow_base_a hrow (by simp),hnil,((Below.refl _ w).alloc (Nat.le_refl _) _).trans (hb.mono (by simp))⟩
def qy:Value→Nat
 | .int _ x=>x.toNat
 | _=>0
def RowU (w:World) (a:Option Addr) (l:List Int):Prop:=∀ i (h:i<l.length),∃ b o,a=ac b o∧w.cell? ⟨b,o+i,none⟩=some (.int .u32 (l[i]))
theorem RowU.off {w w':World} {a:Option Addr} {l:List Int} {q:List Nat} (h:RowU w a l) (o:Off q w w') (hq:∀ x,a=some x→x.block ∉ q):RowU w' a l:=fun i hi=>by
 obtain⟨b,p,e,hc⟩:=h i hi
 refine⟨b,p,e,?_⟩
 exact (World.cell?_of_block (a:=⟨b,p+i,none⟩) (o.block b (World.block_lt_of_cell? w _ hc) (hq _ e))).trans hc
theorem RowU.below {w w':World} {a:Option Addr} {l:List Int} (h:RowU w a l) (o:Below w.heap.size w w'):RowU w' a l:=h.off (Off.of_below (l:=[]) o) (by simp)
theorem kV {w:World} {B:Nat} {v:Value} {l:List Int} (h:w.ownsRow B 27 1 v l.length (l.map bQ)):∃ a cap,v=.slice a l.length cap∧RowU w a l∧(∀ x,a=some x→B≤x.block∧v.ownBlock=some x.block):=by
 rcases h.2 with ⟨rfl,hn⟩ | ⟨g,cap,cur,rfl,hB,hg,h1,h2,h3,h4⟩
 ·refine⟨none,0,by rw[hn],fun i hi=>by omega,fun x hx=>by cases hx⟩
 ·refine⟨ac g 0,cap,rfl,fun i hi=>⟨g,0,rfl,?_⟩,fun x hx=>by cases hx;exact⟨hB,rfl⟩⟩
  have h5:cur[0+i]?=some (.int .u32 (l[i])):=by
   have e:(cur.toList.take (l.length*1))[i]?=(l.map bQ)[i]?:=by rw[h4]
   rw[List.getElem?_take_of_lt (by omega)]at e
   simp[hi,bQ]at e
   simpa using e
  exact (ab w g (0+i) cur _ _ hg).trans h5
theorem tJ (a1 a2:Option Addr) (c1 c2:Nat) (l:List Int) (w:World) (h1:RowU w a1 l) (h2:RowU w a2 l) (hlen:l.length≤1000000000) :
  Calls prog 22 #[.slice a1 l.length c1,.slice a2 l.length c2] w fun e w'=>e=.returned (.bool true)∧∃ m,w'=w.drewN m:=by
 obtain⟨n,hn⟩:∃ n,n=l.length:=⟨_,rfl⟩
 have HN:Hid (n=l.length):=hn
 rw[← hn]at hlen ⊢
 clear hn
 go_enter func22,ntmps22
 go_wp2_with fail
 go_loopw [4,5,13] (fun _ _ c wr=>∃ i m,i≤n∧c=.int .i64 ((i:Nat):Int)∧wr=w.drewN m) (fun _ _ c _=>n-qy c)
 case atStart=>exact⟨0,0,by omega,rfl,rfl⟩
 case round=>
  obtain⟨i,m,hi,rfl,rfl⟩:=hrel
  by_cases hlt:i<n
  ·obtain⟨b1,o1,rfl,q1⟩:=h1 i (by rw[← HN.out];exact hlt)
   obtain⟨b2,o2,rfl,q2⟩:=h2 i (by rw[← HN.out];exact hlt)
   have e1:(w.drewN m).cell? ⟨b1,o1+i,none⟩=some (.int .u32 (l[i]'(by rw[← HN.out];exact hlt))):=q1
   have e2:(w.drewN m).cell? ⟨b2,o2+i,none⟩=some (.int .u32 (l[i]'(by rw[← HN.out];exact hlt))):=q2
   clear q1 q2 h1 h2
   generalize l[i]'(by rw[← HN.out];exact hlt)=x at *
   generalize hwm:w.drewN m=wm at *
   go_wp2_with fail
   go_quiet (fail)
   go_wp2_with fail
   go_roundw
   case rel=>exact⟨i+1,m+nq,by omega,by go_num,by rw[← hwm,World.drewN_drewN]⟩
   case measure=>simp[qy] <;> omega
  ·clear h1 h2
   go_wp2_with fail
   go_ret
   exact⟨rfl,m,rfl⟩
theorem Al.put0 {w0 w w':World} {t:Nat→Thing} {b:Nat} {L L':List Prt} {lost lost':Nat} {V V':List Nat} (h:Al w0 w t) (e:t 0=qx b L lost V) (o:Off V w w') (hm:Mxx w' b L' lost' V') (hV:∀ k,k ∈ V'→k ∈ V∨w.heap.size≤k):Al w0 w' (dh t 0 (qx b L' lost' V')):=
 h.step 0 (qx b L' lost' V') (by rw[e];rfl) ⟨o,hV⟩ hm (fun k hk=>hm.lt k hk)
theorem DV.code {w:World} {d m g n mx:Nat} {P:Pm} {U:List Nat} {s:Sd} (h:DV w d m g n mx P U s):w.cell? ⟨d,0,none⟩=some (.int .u32 (P.c:Nat))∧d<w.heap.size∧d ∈ U:=by
 obtain⟨B,x⟩:=h
 exact⟨x.cells.1,x.dlt,x.kd.2⟩
theorem u9:ch 1 7 0 0 0 4 (cB (Pc 7) false)=cA (Pc 7):=by
 rw[qI]
 exact rF (Pc 7) (pu 7 (by omega) (by omega))
theorem uR (w:World):RowU (w.alloc (.cells #[.int .u32 7] 27)) (ac w.heap.size 0) [7]:=fun i hi=>by
 have h0:i=0:=by simp at hi;exact hi
 subst h0
 exact⟨w.heap.size,0,rfl,(ab _ _ 0 _ _ _ (aB w _)).trans rfl⟩
theorem iB {B:Nat} {w0 w:World} (h:Below B w0 w) (n:Nat):Below B w0 (w.drewN n):=⟨h.os,h.tape,h.output,h.size,h.block⟩
theorem rT (w:World):Calls prog 4 #[] w fun e w'=>e=.returned (.bool true)∧Below w.heap.size w w':=by
 have hN:=kR w
 go_enter func4,ntmps4
 go_wp2_with (go_at_call 5;refine hN.mono ?_;rintro e w1 ⟨rfl,h1⟩)
 have A1:Al w w1 (dh (fun _=>pn) 0 (qx (w.heap.size+2) [] 0 [w.heap.size+2,w.heap.size+1,w.heap.size])):=by
  obtain⟨b1,s1,m1⟩:=h1.out
  exact (Al.start w).step 0 _ rfl ⟨Off.of_below b1,fun k hk=>.inr (by simp[qx]at hk;omega)⟩ m1 (fun k hk=>m1.lt k hk)
 have M1:Calls prog 20 #[.int .u32 7] w1 _:=qj 7 (by omega) (by omega) w1
 refine M1.mono ?_
 rintro e w2 ⟨L,rfl,h2⟩
 obtain⟨n1,x1,p1,T1⟩:=h2.out
 obtain⟨U1,V1,A2⟩:=A1.two T1 1 2
 have HA2:Hid (_):=A2
 have HL:Hid (L.n=16∧L.mx=99∧L.P=Pc 7):=⟨n1,x1,p1⟩
 have M2:Calls prog 20 #[.int .u32 7] w2 _:=qj 7 (by omega) (by omega) w2
 clear hN h1 A1 M1 h2 n1 x1 p1 T1 A2
 go_wp2_with (go_at_call 20;refine M2.mono ?_;rintro e w3 ⟨K,rfl,h3⟩)
 obtain⟨_,_,pk,T2⟩:=h3.out
 obtain⟨U2,V2,A3⟩:=HA2.out.two T2 3 4
 have D1:=A3.dv (i:=1) (x:=L.dr (bj M0)) (U:=U1) rfl
 have D2:=A3.dv (i:=3) (x:=K.dr (bj M0)) (U:=U2) rfl
 have c1:=D1.code
 have c2:=D2.code
 rw[show (L.dr (bj M0)).P.c=7 by show L.P.c=7;rw[HL.out.2.2];rfl]at c1
 rw[show (K.dr (bj M0)).P.c=7 by show K.P.c=7;rw[pk];rfl]at c2
 have Q1:=gW (w.heap.size+2) L.d 7 [] 0 _ w3 (A3.mx (i:=0) rfl) (by omega) c1.1 c1.2.1 (by simp)
 rw[show iz [] 7=0 from rfl,show iA [] 7 L.d w3.heap.size=[⟨7,L.d,w3.heap.size,0⟩] from rfl]at Q1
 have HA3:Hid (_):=A3
 have HPk:Hid (K.P.c=7):=by show K.P.c=7;rw[pk];rfl
 clear M2 h3 pk T2 HA2 D1 D2 c1 c2 A3
 go_wp2_with fail
 refine Q1.mono ?_
 rintro e w4 ⟨rfl,h4⟩
 have A3:=HA3.out
 obtain⟨V4,o4,m4,v4⟩:=h4.out
 have A4:=A3.put0 (by rfl) o4 m4 (fun k hk=>by rcases v4 k hk with e | e;(exact .inl e);exact .inr (by omega))
 have D4:=A4.dv (i:=3) (x:=K.dr (bj M0)) (U:=U2) rfl
 have c4:=D4.code
 have hK7:(K.dr (bj M0)).P.c=7:=HPk.out
 rw[hK7]at c4
 have Q2:=gW (w.heap.size+2) K.d 7 [⟨7,L.d,w3.heap.size,0⟩] 0 V4 w4 m4 (by omega) c4.1 c4.2.1 (by simp)
 rw[show iz [⟨7,L.d,w3.heap.size,0⟩] 7=160 from rfl,show iA [⟨7,L.d,w3.heap.size,0⟩] 7 K.d w4.heap.size=[⟨7,L.d,w3.heap.size,0⟩] from rfl]at Q2
 have HA4:Hid (_):=A4
 clear Q1 h4 A3 HA3 o4 m4 v4 A4 D4 c4 hK7
 go_wp2_with fail
 refine Q2.mono ?_
 rintro e w5 ⟨rfl,h5⟩
 obtain⟨V5,o5,m5,v5⟩:=h5.out
 have A5:=HA4.out.put0 (by rfl) o5 m5 (fun k hk=>by rcases v5 k hk with e | e;(exact .inl e);exact .inr (by omega))
 have R5:=A5.rw (i:=2) (x:=L.rr (bj M0)) (U:=V1) rfl
 have Q3:=pU L.e L.r L.q L.n L.mx L.P V1 (bj M0) 1 0 0 false none 0 0 (fun _=>0) 0 0 w5 R5 (bY _ _) (by simp) (by decide) (by omega) (by omega) (by omega)
 have HA5:Hid (_):=A5
 clear Q2 h5 HA4 o5 m5 v5 A5 R5
 go_wp2_with fail
 refine Q3.mono ?_
 rintro e w6 ⟨v6,rfl,h6⟩
 obtain⟨b6,f,F6,y6,_,fo⟩:=h6.out
 have ef:f=cA (Pc 7):=by
  have e1:=fo.1 rfl
  rw[HL.out.2.2]at e1
  rw[e1]
  exact u9
 subst ef
 obtain⟨a6,k6,rfl,r6⟩:=F6.row y6
 have A6:=HA5.out.below b6
 have D6:=A6.dv (i:=1) (x:=L.dr (bj M0)) (U:=U1) rfl
 have hP7:Pok (Pc 7):=pu 7 (by omega) (by omega)
 obtain⟨e1,e2,e3,_,_,_,_⟩:=jm 1 7 0 0 0 4 (bZ (Pc 7)) (by omega) (by omega) (by omega) (by omega) (jn (by omega))
 have hE:DE (cA (Pc 7)).2 (cA (Pc 7)).1=0:=e1
 have hC:aE (cA (Pc 7)).2 1=7:=e3
 obtain⟨f1,_,f3⟩:=lT (Pc 7) hP7 99 (by omega)
 have D6':DV w6 L.d L.m L.g 16 99 (Pc 7) U1 (bj M0):=by
  have:=D6
  rw[← HL.out.1,← HL.out.2.1,← HL.out.2.2]
  exact this
 have hge:∀ x,a6=some x→x.block ∉ V5:=by
  intro x hx hm
  have h1:=(HA5.out.lt 0 x.block hm).2
  have h2:=F6.ge x.block (by rw[hx];rfl)
  omega
 have Q4:=iV (w.heap.size+2) [⟨7,L.d,w3.heap.size,0⟩] 0 V5 ⟨7,L.d,w3.heap.size,0⟩ L.m L.g 16 99 (Pc 7) U1 (bj M0) a6 _ k6 _ w6 (A6.mx (i:=0) rfl) D6' (A6.apart (i:=1) (j:=0) (by omega) rfl rfl) r6 hE (by rw[hC];rfl) rfl (by show 0<1000000;omega) (by decide) (by decide) (by decide) (by decide) hge
 rw[f1,f3]at Q4
 have HA6:Hid (_):=A6
 clear Q3 h6 F6 y6 fo r6 A6 D6 hP7 e1 e2 e3 hE hC f1 f3 D6' hge HA5 b6
 generalize (aI (Pc 7) 99 16 (bj M0) (cA (Pc 7)).1 (cA (Pc 7)).2).s=S at *
 go_wp2_with fail
 refine Q4.mono ?_
 rintro e w7 ⟨v7,rfl,h7⟩
 obtain⟨W,oW,DW,⟨U7,G7,D7,F7,_⟩,m7,_⟩:=h7.out
 have ef:cH 17 (Pc 7).c 1 0 0 4 (bZ (Pc 7))=(23,PM.sl (fr 17 7 1 0 0 4 (bZ (Pc 7))) 19):=if_pos (pt (c:=7) (s:=1) (by omega) (by omega))
 rw[ef]at F7
 obtain⟨a7,c7,hv7,r7⟩:=F7.row (by rw[← ef];exact cu _ _ _ _ _ _ _ (du (Pc 7)))
 replace hv7:v7=Value.slice a7 23 c7:=hv7
 subst hv7
 have B7:Below w.heap.size w w7:=by
  have b1:=HA6.out.bel
  have b2:=oW.below b1 (fun k hk=>(HA6.out.lt 0 k hk).1) b1.size
  exact G7.off.below b2 (fun k hk=>(HA6.out.lt 1 k hk).1) b2.size
 have Q5:Calls prog 17 #[aa (w.heap.size+2) 0,.int .u32 7] w7 fun e w'=>e=.returned (.int .i64 1)∧w'=w7:=iW (w.heap.size+2) _ 0 V5 7 w7 m7 (by omega) (by show (1:Nat)<1000000;omega)
 have Q6:=gX (w.heap.size+2) _ 0 V5 w7 m7 (by show (1:Nat)≤12;omega)
 have H7:Hid (_):=B7
 clear Q4 h7 oW DW G7 D7 F7 m7 ef r7 HA6 B7
 go_wp2_with (first
  | (go_at_call 17;refine Q5.mono ?_;rintro e w' ⟨rfl,hw⟩;have hw:=hw.symm;subst hw)
  | (go_at_call 23;refine Q6.mono ?_;rintro e w8 ⟨v8,ls,rfl,h8⟩;obtain⟨a8,c8,rfl,r8,_⟩:=kV h8.out.2.2.1;have hls:ls=[7]:=List.perm_singleton.1 h8.out.1;subst hls;have b8:=h8.out.2.2.2.2;have bA:Below w8.heap.size w8 (w8.alloc (.cells #[.int .u32 7] 27)):=(Below.refl _ _).alloc (Nat.le_refl _) _;have Q7:=tJ a8 (ac w8.heap.size 0) c8 1 [7] _ (r8.below bA) (uR w8) (by simp);clear Q5 Q6 h8 r8)
  | (go_at_call 22;refine Q7.mono ?_;rintro e w9 ⟨rfl,m9,rfl⟩))
 go_ret
 exact⟨rfl,iB ((H7.out.trans (b8.mono H7.out.size)).alloc (Nat.le_trans H7.out.size b8.size) _) m9⟩
def lH (P:Pm) (lb db vb:Nat) (s:Sh) (av:Value):Array Value:=
 #[.int .u32 (P.c:Nat),.int .i64 (P.o:Nat),.int .i64 (P.i:Nat),.int .i64 (P.t:Nat),.int .u32 (P.n:Nat),aa lb 0,
  aa db 0,aa vb 0,.int .i64 (s.st:Nat),.int .u32 (s.ss:Nat),.int .u32 (s.nm:Nat),.int .u32 (s.sn:Nat),.bool s.wt,.int .i64 (s.ms:Nat),av,.bool s.hd]
structure Bh where
 lb:Nat
 db:Nat
 vb:Nat
 vg:Nat
 M:List Nat
 Ul:List Nat
 av:Value
 col:Nat→Nat
structure HX (w:World) (d:Nat) (P:Pm) (U:List Nat) (s:Sh) (B:Bh):Prop where
 dev:w.heap[d]?=some (.cells (lH P B.lb B.db B.vb s B.av) 95 (0,0))
 dog:DR w B.db P.t s.dc
 val:VR w B.vb B.vg B.M P.i s.v
 log:DG w B.lb B.Ul s.L
 app:w.ownsRow 0 5 1 B.av P.o (CB s.ap P.o)
 apb:∀ i,i<P.o→s.ap i<256
 ltU:∀ k,k ∈ U→k<w.heap.size
 kd:B.col d=0∧d ∈ U
 kb:B.col B.db=3∧B.db ∈ U
 kv:B.col B.vb=4∧B.vb ∈ U
 kw:B.col B.vg=4∧B.vg ∈ U
 kM:∀ k,k ∈ B.M→B.col k=4∧k ∈ U
 kl:∀ k,k ∈ B.Ul→B.col k=5∧k ∈ U
 ka:∀ k,B.av.ownBlock=some k→B.col k=6∧k ∈ U
 pok:Pok P
def HV (w:World) (d:Nat) (P:Pm) (U:List Nat) (s:Sh):Prop:=∃ B,HX w d P U s B
section
variable {w w':World} {d:Nat} {P:Pm} {U:List Nat} {s s':Sh} {B:Bh}
theorem HX.dlt (h:HX w d P U s B):d<w.heap.size:=h.ltU d h.kd.2
theorem HX.own (h:HX w d P U s B) (q:Off [d] w w') (e:w'.heap[d]?=some (.cells (lH P B.lb B.db B.vb s' B.av) 95 (0,0)))
  (h2:s'.dc=s.dc) (h3:s'.v=s.v) (h4:s'.L=s.L) (h5:s'.ap=s.ap):HX w' d P U s' B:=by
 have hn:∀ k,B.col k≠0→k ∉ [d]:=fun k hk hm=>by simp at hm;rw[hm,h.kd.1]at hk;exact hk rfl
 refine⟨e,?_,?_,?_,?_,h5 ▸ h.apb,fun k hk=>Nat.lt_of_lt_of_le (h.ltU k hk) q.size,h.kd,h.kb,h.kv,h.kw,h.kM,h.kl,h.ka,h.pok⟩
 ·rw[h2];exact h.dog.off q (hn _ (by rw[h.kb.1];omega))
 ·rw[h3];exact h.val.off q (hn _ (by rw[h.kv.1];omega)) (hn _ (by rw[h.kw.1];omega)) (fun k hk hM=>by simp at hk;subst hk;have:=(h.kM _ hM).1;rw[h.kd.1]at this;omega)
 ·rw[h4];exact h.log.off q (fun k hk=>hn _ (by rw[(h.kl k hk).1];omega))
 ·rw[h5];exact an h.app q (fun k hk=>hn _ (by rw[(h.ka k hk).1];omega))
theorem HX.dogd (h:HX w d P U s B) (q:Off [B.db] w w') {c:Nat} (e:DR w' B.db P.t c):HX w' d P U { s with dc:=c } B:=by
 have hn:∀ k,B.col k≠3→k ∉ [B.db]:=fun k hk hm=>by simp at hm;rw[hm,h.kb.1]at hk;exact hk rfl
 refine⟨(q.block d h.dlt (hn _ (by rw[h.kd.1];omega))).trans h.dev,e,?_,?_,?_,h.apb,fun k hk=>Nat.lt_of_lt_of_le (h.ltU k hk) q.size,h.kd,h.kb,h.kv,h.kw,h.kM,h.kl,h.ka,h.pok⟩
 ·exact h.val.off q (hn _ (by rw[h.kv.1];omega)) (hn _ (by rw[h.kw.1];omega)) (fun k hk hM=>by simp at hk;subst hk;have:=(h.kM _ hM).1;rw[h.kb.1]at this;omega)
 ·exact h.log.off q (fun k hk=>hn _ (by rw[(h.kl k hk).1];omega))
 ·exact an h.app q (fun k hk=>hn _ (by rw[(h.ka k hk).1];omega))
theorem HX.vald (h:HX w d P U s B) (q:Off [B.vb,B.vg] w w') {M:List Nat} {v:Vs} (e:VR w' B.vb B.vg M P.i v) (hM:∀ k,k ∈ M→k ∈ B.M∨w.heap.size≤k) (hl:∀ k,k ∈ M→k<w'.heap.size) :
  ∃ U' B',Gr U w U' w'∧HX w' d P U' { s with v:=v } B':=by
 have hn:∀ k,B.col k≠4→k ∉ [B.vb,B.vg]:=fun k hk hm=>by simp at hm;rcases hm with hm | hm <;> rw[hm]at hk <;> first | exact hk h.kv.1 | exact hk h.kw.1
 let col':Nat→Nat:=fun k=>if k<w.heap.size then B.col k else 4
 have hc:∀ k x,B.col k=x∧k ∈ U→col' k=x∧k ∈ M ++ U:=fun k x hk=>⟨by show (if k<w.heap.size then B.col k else 4)=x;rw[if_pos (h.ltU k hk.2)];exact hk.1,by simp[hk.2]⟩
 refine⟨M ++ U,{ B with M:=M,col:=col' },⟨q.more (fun k hk=>by simp at hk;rcases hk with rfl | rfl <;> first | exact h.kv.2 | exact h.kw.2),fun k hk=>?_⟩,?_⟩
 ·rcases List.mem_append.1 hk with hk | hk
  ·rcases hM k hk with hk | hk
   ·exact .inl (h.kM k hk).2
   ·exact .inr hk
  ·exact .inl hk
 refine⟨(q.block d h.dlt (hn _ (by rw[h.kd.1];omega))).trans h.dev,?_,e,?_,?_,h.apb,?_,hc _ _ h.kd,hc _ _ h.kb,hc _ _ h.kv,hc _ _ h.kw,?_,fun k hk=>hc _ _ (h.kl k hk),fun k hk=>hc _ _ (h.ka k hk),h.pok⟩
 ·exact h.dog.off q (hn _ (by rw[h.kb.1];omega))
 ·exact h.log.off q (fun k hk=>hn _ (by rw[(h.kl k hk).1];omega))
 ·exact an h.app q (fun k hk=>hn _ (by rw[(h.ka k hk).1];omega))
 ·intro k hk
  rcases List.mem_append.1 hk with hk | hk
  ·exact hl k hk
  ·exact Nat.lt_of_lt_of_le (h.ltU k hk) q.size
 ·intro k hk
  rcases hM k hk with hk' | hk'
  ·exact⟨(hc k 4 (h.kM k hk')).1,List.mem_append.2 (.inl hk)⟩
  ·exact⟨by show (if k<w.heap.size then B.col k else 4)=4;rw[if_neg (by omega)],List.mem_append.2 (.inl hk)⟩
theorem HX.vals (h:HX w d P U s B) (q:Off [B.vb,B.vg] w w') {v:Vs} (e:VR w' B.vb B.vg B.M P.i v):∃ U' B',Gr U w U' w'∧HX w' d P U' { s with v:=v } B':=
 h.vald q e (fun _ hk=>.inl hk) (fun k hk=>Nat.lt_of_lt_of_le (h.ltU k (h.kM k hk).2) q.size)
theorem HX.logd (h:HX w d P U s B) {V:List Nat} {L:List R4} (q:Off B.Ul w w') (e:DG w' B.lb V L) (hV:∀ k,k ∈ V→k ∈ B.Ul∨w.heap.size≤k) :
  ∃ U' B',Gr U w U' w'∧HX w' d P U' { s with L:=L } B':=by
 have hV:∀ k,k ∈ V→(k ∈ B.Ul∨w.heap.size≤k)∧k<w'.heap.size:=fun k hk=>⟨hV k hk,e.ult k hk⟩
 have hn:∀ k,B.col k≠5→k ∉ B.Ul:=fun k hk hm=>hk (h.kl k hm).1
 let col':Nat→Nat:=fun k=>if k<w.heap.size then B.col k else 5
 have hc:∀ k x,B.col k=x∧k ∈ U→col' k=x∧k ∈ V ++ U:=fun k x hk=>⟨by show (if k<w.heap.size then B.col k else 5)=x;rw[if_pos (h.ltU k hk.2)];exact hk.1,by simp[hk.2]⟩
 refine⟨V ++ U,{ B with Ul:=V,col:=col' },⟨q.more (fun k hk=>(h.kl k hk).2),fun k hk=>?_⟩,?_⟩
 ·rcases List.mem_append.1 hk with hk | hk
  ·rcases (hV k hk).1 with hk | hk
   ·exact .inl (h.kl k hk).2
   ·exact .inr hk
  ·exact .inl hk
 refine⟨(q.block d h.dlt (hn _ (by rw[h.kd.1];omega))).trans h.dev,?_,?_,e,?_,h.apb,?_,hc _ _ h.kd,hc _ _ h.kb,hc _ _ h.kv,hc _ _ h.kw,fun k hk=>hc _ _ (h.kM k hk),?_,fun k hk=>hc _ _ (h.ka k hk),h.pok⟩
 ·exact h.dog.off q (hn _ (by rw[h.kb.1];omega))
 ·exact h.val.off q (hn _ (by rw[h.kv.1];omega)) (hn _ (by rw[h.kw.1];omega)) (fun k hk hM=>by have:=(h.kM _ hM).1;rw[(h.kl k hk).1]at this;omega)
 ·exact an h.app q (fun k hk=>hn _ (by rw[(h.ka k hk).1];omega))
 ·intro k hk
  rcases List.mem_append.1 hk with hk | hk
  ·exact (hV k hk).2
  ·exact Nat.lt_of_lt_of_le (h.ltU k hk) q.size
 ·intro k hk
  rcases (hV k hk).1 with hk' | hk'
  ·exact⟨(hc k 5 (h.kl k hk')).1,List.mem_append.2 (.inl hk)⟩
  ·exact⟨by show (if k<w.heap.size then B.col k else 5)=5;rw[if_neg (by omega)],List.mem_append.2 (.inl hk)⟩
theorem HX.newd (h:HX w d P U s B) (q:Off [] w w'):HX w' d P U s B:=
 ⟨(q.block d h.dlt (by simp)).trans h.dev,h.dog.off q (by simp),h.val.off q (by simp) (by simp) (by simp),h.log.off q (by simp),an h.app q (by simp),h.apb,fun k hk=>Nat.lt_of_lt_of_le (h.ltU k hk) q.size,h.kd,h.kb,h.kv,h.kw,h.kM,h.kl,h.ka,h.pok⟩
theorem HX.c0 (h:HX w d P U s B):w.cell? ⟨d,0,none⟩=some (.int .u32 (P.c:Nat)):=ab w d 0 _ _ _ h.dev
theorem HX.c1 (h:HX w d P U s B):w.cell? ⟨d,1,none⟩=some (.int .i64 (P.o:Nat)):=ab w d 1 _ _ _ h.dev
theorem HX.c2 (h:HX w d P U s B):w.cell? ⟨d,2,none⟩=some (.int .i64 (P.i:Nat)):=ab w d 2 _ _ _ h.dev
theorem HX.c3 (h:HX w d P U s B):w.cell? ⟨d,3,none⟩=some (.int .i64 (P.t:Nat)):=ab w d 3 _ _ _ h.dev
theorem HX.c4 (h:HX w d P U s B):w.cell? ⟨d,4,none⟩=some (.int .u32 (P.n:Nat)):=ab w d 4 _ _ _ h.dev
theorem HX.c5 (h:HX w d P U s B):w.cell? ⟨d,5,none⟩=some (aa B.lb 0):=ab w d 5 _ _ _ h.dev
theorem HX.c6 (h:HX w d P U s B):w.cell? ⟨d,6,none⟩=some (aa B.db 0):=ab w d 6 _ _ _ h.dev
theorem HX.c7 (h:HX w d P U s B):w.cell? ⟨d,7,none⟩=some (aa B.vb 0):=ab w d 7 _ _ _ h.dev
theorem HX.c8 (h:HX w d P U s B):w.cell? ⟨d,8,none⟩=some (.int .i64 (s.st:Nat)):=ab w d 8 _ _ _ h.dev
theorem HX.c9 (h:HX w d P U s B):w.cell? ⟨d,9,none⟩=some (.int .u32 (s.ss:Nat)):=ab w d 9 _ _ _ h.dev
theorem HX.c10 (h:HX w d P U s B):w.cell? ⟨d,10,none⟩=some (.int .u32 (s.nm:Nat)):=ab w d 10 _ _ _ h.dev
theorem HX.c11 (h:HX w d P U s B):w.cell? ⟨d,11,none⟩=some (.int .u32 (s.sn:Nat)):=ab w d 11 _ _ _ h.dev
theorem HX.c12 (h:HX w d P U s B):w.cell? ⟨d,12,none⟩=some (.bool s.wt):=ab w d 12 _ _ _ h.dev
theorem HX.c13 (h:HX w d P U s B):w.cell? ⟨d,13,none⟩=some (.int .i64 (s.ms:Nat)):=ab w d 13 _ _ _ h.dev
theorem HX.c14 (h:HX w d P U s B):w.cell? ⟨d,14,none⟩=some B.av:=ab w d 14 _ _ _ h.dev
theorem HX.c15 (h:HX w d P U s B):w.cell? ⟨d,15,none⟩=some (.bool s.hd):=ab w d 15 _ _ _ h.dev
theorem HX.fz (h:HX w d P U s B) (j:Nat):w.frozen? ⟨d,j,none⟩=false:=frozen_of_row w d j _ _ h.dev
end
end Go.Proofs.YtdpahjfekoikiaaGreat
