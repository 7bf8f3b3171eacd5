/- Part 28: contracts that the proof rests on. -/
import Derived.Deep.RegionLaw
import Derived.Test.YtenilkloffnjlaaGreatPkM26
set_option maxHeartbeats 64000000
set_option maxRecDepth 100000
namespace Go.Proofs.YtenilkloffnjlaaGreat
open Tryz
open Go.RowKit Go.Maps
set_option linter.unusedVariables false
def mvA (m:Mv) (k:Nat) (f:Int) (d:Option Addr) (c:Nat):Array Value:=(eQ m.k ((k:Nat):Int) m.s f m.a m.w m.n m.h d m.l c)
def xS (m:Mv) (k:Nat) (f:Int) (d:Option Addr) (c:Nat):Obj:=.cells (mvA m k f d c) 39
structure RelP (wr:World) (m:Mv) (k:Nat) (f:Int) (pm:Nat) (d:Option Addr) (c:Nat) (wx:World):Prop where
 b:wx.heap[pm]?=some (xS m k f d c)
 r:Row8 wx d m.l c m.b
 bel:Below wr.heap.size wr wx
 new:wr.heap.size≤pm
 dat:∀ y,d=some y→0<m.l→wr.heap.size≤y.block
theorem ul {wr w6:World} {m:Mv} {k:Nat} {f:Int} {d:Option Addr} {c:Nat} (B6:Below wr.heap.size wr w6) (R:Row8 w6 d m.l c m.b) (nw:∀ y,d=some y→0<m.l→wr.heap.size≤y.block):RelP wr m k f w6.heap.size d c (w6.alloc (.cells (eQ m.k ((k:Nat):Int) m.s f m.a m.w m.n m.h d m.l c) 39)):=
 ⟨aA _ _,R.below (aC (Below.refl _ _) _),aC B6 _,B6.size,nw⟩
theorem um {wr w6:World} {m:Mv} {k:Nat} {f:Int} {d:Option Addr} {c:Nat} (h0:w6.heap[wr.heap.size]?=some (.cells #[.int .i64 0,.int .i64 0,.int .i64 0,.int .i64 0,.int .i64 0,.int .u32 0,.int .i64 0,.bool false,.slice none 0 0] 39 (0,0))) (B6:Below wr.heap.size wr w6) (R:Row8 w6 d m.l c m.b) (nw:∀ y,d=some y→0<m.l→wr.heap.size+1≤y.block):RelP wr m k f wr.heap.size d c (((((((((w6.setCell ⟨wr.heap.size,0,none⟩ (.int .i64 m.k)).setCell ⟨wr.heap.size,1,none⟩ (.int .i64 ((k:Nat):Int))).setCell ⟨wr.heap.size,2,none⟩ (.int .i64 m.s)).setCell ⟨wr.heap.size,3,none⟩ (.int .i64 f)).setCell ⟨wr.heap.size,4,none⟩ (.int .i64 m.a)).setCell ⟨wr.heap.size,5,none⟩ (.int .u32 (m.w:Nat))).setCell ⟨wr.heap.size,6,none⟩ (.int .i64 m.n)).setCell ⟨wr.heap.size,7,none⟩ (.bool m.h)).setCell ⟨wr.heap.size,8,none⟩ (.slice d m.l c)):=by
 have k0:=Joins.block_setCell (i:=0) h0 (.int .i64 m.k)
 have k1:=Joins.block_setCell (i:=1) k0 (.int .i64 ((k:Nat):Int))
 have k2:=Joins.block_setCell (i:=2) k1 (.int .i64 m.s)
 have k3:=Joins.block_setCell (i:=3) k2 (.int .i64 f)
 have k4:=Joins.block_setCell (i:=4) k3 (.int .i64 m.a)
 have k5:=Joins.block_setCell (i:=5) k4 (.int .u32 (m.w:Nat))
 have k6:=Joins.block_setCell (i:=6) k5 (.int .i64 m.n)
 have k7:=Joins.block_setCell (i:=7) k6 (.bool m.h)
 have k8:=Joins.block_setCell (i:=8) k7 (.slice d m.l c)
 have o:Off [wr.heap.size] w6 (((((((((w6.setCell ⟨wr.heap.size,0,none⟩ (.int .i64 m.k)).setCell ⟨wr.heap.size,1,none⟩ (.int .i64 ((k:Nat):Int))).setCell ⟨wr.heap.size,2,none⟩ (.int .i64 m.s)).setCell ⟨wr.heap.size,3,none⟩ (.int .i64 f)).setCell ⟨wr.heap.size,4,none⟩ (.int .i64 m.a)).setCell ⟨wr.heap.size,5,none⟩ (.int .u32 (m.w:Nat))).setCell ⟨wr.heap.size,6,none⟩ (.int .i64 m.n)).setCell ⟨wr.heap.size,7,none⟩ (.bool m.h)).setCell ⟨wr.heap.size,8,none⟩ (.slice d m.l c)):=((((((((Off.setCell _ _ _ _).trans (Off.setCell _ _ _ _)).trans (Off.setCell _ _ _ _)).trans (Off.setCell _ _ _ _)).trans (Off.setCell _ _ _ _)).trans (Off.setCell _ _ _ _)).trans (Off.setCell _ _ _ _)).trans (Off.setCell _ _ _ _)).trans (Off.setCell _ _ _ _)
 refine⟨by rw[k8];kernel_rfl,R.offY o (fun y hy h=>?_),o.below B6 (fun z hz=>by rw[List.mem_singleton.1 hz];exact Nat.le_refl _) B6.size,Nat.le_refl _,fun y hy h=>by have:=nw y hy h;omega⟩
 have:=nw y hy h
 simp
 omega
section
variable {w1 w w':World} {xa xb sB:Nat} {SA SB:Ws} {v:Nat→Value} {L:Nat→List Nat} {u:Value} {l:List Nat} {z:Nat→Thing}
theorem D2.layB (h:D2 w1 xa xb w SA SB (zX sB v L u l z)) (b:Below w.heap.size w w') {q g:Nat} (hq:5≤q) {o:Obj} (ho:w'.heap[g]?=some o) (hg:w.heap.size≤g):D2 w1 xa xb w' SA SB (zX sB v L u l (aF z q (cS [(g,o)]))):=by
 have:=h.put b q (cS [(g,o)]) (fun p hp=>by rw[List.mem_singleton.1 hp];exact ho) (fun k hk=>by
  have hk:k ∈ [g]:=hk
  rw[List.mem_singleton.1 hk]
  exact⟨hg,(Array.getElem?_eq_some_iff.1 ho).1⟩)
 rw[ko hq]at this
 exact this
theorem D2.atB (h:D2 w1 xa xb w SA SB (zX sB v L u l z)) {q g:Nat} (hq:5≤q) {o:Obj} (e:z q=cS [(g,o)]):w.heap[g]?=some o:=(h.get (q:=q) ((dh hq).trans e)) _ (List.mem_cons_self ..)
theorem D2.atR (h:D2 w1 xa xb w SA SB (zX sB v L u l z)) {q n c:Nat} (hq:5≤q) {a:Option Addr} {bs:Nat→Nat} (e:z q=dF a n c bs):Row8 w a n c bs:=h.get (q:=q) ((dh hq).trans e)
theorem D2.offB (h:D2 w1 xa xb w SA SB (zX sB v L u l z)) {q g:Nat} (hq:5≤q) {o:Obj} (e:z q=cS [(g,o)]) (of:Off [g] w w'):D2 w1 xa xb w' SA SB (zX sB v L u l (aF z q di)):=by
 have:=h.step q di (U:=[g]) (by rw[dh hq,e];rfl) ⟨of,fun k hk=>by cases hk⟩ trivial (fun k hk=>by cases hk)
 rw[ko hq]at this
 exact this
theorem D2.start (h:D2 w1 xa xb w SA SB (fun _=>di)):D2 w1 xa xb (w.alloc (.cells #[.slice none 0 0,.slice none 0 0,.slice none 0 0] 60)) SA SB (zX w.heap.size (fun _=>.slice none 0 0) (fun _=>[]) (.slice none 0 0) [] (fun _=>di)):=by
 have kb:=aA w (.cells #[.slice none 0 0,.slice none 0 0,.slice none 0 0] 60)
 have h0:=h.put (aC (Below.refl _ w) (.cells #[.slice none 0 0,.slice none 0 0,.slice none 0 0] 60)) 0 (cS [(w.heap.size,.cells #[.slice none 0 0,.slice none 0 0,.slice none 0 0] 60 (0,0))]) (fun p hp=>by rw[List.mem_singleton.1 hp];exact kb) (fun k hk=>by
  have hk:k ∈ [w.heap.size]:=hk
  rw[List.mem_singleton.1 hk]
  exact⟨Nat.le_refl _,(Array.getElem?_eq_some_iff.1 kb).1⟩)
 have e:∀ w:World,(qQ (.slice none 0 0) []).T w:=fun w=>⟨rfl,.inl ⟨rfl,rfl⟩⟩
 have h1:=h0.put (Below.refl _ _) 1 (qQ (.slice none 0 0) []) (e _) (fun k hk=>by cases hk)
 have h2:=h1.put (Below.refl _ _) 2 (qQ (.slice none 0 0) []) (e _) (fun k hk=>by cases hk)
 have h3:=h2.put (Below.refl _ _) 3 (qQ (.slice none 0 0) []) (e _) (fun k hk=>by cases hk)
 have h4:=h3.put (Below.refl _ _) 4 (qQ (.slice none 0 0) []) (e _) (fun k hk=>by cases hk)
 refine h4.same fun q=>?_
 rcases (by omega:q=0∨q=1∨q=2∨q=3∨q=4∨5≤q) with rfl | rfl | rfl | rfl | rfl | h5
 ·rfl
 ·rfl
 ·rfl
 ·rfl
 ·rfl
 ·rw[dh h5,ag _ _ (by omega),ag _ _ (by omega),ag _ _ (by omega),ag _ _ (by omega),ag _ _ (by omega)]
end
theorem yM (w:World):(Instr.makeSlice 59 (.int .i64 3) (.int .i64 3)).run prog w=.ok (.slice (af w.heap.size 0) 3 3) (w.alloc (.cells #[.slice none 0 0,.slice none 0 0,.slice none 0 0] 60)):=by kernel_rfl
theorem uI (m:Mv) (W:Wr) (k:Nat) (a:Option Addr) (c:Nat) (ah:Option Addr) (ch:Nat) (ad:Option Addr) (cd:Nat) (j:Nat) (hj:j<9):(ja m W k a c ah ch ad cd).toList[11+j]?=(#[.int .i64 ((W.S.hs k).st:Nat),.int .u32 ((W.S.hs k).ss:Nat),.int .u32 ((W.S.hs k).nm:Nat),.int .u32 ((W.S.hs k).sn:Nat),.int .i64 ((W.S.hs k).dc:Nat),.int .i64 (W.S.hs k).v.lat,.bool (aq (W.S.hs k).v),.bool (aB (W.S.hs k).v),.slice ah (W.S.PH k).i ch]:Array Value).toList[j]?:=by
 rcases (by omega:j=0∨j=1∨j=2∨j=3∨j=4∨j=5∨j=6∨j=7∨j=8) with rfl | rfl | rfl | rfl | rfl | rfl | rfl | rfl | rfl <;> rfl
theorem uH (m:Mv) (W:Wr) (k:Nat) (a:Option Addr) (c:Nat) (ah:Option Addr) (ch:Nat) (ad:Option Addr) (cd:Nat) (j:Nat) (hj:j<9):(ja m W k a c ah ch ad cd).toList[20+j]?=(#[.int .i64 ((W.S.ds k).st:Nat),.int .u32 ((W.S.ds k).ss:Nat),.int .u32 ((W.S.ds k).nm:Nat),.int .u32 ((W.S.ds k).sn:Nat),.int .i64 ((W.S.ds k).dc:Nat),.int .i64 (W.S.ds k).v.lat,.bool (aq (W.S.ds k).v),.bool (aB (W.S.ds k).v),.slice ad (W.S.PD k).o cd]:Array Value).toList[j]?:=by
 rcases (by omega:j=0∨j=1∨j=2∨j=3∨j=4∨j=5∨j=6∨j=7∨j=8) with rfl | rfl | rfl | rfl | rfl | rfl | rfl | rfl | rfl <;> rfl
def iV:Array Value:=aaJ
theorem mE (j:Nat) (hj:j<9):oI.toList[11+j]?=iV.toList[j]?∧oI.toList[20+j]?=iV.toList[j]?:=by
 rcases (by omega:j=0∨j=1∨j=2∨j=3∨j=4∨j=5∨j=6∨j=7∨j=8) with rfl | rfl | rfl | rfl | rfl | rfl | rfl | rfl | rfl <;> exact⟨rfl,rfl⟩
theorem fF {w w':World} {g:Nat} (e:w'.heap[g]?=w.heap[g]?) (k:Nat) {v:Value} (h:w.cell? ⟨g,k,none⟩=some v):w'.cell? ⟨g,k,none⟩=some v:=(World.cell?_of_block (a:=⟨g,k,none⟩) e).trans h
theorem sG {w w':World} {g o:Nat} {l:List Value} (e:w'.heap[g]?=w.heap[g]?) (h:w.rangeAt g o l):w'.rangeAt g o l:=fun j v hv=>fF e _ (h j v hv)
end Go.Proofs.YtenilkloffnjlaaGreat
namespace Go.Proofs.YtenilkloffnjlaaGreat
open Tryz
open Go.RowKit
theorem ql {P:Program} {ops:Array Oper} {o:Oper} {a:Act} {w:World} {K:Act→World→Prop} {Q:Exit→Act→World→Prop} {E:Prop} {R:Value→World→Prop}
  (f:FuncId) (ts:Array Operand) (ty:Array TypeId) (_:o.op=.call { callee:=.value (.func f),args:=ts,argTypes:=ty }) (hw:Region.wanted o (yielded ops a.tmps)=true) (args:Array Value) (hrun:(execOp a.eval o).run P w=.ok (.enter f args) w) (hc:Calls P f args w fun e w'=>∃ v,e=.returned v∧R v w') (hK:∀ v w',R v w'→K (a.put o.dst v) w') :
  if Region.wanted o (yielded ops a.tmps)=true then Oper.wp P o a w K Q else E:=by
 rw[if_pos hw]
 unfold Oper.wp
 rw[hrun]
 refine hc.mono ?_
 rintro e w'' ⟨v,rfl,hr⟩
 exact hK _ _ hr
open Go.RowKit Go.Maps Go.Sort
set_option linter.unusedVariables false
theorem xh (w:World):Calls prog 22 #[.int .i64 2] w fun r w'=>∃ a0 c0 a1 c1,r=.returned (.agg #[.slice a0 3 c0,.slice a1 3 c1,.int .u32 50])∧Hid (w'.ownsRow (w.heap.size+2) 83 5 (.slice a0 3 c0) 3 (eE 3 gv)∧w'.ownsRow (w.heap.size+2) 83 5 (.slice a1 3 c1) 3 (eE 3 gv)∧(∀ g,(Value.slice a0 3 c0).ownBlock=some g→(Value.slice a1 3 c1).ownBlock≠some g)∧Below w.heap.size w w'):=by
 have hS:=fun wx=>uB wx
 go_enter func22,ntmps22
 go_wp2_with fail
 have HS:Hid (Sp w ((w.alloc (.cells #[.slice none 0 0,.slice none 0 0,.int .u32 0] 30)).alloc (.cells #[.slice none 0 0,.slice none 0 0,.int .u32 50] 30)) 0 none 0 none 0):=by
  have a1':=aA w (.cells #[.slice none 0 0,.slice none 0 0,.int .u32 0] 30)
  have a2':=aA (w.alloc (.cells #[.slice none 0 0,.slice none 0 0,.int .u32 0] 30)) (.cells #[.slice none 0 0,.slice none 0 0,.int .u32 50] 30)
  simp only[World.size_alloc]at a1' a2'
  refine⟨aC (aC (Below.refl _ _) _) _,?_,a2',⟨by simp[eE],.inl ⟨rfl,rfl⟩⟩,⟨by simp[eE],.inl ⟨rfl,rfl⟩⟩,fun g hg=>by cases hg⟩
  exact ((aC (Below.refl _ _) _).block _ (by simp)).trans a1'
 go_loopw [4,5,7,8,9,10,11,12,13,14,15,16,17,18,19,20,21,22,23,24,25,26,27,28,29,30,31,32,33,34] (fun c _ _ _ _ _ _ _ _ _ _ _ _ _ _ _ _ _ _ _ _ _ _ _ _ _ _ _ _ _ wr=>∃ (i:Nat) (va:Option Addr) (vc:Nat) (ua:Option Addr) (uc:Nat),i≤3∧c=.int .i64 ((i:Nat):Int)∧Hid (Sp w wr i va vc ua uc)) (fun c _ _ _ _ _ _ _ _ _ _ _ _ _ _ _ _ _ _ _ _ _ _ _ _ _ _ _ _ _ _=>3-ik c)
 case atStart=>exact⟨0,none,0,none,0,by omega,rfl,HS⟩
 case round=>
  obtain⟨i,va,vc,ua,uc,hi,rfl,HI⟩:=hrel
  clear HS
  have hi3:i=0∨i=1∨i=2∨i=3:=by omega
  rcases hi3 with rfl | rfl | rfl | rfl
  ·obtain⟨i0,hI,hz0,hz1,hz2⟩:=info_parts dV
   go_wp2_with fail
   refine (hS _).mono ?_
   rintro r w3 ⟨rfl,b3⟩
   have q0:=ai (ae wr _ 0 _ _ _ HI.out.xb) (aC b3 (.cells aZ 83))
   have q1:=ai (ae wr _ 1 _ _ _ HI.out.xb) (aC b3 (.cells aZ 83))
   have b4:=aC (aC b3 (.cells aZ 83)) (.cells aZ 83)
   have hrow:=bH HI.out.ov b4
   have lx:=(Array.getElem?_eq_some_iff.1 HI.out.xb).1
   have s3:=b3.size
   have nk:=aA (w3.alloc (.cells aZ 83)) (.cells aZ 83)
   simp only[World.size_alloc]at nk
   have hcl:∀ j u,(gv 0).cs[j]?=some u→((w3.alloc (.cells aZ 83)).alloc (.cells aZ 83)).cell? ((⟨w3.heap.size+1,0,none⟩:Addr).add j)=some u:=eT nk
   have hbs:w.heap.size+2 ≤ ((w3.alloc (.cells aZ 83)).alloc (.cells aZ 83)).heap.size:=by simp;omega
   go_wp2_with (at_builtin;refine wpList_append_own_at _ rfl (.tmp 24) (.tmp 26) 27 rfl (w.heap.size+2) 83 i0 (.agg #[.int .u32 0,.int .i64 0,.int .i64 0,.int .i64 0,.int .u32 0]) 5 40 underlying27 hI hz0 hz1 hz2 rfl (by decide) (.slice va 0 vc) 0 (eE 0 gv) rfl hrow ⟨w3.heap.size+1,0,none⟩ 1 1 (gv 0).cs rfl rfl hcl (gf _) (by unfold maxLen;omega) (by omega) hbs ?_)
   intro v5 w5 o5 g5 _ s5
   obtain⟨x5,y5,rfl,hx5⟩:=eR (n:=0) o5
   have nb:=fun g (hg:(Value.slice va 0 vc).ownBlock=some g)=>HI.out.ov.lt g hg
   have nu:=fun g (hg:(Value.slice ua 0 uc).ownBlock=some g)=>HI.out.ou.lt g hg
   have k5:w5.heap[w.heap.size+1]?=some (.cells #[.slice va 0 vc,.slice ua 0 uc,.int .u32 50] 30 (0,0)):=(g5.block _ (by simp;omega) (fun e=>by have:=(nb _ e.symm).1;omega)).trans ((b4.block _ lx).trans HI.out.xb)
   have p5:w5.heap[w3.heap.size]?=some (.cells aZ 83 (0,0)):=(g5.block _ (by simp;omega) (fun e=>by have:=(nb _ e.symm).2;omega)).trans (((aC (Below.refl _ _) _).block w3.heap.size (by simp)).trans (aA w3 (.cells aZ 83)))
   have u5:w5.ownsRow (w.heap.size+2) 83 5 (.slice ua 0 uc) 0 (eE 0 gv):=bk (bH HI.out.ou b4) (fun g hg=>g5.block g (by have:=(nu g hg).2;simp;omega) (fun e=>HI.out.dis g e.symm hg))
   have r0:=ae w5 _ 0 _ _ _ k5
   have r1:=ae w5 _ 1 _ _ _ k5
   have rz:=fun k=>frozen_of_row w5 _ k _ _ k5
   have t0:=ae w5 _ 0 _ _ _ p5
   have t1:=ae w5 _ 1 _ _ _ p5
   have t2:=ae w5 _ 2 _ _ _ p5
   have t3:=ae w5 _ 3 _ _ _ p5
   have t4:=ae w5 _ 4 _ _ _ p5
   have s5s:=g5.size
   simp only[World.size_alloc]at s5s
   have o6:Off [w.heap.size+1] w5 (w5.setCell ⟨w.heap.size+1,0,none⟩ (.slice (af x5 0) 1 y5)):=Off.setCell _ _ _ _
   have u7:((w5.setCell ⟨w.heap.size+1,0,none⟩ (.slice (af x5 0) 1 y5)).alloc (.cells aZ 83)).ownsRow (w.heap.size+2) 83 5 (.slice ua 0 uc) 0 (eE 0 gv):=bH (bk u5 (fun g hg=>o6.block g (by have:=(u5.lt g hg).2;omega) (by have:=(u5.lt g hg).1;simp;omega))) (aC (Below.refl _ _) _)
   have nk7:=aA (w5.setCell ⟨w.heap.size+1,0,none⟩ (.slice (af x5 0) 1 y5)) (.cells aZ 83)
   have hs6:(w5.setCell ⟨w.heap.size+1,0,none⟩ (.slice (af x5 0) 1 y5)).heap.size=w5.heap.size:=by simp[World.setCell]
   rw[hs6]at nk7
   have hcl7:∀ j u,(gv 0).cs[j]?=some u→((w5.setCell ⟨w.heap.size+1,0,none⟩ (.slice (af x5 0) 1 y5)).alloc (.cells aZ 83)).cell? ((⟨w5.heap.size,0,none⟩:Addr).add j)=some u:=eT nk7
   have hbs7:w.heap.size+2 ≤ ((w5.setCell ⟨w.heap.size+1,0,none⟩ (.slice (af x5 0) 1 y5)).alloc (.cells aZ 83)).heap.size:=by rw[World.size_alloc,hs6];omega
   have HH:Hid (_):=And.intro o5 (And.intro g5 (And.intro s5 (And.intro k5 (And.intro p5 (And.intro u5 (And.intro nb (And.intro nu b4)))))))
   clear o5 g5 s5 k5 p5 u5 hrow hcl hbs nk q0 q1 nk7 o6 nb nu
   go_wp2_with (at_builtin;refine wpList_append_own_at _ rfl (.tmp 30) (.tmp 32) 27 rfl (w.heap.size+2) 83 i0 (.agg #[.int .u32 0,.int .i64 0,.int .i64 0,.int .i64 0,.int .u32 0]) 5 40 underlying27 hI hz0 hz1 hz2 rfl (by decide) (.slice ua 0 uc) 0 (eE 0 gv) rfl u7 ⟨w5.heap.size,0,none⟩ 1 1 (gv 0).cs rfl rfl hcl7 (gf _) (by unfold maxLen;omega) (by omega) hbs7 ?_)
   intro v8 w8 o8 g8 _ s8
   obtain⟨x8,y8,rfl,hx8⟩:=eR (n:=0) o8
   have key:Hid (Sp w (w8.setCell ⟨w.heap.size+1,1,none⟩ (.slice (af x8 0) 1 y8)) 1 (af x5 0) y5 (af x8 0) y8∧w8.heap[w.heap.size+1]?=some (.cells #[.slice (af x5 0) 1 y5,.slice ua 0 uc,.int .u32 50] 30 (0,0))):=by
    obtain⟨o5,g5,s5,k5,p5,u5,nb,nu,b4⟩:=HH.out
    have hI':=HI.out
    have o6:Off [w.heap.size+1] w5 (w5.setCell ⟨w.heap.size+1,0,none⟩ (.slice (af x5 0) 1 y5)):=Off.setCell _ _ _ _
    have o9:Off [w.heap.size+1] w8 (w8.setCell ⟨w.heap.size+1,1,none⟩ (.slice (af x8 0) 1 y8)):=Off.setCell _ _ _ _
    have g8s:=g8.size
    rw[World.size_alloc,hs6]at g8s
    have wr2:w.heap.size+2≤wr.heap.size:=by omega
    have thr:∀ k,k<w5.heap.size→k≠w.heap.size+1→(∀ g,(Value.slice ua 0 uc).ownBlock=some g→k≠g)→(w8.setCell ⟨w.heap.size+1,1,none⟩ (.slice (af x8 0) 1 y8)).heap[k]?=w5.heap[k]?:=fun k hk h1 h2=>
     (o9.block k (by omega) (by simpa using h1)).trans ((g8.block k (by rw[World.size_alloc,hs6];omega) (fun e=>h2 k e.symm rfl)).trans (((aC (Below.refl _ _) _).block k (by rw[hs6];exact hk)).trans (o6.block k hk (by simpa using h1))))
    have kk6:(w5.setCell ⟨w.heap.size+1,0,none⟩ (.slice (af x5 0) 1 y5)).heap[w.heap.size+1]?=some (.cells #[.slice (af x5 0) 1 y5,.slice ua 0 uc,.int .u32 50] 30 (0,0)):=heap_setCell_same _ _ _ _ _ _ k5
    have kk8:w8.heap[w.heap.size+1]?=some (.cells #[.slice (af x5 0) 1 y5,.slice ua 0 uc,.int .u32 50] 30 (0,0)):=(g8.block _ (by rw[World.size_alloc,hs6];omega) (fun e=>by have:=(nu _ e.symm).1;omega)).trans (((aC (Below.refl _ _) _).block _ (by rw[hs6];omega)).trans kk6)
    have b5:Below w.heap.size w w5:=(hI'.bel.trans (b4.mono (by omega))).grown g5 (by simp;omega) (fun j hj=>by have:=(nb j hj).1;omega)
    have l5:=(o5.lt x5 rfl).2
    have xu:∀ g,(Value.slice ua 0 uc).ownBlock=some g→x5≠g:=fun g hg e=>by
     subst e
     rcases s5 with h | h
     ·exact hI'.dis x5 (h.symm.trans rfl) hg
     ·have h2:some x5=some _:=h
      simp only[Option.some.injEq]at h2
      have:=(nu _ hg).2
      omega
    refine⟨⟨?_,?_,heap_setCell_same _ _ _ _ _ _ kk8,?_,?_,?_⟩,kk8⟩
    ·have b6:=o6.below b5 (fun k hk=>by simp at hk;omega) b5.size
     have b7:=(b6.alloc (by rw[hs6];exact b5.size) (.cells aZ 83)).grown g8 (by rw[World.size_alloc,hs6];have:=b5.size;omega) (fun j hj=>by have:=(nu j hj).1;omega)
     exact o9.below b7 (fun k hk=>by simp at hk;omega) b7.size
    ·rw[thr _ (by omega) (by omega) (fun g hg=>by have:=(nu g hg).1;omega)]
     exact (g5.block _ (by simp;omega) (fun e=>by have:=(nb _ e.symm).1;omega)).trans ((b4.block _ (by omega)).trans hI'.rb)
    ·rw[cC]
     exact bk o5 (fun g hg=>by
      have e:g=x5:=by simpa [Value.ownBlock] using hg.symm
      subst e
      exact thr g l5 (by omega) xu)
    ·rw[cC]
     exact bk o8 (fun g hg=>by
      have e:g=x8:=by simpa [Value.ownBlock] using hg.symm
      subst e
      exact o9.block g (o8.lt g rfl).2 (by simp;omega))
    ·intro g hg hg'
     cases hg
     have e8:x8=x5:=by simpa [Value.ownBlock] using hg'
     rcases s8 with h | h
     ·have h2:some x8=_:=h
      exact xu x8 h2.symm e8.symm
     ·have h2:some x8=some _:=h
      simp only[Option.some.injEq]at h2
      omega
   have HS:Hid (_):=key.out.1
   have f0:=ae w8 _ 0 _ _ _ key.out.2
   have f1:=ae w8 _ 1 _ _ _ key.out.2
   have fz:=fun k=>frozen_of_row w8 _ k _ _ key.out.2
   clear key o8 g8 s8 HH u7 hcl7 hbs7 HI
   go_wp2_with fail
   go_roundw
   case rel=>exact⟨1,_,_,_,_,by omega,by go_num,HS⟩
   case measure=>simp[ik]
  ·obtain⟨i0,hI,hz0,hz1,hz2⟩:=info_parts dV
   go_wp2_with fail
   refine (hS _).mono ?_
   rintro r w3 ⟨rfl,b3⟩
   have q0:=ai (ae wr _ 0 _ _ _ HI.out.xb) (aC b3 (.cells #[.int .u32 8,.int .i64 2,.int .i64 1,.int .i64 11,.int .u32 9] 83))
   have q1:=ai (ae wr _ 1 _ _ _ HI.out.xb) (aC b3 (.cells #[.int .u32 8,.int .i64 2,.int .i64 1,.int .i64 11,.int .u32 9] 83))
   have b4:=aC (aC b3 (.cells #[.int .u32 8,.int .i64 2,.int .i64 1,.int .i64 11,.int .u32 9] 83)) (.cells #[.int .u32 8,.int .i64 2,.int .i64 1,.int .i64 11,.int .u32 9] 83)
   have hrow:=bH HI.out.ov b4
   have lx:=(Array.getElem?_eq_some_iff.1 HI.out.xb).1
   have s3:=b3.size
   have nk:=aA (w3.alloc (.cells #[.int .u32 8,.int .i64 2,.int .i64 1,.int .i64 11,.int .u32 9] 83)) (.cells #[.int .u32 8,.int .i64 2,.int .i64 1,.int .i64 11,.int .u32 9] 83)
   simp only[World.size_alloc]at nk
   have hcl:∀ j u,(gv 1).cs[j]?=some u→((w3.alloc (.cells #[.int .u32 8,.int .i64 2,.int .i64 1,.int .i64 11,.int .u32 9] 83)).alloc (.cells #[.int .u32 8,.int .i64 2,.int .i64 1,.int .i64 11,.int .u32 9] 83)).cell? ((⟨w3.heap.size+1,0,none⟩:Addr).add j)=some u:=eT nk
   have hbs:w.heap.size+2 ≤ ((w3.alloc (.cells #[.int .u32 8,.int .i64 2,.int .i64 1,.int .i64 11,.int .u32 9] 83)).alloc (.cells #[.int .u32 8,.int .i64 2,.int .i64 1,.int .i64 11,.int .u32 9] 83)).heap.size:=by simp;omega
   go_wp2_with (at_builtin;refine wpList_append_own_at _ rfl (.tmp 24) (.tmp 26) 27 rfl (w.heap.size+2) 83 i0 (.agg #[.int .u32 0,.int .i64 0,.int .i64 0,.int .i64 0,.int .u32 0]) 5 40 underlying27 hI hz0 hz1 hz2 rfl (by decide) (.slice va 1 vc) 1 (eE 1 gv) rfl hrow ⟨w3.heap.size+1,0,none⟩ 1 1 (gv 1).cs rfl rfl hcl (gf _) (by unfold maxLen;omega) (by omega) hbs ?_)
   intro v5 w5 o5 g5 _ s5
   obtain⟨x5,y5,rfl,hx5⟩:=eR (n:=1) o5
   have nb:=fun g (hg:(Value.slice va 1 vc).ownBlock=some g)=>HI.out.ov.lt g hg
   have nu:=fun g (hg:(Value.slice ua 1 uc).ownBlock=some g)=>HI.out.ou.lt g hg
   have k5:w5.heap[w.heap.size+1]?=some (.cells #[.slice va 1 vc,.slice ua 1 uc,.int .u32 50] 30 (0,0)):=(g5.block _ (by simp;omega) (fun e=>by have:=(nb _ e.symm).1;omega)).trans ((b4.block _ lx).trans HI.out.xb)
   have p5:w5.heap[w3.heap.size]?=some (.cells #[.int .u32 8,.int .i64 2,.int .i64 1,.int .i64 11,.int .u32 9] 83 (0,0)):=(g5.block _ (by simp;omega) (fun e=>by have:=(nb _ e.symm).2;omega)).trans (((aC (Below.refl _ _) _).block w3.heap.size (by simp)).trans (aA w3 (.cells #[.int .u32 8,.int .i64 2,.int .i64 1,.int .i64 11,.int .u32 9] 83)))
   have u5:w5.ownsRow (w.heap.size+2) 83 5 (.slice ua 1 uc) 1 (eE 1 gv):=bk (bH HI.out.ou b4) (fun g hg=>g5.block g (by have:=(nu g hg).2;simp;omega) (fun e=>HI.out.dis g e.symm hg))
   have r0:=ae w5 _ 0 _ _ _ k5
   have r1:=ae w5 _ 1 _ _ _ k5
   have rz:=fun k=>frozen_of_row w5 _ k _ _ k5
   have t0:=ae w5 _ 0 _ _ _ p5
   have t1:=ae w5 _ 1 _ _ _ p5
   have t2:=ae w5 _ 2 _ _ _ p5
   have t3:=ae w5 _ 3 _ _ _ p5
   have t4:=ae w5 _ 4 _ _ _ p5
   have s5s:=g5.size
   simp only[World.size_alloc]at s5s
   have o6:Off [w.heap.size+1] w5 (w5.setCell ⟨w.heap.size+1,0,none⟩ (.slice (af x5 0) 2 y5)):=Off.setCell _ _ _ _
   have u7:((w5.setCell ⟨w.heap.size+1,0,none⟩ (.slice (af x5 0) 2 y5)).alloc (.cells #[.int .u32 8,.int .i64 2,.int .i64 1,.int .i64 11,.int .u32 9] 83)).ownsRow (w.heap.size+2) 83 5 (.slice ua 1 uc) 1 (eE 1 gv):=bH (bk u5 (fun g hg=>o6.block g (by have:=(u5.lt g hg).2;omega) (by have:=(u5.lt g hg).1;simp;omega))) (aC (Below.refl _ _) _)
   have nk7:=aA (w5.setCell ⟨w.heap.size+1,0,none⟩ (.slice (af x5 0) 2 y5)) (.cells #[.int .u32 8,.int .i64 2,.int .i64 1,.int .i64 11,.int .u32 9] 83)
   have hs6:(w5.setCell ⟨w.heap.size+1,0,none⟩ (.slice (af x5 0) 2 y5)).heap.size=w5.heap.size:=by simp[World.setCell]
   rw[hs6]at nk7
   have hcl7:∀ j u,(gv 1).cs[j]?=some u→((w5.setCell ⟨w.heap.size+1,0,none⟩ (.slice (af x5 0) 2 y5)).alloc (.cells #[.int .u32 8,.int .i64 2,.int .i64 1,.int .i64 11,.int .u32 9] 83)).cell? ((⟨w5.heap.size,0,none⟩:Addr).add j)=some u:=eT nk7
   have hbs7:w.heap.size+2 ≤ ((w5.setCell ⟨w.heap.size+1,0,none⟩ (.slice (af x5 0) 2 y5)).alloc (.cells #[.int .u32 8,.int .i64 2,.int .i64 1,.int .i64 11,.int .u32 9] 83)).heap.size:=by rw[World.size_alloc,hs6];omega
   have HH:Hid (_):=And.intro o5 (And.intro g5 (And.intro s5 (And.intro k5 (And.intro p5 (And.intro u5 (And.intro nb (And.intro nu b4)))))))
   clear o5 g5 s5 k5 p5 u5 hrow hcl hbs nk q0 q1 nk7 o6 nb nu
   go_wp2_with (at_builtin;refine wpList_append_own_at _ rfl (.tmp 30) (.tmp 32) 27 rfl (w.heap.size+2) 83 i0 (.agg #[.int .u32 0,.int .i64 0,.int .i64 0,.int .i64 0,.int .u32 0]) 5 40 underlying27 hI hz0 hz1 hz2 rfl (by decide) (.slice ua 1 uc) 1 (eE 1 gv) rfl u7 ⟨w5.heap.size,0,none⟩ 1 1 (gv 1).cs rfl rfl hcl7 (gf _) (by unfold maxLen;omega) (by omega) hbs7 ?_)
   intro v8 w8 o8 g8 _ s8
   obtain⟨x8,y8,rfl,hx8⟩:=eR (n:=1) o8
   have key:Hid (Sp w (w8.setCell ⟨w.heap.size+1,1,none⟩ (.slice (af x8 0) 2 y8)) 2 (af x5 0) y5 (af x8 0) y8∧w8.heap[w.heap.size+1]?=some (.cells #[.slice (af x5 0) 2 y5,.slice ua 1 uc,.int .u32 50] 30 (0,0))):=by
    obtain⟨o5,g5,s5,k5,p5,u5,nb,nu,b4⟩:=HH.out
    have hI':=HI.out
    have o6:Off [w.heap.size+1] w5 (w5.setCell ⟨w.heap.size+1,0,none⟩ (.slice (af x5 0) 2 y5)):=Off.setCell _ _ _ _
    have o9:Off [w.heap.size+1] w8 (w8.setCell ⟨w.heap.size+1,1,none⟩ (.slice (af x8 0) 2 y8)):=Off.setCell _ _ _ _
    have g8s:=g8.size
    rw[World.size_alloc,hs6]at g8s
    have wr2:w.heap.size+2≤wr.heap.size:=by omega
    have thr:∀ k,k<w5.heap.size→k≠w.heap.size+1→(∀ g,(Value.slice ua 1 uc).ownBlock=some g→k≠g)→(w8.setCell ⟨w.heap.size+1,1,none⟩ (.slice (af x8 0) 2 y8)).heap[k]?=w5.heap[k]?:=fun k hk h1 h2=>
     (o9.block k (by omega) (by simpa using h1)).trans ((g8.block k (by rw[World.size_alloc,hs6];omega) (fun e=>h2 k e.symm rfl)).trans (((aC (Below.refl _ _) _).block k (by rw[hs6];exact hk)).trans (o6.block k hk (by simpa using h1))))
    have kk6:(w5.setCell ⟨w.heap.size+1,0,none⟩ (.slice (af x5 0) 2 y5)).heap[w.heap.size+1]?=some (.cells #[.slice (af x5 0) 2 y5,.slice ua 1 uc,.int .u32 50] 30 (0,0)):=heap_setCell_same _ _ _ _ _ _ k5
    have kk8:w8.heap[w.heap.size+1]?=some (.cells #[.slice (af x5 0) 2 y5,.slice ua 1 uc,.int .u32 50] 30 (0,0)):=(g8.block _ (by rw[World.size_alloc,hs6];omega) (fun e=>by have:=(nu _ e.symm).1;omega)).trans (((aC (Below.refl _ _) _).block _ (by rw[hs6];omega)).trans kk6)
    have b5:Below w.heap.size w w5:=(hI'.bel.trans (b4.mono (by omega))).grown g5 (by simp;omega) (fun j hj=>by have:=(nb j hj).1;omega)
    have l5:=(o5.lt x5 rfl).2
    have xu:∀ g,(Value.slice ua 1 uc).ownBlock=some g→x5≠g:=fun g hg e=>by
     subst e
     rcases s5 with h | h
     ·exact hI'.dis x5 (h.symm.trans rfl) hg
     ·have h2:some x5=some _:=h
      simp only[Option.some.injEq]at h2
      have:=(nu _ hg).2
      omega
    refine⟨⟨?_,?_,heap_setCell_same _ _ _ _ _ _ kk8,?_,?_,?_⟩,kk8⟩
    ·have b6:=o6.below b5 (fun k hk=>by simp at hk;omega) b5.size
     have b7:=(b6.alloc (by rw[hs6];exact b5.size) (.cells #[.int .u32 8,.int .i64 2,.int .i64 1,.int .i64 11,.int .u32 9] 83)).grown g8 (by rw[World.size_alloc,hs6];have:=b5.size;omega) (fun j hj=>by have:=(nu j hj).1;omega)
     exact o9.below b7 (fun k hk=>by simp at hk;omega) b7.size
    ·rw[thr _ (by omega) (by omega) (fun g hg=>by have:=(nu g hg).1;omega)]
     exact (g5.block _ (by simp;omega) (fun e=>by have:=(nb _ e.symm).1;omega)).trans ((b4.block _ (by omega)).trans hI'.rb)
    ·rw[cC]
     exact bk o5 (fun g hg=>by
      have e:g=x5:=by simpa [Value.ownBlock] using hg.symm
      subst e
      exact thr g l5 (by omega) xu)
    ·rw[cC]
     exact bk o8 (fun g hg=>by
      have e:g=x8:=by simpa [Value.ownBlock] using hg.symm
      subst e
      exact o9.block g (o8.lt g rfl).2 (by simp;omega))
    ·intro g hg hg'
     cases hg
     have e8:x8=x5:=by simpa [Value.ownBlock] using hg'
     rcases s8 with h | h
     ·have h2:some x8=_:=h
      exact xu x8 h2.symm e8.symm
     ·have h2:some x8=some _:=h
      simp only[Option.some.injEq]at h2
      omega
   have HS:Hid (_):=key.out.1
   have f0:=ae w8 _ 0 _ _ _ key.out.2
   have f1:=ae w8 _ 1 _ _ _ key.out.2
   have fz:=fun k=>frozen_of_row w8 _ k _ _ key.out.2
   clear key o8 g8 s8 HH u7 hcl7 hbs7 HI
   go_wp2_with fail
   go_roundw
   case rel=>exact⟨2,_,_,_,_,by omega,by go_num,HS⟩
   case measure=>simp[ik]
  ·obtain⟨i0,hI,hz0,hz1,hz2⟩:=info_parts dV
   go_wp2_with fail
   refine (hS _).mono ?_
   rintro r w3 ⟨rfl,b3⟩
   have q0:=ai (ae wr _ 0 _ _ _ HI.out.xb) (aC b3 (.cells #[.int .u32 9,.int .i64 2,.int .i64 1,.int .i64 12,.int .u32 9] 83))
   have q1:=ai (ae wr _ 1 _ _ _ HI.out.xb) (aC b3 (.cells #[.int .u32 9,.int .i64 2,.int .i64 1,.int .i64 12,.int .u32 9] 83))
   have b4:=aC (aC b3 (.cells #[.int .u32 9,.int .i64 2,.int .i64 1,.int .i64 12,.int .u32 9] 83)) (.cells #[.int .u32 9,.int .i64 2,.int .i64 1,.int .i64 12,.int .u32 9] 83)
   have hrow:=bH HI.out.ov b4
   have lx:=(Array.getElem?_eq_some_iff.1 HI.out.xb).1
   have s3:=b3.size
   have nk:=aA (w3.alloc (.cells #[.int .u32 9,.int .i64 2,.int .i64 1,.int .i64 12,.int .u32 9] 83)) (.cells #[.int .u32 9,.int .i64 2,.int .i64 1,.int .i64 12,.int .u32 9] 83)
   simp only[World.size_alloc]at nk
   have hcl:∀ j u,(gv 2).cs[j]?=some u→((w3.alloc (.cells #[.int .u32 9,.int .i64 2,.int .i64 1,.int .i64 12,.int .u32 9] 83)).alloc (.cells #[.int .u32 9,.int .i64 2,.int .i64 1,.int .i64 12,.int .u32 9] 83)).cell? ((⟨w3.heap.size+1,0,none⟩:Addr).add j)=some u:=eT nk
   have hbs:w.heap.size+2 ≤ ((w3.alloc (.cells #[.int .u32 9,.int .i64 2,.int .i64 1,.int .i64 12,.int .u32 9] 83)).alloc (.cells #[.int .u32 9,.int .i64 2,.int .i64 1,.int .i64 12,.int .u32 9] 83)).heap.size:=by simp;omega
   go_wp2_with (at_builtin;refine wpList_append_own_at _ rfl (.tmp 24) (.tmp 26) 27 rfl (w.heap.size+2) 83 i0 (.agg #[.int .u32 0,.int .i64 0,.int .i64 0,.int .i64 0,.int .u32 0]) 5 40 underlying27 hI hz0 hz1 hz2 rfl (by decide) (.slice va 2 vc) 2 (eE 2 gv) rfl hrow ⟨w3.heap.size+1,0,none⟩ 1 1 (gv 2).cs rfl rfl hcl (gf _) (by unfold maxLen;omega) (by omega) hbs ?_)
   intro v5 w5 o5 g5 _ s5
   obtain⟨x5,y5,rfl,hx5⟩:=eR (n:=2) o5
   have nb:=fun g (hg:(Value.slice va 2 vc).ownBlock=some g)=>HI.out.ov.lt g hg
   have nu:=fun g (hg:(Value.slice ua 2 uc).ownBlock=some g)=>HI.out.ou.lt g hg
   have k5:w5.heap[w.heap.size+1]?=some (.cells #[.slice va 2 vc,.slice ua 2 uc,.int .u32 50] 30 (0,0)):=(g5.block _ (by simp;omega) (fun e=>by have:=(nb _ e.symm).1;omega)).trans ((b4.block _ lx).trans HI.out.xb)
   have p5:w5.heap[w3.heap.size]?=some (.cells #[.int .u32 9,.int .i64 2,.int .i64 1,.int .i64 12,.int .u32 9] 83 (0,0)):=(g5.block _ (by simp;omega) (fun e=>by have:=(nb _ e.symm).2;omega)).trans (((aC (Below.refl _ _) _).block w3.heap.size (by simp)).trans (aA w3 (.cells #[.int .u32 9,.int .i64 2,.int .i64 1,.int .i64 12,.int .u32 9] 83)))
   have u5:w5.ownsRow (w.heap.size+2) 83 5 (.slice ua 2 uc) 2 (eE 2 gv):=bk (bH HI.out.ou b4) (fun g hg=>g5.block g (by have:=(nu g hg).2;simp;omega) (fun e=>HI.out.dis g e.symm hg))
   have r0:=ae w5 _ 0 _ _ _ k5
   have r1:=ae w5 _ 1 _ _ _ k5
   have rz:=fun k=>frozen_of_row w5 _ k _ _ k5
   have t0:=ae w5 _ 0 _ _ _ p5
   have t1:=ae w5 _ 1 _ _ _ p5
   have t2:=ae w5 _ 2 _ _ _ p5
   have t3:=ae w5 _ 3 _ _ _ p5
   have t4:=ae w5 _ 4 _ _ _ p5
   have s5s:=g5.size
   simp only[World.size_alloc]at s5s
   have o6:Off [w.heap.size+1] w5 (w5.setCell ⟨w.heap.size+1,0,none⟩ (.slice (af x5 0) 3 y5)):=Off.setCell _ _ _ _
   have u7:((w5.setCell ⟨w.heap.size+1,0,none⟩ (.slice (af x5 0) 3 y5)).alloc (.cells #[.int .u32 9,.int .i64 2,.int .i64 1,.int .i64 12,.int .u32 9] 83)).ownsRow (w.heap.size+2) 83 5 (.slice ua 2 uc) 2 (eE 2 gv):=bH (bk u5 (fun g hg=>o6.block g (by have:=(u5.lt g hg).2;omega) (by have:=(u5.lt g hg).1;simp;omega))) (aC (Below.refl _ _) _)
   have nk7:=aA (w5.setCell ⟨w.heap.size+1,0,none⟩ (.slice (af x5 0) 3 y5)) (.cells #[.int .u32 9,.int .i64 2,.int .i64 1,.int .i64 12,.int .u32 9] 83)
   have hs6:(w5.setCell ⟨w.heap.size+1,0,none⟩ (.slice (af x5 0) 3 y5)).heap.size=w5.heap.size:=by simp[World.setCell]
   rw[hs6]at nk7
   have hcl7:∀ j u,(gv 2).cs[j]?=some u→((w5.setCell ⟨w.heap.size+1,0,none⟩ (.slice (af x5 0) 3 y5)).alloc (.cells #[.int .u32 9,.int .i64 2,.int .i64 1,.int .i64 12,.int .u32 9] 83)).cell? ((⟨w5.heap.size,0,none⟩:Addr).add j)=some u:=eT nk7
   have hbs7:w.heap.size+2 ≤ ((w5.setCell ⟨w.heap.size+1,0,none⟩ (.slice (af x5 0) 3 y5)).alloc (.cells #[.int .u32 9,.int .i64 2,.int .i64 1,.int .i64 12,.int .u32 9] 83)).heap.size:=by rw[World.size_alloc,hs6];omega
   have HH:Hid (_):=And.intro o5 (And.intro g5 (And.intro s5 (And.intro k5 (And.intro p5 (And.intro u5 (And.intro nb (And.intro nu b4)))))))
   clear o5 g5 s5 k5 p5 u5 hrow hcl hbs nk q0 q1 nk7 o6 nb nu
   go_wp2_with (at_builtin;refine wpList_append_own_at _ rfl (.tmp 30) (.tmp 32) 27 rfl (w.heap.size+2) 83 i0 (.agg #[.int .u32 0,.int .i64 0,.int .i64 0,.int .i64 0,.int .u32 0]) 5 40 underlying27 hI hz0 hz1 hz2 rfl (by decide) (.slice ua 2 uc) 2 (eE 2 gv) rfl u7 ⟨w5.heap.size,0,none⟩ 1 1 (gv 2).cs rfl rfl hcl7 (gf _) (by unfold maxLen;omega) (by omega) hbs7 ?_)
   intro v8 w8 o8 g8 _ s8
   obtain⟨x8,y8,rfl,hx8⟩:=eR (n:=2) o8
   have key:Hid (Sp w (w8.setCell ⟨w.heap.size+1,1,none⟩ (.slice (af x8 0) 3 y8)) 3 (af x5 0) y5 (af x8 0) y8∧w8.heap[w.heap.size+1]?=some (.cells #[.slice (af x5 0) 3 y5,.slice ua 2 uc,.int .u32 50] 30 (0,0))):=by
    obtain⟨o5,g5,s5,k5,p5,u5,nb,nu,b4⟩:=HH.out
    have hI':=HI.out
    have o6:Off [w.heap.size+1] w5 (w5.setCell ⟨w.heap.size+1,0,none⟩ (.slice (af x5 0) 3 y5)):=Off.setCell _ _ _ _
    have o9:Off [w.heap.size+1] w8 (w8.setCell ⟨w.heap.size+1,1,none⟩ (.slice (af x8 0) 3 y8)):=Off.setCell _ _ _ _
    have g8s:=g8.size
    rw[World.size_alloc,hs6]at g8s
    have wr2:w.heap.size+2≤wr.heap.size:=by omega
    have thr:∀ k,k<w5.heap.size→k≠w.heap.size+1→(∀ g,(Value.slice ua 2 uc).ownBlock=some g→k≠g)→(w8.setCell ⟨w.heap.size+1,1,none⟩ (.slice (af x8 0) 3 y8)).heap[k]?=w5.heap[k]?:=fun k hk h1 h2=>
     (o9.block k (by omega) (by simpa using h1)).trans ((g8.block k (by rw[World.size_alloc,hs6];omega) (fun e=>h2 k e.symm rfl)).trans (((aC (Below.refl _ _) _).block k (by rw[hs6];exact hk)).trans (o6.block k hk (by simpa using h1))))
    have kk6:(w5.setCell ⟨w.heap.size+1,0,none⟩ (.slice (af x5 0) 3 y5)).heap[w.heap.size+1]?=some (.cells #[.slice (af x5 0) 3 y5,.slice ua 2 uc,.int .u32 50] 30 (0,0)):=heap_setCell_same _ _ _ _ _ _ k5
    have kk8:w8.heap[w.heap.size+1]?=some (.cells #[.slice (af x5 0) 3 y5,.slice ua 2 uc,.int .u32 50] 30 (0,0)):=(g8.block _ (by rw[World.size_alloc,hs6];omega) (fun e=>by have:=(nu _ e.symm).1;omega)).trans (((aC (Below.refl _ _) _).block _ (by rw[hs6];omega)).trans kk6)
    have b5:Below w.heap.size w w5:=(hI'.bel.trans (b4.mono (by omega))).grown g5 (by simp;omega) (fun j hj=>by have:=(nb j hj).1;omega)
    have l5:=(o5.lt x5 rfl).2
    have xu:∀ g,(Value.slice ua 2 uc).ownBlock=some g→x5≠g:=fun g hg e=>by
     subst e
     rcases s5 with h | h
     ·exact hI'.dis x5 (h.symm.trans rfl) hg
     ·have h2:some x5=some _:=h
      simp only[Option.some.injEq]at h2
      have:=(nu _ hg).2
      omega
    refine⟨⟨?_,?_,heap_setCell_same _ _ _ _ _ _ kk8,?_,?_,?_⟩,kk8⟩
    ·have b6:=o6.below b5 (fun k hk=>by simp at hk;omega) b5.size
     have b7:=(b6.alloc (by rw[hs6];exact b5.size) (.cells #[.int .u32 9,.int .i64 2,.int .i64 1,.int .i64 12,.int .u32 9] 83)).grown g8 (by rw[World.size_alloc,hs6];have:=b5.size;omega) (fun j hj=>by have:=(nu j hj).1;omega)
     exact o9.below b7 (fun k hk=>by simp at hk;omega) b7.size
    ·rw[thr _ (by omega) (by omega) (fun g hg=>by have:=(nu g hg).1;omega)]
     exact (g5.block _ (by simp;omega) (fun e=>by have:=(nb _ e.symm).1;omega)).trans ((b4.block _ (by omega)).trans hI'.rb)
    ·rw[cC]
     exact bk o5 (fun g hg=>by
      have e:g=x5:=by simpa [Value.ownBlock] using hg.symm
      subst e
      exact thr g l5 (by omega) xu)
    ·rw[cC]
     exact bk o8 (fun g hg=>by
      have e:g=x8:=by simpa [Value.ownBlock] using hg.symm
      subst e
      exact o9.block g (o8.lt g rfl).2 (by simp;omega))
    ·intro g hg hg'
     cases hg
     have e8:x8=x5:=by simpa [Value.ownBlock] using hg'
     rcases s8 with h | h
     ·have h2:some x8=_:=h
      exact xu x8 h2.symm e8.symm
     ·have h2:some x8=some _:=h
      simp only[Option.some.injEq]at h2
      omega
   have HS:Hid (_):=key.out.1
   have f0:=ae w8 _ 0 _ _ _ key.out.2
   have f1:=ae w8 _ 1 _ _ _ key.out.2
   have fz:=fun k=>frozen_of_row w8 _ k _ _ key.out.2
   clear key o8 g8 s8 HH u7 hcl7 hbs7 HI
   go_wp2_with fail
   go_roundw
   case rel=>exact⟨3,_,_,_,_,by omega,by go_num,HS⟩
   case measure=>simp[ik]
  ·have x0:=ae wr _ 0 _ _ _ HI.out.xb
   have x1:=ae wr _ 1 _ _ _ HI.out.xb
   have x2:=ae wr _ 2 _ _ _ HI.out.xb
   have y0:=ae wr _ 0 _ _ _ HI.out.rb
   have y1:=ae wr _ 1 _ _ _ HI.out.rb
   have y2:=ae wr _ 2 _ _ _ HI.out.rb
   have yz:=fun k=>frozen_of_row wr _ k _ _ HI.out.rb
   go_wp2_with fail
   refine bodyPost_ret (v:=.agg #[.slice va 3 vc,.slice ua 3 uc,.int .u32 50]) (by simp[results,results22,go_sem,y0,y1,y2]) rfl ?_
   have o:Off [w.heap.size] wr (((wr.setCell ⟨w.heap.size,0,none⟩ (.slice va 3 vc)).setCell ⟨w.heap.size,1,none⟩ (.slice ua 3 uc)).setCell ⟨w.heap.size,2,none⟩ (.int .u32 50)):=((Off.setCell _ _ _ _).trans (Off.setCell _ _ _ _)).trans (Off.setCell _ _ _ _)
   have hI:=HI.out
   exact⟨va,vc,ua,uc,rfl,(bk hI.ov (fun g hg=>o.block g (hI.ov.lt g hg).2 (by have:=(hI.ov.lt g hg).1;simp;omega))),(bk hI.ou (fun g hg=>o.block g (hI.ou.lt g hg).2 (by have:=(hI.ou.lt g hg).1;simp;omega))),hI.dis,o.below hI.bel (fun k hk=>by simp at hk;omega) hI.bel.size⟩
theorem aal (w:World):Calls prog 8 #[.int .i64 2,.int .u32 9] w fun r w'=>∃ g0 c0 g1 c1,r=.returned (.agg #[.slice (af g0 0) 3 c0,.slice (af g1 0) 3 c1,.int .u32 50])∧Hid (3≤c0∧3≤c1∧PqRow w' (af g0 0) 3 gv∧PqRow w' (af g1 0) 3 gv∧Below w.heap.size w w'):=by
 have hP:=fun wx=>xh wx
 have kx:=aA w (.cells #[.slice none 0 0,.slice none 0 0,.int .u32 0] 30)
 have bx:=aC (Below.refl _ w) (.cells #[.slice none 0 0,.slice none 0 0,.int .u32 0] 30)
 have zx:=iQ w (.cells #[.slice none 0 0,.slice none 0 0,.int .u32 0] 30)
 go_enter func8,ntmps8
 go_wp2_with fail
 refine (hP _).mono ?_
 rintro r w1 ⟨a0,c0,a1,c1,rfl,H1⟩
 obtain⟨g0,rfl,hg0⟩:=iJ H1.out.1 (by decide)
 obtain⟨g1,rfl,hg1⟩:=iJ H1.out.2.1 (by decide)
 clear hP
 have b1:=H1.out.2.2.2
 have kx1:=(b1.block w.heap.size (by rw[zx];omega)).trans kx
 have b2:Below w1.heap.size w1 (w1.alloc (.cells #[.slice (af g0 0) 3 c0,.slice (af g1 0) 3 c1,.int .u32 50] 30)):=aC (Below.refl _ _) _
 have ky:=aA w1 (.cells #[.slice (af g0 0) 3 c0,.slice (af g1 0) 3 c1,.int .u32 50] 30)
 have lx1:w.heap.size<w1.heap.size:=(Array.getElem?_eq_some_iff.1 kx1).1
 have kx2:=(b2.block w.heap.size lx1).trans kx1
 have o0:=bH H1.out.1 b2
 have o1:=bH H1.out.2.1 b2
 have hg01:g0≠g1:=fun e=>H1.out.2.2.1 g0 rfl (by rw[e];rfl)
 obtain⟨w2,hw2⟩:∃ z,(w1.alloc (.cells #[.slice (af g0 0) 3 c0,.slice (af g1 0) 3 c1,.int .u32 50] 30))=z:=⟨_,rfl⟩
 rw[hw2]at ky kx2 o0 o1 b2
 obtain⟨cur0,k0⟩:=aL o0 rfl
 obtain⟨cur1,k1⟩:=aL o1 rfl
 have own_at0:∀ j u,(eE 3 gv)[j]?=some u→cur0[j]?=some u:=fun j u hu=>(ae w2 g0 j _ _ _ k0).symm.trans (iI o0 j u hu)
 have own_at1:∀ j u,(eE 3 gv)[j]?=some u→cur1[j]?=some u:=fun j u hu=>(ae w2 g1 j _ _ _ k1).symm.trans (iI o1 j u hu)
 have s00:w2.setCell ⟨g0,4,none⟩ (.int .u32 9)=w2:=cM k0 (own_at0 (4) _ rfl)
 have e00:w2.cell? ⟨g0,4,none⟩=some (.int .u32 9):=(ae w2 g0 4 _ _ _ k0).trans (own_at0 (4) _ rfl)
 have z00:w2.frozen? ⟨g0,4,none⟩=false:=frozen_of_row w2 g0 4 _ _ k0
 have s01:w2.setCell ⟨g0,9,none⟩ (.int .u32 9)=w2:=cM k0 (own_at0 (9) _ rfl)
 have e01:w2.cell? ⟨g0,9,none⟩=some (.int .u32 9):=(ae w2 g0 9 _ _ _ k0).trans (own_at0 (9) _ rfl)
 have z01:w2.frozen? ⟨g0,9,none⟩=false:=frozen_of_row w2 g0 9 _ _ k0
 have s02:w2.setCell ⟨g0,14,none⟩ (.int .u32 9)=w2:=cM k0 (own_at0 (14) _ rfl)
 have e02:w2.cell? ⟨g0,14,none⟩=some (.int .u32 9):=(ae w2 g0 14 _ _ _ k0).trans (own_at0 (14) _ rfl)
 have z02:w2.frozen? ⟨g0,14,none⟩=false:=frozen_of_row w2 g0 14 _ _ k0
 have s10:w2.setCell ⟨g1,4,none⟩ (.int .u32 9)=w2:=cM k1 (own_at1 (4) _ rfl)
 have e10:w2.cell? ⟨g1,4,none⟩=some (.int .u32 9):=(ae w2 g1 4 _ _ _ k1).trans (own_at1 (4) _ rfl)
 have z10:w2.frozen? ⟨g1,4,none⟩=false:=frozen_of_row w2 g1 4 _ _ k1
 have s11:w2.setCell ⟨g1,9,none⟩ (.int .u32 9)=w2:=cM k1 (own_at1 (9) _ rfl)
 have e11:w2.cell? ⟨g1,9,none⟩=some (.int .u32 9):=(ae w2 g1 9 _ _ _ k1).trans (own_at1 (9) _ rfl)
 have z11:w2.frozen? ⟨g1,9,none⟩=false:=frozen_of_row w2 g1 9 _ _ k1
 have s12:w2.setCell ⟨g1,14,none⟩ (.int .u32 9)=w2:=cM k1 (own_at1 (14) _ rfl)
 have e12:w2.cell? ⟨g1,14,none⟩=some (.int .u32 9):=(ae w2 g1 14 _ _ _ k1).trans (own_at1 (14) _ rfl)
 have z12:w2.frozen? ⟨g1,14,none⟩=false:=frozen_of_row w2 g1 14 _ _ k1
 have y0:=ae w2 _ 0 _ _ _ ky
 have y1:=ae w2 _ 1 _ _ _ ky
 have y2:=ae w2 _ 2 _ _ _ ky
 have x0:=ae w2 _ 0 _ _ _ kx2
 have x1:=ae w2 _ 1 _ _ _ kx2
 have x2:=ae w2 _ 2 _ _ _ kx2
 have xz:=fun k=>frozen_of_row w2 _ k _ _ kx2
 have HF:Hid (_):=And.intro o0 (And.intro o1 (And.intro b2 (And.intro b1 (And.intro hg0 hg1))))
 have HE:Hid ((w1.alloc (.cells #[.slice (af g0 0) 3 c0,.slice (af g1 0) 3 c1,.int .u32 50] 30))=w2):=hw2
 have HX:Hid (_):=And.intro bx zx
 clear ky kx2 o0 o1 b2 b1 k0 k1 own_at0 own_at1 kx kx1 hw2 H1 bx
 go_upto_region 2 with fail
 rw[HE.out]
 go_wp2_with fail
 refine wp_loop_rounds 4 ?_
 rw[rounds_succ]
 go_wp2_with fail
 rw[rounds_succ]
 go_wp2_with fail
 rw[rounds_succ]
 go_wp2_with fail
 rw[rounds_succ]
 go_wp2_with fail
 refine bodyPost_ret (v:=.agg #[.slice (af g0 0) 3 c0,.slice (af g1 0) 3 c1,.int .u32 50]) (by simp[results,results8,go_sem,x0,x1,x2]) rfl ?_
 have o:Off [w.heap.size] w2 (((w2.setCell ⟨w.heap.size,0,none⟩ (.slice (af g0 0) 3 c0)).setCell ⟨w.heap.size,1,none⟩ (.slice (af g1 0) 3 c1)).setCell ⟨w.heap.size,2,none⟩ (.int .u32 50)):=((Off.setCell _ _ _ _).trans (Off.setCell _ _ _ _)).trans (Off.setCell _ _ _ _)
 obtain⟨o0,o1,b2,b1,hg0,hg1⟩:=HF.out
 obtain⟨bx,zx⟩:=HX.out
 have bz:Below w.heap.size w w2:=(bx.trans (b1.mono bx.size)).trans (b2.mono (Nat.le_trans bx.size b1.size))
 exact⟨g0,c0,g1,c1,rfl,oc o0 (by decide),oc o1 (by decide),PqRow.ofOwn (bk o0 (fun g hg=>o.block g (o0.lt g hg).2 (by have:=(o0.lt g hg).1;rw[zx]at this;simp;omega))),PqRow.ofOwn (bk o1 (fun g hg=>o.block g (o1.lt g hg).2 (by have:=(o1.lt g hg).1;rw[zx]at this;simp;omega))),o.below bz (fun k hk=>by simp at hk;omega) bz.size⟩
end Go.Proofs.YtenilkloffnjlaaGreat
