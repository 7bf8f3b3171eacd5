/- Part 42: contracts that the proof rests on. -/
import Derived.Deep.DeepCutAuto
import Derived.Deep.CutBlock
import Derived.Deep.RegionWith
import Derived.Deep.QuietTactic
import Derived.BigQuiet
import Derived.Test.YtdpahjfekoikiaaGreatPkX40
set_option maxHeartbeats 64000000
set_option maxRecDepth 100000
namespace Go.Proofs.YtdpahjfekoikiaaGreat
open Tryz
open Go.RowKit Go.Maps
set_option linter.unusedVariables false
theorem ti (x:Int):0≤IntKind.u64.wrap x:=by
 have e:IntKind.u64.wrap x=x % 18446744073709551616:=by simp[IntKind.wrap,IntKind.signed,IntKind.bits]
 rw[e]
 omega
theorem mI (x:Int):∃ y:Nat,wrap64 ((IntKind.u64.wrap x).tmod 3)=((y:Nat):Int)∧y<3:=by
 have h:=ti x
 generalize IntKind.u64.wrap x=u at *
 rw[Int.tmod_eq_emod_of_nonneg h]
 exact⟨(u % 3).toNat,by unfold wrap64;omega,by omega⟩
theorem uU (w:World) (x:Nat) (h:x<256):Row8 (w.alloc (.cells #[.int .u8 ((x:Nat):Int),.int .u8 9] 5)) (ac w.heap.size 0) 2 2 (fun i=>if i=0 then x else 9):=by
 have e:=aB w (.cells #[.int .u8 ((x:Nat):Int),.int .u8 9] 5)
 refine⟨fun i _=>by show (if i=0 then x else 9)<256;split <;> omega,(fun h=>by cases h),fun y hy i hi=>?_,Nat.le_refl _⟩
 cases hy
 rcases (by omega:i=0∨i=1) with rfl | rfl
 ·exact ab _ _ 0 _ _ _ e
 ·exact ab _ _ 1 _ _ _ e
theorem uS (w:World) (x:Nat) (h:x<256):Row8 (w.alloc (.cells #[.int .u8 ((x:Nat):Int)] 5)) (ac w.heap.size 0) 1 1 (fun _=>x):=by
 have e:=aB w (.cells #[.int .u8 ((x:Nat):Int)] 5)
 refine⟨fun i _=>h,(fun h=>by cases h),fun y hy i hi=>?_,Nat.le_refl _⟩
 cases hy
 have c:i=0:=by omega
 subst c
 exact ab _ _ 0 _ _ _ e
def vM:Mk:=⟨fun _=>0,fun _=>0,fun _=>0,fun _=>0,fun _=>0,fun _=>dY,fun _=>bj M0,fun _=>0⟩
theorem Sc.start {w w':World} (h:Below w.heap.size w w'∧w'.heap.size=w.heap.size+3∧Mxx w' (w.heap.size+2) [] 0 [w.heap.size+2,w.heap.size+1,w.heap.size]):Sc w w' (w.heap.size+2) 0 0 0 (.slice none 0 0) [] vM pn:=by
 obtain⟨b1,s1,m1⟩:=h
 refine⟨dh (dh (fun _=>pn) 0 (qx (w.heap.size+2) [] 0 [w.heap.size+2,w.heap.size+1,w.heap.size])) 7 (um (.slice none 0 0) []),_,fun _=>[],fun _=>[],?_,rfl,fun j hj=>absurd hj (Nat.not_lt_zero j),fun j hj=>absurd hj (Nat.not_lt_zero j),rfl,rfl⟩
 refine ((Al.start w).step 0 _ rfl ⟨Off.of_below b1,fun k hk=>.inr (by simp[qx]at hk;omega)⟩ m1 (fun k hk=>m1.lt k hk)).fresh (Below.refl _ _) 7 _ ?_ (fun k hk=>by simp[um,Value.ownBlock]at hk)
 exact World.ownsRow_nil _ _ _ _
theorem oJ {W:World} {g:Nat} {e:TypeId} {y:Value} (h:W.heap[g]?=some (.cells #[y] e (0,0))):∀ j u,[y][j]?=some u→W.cell? ((⟨g,0,none⟩:Addr).add j)=some u:=by
 intro j u hu
 have hj:j=0:=by
  have:=(List.getElem?_eq_some_iff.1 hu).1
  simp at this;exact this
 subst hj
 simp at hu
 subst hu
 rw[Go.WideShapes.add_plain]
 exact (ab W g 0 _ _ _ h).trans rfl
theorem g0 {w:World} {B e size n:Nat} {v:Value} {xs:List Value} (h:w.ownsRow B e size v (n+1) xs):∃ g cap,v=.slice (ac g 0) (n+1) cap∧B≤g∧g<w.heap.size:=by
 rcases h.2 with ⟨_,hn⟩ | ⟨g,cap,cur,rfl,hB,hg,_⟩
 ·omega
 ·exact⟨g,cap,rfl,hB,(Array.getElem?_eq_some_iff.1 hg).1⟩
theorem sA:(prog.info? 38).map (fun i=>(i.zero,i.size,i.bytes))=some (some (.pointer none),1,8):=by kernel_rfl
theorem uO (w:World) (c:Int):∃ W,w.alloc (.cells #[.int .u32 c,.int .i64 2,.int .i64 1,.int .i64 10,.int .u32 400] 29)=W∧Below w.heap.size w W∧W.heap[w.heap.size]?=some (.cells #[.int .u32 c,.int .i64 2,.int .i64 1,.int .i64 10,.int .u32 400] 29 (0,0)):=by
 refine⟨_,rfl,(Below.refl _ w).alloc (Nat.le_refl _) _,aB w _⟩
def cI (v:Value):Nat:=match v with | .int _ n=>n.toNat | _=>0
theorem tS (w:World):(Instr.makeSlice 22 (.int .i64 3) (.int .i64 3)).run prog w=.ok (.slice (ac w.heap.size 0) 3 3) (w.alloc (.cells #[.int .i64 0,.int .i64 0,.int .i64 0] 3)):=by kernel_rfl
theorem oL {w:World} {B e n g c:Nat} {xs:List Value} (h:w.ownsRow B e 1 (.slice (ac g 0) n c) n xs) {k:Nat} {y:Value} (hy:xs[k]?=some y):w.cell? ⟨g,k,none⟩=some y:=by
 rcases h.2 with ⟨e1,hn⟩ | ⟨g',cap,cur,e1,_,hg,hn,hcap,hcs,ht⟩
 ·cases e1
 ·cases e1
  rw[ab w g k _ _ _ hg]
  rw[← ht,List.getElem?_take]at hy
  split at hy
  ·rw[← hy,Array.getElem?_toList]
  ·cases hy
def pl (sD:Nat) (c:Nat→Nat):Thing:=vP sD (.cells #[.int .i64 ((c 0:Nat):Int),.int .i64 ((c 1:Nat):Int),.int .i64 ((c 2:Nat):Int)] 3 (0,0))
theorem r9 {w:World} {sD:Nat} {c:Nat→Nat} (h:(pl sD c).T w) {k:Nat} (hk:k<3):(pl sD (di c k (c k+1))).T (w.setCell ⟨sD,k,none⟩ (.int .i64 (((c k:Nat):Int)+1))):=by
 have q:=Joins.block_setCell (i:=k) (show w.heap[sD]?=some (.cells #[.int .i64 ((c 0:Nat):Int),.int .i64 ((c 1:Nat):Int),.int .i64 ((c 2:Nat):Int)] 3 (0,0)) from h) (.int .i64 (((c k:Nat):Int)+1))
 rcases (by omega:k=0∨k=1∨k=2) with rfl | rfl | rfl
 ·exact q
 ·exact q
 ·exact q
theorem gE {w:World} {sD:Nat} {c:Nat→Nat} (h:(pl sD c).T w) {k:Nat} (hk:k<3):w.cell? ⟨sD,k,none⟩=some (.int .i64 ((c k:Nat):Int)):=by
 rw[ab w sD k _ _ _ h]
 rcases (by omega:k=0∨k=1∨k=2) with rfl | rfl | rfl <;> rfl
theorem Sc.cell {w0 w:World} {b g cp:Nat} {M:Mk} {z:Thing} {f:Nat→Nat} (h:Sc w0 w b 3 3 3 (.slice (ac g 0) 3 cp) ((List.range 3).map f) M z) {k:Nat} (hk:k<3):w.cell? ⟨g,k,none⟩=some (aa (f k) 0):=by
 refine oL (h.list (by omega)).1 (k:=k) ?_
 rcases (by omega:k=0∨k=1∨k=2) with rfl | rfl | rfl <;> rfl
structure Ld2 (w1 w:World) (b sD g cp i:Nat) (f:Nat→Nat) (M:Mk):Prop where
 sc:Sc w1 w b 3 3 3 (.slice (ac g 0) 3 cp) ((List.range 3).map f) M (pl sD M.c)
 hh:M.hh=f
 tx:uj M
 ci:∀ j,j<3→M.c j≤i
structure Ld1 (w1 w:World) (b n:Nat) (v:Value) (M:Mk):Prop where
 sc:Sc w1 w b n n n v ((List.range n).map M.hh) M pn
 tx:∀ j,j<n→Tx (PA j) (M.hs j) (M.ds j) (M.c j) (nL j) (mS j)
 c0:∀ j,j<n→M.c j=0
theorem mF (a:Option Addr) (len cap:Nat) (zs:List Int) (w:World) (R:BRow .i64 w a len cap zs):Calls prog 3 #[.slice a len cap] w fun r w'=>r=.returned (.bool true)∧Below w.heap.size w w':=by
 have HR:Hid (BRow .i64 w a len cap zs):=R
 have hlen:=R.len_le
 clear R
 have hA:=rT w
 go_enter func3,ntmps3
 go_wp2_with fail
 refine hA.mono ?_
 rintro r w1 ⟨rfl,b1⟩
 clear hA
 have HB1:Hid (Below w.heap.size w w1):=b1
 have hN:=kR w1
 clear b1
 go_wp2_with fail
 refine hN.mono ?_
 rintro r w2 ⟨rfl,h2⟩
 have HS:Hid (∃ M,Ld1 w1 w2 (w1.heap.size+2) 0 (.slice none 0 0) M):=⟨vM,Sc.start h2.out,fun j hj=>absurd hj (Nat.not_lt_zero j),fun j hj=>absurd hj (Nat.not_lt_zero j)⟩
 clear hN h2
 obtain⟨b,hb⟩:∃ y,w1.heap.size+2=y:=⟨_,rfl⟩
 rw[hb]at HS ⊢
 clear hb
 go_wp2_with fail
 have i3:(prog.info? 38).map (fun i=>(i.zero,i.size,i.bytes))=some (some (.pointer none),1,8):=sA
 obtain⟨i0,hI,hz0,hz1,hz2⟩:=info_parts i3
 clear i3
 go_loopw [4,5,6,7,8,9,10,11,12,27,28,29,30,31,32,33,34,35,36,37,38,39,40,41,42,43,44,45,46,47,48,49,50,51,52,53,54,55,56,57,58,59,60,61,62,63,64,65,66,67,68,69,70,71,72,73,74,75,76,77,78,79,80,81,82,83,84,85] (fun V1 i _ _ _ _ _ _ _ _ _ _ _ _ _ _ _ _ _ _ _ _ _ _ _ _ _ _ _ _ _ _ _ _ _ _ _ _ _ _ _ _ _ _ _ _ _ _ _ _ _ _ _ _ _ _ _ _ _ _ _ _ _ _ _ _ _ _ wr=>∃ (n:Nat) (ad:Option Addr) (cp:Nat),n≤3∧i=.int .i64 ((n:Nat):Int)∧V1=.slice ad n cp∧Hid (∃ M,Ld1 w1 wr b n (.slice ad n cp) M)) (fun V1 i _ _ _ _ _ _ _ _ _ _ _ _ _ _ _ _ _ _ _ _ _ _ _ _ _ _ _ _ _ _ _ _ _ _ _ _ _ _ _ _ _ _ _ _ _ _ _ _ _ _ _ _ _ _ _ _ _ _ _ _ _ _ _ _ _ _ _=>3-cI i)
 case atStart=>exact⟨0,none,0,by omega,rfl,rfl,HS⟩
 case round=>
  obtain⟨n,ad,cp,hn,rfl,rfl,HI⟩:=hrel
  clear HS
  by_cases h3:n<3
  ·have h3':((n:Nat):Int)<3:=by omega
   have ec:(((PA n).c:Nat):Int)=20 - ((n:Nat):Int):=by show ((20-n:Nat):Int)=_;omega
   have hSm:Calls prog 6 #[] wr fun e w'=>e=.returned (.agg uL)∧Below wr.heap.size wr w':=i7 wr
   go_wp2_with fail
   refine hSm.mono ?_
   rintro r w3 ⟨rfl,b3⟩
   clear hSm
   obtain⟨W,hW,bW,pW⟩:=uO w3 (20 - ((n:Nat):Int))
   have hM:=qC 16 W (by omega)
   go_wp2_with fail
   refine hM.mono ?_
   rintro r w4 ⟨m,g,rfl,h4⟩
   obtain⟨m1,g1,o4,x4⟩:=h4.out
   have lp:w3.heap.size<W.heap.size:=(Array.getElem?_eq_some_iff.1 pW).1
   have s3:=b3.size
   have s4:=o4.size
   have p4:w4.heap[w3.heap.size]?=_:=(o4.block _ lp (by simp)).trans pW
   have b4:Below wr.heap.size wr w4:=o4.below (b3.trans (bW.mono s3)) (by simp) (by omega)
   have hN:Calls prog 8 #[.agg #[.int .u32 (20 - ((n:Nat):Int)),.int .i64 2,.int .i64 1,.int .i64 10,.int .u32 400],aa m 0,.int .u32 5] w4 fun e w'=>∃ d,e=.returned (.tuple #[aa d 0,.int .i64 0])∧Hid (∃ U,Off [m,g] w4 w'∧DV w' d m g 16 5 (PA n) U (bj M0)∧∀ k,k ∈ U→k=m∨k=g∨w4.heap.size≤k):=by
    have q:=ni m g 16 5 (PA n) (mQ h3) M0 w4 x4 (by omega) (by decide) (qG 5 (by omega)).1
    rw[(qG 5 (by omega)).2,ec]at q
    exact q
   have k0:=ab w4 w3.heap.size 0 _ _ _ p4
   have k1:=ab w4 w3.heap.size 1 _ _ _ p4
   have k2:=ab w4 w3.heap.size 2 _ _ _ p4
   have k3:=ab w4 w3.heap.size 3 _ _ _ p4
   have k4:=ab w4 w3.heap.size 4 _ _ _ p4
   have H4:Hid (_):=And.intro b4 (And.intro p4 (And.intro m1 (And.intro g1 (And.intro lp (And.intro s3 s4)))))
   clear hM h4 m1 g1 o4 x4 lp s3 s4 p4 b4 b3 bW pW hW
   go_wp2_with fail
   refine hN.mono ?_
   rintro r w5 ⟨d,rfl,h5⟩
   obtain⟨Ud,o5,D5,hU5⟩:=h5.out
   obtain⟨b4,p4,m1,g1,lp,s3,s4⟩:=H4.out
   have p5:w5.heap[w3.heap.size]?=_:=(o5.block _ (by omega) (by simp;omega)).trans p4
   have b5:Below wr.heap.size wr w5:=o5.below b4 (by simp;omega) (by omega)
   have HX:Hid (∃ M5:Mk,Sc w1 w5 b (n+1) n n (.slice ad n cp) ((List.range n).map M5.hh) M5 pn∧M5.dd n=d∧M5.ds n=bj M0∧∀ j,j<n→Tx (PA j) (M5.hs j) (M5.ds j) (M5.c j) (nL j) (mS j)∧M5.c j=0):=by
    obtain⟨M,q⟩:=HI.out
    refine⟨{ M with dd:=di M.dd n d,dm:=di M.dm n m,dg:=di M.dg n g,ds:=di M.ds n (bj M0) },q.sc.dev h3 (Nat.le_refl _) b5 D5 (fun k hk=>by rcases hU5 k hk with e | e | e <;> omega),aV _ _ _,aV _ _ _,fun j hj=>?_⟩
    dsimp only
    rw[cq _ _ (by omega)]
    exact⟨q.tx j hj,q.c0 j hj⟩
   have hH:Calls prog 9 #[.agg #[.int .u32 (20 - ((n:Nat):Int)),.int .i64 2,.int .i64 1,.int .i64 10,.int .u32 400]] w5 fun e w'=>∃ d,e=.returned (.tuple #[aa d 0,.int .i64 0])∧Hid (Below w5.heap.size w5 w'∧∃ U,HV w' d (PA n) U dY∧∀ k,k ∈ U→w5.heap.size≤k):=by
    have q:=qB (PA n) (mQ h3) w5
    rw[ec]at q
    exact q
   have k0:=ab w5 w3.heap.size 0 _ _ _ p5
   have k1:=ab w5 w3.heap.size 1 _ _ _ p5
   have k2:=ab w5 w3.heap.size 2 _ _ _ p5
   have k3:=ab w5 w3.heap.size 3 _ _ _ p5
   have k4:=ab w5 w3.heap.size 4 _ _ _ p5
   clear hN h5 o5 D5 hU5 b4 p4 m1 g1 lp s3 s4 p5 b5 H4 HI
   go_wp2_with fail
   refine hH.mono ?_
   rintro r w6 ⟨h,rfl,h6⟩
   have HY:Hid (∃ M6:Mk,Sc w1 w6 b (n+1) (n+1) n (.slice ad n cp) ((List.range n).map M6.hh) M6 pn∧M6.dd n=d∧M6.ds n=bj M0∧M6.hh n=h∧M6.hs n=dY∧∀ j,j<n→Tx (PA j) (M6.hs j) (M6.ds j) (M6.c j) (nL j) (mS j)∧M6.c j=0):=by
    obtain⟨M5,S5,a1,a2,a3⟩:=HX.out
    obtain⟨b6,Uh,H6,hU6⟩:=h6.out
    have e:(List.range n).map M5.hh=(List.range n).map (di M5.hh n h):=List.map_congr_left fun j hj=>(cq _ _ (by have:=List.mem_range.1 hj;omega)).symm
    rw[e]at S5
    refine⟨{ M5 with hh:=di M5.hh n h,hs:=di M5.hs n dY },S5.host h3 b6 H6 hU6,a1,a2,aV _ _ _,aV _ _ _,fun j hj=>?_⟩
    dsimp only
    rw[cq _ _ (by omega)]
    exact a3 j hj
   obtain⟨M6,S6,f1,f2,f3,f4,f5⟩:=HY.out
   have hA:Calls prog 10 #[aa b 0,aa d 0] w6 fun e w'=>e=.returned (.int .i64 0)∧Hid (∃ M7:Mk,Sc w1 w' b (n+1) (n+1) (n+1) (.slice ad n cp) ((List.range n).map M7.hh) M7 pn∧M7.hh n=h∧M7.hs n=dY∧M7.ds n=bj M0∧M7.dd n=d∧M7.c n=0∧∀ j,j<n→Tx (PA j) (M7.hs j) (M7.ds j) (M7.c j) (nL j) (mS j)∧M7.c j=0):=by
    have q:=S6.add h3 (Nat.lt_succ_self n)
    rw[f1]at q
    refine q.mono ?_
    rintro e w' ⟨rfl,S7⟩
    refine⟨rfl,{ M6 with kk:=di M6.kk n w6.heap.size,c:=di M6.c n 0 },S7.out,f3,f4,f2,f1,aV _ _ _,fun j hj=>?_⟩
    dsimp only
    rw[cq _ _ (by omega)]
    exact f5 j hj
   clear hH h6 HX HY S6 f1 f2 f3 f4 f5 k0 k1 k2 k3 k4
   go_wp2_with fail
   refine hA.mono ?_
   rintro r w7 ⟨rfl,h7⟩
   clear hA
   have bW:=(Below.refl _ w7).alloc (Nat.le_refl _) (.cells #[.int .u8 (((n:Nat):Int)+1),.int .u8 9] 5)
   have rW:Row8 (w7.alloc (.cells #[.int .u8 (((n:Nat):Int)+1),.int .u8 9] 5)) (ac w7.heap.size 0) 2 2 (nL n):=uU w7 (n+1) (by omega)
   obtain⟨W7,hW7⟩:∃ y,w7.alloc (.cells #[.int .u8 (((n:Nat):Int)+1),.int .u8 9] 5)=y:=⟨_,rfl⟩
   rw[hW7]at bW rW
   have hWr:Calls prog 11 #[aa h 0,.slice (ac w7.heap.size 0) 2 2,.bool false] W7 fun e w'=>e=.returned (.int .i64 0)∧Hid (∃ M7:Mk,Sc w1 w' b (n+1) (n+1) (n+1) (.slice ad n cp) ((List.range n).map M7.hh) M7 pn∧M7.hh n=h∧M7.hs n={ dY with ap:=nL n,hd:=false }∧M7.ds n=bj M0∧M7.dd n=d∧M7.c n=0∧∀ j,j<n→Tx (PA j) (M7.hs j) (M7.ds j) (M7.c j) (nL j) (mS j)∧M7.c j=0):=by
    obtain⟨M7,S7,f1,f2,f3,f4,f5,f6⟩:=h7.out
    obtain⟨U,hv,nx⟩:=(S7.below bW).hv (Nat.lt_succ_self n) h3
    rw[f1,f2]at hv
    refine (mo h (PA n) U dY (ac w7.heap.size 0) 2 2 (nL n) false W7 hv rW).mono ?_
    rintro e w' ⟨rfl,H⟩
    have q:=H.out
    rw[← f1]at q
    refine⟨rfl,{ M7 with hs:=di M7.hs n (eH (PA n) dY 2 (nL n) false) },nx w' _ q,f1,(aV _ _ _).trans rfl,f3,f4,f5,fun j hj=>?_⟩
    dsimp only
    rw[cq _ _ (by omega)]
    exact f6 j hj
   clear h7 bW rW
   go_wp2_with fail
   refine hWr.mono ?_
   rintro r w8 ⟨rfl,h8⟩
   clear hWr hW7
   have bW:=(Below.refl _ w8).alloc (Nat.le_refl _) (.cells #[.int .u8 (((n:Nat):Int)+41)] 5)
   have rW:Row8 (w8.alloc (.cells #[.int .u8 (((n:Nat):Int)+41)] 5)) (ac w8.heap.size 0) 1 1 (mS n):=uS w8 (n+41) (by omega)
   obtain⟨W8,hW8⟩:∃ y,w8.alloc (.cells #[.int .u8 (((n:Nat):Int)+41)] 5)=y:=⟨_,rfl⟩
   rw[hW8]at bW rW
   have hDr:Calls prog 12 #[aa d 0,.slice (ac w8.heap.size 0) 1 1,.bool false] W8 fun e w'=>e=.returned (.int .i64 0)∧Hid (∃ M7:Mk,Sc w1 w' b (n+1) (n+1) (n+1) (.slice ad n cp) ((List.range n).map M7.hh) M7 pn∧M7.hh n=h∧∀ j,j<n+1→Tx (PA j) (M7.hs j) (M7.ds j) (M7.c j) (nL j) (mS j)∧M7.c j=0):=by
    obtain⟨M7,S7,f1,f2,f3,f4,f5,f6⟩:=h8.out
    obtain⟨U,hv,nx⟩:=(S7.below bW).dv (Nat.lt_succ_self n) h3
    rw[f4,f3]at hv
    refine (kj d _ _ 16 5 (PA n) U (bj M0) (ac w8.heap.size 0) 1 1 (mS n) false W8 hv rW).mono ?_
    rintro e w' ⟨rfl,H⟩
    have q:=H.out
    rw[← f4]at q
    refine⟨rfl,{ M7 with ds:=di M7.ds n (eG (PA n) (bj M0) 1 (mS n) false) },nx w' _ q,f1,fun j hj=>?_⟩
    dsimp only
    by_cases e:j=n
    ·subst e
     rw[aV,f2,f5]
     exact⟨Tx.new_ (mQ h3),rfl⟩
    ·rw[cq _ _ e]
     exact f6 j (by omega)
   clear h8 bW rW
   go_wp2_with fail
   refine hDr.mono ?_
   rintro r w9 ⟨rfl,h9⟩
   clear hDr hW8
   obtain⟨M9,S9,f1,f2⟩:=h9.out
   obtain⟨O9,nx9⟩:=(S9.below ((Below.refl _ w9).alloc (Nat.le_refl _) (.cells #[aa h 0] 38))).list (by omega)
   have en:((List.range n).map M9.hh).length=n:=by simp
   rw[en]at O9
   have HF:Hid (M9.hh n=h∧∀ j,j<n+1→Tx (PA j) (M9.hs j) (M9.ds j) (M9.c j) (nL j) (mS j)∧M9.c j=0):=⟨f1,f2⟩
   have HNx:Hid (_):=nx9
   clear h9 S9 f1 f2 en nx9
   go_wp2_with (at_builtin;refine wpList_append_own_at _ rfl (.tmp 82) (.tmp 84) 26 rfl 0 38 i0 (.pointer none) 1 8 underlying26 hI hz0 hz1 hz2 rfl (by decide) (.slice ad n cp) n (((List.range n).map M9.hh).map t6) rfl O9 ⟨w9.heap.size,0,none⟩ 1 1 [t6 h] rfl rfl (oJ (aB w9 _)) (by intro u hu;simp at hu;subst hu;rfl) (by unfold maxLen;omega) (by omega) (Nat.zero_le _) ?_)
   intro v5 w10 o5 g5 _ b5
   obtain⟨x5,y5,rfl,_,_⟩:=g0 o5
   have HL:Hid (∃ M,Ld1 w1 w10 b (n+1) (.slice (ac x5 0) (n+1) y5) M):=by
    have e:(List.range (n+1)).map M9.hh=(List.range n).map M9.hh ++ [h]:=by rw[List.range_succ,List.map_append,← HF.out.1];rfl
    refine⟨M9,?_,fun j hj=>(HF.out.2 j hj).1,fun j hj=>(HF.out.2 j hj).2⟩
    have es:(w9.alloc (.cells #[aa h 0] 38)).heap.size=w9.heap.size+1:=by simp
    refine HNx.out w10 _ _ ?_ g5 (by rw[es];exact b5)
    rw[e,List.map_append,List.length_append,List.length_map,List.length_range]
    show w10.ownsRow 0 38 1 _ (n+1) (List.map t6 (List.map M9.hh (List.range n)) ++ [t6 h])
    rw[List.map_map]
    exact o5
   clear HF HNx o5 g5 b5 O9
   go_wp2_with fail
   refine⟨⟨n+1,ac x5 0,y5,by omega,by simp,rfl,HL⟩,?_⟩
   have e1:cI (.int .i64 ((n:Nat):Int))=n:=by simp[cI]
   have e2:cI (.int .i64 (((n:Nat):Int)+1))=n+1:=by simp[cI]
   rw[e1,e2]
   omega
  ·have hn3:n=3:=by omega
   have h3':¬ ((n:Nat):Int)<3:=by omega
   subst hn3
   have hmk:=tS
   obtain⟨sD,hsD⟩:∃ y,wr.heap.size=y:=⟨_,rfl⟩
   have HS0:Hid (∃ g f M,ad=ac g 0∧Ld2 w1 (wr.alloc (.cells #[.int .i64 0,.int .i64 0,.int .i64 0] 3)) b sD g cp 0 f M):=by
    obtain⟨M,q⟩:=HI.out
    obtain⟨g,c2,e,_⟩:=g0 (n:=2) (q.sc.list (by omega)).1
    have es:(wr.alloc (.cells #[.int .i64 0,.int .i64 0,.int .i64 0] 3)).heap.size=wr.heap.size+1:=by simp
    have sc:=(q.sc.side (by omega)).2 (wr.alloc (.cells #[.int .i64 0,.int .i64 0,.int .i64 0] 3)) (pl sD M.c) ⟨Off.alloc _ _ _,fun k hk=>.inr (by have hk:k ∈ [sD]:=hk;rw[List.mem_singleton.1 hk];omega)⟩ (by
     have k0:=aB wr (.cells #[.int .i64 0,.int .i64 0,.int .i64 0] 3)
     rw[hsD]at k0
     show _=_
     rw[q.c0 0 (by omega),q.c0 1 (by omega),q.c0 2 (by omega)]
     exact k0) (fun k hk=>by have hk:k ∈ [sD]:=hk;rw[List.mem_singleton.1 hk,es];omega)
    cases e
    exact⟨g,M.hh,M,rfl,sc,rfl,q.tx,fun j hj=>by rw[q.c0 j hj];exact Nat.le_refl _⟩
   obtain⟨gH,f,M0_,rfl,HL0⟩:=HS0.out
   have HL:Hid (∃ M,Ld2 w1 (wr.alloc (.cells #[.int .i64 0,.int .i64 0,.int .i64 0] 3)) b sD gH cp 0 f M):=⟨M0_,HL0⟩
   clear HS0 HI HL0
   go_wp2_with fail
   clear hmk hsD
   go_loopw [14,15,16,17,18,19,20,87,88,89,90,91,92,93,94,95,96,97,98,99,100,101,102,103,104,105,106,107,108,109,110,111,112,113,114,115,116,117,118,119,120,121,122,123,124,125,126,127,128,129,130,131,132,133,134,135,136,137,138,139,140,141,142,143,144,145,146] (fun i _ _ _ _ _ _ _ _ _ _ _ _ _ _ _ _ _ _ _ _ _ _ _ _ _ _ _ _ _ _ _ _ _ _ _ _ _ _ _ _ _ _ _ _ _ _ _ _ _ _ _ _ _ _ _ _ _ _ _ _ _ _ _ _ _ _ wr=>∃ (n:Nat),n≤len∧n≤300∧i=.int .i64 ((n:Nat):Int)∧Hid (∃ M,Ld2 w1 wr b sD gH cp n f M)) (fun i _ _ _ _ _ _ _ _ _ _ _ _ _ _ _ _ _ _ _ _ _ _ _ _ _ _ _ _ _ _ _ _ _ _ _ _ _ _ _ _ _ _ _ _ _ _ _ _ _ _ _ _ _ _ _ _ _ _ _ _ _ _ _ _ _ _ _=>300-cI i)
   case atStart=>exact⟨0,by omega,by omega,rfl,HL⟩
   case round=>
    obtain⟨i,hi,hi3,rfl,HI⟩:=hrel
    clear HL
    by_cases hlt:i<len
    ·have hlt':((i:Nat):Int) < ((len:Nat):Int):=by omega
     by_cases h300:i<300
     ·have h300':((i:Nat):Int)<300:=by omega
      obtain⟨ob,off,rfl,hob,hoc⟩:=HR.out.nums (by omega)
      obtain⟨M,q⟩:=HI.out
      have hbr:Below w.heap.size w wr:=HB1.out.trans (q.sc.bel.mono HB1.out.size)
      have p0:wr.cell? ⟨ob,off+i,none⟩=some (.int .i64 (zs.getD i 0)):=(World.cell?_of_block (a:=⟨ob,off+i,none⟩) (hbr.block _ hob)).trans (hoc i hlt).1
      obtain⟨x,hx⟩:∃ y,zs.getD i 0=y:=⟨_,rfl⟩
      rw[hx]at p0
      obtain⟨k,hk,hk3⟩:∃ y:Nat,wrap64 ((IntKind.u64.wrap x).tmod 3)=((y:Nat):Int)∧y<3:=mI x
      have hk3':((k:Nat):Int)<3:=by omega
      have ck:=q.sc.cell hk3
      have hS:=q.sc.exch q.tx hk3 (by have:=q.ci k hk3;omega)
      rw[q.hh]at hS
      have HC:Hid (∀ j,j<3→M.c j≤i):=q.ci
      have ec:((20-k:Nat):Int)=20 - ((k:Nat):Int):=by omega
      clear hob hoc q hbr hx HI
      go_wp2_with fail
      refine hS.mono ?_
      rintro r wa ⟨a1,n1,c1,rfl,h1⟩
      obtain⟨_,hRv⟩:=h1.out
      have hRc:=hRv wa (Below.refl _ _)
      rw[ec]at hRc
      clear hS h1 hRv p0 ck
      go_wp2_with fail
      refine hRc.mono ?_
      rintro r wb ⟨a2,n2,c2,rfl,h2⟩
      obtain⟨⟨M2,S2,E2⟩,hTk⟩:=h2.out
      have ck:=S2.cell hk3
      have hT:=hTk wb (Below.refl _ _)
      clear hRc h2 S2 E2 hTk
      go_wp2_with fail
      refine hT.mono ?_
      rintro r wc ⟨rfl,h3⟩
      obtain⟨M3,S3,E3,C3,T3⟩:=h3.out
      have hD:=gE (S3.side (by omega)).1 hk3
      have hF:wc.frozen? ⟨sD,k,none⟩=false:=frozen_of_row wc sD k _ _ (S3.side (by omega)).1
      have hcb:M.c k≤300:=by have:=HC.out k hk3;omega
      have HN:Hid (∃ M',Ld2 w1 (wc.setCell ⟨sD,k,none⟩ (.int .i64 (((M.c k:Nat):Int)+1))) b sD gH cp (i+1) f M'):=by
       have dT:=(S3.side (by omega)).1
       have o1:=Off.setCell sD k wc (.int .i64 (((M.c k:Nat):Int)+1))
       refine⟨M3,(S3.side (by omega)).2 _ (pl sD M3.c) (Gr.same o1 (fun x hx=>hx)) (by rw[C3];exact r9 dT hk3) (fun x hx=>?_),E3,T3,fun j hj=>?_⟩
       ·have hx:x ∈ [sD]:=hx
        rw[List.mem_singleton.1 hx]
        exact Nat.lt_of_lt_of_le (Array.getElem?_eq_some_iff.1 dT).1 o1.size
       ·rw[C3]
        by_cases e:j=k
        ·subst e
         rw[aV]
         have:=HC.out j hj
         omega
        ·rw[cq _ _ e]
         have:=HC.out j hj
         omega
      clear hT h3 ck S3 E3 C3 T3
      go_wp2_with fail
      refine⟨⟨i+1,by omega,by omega,by simp,HN⟩,?_⟩
      have e1:cI (.int .i64 ((i:Nat):Int))=i:=by simp[cI]
      have e2:cI (.int .i64 (((i:Nat):Int)+1))=i+1:=by simp[cI]
      rw[e1,e2]
      omega
     ·have h300':¬ ((i:Nat):Int)<300:=by omega
      obtain⟨M,q⟩:=HI.out
      have HQ:Hid (uj M∧M.hh=f∧∀ j,j<3→M.c j≤300):=⟨q.tx,q.hh,fun j hj=>Nat.le_trans (q.ci j hj) hi3⟩
      have HS0:Hid (Sc w1 wr b 3 3 3 (.slice (ac gH 0) 3 cp) ((List.range 3).map f) M (pl sD M.c)):=q.sc
      clear q HI
      go_wp2_with fail
      go_loopw [21,22,23,147,148,149,150,151,152,153,154,155,156,157,158,159,160,161,162,163,164,165,166,167,168,169,170,171,172,173,174,175,176,177,178,179,180,181,182,183,184,185,186,187,188,189,190,191,192,193,194,195,196,197,198,199] (fun on kk _ _ _ _ _ _ _ _ _ _ _ _ _ _ _ _ _ _ _ _ _ _ _ _ _ _ _ _ _ _ _ _ _ _ _ _ _ _ _ _ _ _ _ _ _ _ _ _ _ _ _ _ _ _ wr=>∃ (j:Nat),j≤3∧kk=.int .i64 ((j:Nat):Int)∧on=.int .i64 ((cD M.c j:Nat):Int)∧Hid (Sc w1 wr b 3 3 3 (.slice (ac gH 0) 3 cp) ((List.range 3).map f) M (pl sD M.c))) (fun on kk _ _ _ _ _ _ _ _ _ _ _ _ _ _ _ _ _ _ _ _ _ _ _ _ _ _ _ _ _ _ _ _ _ _ _ _ _ _ _ _ _ _ _ _ _ _ _ _ _ _ _ _ _ _ _=>3-cI kk)
      case atStart=>exact⟨0,by omega,rfl,rfl,HS0⟩
      case round=>
       obtain⟨j,hj,rfl,rfl,HS⟩:=hrel
       clear HS0
       by_cases hj3:j<3
       ·have hj3':((j:Nat):Int)<3:=by omega
        obtain⟨U,hv,_⟩:=HS.out.hv hj3 hj3
        rw[HQ.out.2.1]at hv
        have T:=HQ.out.1 j hj3
        have hSee:=kz (f j) (PA j) U (M.hs j) wr hv
        unfold su at hSee
        have ck:=HS.out.cell hj3
        clear hv
        go_wp2_with fail
        refine hSee.mono ?_
        rintro r wa ⟨v,rfl,h1⟩
        have hvb:∀ i,i < (PA j).i→dy (M.hs j).v i<256:=fun i hi=>by
         unfold dy
         split
         ·rename_i ho
          rw[T.vonh]at ho
          rw[(T.on (by simpa using ho)).1.2 i hi]
          unfold mS
          omega
         ·show (0:Nat)<256
          omega
        obtain⟨a1,c1,hv1,r1⟩:=h1.out.1.row hvb
        replace hv1:v=.slice a1 1 c1:=hv1
        replace r1:Row8 wa a1 1 c1 (dy (M.hs j).v):=r1
        subst hv1
        have ba:=h1.out.2
        obtain⟨wE,hwE⟩:∃ y,wa.alloc (.cells #[.int .i64 ((M.hs j).st:Nat),.int .u32 ((M.hs j).ss:Nat),.int .u32 ((M.hs j).nm:Nat),.int .u32 ((M.hs j).sn:Nat),.int .i64 ((M.hs j).dc:Nat),.int .i64 (M.hs j).v.lat,.bool (bK (M.hs j).v),.bool (aL (M.hs j).v),.slice a1 1 c1] 52)=y:=⟨_,rfl⟩
        have kE:=aB wa (.cells #[.int .i64 ((M.hs j).st:Nat),.int .u32 ((M.hs j).ss:Nat),.int .u32 ((M.hs j).nm:Nat),.int .u32 ((M.hs j).sn:Nat),.int .i64 ((M.hs j).dc:Nat),.int .i64 (M.hs j).v.lat,.bool (bK (M.hs j).v),.bool (aL (M.hs j).v),.slice a1 1 c1] 52)
        have bE:=(Below.refl _ wa).alloc (Nat.le_refl _) (.cells #[.int .i64 ((M.hs j).st:Nat),.int .u32 ((M.hs j).ss:Nat),.int .u32 ((M.hs j).nm:Nat),.int .u32 ((M.hs j).sn:Nat),.int .i64 ((M.hs j).dc:Nat),.int .i64 (M.hs j).v.lat,.bool (bK (M.hs j).v),.bool (aL (M.hs j).v),.slice a1 1 c1] 52)
        rw[hwE]at kE bE
        have k7:wE.cell? ⟨wa.heap.size,7,none⟩=some (.bool (aL (M.hs j).v)):=ab wE wa.heap.size 7 _ _ _ kE
        have k8:wE.cell? ⟨wa.heap.size,8,none⟩=some (.slice a1 1 c1):=ab wE wa.heap.size 8 _ _ _ kE
        have S2:=(HS.out.below ba).below bE
        have kd:=gE (S2.side (by omega)).1 hj3
        have hSn:=S2.seen hj3 (by have:=HQ.out.2.2 j hj3;omega)
        have ec:((20-j:Nat):Int)=20 - ((j:Nat):Int):=by omega
        rw[ec]at hSn
        have r2:=r1.below bE
        rw[T.vonh]at k7
        have HS2:Hid (Sc w1 wE b 3 3 3 (.slice (ac gH 0) 3 cp) ((List.range 3).map f) M (pl sD M.c)):=S2
        clear hSee ck S2 kE bE r1 h1 ba ec hSn hvb
        have hSnn:∀ nn,Calls prog 17 #[aa b 0,.int .u32 (20 - ((j:Nat):Int))] (wE.drewN nn) fun e w'=>e=.returned (.int .i64 ((M.c j:Nat):Int))∧w'=wE.drewN nn:=fun nn=>by
         have q:=(HS2.out.below (w':=wE.drewN nn) ⟨rfl,rfl,rfl,Nat.le_refl _,fun _ _=>rfl⟩).seen hj3 (by have:=HQ.out.2.2 j hj3;omega)
         rw[show ((20-j:Nat):Int)=20 - ((j:Nat):Int) by omega]at q
         exact q
        by_cases ho:3<M.c j
        ·have hb:decide (3<M.c j)=true:=by simpa using ho
         rw[hb]at k7
         have hgt:(3:Int) < ((M.c j:Nat):Int):=by omega
         have hv0:dy (M.hs j).v 0=j+41:=by
          have o:=T.on ho
          unfold dy
          rw[if_pos o.1.1,o.1.2 0 (by show 0<1;omega)]
          rfl
         obtain⟨ob,off,rfl,_,hcell⟩:=r2.plain (by omega)
         have k9:wE.cell? ⟨ob,off,none⟩=some (.int .u8 (((j:Nat):Int)+41)):=by
          have q:wE.cell? ⟨ob,off+0,none⟩=some (.int .u8 ((dy (M.hs j).v 0:Nat):Int)):=(hcell 0 (by omega)).2
          rw[hv0,Nat.add_zero]at q
          exact q
         have hcn:cD M.c (j+1)=cD M.c j+1:=by show cD M.c j + (if 3<M.c j then 1 else 0)=_;rw[if_pos ho]
         have HCN:Hid (cD M.c (j+1)=cD M.c j+1):=hcn
         have hcl:cD M.c j≤3:=by
          have:∀ n,cD M.c n≤n:=fun n=>by
           induction n with
           | zero=>exact Nat.le_refl _
           | succ n ih=>show cD M.c n + (if 3<M.c n then 1 else 0)≤n+1;split <;> omega
          exact Nat.le_trans (this j) hj
         clear hcell hv0 hb r2 hcn T
         go_upto_region 32 with fail
         go_cut [195] (fun v wx=>Hid (v=.bool false∧∃ n,wx=wE.drewN n))
         case first=>
          go_quiet ((go_at_call 17;exact Calls.quiet_of_same (hSnn _)))
          go_wp2_with fail
          go_meet
          case rel=>exact⟨rfl,_,rfl⟩
         case rest=>
         obtain⟨rfl,nn,hwc⟩:=hcut.out
         subst hwc
         clear hcut hSnn kd k8 k9
         go_wp2_with fail
         refine⟨⟨j+1,by omega,by simp,(by rw[HCN.out];simp),HS2.out.below (w':=wE.drewN nn) ⟨rfl,rfl,rfl,Nat.le_refl _,fun _ _=>rfl⟩⟩,?_⟩
         have e1:cI (.int .i64 ((j:Nat):Int))=j:=by simp[cI]
         have e2:cI (.int .i64 (((j:Nat):Int)+1))=j+1:=by simp[cI]
         rw[e1,e2]
         omega
        ·have hb:decide (3<M.c j)=false:=by simpa using ho
         rw[hb]at k7
         have HCN:Hid (cD M.c (j+1)=cD M.c j):=by show cD M.c j + (if 3<M.c j then 1 else 0)=_;rw[if_neg ho,Nat.add_zero]
         clear hb r2 T
         go_upto_region 32 with fail
         go_cut [195] (fun v wx=>Hid (v=.bool false∧∃ n,wx=wE.drewN n))
         case first=>
          have hgt:¬ (3:Int) < ((M.c j:Nat):Int):=by omega
          go_quiet ((go_at_call 17;exact Calls.quiet_of_same (hSnn _)))
          go_wp2_with fail
          go_meet
          case rel=>exact⟨rfl,_,rfl⟩
         case rest=>
         obtain⟨rfl,nn,hwc⟩:=hcut.out
         subst hwc
         clear hcut hSnn kd k8
         go_wp2_with fail
         refine⟨⟨j+1,by omega,by simp,(by rw[HCN.out]),HS2.out.below (w':=wE.drewN nn) ⟨rfl,rfl,rfl,Nat.le_refl _,fun _ _=>rfl⟩⟩,?_⟩
         have e1:cI (.int .i64 ((j:Nat):Int))=j:=by simp[cI]
         have e2:cI (.int .i64 (((j:Nat):Int)+1))=j+1:=by simp[cI]
         rw[e1,e2]
         omega
       ·have hj3':¬ ((j:Nat):Int)<3:=by omega
        have e3:j=3:=by omega
        have hOn:Calls prog 18 #[aa b 0] wr fun e w'=>∃ a cp,e=.returned (.slice a (cD M.c j) cp)∧Hid (Below wr.heap.size wr w'):=by
         rw[e3]
         exact HS.out.onX HQ.out.1
        clear e3
        go_wp2_with fail
        refine hOn.mono ?_
        rintro r wa ⟨a1,cp1,rfl,h1⟩
        have S2:=HS.out.below h1.out
        have hLo:=S2.lost
        have HB2:Hid (Below w1.heap.size w1 wa):=S2.bel
        clear hOn h1 S2
        go_wp2_with fail
        refine hLo.mono ?_
        rintro r wb ⟨rfl,hw⟩
        obtain rfl:=hw.symm
        clear hLo
        go_wp2_with fail
        go_ret
        exact⟨rfl,HB1.out.trans (HB2.out.mono HB1.out.size)⟩
    ·have hlt':¬ ((i:Nat):Int) < ((len:Nat):Int):=by omega
     obtain⟨M,q⟩:=HI.out
     have HQ:Hid (uj M∧M.hh=f∧∀ j,j<3→M.c j≤300):=⟨q.tx,q.hh,fun j hj=>Nat.le_trans (q.ci j hj) hi3⟩
     have HS0:Hid (Sc w1 wr b 3 3 3 (.slice (ac gH 0) 3 cp) ((List.range 3).map f) M (pl sD M.c)):=q.sc
     clear q HI
     go_wp2_with fail
     go_loopw [21,22,23,147,148,149,150,151,152,153,154,155,156,157,158,159,160,161,162,163,164,165,166,167,168,169,170,171,172,173,174,175,176,177,178,179,180,181,182,183,184,185,186,187,188,189,190,191,192,193,194,195,196,197,198,199] (fun on kk _ _ _ _ _ _ _ _ _ _ _ _ _ _ _ _ _ _ _ _ _ _ _ _ _ _ _ _ _ _ _ _ _ _ _ _ _ _ _ _ _ _ _ _ _ _ _ _ _ _ _ _ _ _ wr=>∃ (j:Nat),j≤3∧kk=.int .i64 ((j:Nat):Int)∧on=.int .i64 ((cD M.c j:Nat):Int)∧Hid (Sc w1 wr b 3 3 3 (.slice (ac gH 0) 3 cp) ((List.range 3).map f) M (pl sD M.c))) (fun on kk _ _ _ _ _ _ _ _ _ _ _ _ _ _ _ _ _ _ _ _ _ _ _ _ _ _ _ _ _ _ _ _ _ _ _ _ _ _ _ _ _ _ _ _ _ _ _ _ _ _ _ _ _ _ _=>3-cI kk)
     case atStart=>exact⟨0,by omega,rfl,rfl,HS0⟩
     case round=>
      obtain⟨j,hj,rfl,rfl,HS⟩:=hrel
      clear HS0
      by_cases hj3:j<3
      ·have hj3':((j:Nat):Int)<3:=by omega
       obtain⟨U,hv,_⟩:=HS.out.hv hj3 hj3
       rw[HQ.out.2.1]at hv
       have T:=HQ.out.1 j hj3
       have hSee:=kz (f j) (PA j) U (M.hs j) wr hv
       unfold su at hSee
       have ck:=HS.out.cell hj3
       clear hv
       go_wp2_with fail
       refine hSee.mono ?_
       rintro r wa ⟨v,rfl,h1⟩
       have hvb:∀ i,i < (PA j).i→dy (M.hs j).v i<256:=fun i hi=>by
        unfold dy
        split
        ·rename_i ho
         rw[T.vonh]at ho
         rw[(T.on (by simpa using ho)).1.2 i hi]
         unfold mS
         omega
        ·show (0:Nat)<256
         omega
       obtain⟨a1,c1,hv1,r1⟩:=h1.out.1.row hvb
       replace hv1:v=.slice a1 1 c1:=hv1
       replace r1:Row8 wa a1 1 c1 (dy (M.hs j).v):=r1
       subst hv1
       have ba:=h1.out.2
       obtain⟨wE,hwE⟩:∃ y,wa.alloc (.cells #[.int .i64 ((M.hs j).st:Nat),.int .u32 ((M.hs j).ss:Nat),.int .u32 ((M.hs j).nm:Nat),.int .u32 ((M.hs j).sn:Nat),.int .i64 ((M.hs j).dc:Nat),.int .i64 (M.hs j).v.lat,.bool (bK (M.hs j).v),.bool (aL (M.hs j).v),.slice a1 1 c1] 52)=y:=⟨_,rfl⟩
       have kE:=aB wa (.cells #[.int .i64 ((M.hs j).st:Nat),.int .u32 ((M.hs j).ss:Nat),.int .u32 ((M.hs j).nm:Nat),.int .u32 ((M.hs j).sn:Nat),.int .i64 ((M.hs j).dc:Nat),.int .i64 (M.hs j).v.lat,.bool (bK (M.hs j).v),.bool (aL (M.hs j).v),.slice a1 1 c1] 52)
       have bE:=(Below.refl _ wa).alloc (Nat.le_refl _) (.cells #[.int .i64 ((M.hs j).st:Nat),.int .u32 ((M.hs j).ss:Nat),.int .u32 ((M.hs j).nm:Nat),.int .u32 ((M.hs j).sn:Nat),.int .i64 ((M.hs j).dc:Nat),.int .i64 (M.hs j).v.lat,.bool (bK (M.hs j).v),.bool (aL (M.hs j).v),.slice a1 1 c1] 52)
       rw[hwE]at kE bE
       have k7:wE.cell? ⟨wa.heap.size,7,none⟩=some (.bool (aL (M.hs j).v)):=ab wE wa.heap.size 7 _ _ _ kE
       have k8:wE.cell? ⟨wa.heap.size,8,none⟩=some (.slice a1 1 c1):=ab wE wa.heap.size 8 _ _ _ kE
       have S2:=(HS.out.below ba).below bE
       have kd:=gE (S2.side (by omega)).1 hj3
       have hSn:=S2.seen hj3 (by have:=HQ.out.2.2 j hj3;omega)
       have ec:((20-j:Nat):Int)=20 - ((j:Nat):Int):=by omega
       rw[ec]at hSn
       have r2:=r1.below bE
       rw[T.vonh]at k7
       have HS2:Hid (Sc w1 wE b 3 3 3 (.slice (ac gH 0) 3 cp) ((List.range 3).map f) M (pl sD M.c)):=S2
       clear hSee ck S2 kE bE r1 h1 ba ec hSn hvb
       have hSnn:∀ nn,Calls prog 17 #[aa b 0,.int .u32 (20 - ((j:Nat):Int))] (wE.drewN nn) fun e w'=>e=.returned (.int .i64 ((M.c j:Nat):Int))∧w'=wE.drewN nn:=fun nn=>by
        have q:=(HS2.out.below (w':=wE.drewN nn) ⟨rfl,rfl,rfl,Nat.le_refl _,fun _ _=>rfl⟩).seen hj3 (by have:=HQ.out.2.2 j hj3;omega)
        rw[show ((20-j:Nat):Int)=20 - ((j:Nat):Int) by omega]at q
        exact q
       by_cases ho:3<M.c j
       ·have hb:decide (3<M.c j)=true:=by simpa using ho
        rw[hb]at k7
        have hgt:(3:Int) < ((M.c j:Nat):Int):=by omega
        have hv0:dy (M.hs j).v 0=j+41:=by
         have o:=T.on ho
         unfold dy
         rw[if_pos o.1.1,o.1.2 0 (by show 0<1;omega)]
         rfl
        obtain⟨ob,off,rfl,_,hcell⟩:=r2.plain (by omega)
        have k9:wE.cell? ⟨ob,off,none⟩=some (.int .u8 (((j:Nat):Int)+41)):=by
         have q:wE.cell? ⟨ob,off+0,none⟩=some (.int .u8 ((dy (M.hs j).v 0:Nat):Int)):=(hcell 0 (by omega)).2
         rw[hv0,Nat.add_zero]at q
         exact q
        have hcn:cD M.c (j+1)=cD M.c j+1:=by show cD M.c j + (if 3<M.c j then 1 else 0)=_;rw[if_pos ho]
        have HCN:Hid (cD M.c (j+1)=cD M.c j+1):=hcn
        have hcl:cD M.c j≤3:=by
         have:∀ n,cD M.c n≤n:=fun n=>by
          induction n with
          | zero=>exact Nat.le_refl _
          | succ n ih=>show cD M.c n + (if 3<M.c n then 1 else 0)≤n+1;split <;> omega
         exact Nat.le_trans (this j) hj
        clear hcell hv0 hb r2 hcn T
        go_upto_region 32 with fail
        go_cut [195] (fun v wx=>Hid (v=.bool false∧∃ n,wx=wE.drewN n))
        case first=>
         go_quiet ((go_at_call 17;exact Calls.quiet_of_same (hSnn _)))
         go_wp2_with fail
         go_meet
         case rel=>exact⟨rfl,_,rfl⟩
        case rest=>
        obtain⟨rfl,nn,hwc⟩:=hcut.out
        subst hwc
        clear hcut hSnn kd k8 k9
        go_wp2_with fail
        refine⟨⟨j+1,by omega,by simp,(by rw[HCN.out];simp),HS2.out.below (w':=wE.drewN nn) ⟨rfl,rfl,rfl,Nat.le_refl _,fun _ _=>rfl⟩⟩,?_⟩
        have e1:cI (.int .i64 ((j:Nat):Int))=j:=by simp[cI]
        have e2:cI (.int .i64 (((j:Nat):Int)+1))=j+1:=by simp[cI]
        rw[e1,e2]
        omega
       ·have hb:decide (3<M.c j)=false:=by simpa using ho
        rw[hb]at k7
        have HCN:Hid (cD M.c (j+1)=cD M.c j):=by show cD M.c j + (if 3<M.c j then 1 else 0)=_;rw[if_neg ho,Nat.add_zero]
        clear hb r2 T
        go_upto_region 32 with fail
        go_cut [195] (fun v wx=>Hid (v=.bool false∧∃ n,wx=wE.drewN n))
        case first=>
         have hgt:¬ (3:Int) < ((M.c j:Nat):Int):=by omega
         go_quiet ((go_at_call 17;exact Calls.quiet_of_same (hSnn _)))
         go_wp2_with fail
         go_meet
         case rel=>exact⟨rfl,_,rfl⟩
        case rest=>
        obtain⟨rfl,nn,hwc⟩:=hcut.out
        subst hwc
        clear hcut hSnn kd k8
        go_wp2_with fail
        refine⟨⟨j+1,by omega,by simp,(by rw[HCN.out]),HS2.out.below (w':=wE.drewN nn) ⟨rfl,rfl,rfl,Nat.le_refl _,fun _ _=>rfl⟩⟩,?_⟩
        have e1:cI (.int .i64 ((j:Nat):Int))=j:=by simp[cI]
        have e2:cI (.int .i64 (((j:Nat):Int)+1))=j+1:=by simp[cI]
        rw[e1,e2]
        omega
      ·have hj3':¬ ((j:Nat):Int)<3:=by omega
       have e3:j=3:=by omega
       have hOn:Calls prog 18 #[aa b 0] wr fun e w'=>∃ a cp,e=.returned (.slice a (cD M.c j) cp)∧Hid (Below wr.heap.size wr w'):=by
        rw[e3]
        exact HS.out.onX HQ.out.1
       clear e3
       go_wp2_with fail
       refine hOn.mono ?_
       rintro r wa ⟨a1,cp1,rfl,h1⟩
       have S2:=HS.out.below h1.out
       have hLo:=S2.lost
       have HB2:Hid (Below w1.heap.size w1 wa):=S2.bel
       clear hOn h1 S2
       go_wp2_with fail
       refine hLo.mono ?_
       rintro r wb ⟨rfl,hw⟩
       obtain rfl:=hw.symm
       clear hLo
       go_wp2_with fail
       go_ret
       exact⟨rfl,HB1.out.trans (HB2.out.mono HB1.out.size)⟩
theorem topMux_walk (a0:Option Addr) (len0 cap0:Nat) (z0:List Int) (w:World) (w0:BRow .i64 w a0 len0 cap0 z0):Calls prog 3 #[.slice a0 len0 cap0] w fun e w'=>e=.returned (.bool true)∧Below w.heap.size w w':=mF a0 len0 cap0 z0 w w0
end Go.Proofs.YtdpahjfekoikiaaGreat
