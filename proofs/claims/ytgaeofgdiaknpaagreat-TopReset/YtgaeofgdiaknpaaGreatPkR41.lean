/- Part 42: contracts that the proof rests on. -/
import Derived.Test.YtgaeofgdiaknpaaGreatPkR40
set_option maxHeartbeats 64000000
namespace Go.Proofs.YtgaeofgdiaknpaaGreat
set_option maxRecDepth 100000
open Go.RowKit Go.Maps
set_option linter.unusedVariables false
def s0 (P Q:Pm) (mx:Nat):Ws:=⟨1,fun _=>P,fun _=>Q,fun _=>hnew,fun _=>dnew M0,mx,[],0,[]⟩
def evT (L:Pw):Nat→Thing:=fun q=>if q % 2=0 then L.t (q / 2) else noT
def ev (j:Nat):Nat:=2*j
theorem evT_fre (L:Pw):Fre ev (evT L) 0:=fun q _=>⟨fun j=>by unfold ev;omega,by unfold evT;rw[if_neg (by omega)]⟩
theorem evT_wat (L:Pw):Wat ev (evT L) L:=⟨fun i j h=>by unfold ev at h;omega,fun j=>by unfold evT ev;rw[if_pos (by omega),show 2*j / 2=j by omega]⟩
theorem psmall (w:World):Calls Tryz.prog 33 #[] w fun r w'=>r=.returned (.agg #[.int .u32 7,.int .i64 2,.int .i64 1,.int .i64 10,.int .u32 9])∧Below w.heap.size w w':=by
 go_enter Tryz.func33,Tryz.ntmps33
 go_wp2_with fail
 refine bodyPost_ret (v:=.agg #[.int .u32 7,.int .i64 2,.int .i64 1,.int .i64 10,.int .u32 9]) (by simp[results,Tryz.results33,go_sem]) rfl ⟨rfl,?_⟩
 exact belY (Below.refl _ _) _
theorem plone (w:World):Calls Tryz.prog 22 #[] w fun r w'=>∃ q0 q1,r=.returned (.agg #[.slice (some ⟨q0,0,none⟩) 1 1,.slice (some ⟨q1,0,none⟩) 1 1,.int .u32 50])∧Hid (w'.heap[q0]?=some (.cells #[.int .u32 7,.int .i64 2,.int .i64 1,.int .i64 10,.int .u32 9] 50 (0,0))∧w'.heap[q1]?=some (.cells #[.int .u32 7,.int .i64 2,.int .i64 1,.int .i64 10,.int .u32 9] 50 (0,0))∧Below w.heap.size w w'):=by
 have hS:=fun wx=>psmall wx
 have b1:Below w.heap.size w (w.alloc (.cells #[.slice none 0 0,.slice none 0 0,.int .u32 0] 26)):=belY (Below.refl _ _) _
 have hk:=heap_alloc_new w (.cells #[.slice none 0 0,.slice none 0 0,.int .u32 0] 26)
 have z1:=sz1 w (.cells #[.slice none 0 0,.slice none 0 0,.int .u32 0] 26)
 go_enter Tryz.func22,Tryz.ntmps22
 go_wp2_with fail
 refine (hS _).mono ?_
 rintro r w3 ⟨rfl,b3⟩
 have k3:=(b3.block w.heap.size (by rw[z1];omega)).trans hk
 have b5:Below w3.heap.size w3 (((w3.alloc (.cells #[.int .u32 7,.int .i64 2,.int .i64 1,.int .i64 10,.int .u32 9] 50)).alloc (.cells #[.int .u32 7,.int .i64 2,.int .i64 1,.int .i64 10,.int .u32 9] 50)).alloc (.cells #[.int .u32 7,.int .i64 2,.int .i64 1,.int .i64 10,.int .u32 9] 50)):=belY (belY (belY (Below.refl _ _) _) _) _
 have l3:w.heap.size<w3.heap.size:=by have:=b3.size;rw[z1]at this;omega
 have k5:=(b5.block w.heap.size l3).trans k3
 have y0:=cell_of_row (((w3.alloc (.cells #[.int .u32 7,.int .i64 2,.int .i64 1,.int .i64 10,.int .u32 9] 50)).alloc (.cells #[.int .u32 7,.int .i64 2,.int .i64 1,.int .i64 10,.int .u32 9] 50)).alloc (.cells #[.int .u32 7,.int .i64 2,.int .i64 1,.int .i64 10,.int .u32 9] 50)) _ 0 _ _ _ k5
 have y1:=cell_of_row (((w3.alloc (.cells #[.int .u32 7,.int .i64 2,.int .i64 1,.int .i64 10,.int .u32 9] 50)).alloc (.cells #[.int .u32 7,.int .i64 2,.int .i64 1,.int .i64 10,.int .u32 9] 50)).alloc (.cells #[.int .u32 7,.int .i64 2,.int .i64 1,.int .i64 10,.int .u32 9] 50)) _ 1 _ _ _ k5
 have y2:=cell_of_row (((w3.alloc (.cells #[.int .u32 7,.int .i64 2,.int .i64 1,.int .i64 10,.int .u32 9] 50)).alloc (.cells #[.int .u32 7,.int .i64 2,.int .i64 1,.int .i64 10,.int .u32 9] 50)).alloc (.cells #[.int .u32 7,.int .i64 2,.int .i64 1,.int .i64 10,.int .u32 9] 50)) _ 2 _ _ _ k5
 have yz:=fun k=>frozen_of_row (((w3.alloc (.cells #[.int .u32 7,.int .i64 2,.int .i64 1,.int .i64 10,.int .u32 9] 50)).alloc (.cells #[.int .u32 7,.int .i64 2,.int .i64 1,.int .i64 10,.int .u32 9] 50)).alloc (.cells #[.int .u32 7,.int .i64 2,.int .i64 1,.int .i64 10,.int .u32 9] 50)) _ k _ _ k5
 have u1:=sz1 w3 (.cells #[.int .u32 7,.int .i64 2,.int .i64 1,.int .i64 10,.int .u32 9] 50)
 have u2:=sz2 w3 (.cells #[.int .u32 7,.int .i64 2,.int .i64 1,.int .i64 10,.int .u32 9] 50) (.cells #[.int .u32 7,.int .i64 2,.int .i64 1,.int .i64 10,.int .u32 9] 50)
 have n1:(((w3.alloc (.cells #[.int .u32 7,.int .i64 2,.int .i64 1,.int .i64 10,.int .u32 9] 50)).alloc (.cells #[.int .u32 7,.int .i64 2,.int .i64 1,.int .i64 10,.int .u32 9] 50)).alloc (.cells #[.int .u32 7,.int .i64 2,.int .i64 1,.int .i64 10,.int .u32 9] 50)).heap[w3.heap.size+1]?=some (.cells #[.int .u32 7,.int .i64 2,.int .i64 1,.int .i64 10,.int .u32 9] 50 (0,0)):=(Below.heap_alloc _ _ _ (by rw[u2];omega)).trans (by rw[← u1];exact heap_alloc_new _ _)
 have n2:(((w3.alloc (.cells #[.int .u32 7,.int .i64 2,.int .i64 1,.int .i64 10,.int .u32 9] 50)).alloc (.cells #[.int .u32 7,.int .i64 2,.int .i64 1,.int .i64 10,.int .u32 9] 50)).alloc (.cells #[.int .u32 7,.int .i64 2,.int .i64 1,.int .i64 10,.int .u32 9] 50)).heap[w3.heap.size+1+1]?=some (.cells #[.int .u32 7,.int .i64 2,.int .i64 1,.int .i64 10,.int .u32 9] 50 (0,0)):=by rw[show w3.heap.size+1+1=w3.heap.size+2 by omega,← u2];exact heap_alloc_new _ _
 have HN:Hid (_):=And.intro n1 (And.intro n2 (And.intro b3 (And.intro b5 l3)))
 have HB1:Hid (_):=b1
 have HZ1:Hid (_):=z1
 clear n1 n2 b3 b5 k3 k5 hk b1 z1 u1 u2
 go_wp2_with fail
 refine bodyPost_ret (v:=.agg #[.slice (some ⟨w3.heap.size+1,0,none⟩) 1 1,.slice (some ⟨w3.heap.size+1+1,0,none⟩) 1 1,.int .u32 50]) (by simp[results,Tryz.results22,go_sem,y0,y1,y2]) rfl ?_
 obtain⟨n1,n2,b3,b5,l3⟩:=HN.out
 have o:Off [w.heap.size] (((w3.alloc (.cells #[.int .u32 7,.int .i64 2,.int .i64 1,.int .i64 10,.int .u32 9] 50)).alloc (.cells #[.int .u32 7,.int .i64 2,.int .i64 1,.int .i64 10,.int .u32 9] 50)).alloc (.cells #[.int .u32 7,.int .i64 2,.int .i64 1,.int .i64 10,.int .u32 9] 50)) ((((((w3.alloc (.cells #[.int .u32 7,.int .i64 2,.int .i64 1,.int .i64 10,.int .u32 9] 50)).alloc (.cells #[.int .u32 7,.int .i64 2,.int .i64 1,.int .i64 10,.int .u32 9] 50)).alloc (.cells #[.int .u32 7,.int .i64 2,.int .i64 1,.int .i64 10,.int .u32 9] 50)).setCell ⟨w.heap.size,0,none⟩ (.slice (some ⟨w3.heap.size+1,0,none⟩) 1 1)).setCell ⟨w.heap.size,1,none⟩ (.slice (some ⟨w3.heap.size+1+1,0,none⟩) 1 1)).setCell ⟨w.heap.size,2,none⟩ (.int .u32 50)):=((Off.setCell _ 0 _ _).trans (Off.setCell _ 1 _ _)).trans (Off.setCell _ 2 _ _)
 have s5:=sz3 w3 (.cells #[.int .u32 7,.int .i64 2,.int .i64 1,.int .i64 10,.int .u32 9] 50) (.cells #[.int .u32 7,.int .i64 2,.int .i64 1,.int .i64 10,.int .u32 9] 50) (.cells #[.int .u32 7,.int .i64 2,.int .i64 1,.int .i64 10,.int .u32 9] 50)
 have m1:=(o.block (w3.heap.size+1) (by omega) (by simp;omega)).trans n1
 have m2:=(o.block (w3.heap.size+1+1) (by omega) (by simp;omega)).trans n2
 have bw:Below w.heap.size w (((w3.alloc (.cells #[.int .u32 7,.int .i64 2,.int .i64 1,.int .i64 10,.int .u32 9] 50)).alloc (.cells #[.int .u32 7,.int .i64 2,.int .i64 1,.int .i64 10,.int .u32 9] 50)).alloc (.cells #[.int .u32 7,.int .i64 2,.int .i64 1,.int .i64 10,.int .u32 9] 50)):=(HB1.out.trans (b3.mono (by rw[HZ1.out];omega))).trans (b5.mono (by omega))
 exact⟨_,_,rfl,m1,m2,o.below bw (fun k hk=>by simp at hk;omega) bw.size⟩
open Go.RowKit
theorem build0D (w:World):(Instr.buildSlice 36 0 #[]).run Tryz.prog w=.ok (.slice (some ⟨w.heap.size,0,none⟩) 0 0) (w.alloc (.cells #[] 5)):=by kernel_rfl
theorem wpList_load_midG {P:Program} {ops:Array Oper} {rest:List Oper} {op:Oper} {a:Act} {w:World} {Q:Exit→Act→World→Prop} (hw:Region.wanted op (yielded ops a.tmps)=true) (ty:TypeId) (x:Operand) (ho:op.op=.load ty x)
  (b o:Nat) (hx:a.eval x=.pointer (some ⟨b,o,none⟩)) (cs:List Value) (d:TypeDesc) (hc:w.rangeAt b o cs)
  (hu:P.underlying ty=some d) (hd:d.isRow=true) (hi:(P.info? ty).map (·.size)=some cs.length)
  (h:wpList P ops Q rest (a.put op.dst (.agg cs.toArray)) w):wpList P ops Q (op :: rest) a w:=by
 unfold wpList
 rw[if_pos hw]
 exact .inl (wp_load_mid ty x ho b o hx cs d hc hu hd hi h)
theorem wpList_valY {P:Program} {ops:Array Oper} {rest:List Oper} {op:Oper} {a:Act} {w:World} {Q:Exit→Act→World→Prop} (hgd:op.guard=none) (v:Value) (hrun:(execOp a.eval op).run P w=.ok (.value v) w) (h:wpList P ops Q rest (a.put op.dst v) w):wpList P ops Q (op :: rest) a w:=
 wpList_plain hgd fun _ hK=>by
  unfold Oper.wp
  rw[hrun]
  exact hK _ _ h
theorem storeY_run {P:Program} {w:World} {b o:Nat} {A:Array Value} (ht:w.there b o A.size) (h1:A.all (·.oneCell')=true):(storeCells ⟨b,o,none⟩ A.toList).run P w=.ok () (w.setCells b o A.toList):=by
 have:=run_storeCells_cells (P:=P) b o A.toList 0 w (fun j hj=>by simpa using (ht j (by simpa using hj)).1) (fun j hj=>by simpa using (ht j (by simpa using hj)).2)
  (fun v hv=>(Array.all_eq_true_iff_forall_mem.1 h1) v (by simpa using hv))
 simp only[Nat.add_zero]at this
 exact this
def mv1:Mv:=⟨2,0,0,0,0,0,0,false,0,fun _=>0⟩
def mv2:Mv:=⟨3,0,2,0,0,0,0,false,0,fun _=>0⟩
theorem PWn.dropR {e:Nat→Nat} {w0 w:World} {t:Nat→Thing} {L:Pw} {S:Ws} {i:Nat} {m:Mv} {S':Ws} {k:Nat} {a:Option Addr} {c:Nat} {ah:Option Addr} {ch:Nat} {ad:Option Addr} {cd:Nat} (h:PWn e w0 (rwT t i m S' k a c ah ch ad cd) L w S) (F:Fre e t i):PWn e w0 t L w S:=by
 unfold rwT at h
 have h1:=h.drop (F (i+3) (by omega)).1 (by rw[putT_ne _ _ (by omega),putT_ne _ _ (by omega)];exact (F (i+3) (by omega)).2)
 have h2:=h1.drop (F (i+2) (by omega)).1 (by rw[putT_ne _ _ (by omega)];exact (F (i+2) (by omega)).2)
 exact h2.drop (F (i+1) (by omega)).1 (F (i+1) (by omega)).2
theorem PWn.layL {e:Nat→Nat} {w0 w:World} {t:Nat→Thing} {L:Pw} {S:Ws} {w1:World} (h:PWn e w0 t L w1 S) (b:Below w1.heap.size w1 w) {i:Nat} (hi:∀ j,i≠e j) {l:List (Nat × Obj)} (R:∀ p,p ∈ l→w.heap[p.1]?=some p.2) (hnew:∀ p,p ∈ l→w1.heap.size≤p.1):PWn e w0 (putT t i (blT l)) L w S:=by
 obtain⟨t1,L1,h1,hs,hx,he⟩:=h
 exact⟨_,L1,h1.layL b hi R hnew,hs,hx,he.putB _ _⟩
theorem pmoves {e:Nat→Nat} {w0 w:World} {t:Nat→Thing} {L:Pw} {S:Ws} (h:PWn e w0 t L w S):Calls Tryz.prog 23 #[.pointer (some ⟨L.x,0,none⟩)] w fun r w'=>r=.returned (.int .i64 (S.mv:Nat))∧w'=w:=by
 obtain⟨t1,L1,h1,hs,hx,he⟩:=h
 subst hs
 have hb:=(h1.2.wb h1.1).blk
 have c4:w.cell? ⟨L1.x,4,none⟩=some (.pointer (some ⟨L1.b,0,none⟩)):=cell_of_row w L1.x 4 _ _ _ hb
 have c5:w.cell? ⟨L1.x,5,none⟩=some (.int .i64 (L1.S.mv:Nat)):=cell_of_row w L1.x 5 _ _ _ hb
 rw[hx.x]at c4 c5
 have hN:=pnone L.x L1.b w c4
 obtain⟨X,hX⟩:∃ y,L.x=y:=⟨_,rfl⟩
 obtain⟨v,hv⟩:∃ y,L1.S.mv=y:=⟨_,rfl⟩
 rw[hX]at c5 hN ⊢
 rw[hv]at c5 ⊢
 clear h1 hx he hb c4 hX hv
 go_enter Tryz.func23,Tryz.ntmps23
 go_wp2_with fail
 refine hN.mono ?_
 rintro r w2 ⟨rfl,rfl⟩
 go_wp2_with fail
 go_ret
 exact⟨rfl,rfl⟩
theorem pframes {e:Nat→Nat} {w0 w:World} {t:Nat→Thing} {L:Pw} {S:Ws} (h:PWn e w0 t L w S):Calls Tryz.prog 15 #[.pointer (some ⟨L.x,0,none⟩)] w fun r w'=>r=.returned (.int .i64 (S.bg.length:Nat))∧w'=w:=by
 obtain⟨t1,L1,h1,hs,hx,he⟩:=h
 subst hs
 have hb:=(h1.2.wb h1.1).blk
 have c4:w.cell? ⟨L1.x,4,none⟩=some (.pointer (some ⟨L1.b,0,none⟩)):=cell_of_row w L1.x 4 _ _ _ hb
 have hL:=blen_any 0 L1.b L1.m L1.bv L1.bs L1.bp L1.S.bg w (h1.2.bg h1.1).1
 rw[hx.x]at c4
 have hN:=pnone L.x L1.b w c4
 obtain⟨X,hX⟩:∃ y,L.x=y:=⟨_,rfl⟩
 obtain⟨b,hbb⟩:∃ y,L1.b=y:=⟨_,rfl⟩
 obtain⟨v,hv⟩:∃ y,L1.S.bg.length=y:=⟨_,rfl⟩
 rw[hX,hbb]at c4
 rw[hX]at hN
 rw[hbb,hv]at hL
 rw[hX,hv]
 clear h1 hx he hb hX hv hbb
 go_enter Tryz.func15,Tryz.ntmps15
 go_wp2_with fail
 refine hN.mono ?_
 rintro r w2 ⟨rfl,rfl⟩
 go_wp2_with fail
 refine hL.mono ?_
 rintro r w2 ⟨rfl,rfl⟩
 go_wp2_with fail
 go_ret
 exact⟨rfl,rfl⟩
theorem put_n (S:Ws) (k s:Nat) (f:Fm):(S.put k s f).n=S.n∧(S.put k s f).ds=S.ds∧(S.put k s f).hs=S.hs∧(S.put k s f).PD=S.PD∧(S.put k s f).PH=S.PH∧(S.put k s f).mx=S.mx∧(S.put k s f).mv=S.mv∧(S.put k s f).fs.length≤S.fs.length+1:=by
 unfold Ws.put
 split
 ·exact⟨rfl,rfl,rfl,rfl,rfl,rfl,rfl,Nat.le_succ _⟩
 ·refine⟨rfl,rfl,rfl,rfl,rfl,rfl,rfl,?_⟩
  show (S.fs ++ fData 1 k s f).length≤_
  rw[List.length_append]
  unfold fData
  split <;> simp
theorem put_bg (S:Ws) (k s:Nat) (f:Fm) (h:f.1≠0):(S.put k s f).bg=S.bg ++ [f]∧S.putI f=((S.bg.length:Nat):Int):=by
 unfold Ws.put Ws.putI
 rw[if_neg h,if_neg h]
 exact⟨rfl,rfl⟩
def aS1:Ws:=((s0 P0 P0 50).up.snd 0).S
def aS2 (T:Ws):Ws:=(T.note [oH T 0,oD T 0])
def aR3 (T:Ws):Wr:=(aS2 T).up.dlv mv2 0
structure A1 (T:Ws):Prop where
 bg:T.bg=[wishF P0]
 n:T.n=1
 ds:T.ds=(fun _=>dnew M0)
 PD:T.PD=(fun _=>P0)
 mx:T.mx=50
 mv:T.mv=1
 fs:T.fs.length≤1
 hs:T.hs 0=hsendS P0 hnew
theorem wish0:hsendF P0 hnew=wishF P0:=wish_enc P0 P0_ok
theorem a1:((s0 P0 P0 50).up.snd 0).e=0∧((s0 P0 P0 50).up.snd 0).i=0∧A1 aS1:=by
 obtain⟨p1,p2,p3,p4,p5,p6,p7,p8⟩:=put_n ((s0 P0 P0 50).up.setH 0 (hsendS P0 hnew)) 0 1 (hsendF P0 hnew)
 obtain⟨q1,q2⟩:=put_bg ((s0 P0 P0 50).up.setH 0 (hsendS P0 hnew)) 0 1 (hsendF P0 hnew) (by rw[wish0];exact Nat.succ_ne_zero 22)
 refine⟨rfl,q2,?_,p1,p2,p4,p6,p7,p8,?_⟩
 ·show (((s0 P0 P0 50).up.setH 0 (hsendS P0 hnew)).put 0 1 (hsendF P0 hnew)).bg=_
  rw[q1,wish0]
  rfl
 ·show (((s0 P0 P0 50).up.setH 0 (hsendS P0 hnew)).put 0 1 (hsendF P0 hnew)).hs 0=_
  rw[p3]
  rfl
theorem enc17:(encF 17 P0.c 1 0 0 4 (dsg P0)).1=23:=by
 have e:encF 17 P0.c 1 0 0 4 (dsg P0)=(15+4+4,PM.sl (fr 17 P0.c 1 0 0 4 (dsg P0)) (15+4)):=if_pos (LW_offer (by decide) (by decide))
 rw[e]
theorem aD {T:Ws} (q:A1 T):drecv ((aS2 T).up.PD 0) (aS2 T).up.mx 16 ((aS2 T).up.ds 0) ((aS2 T).up.fr mv2).1 ((aS2 T).up.fr mv2).2=drecv P0 50 16 (dnew M0) (wishF P0).1 (wishF P0).2:=by
 obtain⟨b1,_,b3,b4,b5,_⟩:=q
 have e1:(aS2 T).up.PD 0=P0:=by show T.PD 0=P0;rw[b4]
 have e2:(aS2 T).up.mx=50:=b5
 have e3:(aS2 T).up.ds 0=dnew M0:=by show T.ds 0=_;rw[b3]
 have e4:(aS2 T).up.fr mv2=wishF P0:=by
  unfold Ws.fr
  rw[if_neg (by decide)]
  show T.bg.getD 0 fm0=_
  rw[b1]
  rfl
 rw[e1,e2,e3,e4]
theorem a3 {T:Ws} (q:A1 T):(aR3 T).e=0∧(aR3 T).i=1∧(aR3 T).S.bg.length=2∧(aR3 T).S.mv=2∧(aR3 T).S.n=1∧((aR3 T).S.ds 0).st=2∧(aR3 T).S.fs.length≤100:=by
 obtain⟨f1,f2,f3⟩:=first_wish P0 P0_ok 50 (by omega)
 have hd:=aD q
 obtain⟨b1,b2,b3,b4,b5,b6,b7,b8⟩:=q
 have e0:aR3 T=(aS2 T).up.toD 0 ((aS2 T).up.fr mv2):=by
  unfold aR3 Ws.dlv
  rw[if_neg (by decide)]
 obtain⟨D,hD⟩:∃ y,drecv P0 50 16 (dnew M0) (wishF P0).1 (wishF P0).2=y:=⟨_,rfl⟩
 rw[hD]at hd f1 f2 f3
 have fne:D.f.1≠0:=by rw[f3,enc17];decide
 rw[e0]
 unfold Ws.toD
 rw[hd]
 obtain⟨p1,p2,p3,p4,p5,p6,p7,p8⟩:=put_n ((aS2 T).up.toD2 0 ((aS2 T).up.fr mv2)) 0 2 D.f
 obtain⟨q1,q2⟩:=put_bg ((aS2 T).up.toD2 0 ((aS2 T).up.fr mv2)) 0 2 D.f fne
 have t1:(aS2 T).up.toD1 0 ((aS2 T).up.fr mv2)=((aS2 T).up.setD 0 D.s).note (fChg 0 ((aS2 T).up.ds 0) D.s):=by unfold Ws.toD1;rw[hd]
 have g:∀ V:Ws,(V=(aS2 T).up.toD1 0 ((aS2 T).up.fr mv2)∨V=((aS2 T).up.toD1 0 ((aS2 T).up.fr mv2)).note (fFresh 0 2 ((aS2 T).up.fr mv2)))→V.bg=T.bg∧V.mv=T.mv+1∧V.n=T.n∧V.ds 0=D.s∧V.fs.length≤10:=by
  have l1:=fChg_len 0 ((aS2 T).up.ds 0) D.s
  have l2:=fFresh_len 0 2 ((aS2 T).up.fr mv2)
  have l0:(aS2 T).up.fs.length≤3:=by
   show (T.fs ++ [oH T 0,oD T 0]).length≤3
   rw[List.length_append]
   simp
   omega
  intro V hT
  rcases hT with rfl | rfl
  ·rw[t1]
   refine⟨rfl,rfl,rfl,(show putF (aS2 T).up.ds 0 D.s 0=D.s from putF_same _ _ _),?_⟩
   show ((aS2 T).up.fs ++ fChg 0 ((aS2 T).up.ds 0) D.s).length≤10
   rw[List.length_append]
   omega
  ·rw[t1]
   refine⟨rfl,rfl,rfl,(show putF (aS2 T).up.ds 0 D.s 0=D.s from putF_same _ _ _),?_⟩
   show (((aS2 T).up.fs ++ fChg 0 ((aS2 T).up.ds 0) D.s) ++ fFresh 0 2 ((aS2 T).up.fr mv2)).length≤10
   rw[List.length_append,List.length_append]
   omega
 have h2:(aS2 T).up.toD2 0 ((aS2 T).up.fr mv2)=(aS2 T).up.toD1 0 ((aS2 T).up.fr mv2)∨(aS2 T).up.toD2 0 ((aS2 T).up.fr mv2)=((aS2 T).up.toD1 0 ((aS2 T).up.fr mv2)).note (fFresh 0 2 ((aS2 T).up.fr mv2)):=by
  unfold Ws.toD2
  split
  ·exact .inr rfl
  ·exact .inl rfl
 obtain⟨g1,g2,g3,g4,g5⟩:=g _ h2
 refine⟨f1,?_,?_,?_,?_,?_,?_⟩
 ·show ((aS2 T).up.toD2 0 ((aS2 T).up.fr mv2)).putI D.f=1
  rw[q2,g1,b1]
  rfl
 ·show (((aS2 T).up.toD2 0 ((aS2 T).up.fr mv2)).put 0 2 D.f).bg.length=2
  rw[q1,g1,b1]
  rfl
 ·show (((aS2 T).up.toD2 0 ((aS2 T).up.fr mv2)).put 0 2 D.f).mv=2
  rw[p7,g2,b6]
 ·show (((aS2 T).up.toD2 0 ((aS2 T).up.fr mv2)).put 0 2 D.f).n=1
  rw[p1,g3,b2]
 ·show ((((aS2 T).up.toD2 0 ((aS2 T).up.fr mv2)).put 0 2 D.f).ds 0).st=2
  rw[p2,g4]
  exact f2
 ·show (((aS2 T).up.toD2 0 ((aS2 T).up.fr mv2)).put 0 2 D.f).fs.length≤100
  omega
theorem okM1:(s0 P0 P0 50).Ok mv1:=⟨by decide,by decide,by decide,by decide,by decide,fun h=>absurd h (by decide),fun h=>absurd h (by decide),fun h=>absurd h (by decide)⟩
theorem okM2 {T:Ws} (q:A1 T):(aS2 T).Ok mv2:=by
 obtain⟨b1,b2,_,_,_,b6,_⟩:=q
 refine⟨by show T.mv<4096;omega,by decide,by decide,by decide,?_,fun _=>.inr rfl,fun _=>⟨by decide,?_⟩,fun h=>absurd h (by decide)⟩
 ·show (0:Int) < ((T.n:Nat):Int)
  rw[b2]
  decide
 ·show (0:Int) < ((T.bg.length:Nat):Int)
  rw[b1]
  decide
theorem aw1 {w0 w:World} {t:Nat→Thing} {L:Pw} (h:PW ev w0 w t L) (F:Fre ev t 0) (hS:L.S=s0 P0 P0 50):Calls Tryz.prog 12 #[.pointer (some ⟨L.x,0,none⟩),.agg #[.int .i64 2,.int .i64 0,.int .i64 0,.int .i64 0,.int .i64 0,.int .u32 0,.int .i64 0,.bool false,.slice none 0 0]] w fun r w'=>∃ A:Array Value,r=.returned (.tuple #[.agg A,.int .i64 0])∧A.size=29∧A.all (·.oneCell')=true∧A.toList[10]?=some (.int .i64 0)∧Hid (PWn ev w0 t L w' (aS2 aS1)):=by
 obtain⟨b0,bi,b1,b2,b3,b4,b5,b6,b7,b8⟩:=a1
 have hk:L.S.Ok mv1:=by rw[hS];exact okM1
 have hP:=pplay ev w0 w t L 0 0 mv1 none 0 ((s0 P0 P0 50).up.snd 0).e ((s0 P0 P0 50).up.snd 0).i aS1 h F (by rw[hS];decide) (by rw[hS];decide) ⟨fun i hi=>absurd hi (Nat.not_lt_zero i),fun _=>⟨rfl,rfl⟩,fun x hx=>(by cases hx),Nat.le_refl _⟩ (fun y hy=>by cases hy) (by decide) (by rw[b2,hS];rfl) (by omega)
  (prefOK ev w0 w t L mv1 none 0 h hk (by decide) (by decide) (by decide) (by decide))
  (fun a' c' w1 t1 q F1 _=>by
    rw[hS]at q
    exact pact2 0 2 mv1 a' c' q F1 rfl (by decide) (by decide) (by decide) (by decide) (by decide) (fun e=>absurd e (by decide)) (by decide) (by intro j hj;exact encF_byte 1 P0.c 0 0 0 4 (dsg P0) (dsg_byte P0) j hj) (by show (hsendF P0 hnew).1≤27;rw[wish0];exact (by decide:(23:Nat)≤27)))
 refine hP.mono ?_
 rintro r w' ⟨a',c',ah,ch,ad,cd,rfl,H⟩
 rw[b0,bi]
 exact⟨_,rfl,rfl,by kernel_rfl,rfl,H.out.dropR F⟩
theorem aw2 {T:Ws} (q:A1 T) {w0 w:World} {t:Nat→Thing} {L:Pw} {i:Nat} (h:PWn ev w0 t L w (aS2 T)) (F:Fre ev t i):Calls Tryz.prog 12 #[.pointer (some ⟨L.x,0,none⟩),.agg #[.int .i64 3,.int .i64 0,.int .i64 2,.int .i64 0,.int .i64 0,.int .u32 0,.int .i64 0,.bool false,.slice none 0 0]] w fun r w'=>∃ A:Array Value,r=.returned (.tuple #[.agg A,.int .i64 0])∧A.size=29∧A.all (·.oneCell')=true∧A.toList[10]?=some (.int .i64 1)∧A.toList[20]?=some (.int .i64 2)∧Hid (PWn ev w0 t L w' ((aR3 T).S.note [oH (aR3 T).S 0,oD (aR3 T).S 0])):=by
 have hd:=aD q
 have hkk:=okM2 q
 obtain⟨c0,ci,c1,c2,c3,c4,c5⟩:=a3 q
 obtain⟨b1,b2,b3,b4,b5,b6,b7,b8⟩:=q
 obtain⟨f1,f2,f3⟩:=first_wish P0 P0_ok 50 (by omega)
 obtain⟨t1,L1,h1,hs,hx,he⟩:=h
 have F1:=F.els he
 have hk:L1.S.Ok mv2:=by rw[hs];exact hkk
 have hP:=pplay ev w0 w t1 L1 i 0 mv2 none 0 (aR3 T).e (aR3 T).i (aR3 T).S h1 F1 (by rw[hs];show 0<T.n;omega) (by rw[hs];show T.mv<4096;omega) ⟨fun i hi=>absurd hi (Nat.not_lt_zero i),fun _=>⟨rfl,rfl⟩,fun x hx=>(by cases hx),Nat.le_refl _⟩ (fun y hy=>by cases hy) (by decide) (by rw[c3,hs];exact b2.symm) (by omega)
  (prefOK ev w0 w t1 L1 mv2 none 0 h1 hk (by decide) (by decide) (by decide) (by decide))
  (fun a' c' w1 t2 q F2 _=>by
    rw[hs]at q
    exact pact3 0 (i+2) mv2 a' c' q F2 (.inl rfl) rfl (by show 0<T.n;omega) (by show (T.fs ++ [oH T 0,oD T 0]).length≤80000;rw[List.length_append];simp;omega) (by show T.bg.length<4096;rw[b1];decide) (by decide) (by show (0:Int) < ((T.bg.length:Nat):Int);rw[b1];decide) (by decide) (fun e=>absurd e (by decide))
     (by show (T.hs 0).L.length<800000;rw[b8];decide) (by show (T.ds 0).st=4→_;rw[b3];intro e;exact absurd e (by decide)) (by show (T.ds 0).od<4;rw[b3];decide) (by show (T.ds 0).L.length<800000;rw[b3];decide) (by show (T.ds 0).ms.t<9223372036854774000;rw[b3];decide)
     (by rw[hd,f3];exact encF_byte 17 P0.c 1 0 0 4 (dsg P0) (dsg_byte P0)) (by rw[hd,f3,enc17];decide))
 rw[hx.x]at hP
 refine hP.mono ?_
 rintro r w' ⟨a',c',ah,ch,ad,cd,rfl,H⟩
 rw[c0,ci,c4]
 exact⟨_,rfl,rfl,by kernel_rfl,rfl,rfl,PWn.bind hx he (H.out.dropR F1)⟩
end Go.Proofs.YtgaeofgdiaknpaaGreat
