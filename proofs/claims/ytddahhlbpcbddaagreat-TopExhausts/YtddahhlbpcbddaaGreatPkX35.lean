/- Part 36: contracts that the proof rests on. -/
import Derived.Test.YtddahhlbpcbddaaGreatPkX34
set_option maxHeartbeats 64000000
set_option maxRecDepth 100000
namespace Go.Proofs.YtddahhlbpcbddaaGreat
open Tryz
open Go.RowKit Go.Maps
set_option linter.unusedVariables false
theorem uM (P Q:Nat→Pq) (q0 o0 v0 q1 o1 v1 n mx:Nat) (w:World) (k0:PqRow w (af q0 o0) n P) (k1:PqRow w (af q1 o1) n Q) (hn:n≤1000000):Calls prog 23 #[.agg #[.slice (af q0 o0) n v0,.slice (af q1 o1) n v1,.int .u32 (mx:Nat)]] w fun r w'=>∃ a0 c0 a1 c1,r=.returned (.agg #[.slice a0 n c0,.slice a1 n c1,.int .u32 (mx:Nat)])∧Hid (w'.ownsRow w.heap.size 90 5 (.slice a0 n c0) n (ei n P)∧w'.ownsRow w.heap.size 90 5 (.slice a1 n c1) n (ei n Q)∧Below w.heap.size w w'∧∀ k,(Value.slice a0 n c0).ownBlock=some k→(Value.slice a1 n c1).ownBlock≠some k):=by
 have kA0:=ay w (.cells #[.slice (af q0 o0) n v0,.slice (af q1 o1) n v1,.int .u32 (mx:Nat)] 30)
 have bA:=az (az (Below.refl _ w) (.cells #[.slice (af q0 o0) n v0,.slice (af q1 o1) n v1,.int .u32 (mx:Nat)] 30)) (.cells #[.slice none 0 0,.slice none 0 0,.int .u32 0] 30)
 have s1:(w.alloc (.cells #[.slice (af q0 o0) n v0,.slice (af q1 o1) n v1,.int .u32 (mx:Nat)] 30)).heap.size=w.heap.size+1:=iy _ _
 have kA:((w.alloc (.cells #[.slice (af q0 o0) n v0,.slice (af q1 o1) n v1,.int .u32 (mx:Nat)] 30)).alloc (.cells #[.slice none 0 0,.slice none 0 0,.int .u32 0] 30)).heap[w.heap.size]?=_:=(Below.heap_alloc _ _ _ (by omega)).trans kA0
 have kB:=ay (w.alloc (.cells #[.slice (af q0 o0) n v0,.slice (af q1 o1) n v1,.int .u32 (mx:Nat)] 30)) (.cells #[.slice none 0 0,.slice none 0 0,.int .u32 0] 30)
 rw[s1]at kB
 have s2:((w.alloc (.cells #[.slice (af q0 o0) n v0,.slice (af q1 o1) n v1,.int .u32 (mx:Nat)] 30)).alloc (.cells #[.slice none 0 0,.slice none 0 0,.int .u32 0] 30)).heap.size=w.heap.size+2:=sz2 _ _ _
 obtain⟨wa,hwa⟩:∃ y,(w.alloc (.cells #[.slice (af q0 o0) n v0,.slice (af q1 o1) n v1,.int .u32 (mx:Nat)] 30)).alloc (.cells #[.slice none 0 0,.slice none 0 0,.int .u32 0] 30)=y:=⟨_,rfl⟩
 rw[hwa]at kA bA kB s2
 have j0:=k0.below bA
 have j1:=k1.below bA
 obtain⟨x,hx⟩:∃ y,w.heap.size=y:=⟨_,rfl⟩
 have HBa:Hid (Below w.heap.size w wa):=bA
 rw[hx]at kA kB s2
 have hS:∀ w',Below wa.heap.size wa w'→w'.cell? ⟨x,0,none⟩=some (Value.slice (af q0 o0) n v0)∧w'.cell? ⟨x,1,none⟩=some (Value.slice (af q1 o1) n v1)∧w'.cell? ⟨x,2,none⟩=some (Value.int .u32 (mx:Nat)):=fun w' b=>⟨ag (ae wa x 0 _ _ _ kA) b,ag (ae wa x 1 _ _ _ kA) b,ag (ae wa x 2 _ _ _ kA) b⟩
 have HS0:=hS wa.drew (Below.drew (Below.refl _ _))
 have HSS:Hid (_):=hS
 have HJ:Hid (_):=And.intro j0 (And.intro j1 (And.intro kB s2))
 have HE:Hid (_=wa):=hwa
 have HS:Hid (w.heap.size=x):=hx
 clear kA0 kA kB bA s1 s2 hwa hx j0 j1 k0 k1 hS
 go_enter func23,ntmps23
 go_upto_region 1 with fail
 rw[HE.out,HS.out]
 refine wp_region_held_drew (S:=fun w'=>w'.cell? ⟨x,0,none⟩=some (Value.slice (af q0 o0) n v0)∧w'.cell? ⟨x,1,none⟩=some (Value.slice (af q1 o1) n v1)∧w'.cell? ⟨x,2,none⟩=some (Value.int .u32 (mx:Nat))) (by kernel_rfl) HS0 (fun _=>?_)
 refine an (i:=0) (v:=ac x 0) ?_
 refine an (i:=1) (v:=Value.slice (af q0 o0) n v0) ?_
 refine an (i:=3) (v:=ac x 1) ?_
 refine an (i:=4) (v:=Value.slice (af q1 o1) n v1) ?_
 refine an (i:=6) (v:=ac x 2) ?_
 refine an (i:=7) (v:=Value.int .u32 (mx:Nat)) ?_
 have bd:Below wa.heap.size wa wa.drew:=Below.drew (Below.refl _ _)
 refine aF (i:=2) 45 #[Value.slice (af q0 o0) n v0] (by kernel_rfl) rfl (by kernel_rfl) (by go_simp) ?_
 refine (rK q0 o0 n v0 P wa.drew (PqRow.below HJ.out.1 bd) hn).mono ?_
 rintro r w1 ⟨a0,c0,rfl,H1⟩
 have b1:Below wa.heap.size wa w1:=bd.trans H1.out.2
 refine⟨_,rfl,HSS.out w1 b1,?_⟩
 have HSa:=HSS.out w1 b1
 refine aF (i:=5) 45 #[Value.slice (af q1 o1) n v1] (by kernel_rfl) rfl (by kernel_rfl) (by go_simp) ?_
 refine (rK q1 o1 n v1 Q w1 (PqRow.below HJ.out.2.1 b1) hn).mono ?_
 rintro r w2 ⟨a1,c1,rfl,H2⟩
 have b2:Below wa.heap.size wa w2:=b1.trans (H2.out.2.mono b1.size)
 have HSb:=HSS.out w2 b2
 refine⟨_,rfl,HSb,?_⟩
 refine an (i:=8) (v:=Value.agg #[Value.slice a0 n c0,Value.slice a1 n c1,Value.int .u32 (mx:Nat)]) ?_
 obtain⟨_,_,kB,s2⟩:=HJ.out
 have kB2:=(b2.block (x+1) (by omega)).trans kB
 have y0:=ae w2 (x+1) 0 _ _ _ kB2
 have y1:=ae w2 (x+1) 1 _ _ _ kB2
 have y2:=ae w2 (x+1) 2 _ _ _ kB2
 have yz:=fun k=>frozen_of_row w2 (x+1) k _ _ kB2
 have kB3:(((w2.setCell ⟨x+1,0,none⟩ (Value.slice a0 n c0)).setCell ⟨x+1,1,none⟩ (Value.slice a1 n c1)).setCell ⟨x+1,2,none⟩ (Value.int .u32 (mx:Nat))).heap[x+1]?=some (.cells #[Value.slice a0 n c0,Value.slice a1 n c1,Value.int .u32 (mx:Nat)] 30 (0,0)):=Joins.block_setCell (Joins.block_setCell (Joins.block_setCell kB2 _) _) _
 have o3:Off [x+1] w2 (((w2.setCell ⟨x+1,0,none⟩ (Value.slice a0 n c0)).setCell ⟨x+1,1,none⟩ (Value.slice a1 n c1)).setCell ⟨x+1,2,none⟩ (Value.int .u32 (mx:Nat))):=((Off.setCell (x+1) 0 w2 _).trans (Off.setCell (x+1) 1 _ _)).trans (Off.setCell (x+1) 2 _ _)
 have hS3:(((w2.setCell ⟨x+1,0,none⟩ (Value.slice a0 n c0)).setCell ⟨x+1,1,none⟩ (Value.slice a1 n c1)).setCell ⟨x+1,2,none⟩ (Value.int .u32 (mx:Nat))).cell? ⟨x,0,none⟩=some (Value.slice (af q0 o0) n v0)∧(((w2.setCell ⟨x+1,0,none⟩ (Value.slice a0 n c0)).setCell ⟨x+1,1,none⟩ (Value.slice a1 n c1)).setCell ⟨x+1,2,none⟩ (Value.int .u32 (mx:Nat))).cell? ⟨x,1,none⟩=some (Value.slice (af q1 o1) n v1)∧(((w2.setCell ⟨x+1,0,none⟩ (Value.slice a0 n c0)).setCell ⟨x+1,1,none⟩ (Value.slice a1 n c1)).setCell ⟨x+1,2,none⟩ (Value.int .u32 (mx:Nat))).cell? ⟨x,2,none⟩=some (Value.int .u32 (mx:Nat)):=by
  obtain⟨u0,u1,u2⟩:=HSb
  refine⟨?_,?_,?_⟩
  ·rw[World.cell?_of_block (w:=w2) (o3.block x (by have:=b2.size;omega) (by simp))];exact u0
  ·rw[World.cell?_of_block (w:=w2) (o3.block x (by have:=b2.size;omega) (by simp))];exact u1
  ·rw[World.cell?_of_block (w:=w2) (o3.block x (by have:=b2.size;omega) (by simp))];exact u2
 obtain⟨w3,hw3⟩:∃ z,(((w2.setCell ⟨x+1,0,none⟩ (Value.slice a0 n c0)).setCell ⟨x+1,1,none⟩ (Value.slice a1 n c1)).setCell ⟨x+1,2,none⟩ (Value.int .u32 (mx:Nat)))=z:=⟨_,rfl⟩
 rw[hw3]at kB3 o3 hS3
 refine dh (i:=9) w3 (by kernel_rfl) rfl (by kernel_rfl) (by rw[← hw3];go_simp) hS3 ?_
 refine wpAnyH_done (by kernel_rfl) ?_ _
 have z0:=ae w3 (x+1) 0 _ _ _ kB3
 have z1:=ae w3 (x+1) 1 _ _ _ kB3
 have z2:=ae w3 (x+1) 2 _ _ _ kB3
 have HO:Hid (_):=And.intro o3 (And.intro b1 (And.intro b2 s2))
 clear o3 b1 b2 s2 kB kB2 kB3 hS3 HSb HSa hw3 HS0 bd y0 y1 y2 yz
 go_wp2_with fail
 refine bodyPost_ret (v:=.agg #[.slice a0 n c0,.slice a1 n c1,.int .u32 (mx:Nat)]) (by simp[results,results23,go_sem,z0,z1,z2]) rfl ?_
 obtain⟨o3,b1,b2,s2⟩:=HO.out
 have hb:=HBa.out
 have hsx:=HS.out
 have hdz:wa.drew.heap.size=wa.heap.size:=rfl
 have lt1:=H1.out.1.lt
 have lt2:=H2.out.1.lt
 have l1:=b1.size
 have u0:w2.ownsRow wa.heap.size 90 5 (.slice a0 n c0) n (ei n P):=bG (l:=[]) H1.out.1 (Off.of_below H2.out.2) (by simp)
 have v0:=bG u0 o3 (fun k hk hm=>by have:=(lt1 k hk).1;simp at hm;omega)
 have v1:=bG H2.out.1 o3 (fun k hk hm=>by have:=(lt2 k hk).1;simp at hm;omega)
 refine⟨a0,c0,a1,c1,rfl,iL v0 (by omega),iL v1 (by omega),o3.below (hb.trans (b2.mono hb.size)) (by simp;omega) (Nat.le_trans hb.size b2.size),fun k hk hm=>?_⟩
 have:=(lt1 k hk).2
 have:=(lt2 k hm).1
 omega
def Pm.q (P:Pm):Pq:=⟨P.c,P.o,P.i,P.t,P.n⟩
theorem jD:(prog.info? 87).map (fun i=>(i.zero,i.size,i.bytes))=some (some (.agg aO),3,24):=by kernel_rfl
theorem pz {P:Program} {md:Region.Mode} {ops:Array Oper} {Q:Exit→Act→World→Prop} {S:World→Prop} {fuel:Nat} {l:Array Bool} {a:Act} {w:World} {i j:Nat} (hr:Region.ready md ops l=[i,j])
  (h1:wpOp P ops Q i (fun a' w'=>S w'∧wpAnyH P md ops Q S fuel (l.setIfInBounds i true) a' w') a w) (h2:wpOp P ops Q j (fun a' w'=>S w'∧wpAnyH P md ops Q S fuel (l.setIfInBounds j true) a' w') a w):wpAnyH P md ops Q S (fuel+1) l a w:=
 wpAnyH_all hr (by simp) (fun k hk=>by
  rcases List.mem_cons.1 hk with rfl | hk
  ·exact h1
  ·obtain rfl:=List.mem_singleton.1 hk
   exact h2)
theorem ki {o:Oper} {a:Act} {w w':World} {v v' u:Value} {s x:Operand} (hop:o.op=Op.call { callee:=Callee.builtin Builtin.append,args:=#[s,x],argTypes:=#[79,79] }) (hty:o.type=79) (hs:a.eval s=v) (hx:a.eval x=u) (hr:(Builtin.append_ #[79,79] 79 #[v,u]).run prog w=.ok v' w'):(execOp a.eval o).run prog w=.ok (.value v') w':=by
 unfold execOp
 simp only[hop,hty,resolve,invoke,builtin,Sem.run_bind,Sem.run_pure,Result.andThen_ok,List.map_toArray,List.map_cons,List.map_nil,hs,hx,hr]
def s0 (P Q:Pm) (mx:Nat):Ws:=⟨1,fun _=>P,fun _=>Q,fun _=>bY,fun _=>dD M0,mx,[],0,[]⟩
def iB (L:Pw):Nat→Thing:=fun q=>if q % 2=0 then L.t (q / 2) else oF
def ev (j:Nat):Nat:=2*j
theorem gR (L:Pw):Fre ev (iB L) 0:=fun q _=>⟨fun j=>by unfold ev;omega,by unfold iB;rw[if_neg (by omega)]⟩
theorem xV (L:Pw):Wat ev (iB L) L:=⟨fun i j h=>by unfold ev at h;omega,fun j=>by unfold iB ev;rw[if_pos (by omega),show 2*j / 2=j by omega]⟩
theorem qC (w:World):Calls prog 50 #[] w fun r w'=>r=.returned (.agg aT)∧Below w.heap.size w w':=by
 go_enter func50,ntmps50
 go_wp2_with fail
 refine bodyPost_ret (v:=.agg aT) (by simp[results,results50,go_sem]) rfl ⟨rfl,?_⟩
 exact az (Below.refl _ _) _
theorem aaU (w:World):Calls prog 27 #[] w fun r w'=>∃ q0 q1,r=.returned (.agg #[.slice (af q0 0) 1 1,.slice (af q1 0) 1 1,.int .u32 50])∧Hid (w'.heap[q0]?=some (.cells aT 90 (0,0))∧w'.heap[q1]?=some (.cells aT 90 (0,0))∧Below w.heap.size w w'):=by
 have hS:=fun wx=>qC wx
 have b1:Below w.heap.size w (w.alloc (.cells #[.slice none 0 0,.slice none 0 0,.int .u32 0] 30)):=az (Below.refl _ _) _
 have hk:=ay w (.cells #[.slice none 0 0,.slice none 0 0,.int .u32 0] 30)
 have z1:=iy w (.cells #[.slice none 0 0,.slice none 0 0,.int .u32 0] 30)
 go_enter func27,ntmps27
 go_wp2_with fail
 refine (hS _).mono ?_
 rintro r w3 ⟨rfl,b3⟩
 have k3:=(b3.block w.heap.size (by rw[z1];omega)).trans hk
 have b5:Below w3.heap.size w3 (((w3.alloc (.cells aT 90)).alloc (.cells aT 90)).alloc (.cells aT 90)):=az (az (az (Below.refl _ _) _) _) _
 have l3:w.heap.size<w3.heap.size:=by have:=b3.size;rw[z1]at this;omega
 have k5:=(b5.block w.heap.size l3).trans k3
 have y0:=ae (((w3.alloc (.cells aT 90)).alloc (.cells aT 90)).alloc (.cells aT 90)) _ 0 _ _ _ k5
 have y1:=ae (((w3.alloc (.cells aT 90)).alloc (.cells aT 90)).alloc (.cells aT 90)) _ 1 _ _ _ k5
 have y2:=ae (((w3.alloc (.cells aT 90)).alloc (.cells aT 90)).alloc (.cells aT 90)) _ 2 _ _ _ k5
 have yz:=fun k=>frozen_of_row (((w3.alloc (.cells aT 90)).alloc (.cells aT 90)).alloc (.cells aT 90)) _ k _ _ k5
 have u1:=iy w3 (.cells aT 90)
 have u2:=sz2 w3 (.cells aT 90) (.cells aT 90)
 have n1:(((w3.alloc (.cells aT 90)).alloc (.cells aT 90)).alloc (.cells aT 90)).heap[w3.heap.size+1]?=some (.cells aT 90 (0,0)):=(Below.heap_alloc _ _ _ (by rw[u2];omega)).trans (by rw[← u1];exact ay _ _)
 have n2:(((w3.alloc (.cells aT 90)).alloc (.cells aT 90)).alloc (.cells aT 90)).heap[w3.heap.size+1+1]?=some (.cells aT 90 (0,0)):=by rw[show w3.heap.size+1+1=w3.heap.size+2 by omega,← u2];exact ay _ _
 have HN:Hid (_):=And.intro n1 (And.intro n2 (And.intro b3 (And.intro b5 l3)))
 have HB1:Hid (_):=b1
 have HZ1:Hid (_):=z1
 clear n1 n2 b3 b5 k3 k5 hk b1 z1 u1 u2
 go_wp2_with fail
 refine bodyPost_ret (v:=.agg #[.slice (af (w3.heap.size+1) 0) 1 1,.slice (af (w3.heap.size+1+1) 0) 1 1,.int .u32 50]) (by simp[results,results27,go_sem,y0,y1,y2]) rfl ?_
 obtain⟨n1,n2,b3,b5,l3⟩:=HN.out
 have o:Off [w.heap.size] (((w3.alloc (.cells aT 90)).alloc (.cells aT 90)).alloc (.cells aT 90)) ((((((w3.alloc (.cells aT 90)).alloc (.cells aT 90)).alloc (.cells aT 90)).setCell ⟨w.heap.size,0,none⟩ (.slice (af (w3.heap.size+1) 0) 1 1)).setCell ⟨w.heap.size,1,none⟩ (.slice (af (w3.heap.size+1+1) 0) 1 1)).setCell ⟨w.heap.size,2,none⟩ (.int .u32 50)):=((Off.setCell _ 0 _ _).trans (Off.setCell _ 1 _ _)).trans (Off.setCell _ 2 _ _)
 have s5:=sz3 w3 (.cells aT 90) (.cells aT 90) (.cells aT 90)
 have m1:=(o.block (w3.heap.size+1) (by omega) (by simp;omega)).trans n1
 have m2:=(o.block (w3.heap.size+1+1) (by omega) (by simp;omega)).trans n2
 have bw:Below w.heap.size w (((w3.alloc (.cells aT 90)).alloc (.cells aT 90)).alloc (.cells aT 90)):=(HB1.out.trans (b3.mono (by rw[HZ1.out];omega))).trans (b5.mono (by omega))
 exact⟨_,_,rfl,m1,m2,o.below bw (fun k hk=>by simp at hk;omega) bw.size⟩
open Go.RowKit
theorem yK (w:World):(Instr.buildSlice 37 0 #[]).run prog w=.ok (.slice (af w.heap.size 0) 0 0) (w.alloc (.cells #[] 5)):=by kernel_rfl
theorem lj (st ss nm sn dc lat:Int) (rq on:Bool) (a a':Option Addr) (n n' cap cap':Nat) (bs bs':Nat→Nat) (w:World) (R:Row8 w a n cap bs) (R':Row8 w a' n' cap' bs') (hX:BA bs n=BA bs' n') :
  Calls prog 20 #[.agg #[.int .i64 st,.int .u32 ss,.int .u32 nm,.int .u32 sn,.int .i64 dc,.int .i64 lat,.bool rq,.bool on,.slice a n cap],.agg #[.int .i64 st,.int .u32 ss,.int .u32 nm,.int .u32 sn,.int .i64 dc,.int .i64 lat,.bool rq,.bool on,.slice a' n' cap']] w fun e w'=>e=.returned (.bool true)∧Below w.heap.size w w':=by
 have b0:Below w.heap.size w ((w.alloc (.cells #[.int .i64 st,.int .u32 ss,.int .u32 nm,.int .u32 sn,.int .i64 dc,.int .i64 lat,.bool rq,.bool on,.slice a n cap] 43)).alloc (.cells #[.int .i64 st,.int .u32 ss,.int .u32 nm,.int .u32 sn,.int .i64 dc,.int .i64 lat,.bool rq,.bool on,.slice a' n' cap'] 43)):=((Below.refl _ _).alloc (Nat.le_refl _) _).alloc (by simp) _
 obtain⟨X,hX1⟩:∃ X,BA bs n=X:=⟨_,rfl⟩
 have hX2:BA bs' n'=X:=hX ▸ hX1
 have q1:=i6 a n cap bs _ (R.below b0)
 have q2:=i6 a' n' cap' bs' _ (R'.below b0)
 rw[hX1]at q1
 rw[hX2]at q2
 have HB:Hid (_):=b0
 clear R R' hX hX1 hX2 b0
 go_enter func20,ntmps20
 go_wp2_with fail
 go_ret
 exact⟨by simp,HB.out⟩
end Go.Proofs.YtddahhlbpcbddaaGreat
